/-
  The reference's kids: the kinds without lists of lists. By gen_vk.py.
-/
import Derived.Test.YtlbaaiglebpjiaaGreatDoorJp
namespace Go.Proofs.YtlbaaiglebpjiaaGreatDoor
open Go Go.RowKit Go.Shelf Go.Lib

theorem ints_laid {w : World} {g : Nat} {ks : List Int} (hg : g < w.heap.size) (h : ∀ i z, ks[i]? = some z → w.cell? ⟨g, i, none⟩ = some (.int .i64 z)) : IntsV w (.slice (some ⟨g, 0, none⟩) ks.length ks.length) ks :=
  ⟨_, ks.length, g, 0, rfl, fun _ => ⟨rfl, hg⟩, fun i z hz => by rw [Nat.zero_add]; exact h i z hz⟩

set_option maxRecDepth 100000 in
set_option maxHeartbeats 6400000 in
theorem refKids_10 (t : Tree) (p : Option Addr) (cap : Nat) (h : Bool) (w : World) (hk : KidsV w (.slice p t.kids.length cap) t.kids) (hkl : t.kids.length ≤ 4194304) (hkd : t.kind = 10) :
    Calls Tryz.prog 71 #[nodeV t (.slice p t.kids.length cap), .bool h] w fun e w' => e = .returned (.bool (manyB [11] t.kids)) ∧ Below w.heap.size w w' := by
  have hM : ∀ w2 v, Below w.heap.size w w2 → IntsV w2 v [11] → Calls Tryz.prog 94 #[.agg #[.int .i64 10, .string t.text, .int .i64 t.at_, .int .i64 t.end_, (.slice p t.kids.length cap)], v] w2 fun e w' => e = .returned (.bool (manyB [11] t.kids)) ∧ Below w2.heap.size w2 w' := fun w2 v hb hi => by
    have h1 := refMany_any t (.slice p t.kids.length cap) [11] v w2 (hk.later hb) hi hkl (by decide)
    simp only [nodeV, hkd] at h1
    exact h1
  have hI : ∀ A, IntsV ((w.alloc A).alloc (.cells #[.int .i64 11] 3)) (.slice (some ⟨w.heap.size + 1, 0, none⟩) 1 1) [11] := fun A => ints_laid (ks := [11]) (by simp) (fun i z hz => by rcases i with _ | i <;> simp at hz <;> subst hz <;> simp [go_sem])
  simp only [nodeV, hkd]
  go_enter Tryz.func71, Tryz.ntmps71
  go_wp2_with (go_at_call 94; (refine (hM _ _ (((Below.refl _ _).alloc (Nat.le_refl _) _).alloc (by simp) _) (hI _)).mono ?_); rintro e w3 ⟨rfl, hb3⟩)
  go_ret
  exact ⟨rfl, bt (((Below.refl _ _).alloc (Nat.le_refl _) _).alloc (by simp) _) hb3⟩

set_option maxRecDepth 100000 in
set_option maxHeartbeats 6400000 in
theorem refKids_18 (t : Tree) (p : Option Addr) (cap : Nat) (h : Bool) (w : World) (hk : KidsV w (.slice p t.kids.length cap) t.kids) (hkl : t.kids.length ≤ 4194304) (hkd : t.kind = 18) :
    Calls Tryz.prog 71 #[nodeV t (.slice p t.kids.length cap), .bool h] w fun e w' => e = .returned (.bool (manyB [35] t.kids)) ∧ Below w.heap.size w w' := by
  have hM : ∀ w2 v, Below w.heap.size w w2 → IntsV w2 v [35] → Calls Tryz.prog 94 #[.agg #[.int .i64 18, .string t.text, .int .i64 t.at_, .int .i64 t.end_, (.slice p t.kids.length cap)], v] w2 fun e w' => e = .returned (.bool (manyB [35] t.kids)) ∧ Below w2.heap.size w2 w' := fun w2 v hb hi => by
    have h1 := refMany_any t (.slice p t.kids.length cap) [35] v w2 (hk.later hb) hi hkl (by decide)
    simp only [nodeV, hkd] at h1
    exact h1
  have hI : ∀ A, IntsV ((w.alloc A).alloc (.cells #[.int .i64 35] 3)) (.slice (some ⟨w.heap.size + 1, 0, none⟩) 1 1) [35] := fun A => ints_laid (ks := [35]) (by simp) (fun i z hz => by rcases i with _ | i <;> simp at hz <;> subst hz <;> simp [go_sem])
  simp only [nodeV, hkd]
  go_enter Tryz.func71, Tryz.ntmps71
  go_wp2_with (go_at_call 94; (refine (hM _ _ (((Below.refl _ _).alloc (Nat.le_refl _) _).alloc (by simp) _) (hI _)).mono ?_); rintro e w3 ⟨rfl, hb3⟩)
  go_ret
  exact ⟨rfl, bt (((Below.refl _ _).alloc (Nat.le_refl _) _).alloc (by simp) _) hb3⟩

set_option maxRecDepth 100000 in
set_option maxHeartbeats 6400000 in
theorem refKids_22 (t : Tree) (p : Option Addr) (cap : Nat) (h : Bool) (w : World) (hk : KidsV w (.slice p t.kids.length cap) t.kids) (hkl : t.kids.length ≤ 4194304) (hkd : t.kind = 22) :
    Calls Tryz.prog 71 #[nodeV t (.slice p t.kids.length cap), .bool h] w fun e w' => e = .returned (.bool (manyB [35, 36] t.kids)) ∧ Below w.heap.size w w' := by
  have hM : ∀ w2 v, Below w.heap.size w w2 → IntsV w2 v [35, 36] → Calls Tryz.prog 94 #[.agg #[.int .i64 22, .string t.text, .int .i64 t.at_, .int .i64 t.end_, (.slice p t.kids.length cap)], v] w2 fun e w' => e = .returned (.bool (manyB [35, 36] t.kids)) ∧ Below w2.heap.size w2 w' := fun w2 v hb hi => by
    have h1 := refMany_any t (.slice p t.kids.length cap) [35, 36] v w2 (hk.later hb) hi hkl (by decide)
    simp only [nodeV, hkd] at h1
    exact h1
  have hI : ∀ A, IntsV ((w.alloc A).alloc (.cells #[.int .i64 35, .int .i64 36] 3)) (.slice (some ⟨w.heap.size + 1, 0, none⟩) 2 2) [35, 36] := fun A => ints_laid (ks := [35, 36]) (by simp) (fun i z hz => by rcases i with _ | _ | i <;> simp at hz <;> subst hz <;> simp [go_sem])
  simp only [nodeV, hkd]
  go_enter Tryz.func71, Tryz.ntmps71
  go_wp2_with (go_at_call 94; (refine (hM _ _ (((Below.refl _ _).alloc (Nat.le_refl _) _).alloc (by simp) _) (hI _)).mono ?_); rintro e w3 ⟨rfl, hb3⟩)
  go_ret
  exact ⟨rfl, bt (((Below.refl _ _).alloc (Nat.le_refl _) _).alloc (by simp) _) hb3⟩

set_option maxRecDepth 100000 in
set_option maxHeartbeats 6400000 in
theorem refKids_23 (t : Tree) (p : Option Addr) (cap : Nat) (h : Bool) (w : World) (hk : KidsV w (.slice p t.kids.length cap) t.kids) (hkl : t.kids.length ≤ 4194304) (hkd : t.kind = 23) :
    Calls Tryz.prog 71 #[nodeV t (.slice p t.kids.length cap), .bool h] w fun e w' => e = .returned (.bool (manyB [24] t.kids)) ∧ Below w.heap.size w w' := by
  have hM : ∀ w2 v, Below w.heap.size w w2 → IntsV w2 v [24] → Calls Tryz.prog 94 #[.agg #[.int .i64 23, .string t.text, .int .i64 t.at_, .int .i64 t.end_, (.slice p t.kids.length cap)], v] w2 fun e w' => e = .returned (.bool (manyB [24] t.kids)) ∧ Below w2.heap.size w2 w' := fun w2 v hb hi => by
    have h1 := refMany_any t (.slice p t.kids.length cap) [24] v w2 (hk.later hb) hi hkl (by decide)
    simp only [nodeV, hkd] at h1
    exact h1
  have hI : ∀ A, IntsV ((w.alloc A).alloc (.cells #[.int .i64 24] 3)) (.slice (some ⟨w.heap.size + 1, 0, none⟩) 1 1) [24] := fun A => ints_laid (ks := [24]) (by simp) (fun i z hz => by rcases i with _ | i <;> simp at hz <;> subst hz <;> simp [go_sem])
  simp only [nodeV, hkd]
  go_enter Tryz.func71, Tryz.ntmps71
  go_wp2_with (go_at_call 94; (refine (hM _ _ (((Below.refl _ _).alloc (Nat.le_refl _) _).alloc (by simp) _) (hI _)).mono ?_); rintro e w3 ⟨rfl, hb3⟩)
  go_ret
  exact ⟨rfl, bt (((Below.refl _ _).alloc (Nat.le_refl _) _).alloc (by simp) _) hb3⟩

set_option maxRecDepth 100000 in
set_option maxHeartbeats 6400000 in
theorem refKids_20 (t : Tree) (p : Option Addr) (cap : Nat) (h : Bool) (w : World) (hk : KidsV w (.slice p t.kids.length cap) t.kids) (hkl : t.kids.length ≤ 4194304) (hkd : t.kind = 20) :
    Calls Tryz.prog 71 #[nodeV t (.slice p t.kids.length cap), .bool h] w fun e w' => e = .returned (.bool ((!t.kids.isEmpty) && manyB [21] t.kids)) ∧ Below w.heap.size w w' := by
  have hM : ∀ w2 v, Below w.heap.size w w2 → IntsV w2 v [21] → Calls Tryz.prog 94 #[.agg #[.int .i64 20, .string t.text, .int .i64 t.at_, .int .i64 t.end_, (.slice p t.kids.length cap)], v] w2 fun e w' => e = .returned (.bool (manyB [21] t.kids)) ∧ Below w2.heap.size w2 w' := fun w2 v hb hi => by
    have h1 := refMany_any t (.slice p t.kids.length cap) [21] v w2 (hk.later hb) hi hkl (by decide)
    simp only [nodeV, hkd] at h1
    exact h1
  have hI : ∀ A, IntsV ((w.alloc A).alloc (.cells #[.int .i64 21] 3)) (.slice (some ⟨w.heap.size + 1, 0, none⟩) 1 1) [21] := fun A => ints_laid (ks := [21]) (by simp) (fun i z hz => by rcases i with _ | i <;> simp at hz <;> subst hz <;> simp [go_sem])
  simp only [nodeV, hkd]
  by_cases h0 : t.kids = []
  · have hl : t.kids.length = 0 := by rw [h0]; rfl
    have hz : decide ((0 : Int) < (t.kids.length : Int)) = false := by rw [hl]; rfl
    have hz2 : ¬ ((0 : Int) < (t.kids.length : Int)) := by omega
    rw [show ((!t.kids.isEmpty) && manyB [21] t.kids) = false by rw [h0]; rfl]
    clear hk hM hI h0 hl
    go_enter Tryz.func71, Tryz.ntmps71
    go_wp2_with fail
    go_ret
    exact ⟨rfl, (Below.refl _ _).alloc (Nat.le_refl _) _⟩
  · have hl : 0 < t.kids.length := List.length_pos_iff.2 h0
    have hz : decide ((0 : Int) < (t.kids.length : Int)) = true := decide_eq_true (by omega)
    have hz2 : (0 : Int) < (t.kids.length : Int) := by omega
    rw [show (!t.kids.isEmpty) = true by rw [Bool.not_eq_true', List.isEmpty_eq_false_iff]; exact h0, Bool.true_and]
    clear h0
    go_enter Tryz.func71, Tryz.ntmps71
    go_wp2_with (go_at_call 94; (refine (hM _ _ (((Below.refl _ _).alloc (Nat.le_refl _) _).alloc (by simp) _) (hI _)).mono ?_); rintro e w3 ⟨rfl, hb3⟩)
    go_ret
    exact ⟨rfl, bt (((Below.refl _ _).alloc (Nat.le_refl _) _).alloc (by simp) _) hb3⟩

set_option maxRecDepth 100000 in
set_option maxHeartbeats 6400000 in
theorem refKids_1 (t : Tree) (p : Option Addr) (cap : Nat) (h : Bool) (w : World) (_hk : KidsV w (.slice p t.kids.length cap) t.kids) (_hkl : t.kids.length ≤ 4194304) (hkd : t.kind = 1) :
    Calls Tryz.prog 71 #[nodeV t (.slice p t.kids.length cap), .bool h] w fun e w' => e = .returned (.bool (t.kids.isEmpty)) ∧ Below w.heap.size w w' := by
  simp only [nodeV, hkd]
  by_cases h0 : t.kids = []
  · have hl : ((t.kids.length : Int) == 0) = true := by rw [h0]; rfl
    rw [show t.kids.isEmpty = true by rw [h0]; rfl]
    clear h0
    go_enter Tryz.func71, Tryz.ntmps71
    go_wp2_with fail
    go_ret
    exact ⟨rfl, (Below.refl _ _).alloc (Nat.le_refl _) _⟩
  · have hp : 0 < t.kids.length := List.length_pos_iff.2 h0
    have hl : ((t.kids.length : Int) == 0) = false := by rw [beq_eq_false_iff_ne]; omega
    rw [show t.kids.isEmpty = false by rw [List.isEmpty_eq_false_iff]; exact h0]
    clear h0 hp
    go_enter Tryz.func71, Tryz.ntmps71
    go_wp2_with fail
    go_ret
    exact ⟨rfl, (Below.refl _ _).alloc (Nat.le_refl _) _⟩

set_option maxRecDepth 100000 in
set_option maxHeartbeats 6400000 in
theorem refKids_16 (t : Tree) (p : Option Addr) (cap : Nat) (h : Bool) (w : World) (_hk : KidsV w (.slice p t.kids.length cap) t.kids) (_hkl : t.kids.length ≤ 4194304) (hkd : t.kind = 16) :
    Calls Tryz.prog 71 #[nodeV t (.slice p t.kids.length cap), .bool h] w fun e w' => e = .returned (.bool (t.kids.isEmpty)) ∧ Below w.heap.size w w' := by
  simp only [nodeV, hkd]
  by_cases h0 : t.kids = []
  · have hl : ((t.kids.length : Int) == 0) = true := by rw [h0]; rfl
    rw [show t.kids.isEmpty = true by rw [h0]; rfl]
    clear h0
    go_enter Tryz.func71, Tryz.ntmps71
    go_wp2_with fail
    go_ret
    exact ⟨rfl, (Below.refl _ _).alloc (Nat.le_refl _) _⟩
  · have hp : 0 < t.kids.length := List.length_pos_iff.2 h0
    have hl : ((t.kids.length : Int) == 0) = false := by rw [beq_eq_false_iff_ne]; omega
    rw [show t.kids.isEmpty = false by rw [List.isEmpty_eq_false_iff]; exact h0]
    clear h0 hp
    go_enter Tryz.func71, Tryz.ntmps71
    go_wp2_with fail
    go_ret
    exact ⟨rfl, (Below.refl _ _).alloc (Nat.le_refl _) _⟩

set_option maxRecDepth 100000 in
set_option maxHeartbeats 6400000 in
theorem refKids_35 (t : Tree) (p : Option Addr) (cap : Nat) (h : Bool) (w : World) (_hk : KidsV w (.slice p t.kids.length cap) t.kids) (_hkl : t.kids.length ≤ 4194304) (hkd : t.kind = 35) :
    Calls Tryz.prog 71 #[nodeV t (.slice p t.kids.length cap), .bool h] w fun e w' => e = .returned (.bool (t.kids.isEmpty)) ∧ Below w.heap.size w w' := by
  simp only [nodeV, hkd]
  by_cases h0 : t.kids = []
  · have hl : ((t.kids.length : Int) == 0) = true := by rw [h0]; rfl
    rw [show t.kids.isEmpty = true by rw [h0]; rfl]
    clear h0
    go_enter Tryz.func71, Tryz.ntmps71
    go_wp2_with fail
    go_ret
    exact ⟨rfl, (Below.refl _ _).alloc (Nat.le_refl _) _⟩
  · have hp : 0 < t.kids.length := List.length_pos_iff.2 h0
    have hl : ((t.kids.length : Int) == 0) = false := by rw [beq_eq_false_iff_ne]; omega
    rw [show t.kids.isEmpty = false by rw [List.isEmpty_eq_false_iff]; exact h0]
    clear h0 hp
    go_enter Tryz.func71, Tryz.ntmps71
    go_wp2_with fail
    go_ret
    exact ⟨rfl, (Below.refl _ _).alloc (Nat.le_refl _) _⟩

set_option maxRecDepth 100000 in
set_option maxHeartbeats 6400000 in
theorem refKids_36 (t : Tree) (p : Option Addr) (cap : Nat) (h : Bool) (w : World) (_hk : KidsV w (.slice p t.kids.length cap) t.kids) (_hkl : t.kids.length ≤ 4194304) (hkd : t.kind = 36) :
    Calls Tryz.prog 71 #[nodeV t (.slice p t.kids.length cap), .bool h] w fun e w' => e = .returned (.bool (t.kids.isEmpty)) ∧ Below w.heap.size w w' := by
  simp only [nodeV, hkd]
  by_cases h0 : t.kids = []
  · have hl : ((t.kids.length : Int) == 0) = true := by rw [h0]; rfl
    rw [show t.kids.isEmpty = true by rw [h0]; rfl]
    clear h0
    go_enter Tryz.func71, Tryz.ntmps71
    go_wp2_with fail
    go_ret
    exact ⟨rfl, (Below.refl _ _).alloc (Nat.le_refl _) _⟩
  · have hp : 0 < t.kids.length := List.length_pos_iff.2 h0
    have hl : ((t.kids.length : Int) == 0) = false := by rw [beq_eq_false_iff_ne]; omega
    rw [show t.kids.isEmpty = false by rw [List.isEmpty_eq_false_iff]; exact h0]
    clear h0 hp
    go_enter Tryz.func71, Tryz.ntmps71
    go_wp2_with fail
    go_ret
    exact ⟨rfl, (Below.refl _ _).alloc (Nat.le_refl _) _⟩

set_option maxRecDepth 100000 in
set_option maxHeartbeats 6400000 in
theorem refKids_37 (t : Tree) (p : Option Addr) (cap : Nat) (h : Bool) (w : World) (_hk : KidsV w (.slice p t.kids.length cap) t.kids) (_hkl : t.kids.length ≤ 4194304) (hkd : t.kind = 37) :
    Calls Tryz.prog 71 #[nodeV t (.slice p t.kids.length cap), .bool h] w fun e w' => e = .returned (.bool (t.kids.isEmpty)) ∧ Below w.heap.size w w' := by
  simp only [nodeV, hkd]
  by_cases h0 : t.kids = []
  · have hl : ((t.kids.length : Int) == 0) = true := by rw [h0]; rfl
    rw [show t.kids.isEmpty = true by rw [h0]; rfl]
    clear h0
    go_enter Tryz.func71, Tryz.ntmps71
    go_wp2_with fail
    go_ret
    exact ⟨rfl, (Below.refl _ _).alloc (Nat.le_refl _) _⟩
  · have hp : 0 < t.kids.length := List.length_pos_iff.2 h0
    have hl : ((t.kids.length : Int) == 0) = false := by rw [beq_eq_false_iff_ne]; omega
    rw [show t.kids.isEmpty = false by rw [List.isEmpty_eq_false_iff]; exact h0]
    clear h0 hp
    go_enter Tryz.func71, Tryz.ntmps71
    go_wp2_with fail
    go_ret
    exact ⟨rfl, (Below.refl _ _).alloc (Nat.le_refl _) _⟩

set_option maxRecDepth 100000 in
set_option maxHeartbeats 6400000 in
theorem refKids_38 (t : Tree) (p : Option Addr) (cap : Nat) (h : Bool) (w : World) (_hk : KidsV w (.slice p t.kids.length cap) t.kids) (_hkl : t.kids.length ≤ 4194304) (hkd : t.kind = 38) :
    Calls Tryz.prog 71 #[nodeV t (.slice p t.kids.length cap), .bool h] w fun e w' => e = .returned (.bool (t.kids.isEmpty)) ∧ Below w.heap.size w w' := by
  simp only [nodeV, hkd]
  by_cases h0 : t.kids = []
  · have hl : ((t.kids.length : Int) == 0) = true := by rw [h0]; rfl
    rw [show t.kids.isEmpty = true by rw [h0]; rfl]
    clear h0
    go_enter Tryz.func71, Tryz.ntmps71
    go_wp2_with fail
    go_ret
    exact ⟨rfl, (Below.refl _ _).alloc (Nat.le_refl _) _⟩
  · have hp : 0 < t.kids.length := List.length_pos_iff.2 h0
    have hl : ((t.kids.length : Int) == 0) = false := by rw [beq_eq_false_iff_ne]; omega
    rw [show t.kids.isEmpty = false by rw [List.isEmpty_eq_false_iff]; exact h0]
    clear h0 hp
    go_enter Tryz.func71, Tryz.ntmps71
    go_wp2_with fail
    go_ret
    exact ⟨rfl, (Below.refl _ _).alloc (Nat.le_refl _) _⟩

set_option maxRecDepth 100000 in
set_option maxHeartbeats 6400000 in
theorem refKids_2 (t : Tree) (p : Option Addr) (cap : Nat) (h : Bool) (w : World) (hk : KidsV w (.slice p t.kids.length cap) t.kids) (hkl : t.kids.length ≤ 4194304) (hkd : t.kind = 2) :
    Calls Tryz.prog 71 #[nodeV t (.slice p t.kids.length cap), .bool h] w fun e w' => e = .returned (.bool (t.kids.all fun x => kDeclB x.kind)) ∧ Below w.heap.size w w' := by
  simp only [nodeV, hkd]
  obtain ⟨p0, cap0, g, o, hv, hpp, hat⟩ := hk.open
  injection hv with e1 e2 e3
  subst e1
  have HPP := hidden hpp
  have HAT := hidden hat
  obtain ⟨r, hr⟩ : ∃ r, (t.kids.all fun x => kDeclB x.kind) = r := ⟨_, rfl⟩
  rw [hr]
  have HR := hidden hr
  clear hk hpp hat hr e2 e3
  go_enter Tryz.func71, Tryz.ntmps71
  go_wp2_with fail
  obtain ⟨w1, hw1⟩ : ∃ w1, w1 = w.alloc (.cells #[.int .i64 2, .string t.text, .int .i64 t.at_, .int .i64 t.end_, .slice p t.kids.length cap] 24) := ⟨_, rfl⟩
  have hB1 : Below w.heap.size w w1 := by rw [hw1]; exact (Below.refl _ _).alloc (Nat.le_refl _) _
  have hb4 : w1.cell? ⟨w.heap.size, 4, none⟩ = some (.slice p t.kids.length cap) := by rw [hw1]; simp [go_sem]
  have hlt1 : w.heap.size < w1.heap.size := by rw [hw1]; simp
  rw [← hw1]
  clear hw1
  go_loopw [5] (fun i wr => ∃ k : Nat, k ≤ t.kids.length ∧ i = .int .i64 k ∧ Hid (((t.kids.drop k).all fun x => kDeclB x.kind) = r ∧ Below w1.heap.size w1 wr)) (fun i _ => t.kids.length - (intOf i).toNat)
  case atStart => exact ⟨0, Nat.zero_le _, rfl, by rw [List.drop_zero]; exact HR.out, Below.refl _ _⟩
  case round =>
    obtain ⟨k, hk, rfl, hh⟩ := hrel
    obtain ⟨hm, hB⟩ := hh.out
    clear hh
    have hb4' := (hB.cell (p := ⟨w.heap.size, 4, none⟩) hlt1).trans hb4
    by_cases hlt : k < t.kids.length
    · obtain ⟨x, hx⟩ : ∃ x, t.kids[k]? = some x := ⟨_, List.getElem?_eq_getElem hlt⟩
      obtain ⟨rfl, hg⟩ := HPP.out (fun h => by rw [h] at hlt; exact absurd hlt (Nat.not_lt_zero _))
      obtain ⟨kv', hn, hkv⟩ := HAT.out k x hx
      have hltz : (k : Int) < (t.kids.length : Int) := by omega
      have c0 := (hn.stays (bt hB1 hB)).c0
      rw [drop_step hx, List.all_cons] at hm
      have hC := fun w => refIsDeclaration_any x.kind w
      obtain ⟨q, hq⟩ : ∃ q, kDeclB x.kind = q := ⟨_, rfl⟩
      rw [hq] at hm
      simp only [hq] at hC
      have HM := hidden hm
      have HB := hidden hB
      clear hm hq hB hn hkv hx
      cases q with
      | true =>
        go_wp2_with (go_at_call 89; (with_reducible refine (hC _).mono ?_); rintro e w3 ⟨rfl, rfl⟩)
        go_roundw
        case rel => exact ⟨k + 1, by omega, by go_num, by rw [← HM.out, Bool.true_and], HB.out⟩
        case measure => simp [intOf]; omega
      | false =>
        go_wp2_with (go_at_call 89; (with_reducible refine (hC _).mono ?_); rintro e w3 ⟨rfl, rfl⟩)
        go_ret
        exact ⟨by rw [← HM.out, Bool.false_and]; rfl, bt hB1 HB.out⟩
    · obtain rfl : k = t.kids.length := by omega
      rw [List.drop_length, List.all_nil] at hm
      have HM := hidden hm
      have HBX := hidden (bt hB1 hB)
      clear hm hB
      go_wp2_with fail
      go_ret
      exact ⟨by rw [← HM.out]; rfl, HBX.out⟩

set_option maxRecDepth 100000 in
set_option maxHeartbeats 6400000 in
theorem refKids_25 (t : Tree) (p : Option Addr) (cap : Nat) (h : Bool) (w : World) (hk : KidsV w (.slice p t.kids.length cap) t.kids) (hkl : t.kids.length ≤ 4194304) (hkd : t.kind = 25) :
    Calls Tryz.prog 71 #[nodeV t (.slice p t.kids.length cap), .bool h] w fun e w' => e = .returned (.bool (t.kids.all fun x => kStmtB x.kind)) ∧ Below w.heap.size w w' := by
  simp only [nodeV, hkd]
  obtain ⟨p0, cap0, g, o, hv, hpp, hat⟩ := hk.open
  injection hv with e1 e2 e3
  subst e1
  have HPP := hidden hpp
  have HAT := hidden hat
  obtain ⟨r, hr⟩ : ∃ r, (t.kids.all fun x => kStmtB x.kind) = r := ⟨_, rfl⟩
  rw [hr]
  have HR := hidden hr
  clear hk hpp hat hr e2 e3
  go_enter Tryz.func71, Tryz.ntmps71
  go_wp2_with fail
  obtain ⟨w1, hw1⟩ : ∃ w1, w1 = w.alloc (.cells #[.int .i64 25, .string t.text, .int .i64 t.at_, .int .i64 t.end_, .slice p t.kids.length cap] 24) := ⟨_, rfl⟩
  have hB1 : Below w.heap.size w w1 := by rw [hw1]; exact (Below.refl _ _).alloc (Nat.le_refl _) _
  have hb4 : w1.cell? ⟨w.heap.size, 4, none⟩ = some (.slice p t.kids.length cap) := by rw [hw1]; simp [go_sem]
  have hlt1 : w.heap.size < w1.heap.size := by rw [hw1]; simp
  rw [← hw1]
  clear hw1
  go_loopw [6] (fun i wr => ∃ k : Nat, k ≤ t.kids.length ∧ i = .int .i64 k ∧ Hid (((t.kids.drop k).all fun x => kStmtB x.kind) = r ∧ Below w1.heap.size w1 wr)) (fun i _ => t.kids.length - (intOf i).toNat)
  case atStart => exact ⟨0, Nat.zero_le _, rfl, by rw [List.drop_zero]; exact HR.out, Below.refl _ _⟩
  case round =>
    obtain ⟨k, hk, rfl, hh⟩ := hrel
    obtain ⟨hm, hB⟩ := hh.out
    clear hh
    have hb4' := (hB.cell (p := ⟨w.heap.size, 4, none⟩) hlt1).trans hb4
    by_cases hlt : k < t.kids.length
    · obtain ⟨x, hx⟩ : ∃ x, t.kids[k]? = some x := ⟨_, List.getElem?_eq_getElem hlt⟩
      obtain ⟨rfl, hg⟩ := HPP.out (fun h => by rw [h] at hlt; exact absurd hlt (Nat.not_lt_zero _))
      obtain ⟨kv', hn, hkv⟩ := HAT.out k x hx
      have hltz : (k : Int) < (t.kids.length : Int) := by omega
      have c0 := (hn.stays (bt hB1 hB)).c0
      rw [drop_step hx, List.all_cons] at hm
      have hC := fun w => refIsStatement_any x.kind w
      obtain ⟨q, hq⟩ : ∃ q, kStmtB x.kind = q := ⟨_, rfl⟩
      rw [hq] at hm
      simp only [hq] at hC
      have HM := hidden hm
      have HB := hidden hB
      clear hm hq hB hn hkv hx
      cases q with
      | true =>
        go_wp2_with (go_at_call 90; (with_reducible refine (hC _).mono ?_); rintro e w3 ⟨rfl, rfl⟩)
        go_roundw
        case rel => exact ⟨k + 1, by omega, by go_num, by rw [← HM.out, Bool.true_and], HB.out⟩
        case measure => simp [intOf]; omega
      | false =>
        go_wp2_with (go_at_call 90; (with_reducible refine (hC _).mono ?_); rintro e w3 ⟨rfl, rfl⟩)
        go_ret
        exact ⟨by rw [← HM.out, Bool.false_and]; rfl, bt hB1 HB.out⟩
    · obtain rfl : k = t.kids.length := by omega
      rw [List.drop_length, List.all_nil] at hm
      have HM := hidden hm
      have HBX := hidden (bt hB1 hB)
      clear hm hB
      go_wp2_with fail
      go_ret
      exact ⟨by rw [← HM.out]; rfl, HBX.out⟩

set_option maxRecDepth 100000 in
set_option maxHeartbeats 6400000 in
theorem refKids_none (t : Tree) (p : Option Addr) (cap : Nat) (h : Bool) (w : World) (n1 : (t.kind == 1) = false) (n16 : (t.kind == 16) = false) (n35 : (t.kind == 35) = false) (n36 : (t.kind == 36) = false) (n37 : (t.kind == 37) = false) (n38 : (t.kind == 38) = false) (n2 : (t.kind == 2) = false) (n25 : (t.kind == 25) = false) (n3 : (t.kind == 3) = false) (n4 : (t.kind == 4) = false) (n5 : (t.kind == 5) = false) (n6 : (t.kind == 6) = false) (n7 : (t.kind == 7) = false) (n8 : (t.kind == 8) = false) (n9 : (t.kind == 9) = false) (n10 : (t.kind == 10) = false) (n11 : (t.kind == 11) = false) (n12 : (t.kind == 12) = false) (n13 : (t.kind == 13) = false) (n14 : (t.kind == 14) = false) (n15 : (t.kind == 15) = false) (n17 : (t.kind == 17) = false) (n18 : (t.kind == 18) = false) (n19 : (t.kind == 19) = false) (n20 : (t.kind == 20) = false) (n21 : (t.kind == 21) = false) (n22 : (t.kind == 22) = false) (n23 : (t.kind == 23) = false) (n24 : (t.kind == 24) = false) (n26 : (t.kind == 26) = false) (n39 : (t.kind == 39) = false) (n27 : (t.kind == 27) = false) (n28 : (t.kind == 28) = false) (n29 : (t.kind == 29) = false) (n31 : (t.kind == 31) = false) (n32 : (t.kind == 32) = false) (n30 : (t.kind == 30) = false) (n33 : (t.kind == 33) = false) (n34 : (t.kind == 34) = false) (n40 : (t.kind == 40) = false) :
    Calls Tryz.prog 71 #[nodeV t (.slice p t.kids.length cap), .bool h] w fun e w' => e = .returned (.bool false) ∧ Below w.heap.size w w' := by
  simp only [nodeV]
  go_enter Tryz.func71, Tryz.ntmps71
  go_wp2_with fail
  go_ret
  exact ⟨rfl, (Below.refl _ _).alloc (Nat.le_refl _) _⟩

end Go.Proofs.YtlbaaiglebpjiaaGreatDoor
