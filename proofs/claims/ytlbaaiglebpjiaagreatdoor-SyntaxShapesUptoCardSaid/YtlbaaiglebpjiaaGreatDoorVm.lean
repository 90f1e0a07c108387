/-
  The reference: the text of a node. By gen_vm.py.
-/
import Derived.Test.YtlbaaiglebpjiaaGreatDoorVl
import Derived.Test.YtlbaaiglebpjiaaGreatDoorJp
namespace Go.Proofs.YtlbaaiglebpjiaaGreatDoor
open Go Go.RowKit Go.Shelf Go.Lib

section
variable {ops : Array Oper} {Q : Exit → Act → World → Prop} {i d : Nat} {a : Act} {w : World} {pos : String} {af : Array Edge} {gd : Option (Nat × Bool)}

theorem do_operators (ho : ops[i]? = some ⟨some d, .call { callee := .value (.func 88), args := #[], argTypes := #[] }, 43, pos, af, none⟩) :
    Does Tryz.prog ops Q (Ph.strs opsL).says i d a w := by
  refine does_call (f := 88) (args := #[]) ho rfl (wanted_free rfl) ?_ ((refOperators_any _).mono ?_)
  · simp only [execOp]
    go_simp
  · rintro e w' ⟨v, rfl, hv, hb⟩
    exact ⟨_, rfl, hv, hb⟩

theorem do_fieldT {B o : Nat} {c : Nat} (ho : ops[i]? = some ⟨some d, .fieldAddr 24 (.tmp c) 1, 0, pos, af, gd⟩) (hw : Region.wanted ⟨some d, .fieldAddr 24 (.tmp c) 1, 0, pos, af, gd⟩ (yielded ops a.tmps) = true) (h2 : a.eval (.tmp c) = .pointer (some ⟨B, o, none⟩)) :
    Does Tryz.prog ops Q (Ph.is (.pointer (some ⟨B, o + 1, none⟩))).says i d a w := by
  refine does_value ho rfl hw ?_ (Below.refl _ _) rfl
  simp only [execOp, h2]
  go_simp

theorem do_loadT {A : Addr} {c : Nat} {v : Value} (ho : ops[i]? = some ⟨some d, .load 9 (.tmp c), 9, pos, af, gd⟩) (hw : Region.wanted ⟨some d, .load 9 (.tmp c), 9, pos, af, gd⟩ (yielded ops a.tmps) = true) (h2 : a.eval (.tmp c) = .pointer (some A)) (hc : w.cell? A = some v) :
    Does Tryz.prog ops Q (Ph.is v).says i d a w := by
  refine does_value ho rfl hw ?_ (Below.refl _ _) rfl
  simp only [execOp, h2]
  go_simp

theorem do_has {c1 c2 : Nat} {s : ByteArray} {xs : List ByteArray} (hx0 : xs ≠ []) (hx : xs.length ≤ 4096) (ho : ops[i]? = some ⟨some d, .call { callee := .value (.func 87), args := #[.tmp c1, .tmp c2], argTypes := #[43, 9] }, 4, pos, af, none⟩)
    (h1 : Strs w (a.eval (.tmp c1)) xs) (h2 : a.eval (.tmp c2) = .string s) : Does Tryz.prog ops Q (Ph.is (.bool (hasB xs s))).says i d a w := by
  refine does_call (f := 87) (args := #[a.eval (.tmp c1), .string s]) ho rfl (wanted_free rfl) ?_ ((refHas_any h1 hx hx0 s).mono ?_)
  · simp only [execOp]
    rw [← h2]
    go_simp
  · rintro e w' ⟨rfl, rfl⟩
    exact ⟨_, rfl, rfl, Below.refl _ _⟩

end

set_option maxRecDepth 100000 in
set_option maxHeartbeats 6400000 in
theorem refText_3 (t : Tree) (p : Option Addr) (cap : Nat) (w : World) (ht : t.text.size ≤ 4096) (hkd : t.kind = 3) :
    Calls Tryz.prog 70 #[nodeV t (.slice p t.kids.length cap)] w fun e w' => e = .returned (.bool (nameB t.text)) ∧ Below w.heap.size w w' := by
  have hc := fun w2 => refName_any t.text ht w2
  obtain ⟨r, hr⟩ : ∃ r, nameB t.text = r := ⟨_, rfl⟩
  rw [hr]
  simp only [hr] at hc
  clear hr ht
  simp only [nodeV, hkd]
  go_enter Tryz.func70, Tryz.ntmps70
  go_wp2_with (go_at_call 84; (with_reducible refine (hc _).mono ?_); rintro e w3 ⟨rfl, hb3⟩)
  go_ret
  exact ⟨rfl, bt ((Below.refl _ _).alloc (Nat.le_refl _) _) hb3⟩

set_option maxRecDepth 100000 in
set_option maxHeartbeats 6400000 in
theorem refText_4 (t : Tree) (p : Option Addr) (cap : Nat) (w : World) (ht : t.text.size ≤ 4096) (hkd : t.kind = 4) :
    Calls Tryz.prog 70 #[nodeV t (.slice p t.kids.length cap)] w fun e w' => e = .returned (.bool (nameB t.text)) ∧ Below w.heap.size w w' := by
  have hc := fun w2 => refName_any t.text ht w2
  obtain ⟨r, hr⟩ : ∃ r, nameB t.text = r := ⟨_, rfl⟩
  rw [hr]
  simp only [hr] at hc
  clear hr ht
  simp only [nodeV, hkd]
  go_enter Tryz.func70, Tryz.ntmps70
  go_wp2_with (go_at_call 84; (with_reducible refine (hc _).mono ?_); rintro e w3 ⟨rfl, hb3⟩)
  go_ret
  exact ⟨rfl, bt ((Below.refl _ _).alloc (Nat.le_refl _) _) hb3⟩

set_option maxRecDepth 100000 in
set_option maxHeartbeats 6400000 in
theorem refText_5 (t : Tree) (p : Option Addr) (cap : Nat) (w : World) (ht : t.text.size ≤ 4096) (hkd : t.kind = 5) :
    Calls Tryz.prog 70 #[nodeV t (.slice p t.kids.length cap)] w fun e w' => e = .returned (.bool (nameB t.text)) ∧ Below w.heap.size w w' := by
  have hc := fun w2 => refName_any t.text ht w2
  obtain ⟨r, hr⟩ : ∃ r, nameB t.text = r := ⟨_, rfl⟩
  rw [hr]
  simp only [hr] at hc
  clear hr ht
  simp only [nodeV, hkd]
  go_enter Tryz.func70, Tryz.ntmps70
  go_wp2_with (go_at_call 84; (with_reducible refine (hc _).mono ?_); rintro e w3 ⟨rfl, hb3⟩)
  go_ret
  exact ⟨rfl, bt ((Below.refl _ _).alloc (Nat.le_refl _) _) hb3⟩

set_option maxRecDepth 100000 in
set_option maxHeartbeats 6400000 in
theorem refText_6 (t : Tree) (p : Option Addr) (cap : Nat) (w : World) (ht : t.text.size ≤ 4096) (hkd : t.kind = 6) :
    Calls Tryz.prog 70 #[nodeV t (.slice p t.kids.length cap)] w fun e w' => e = .returned (.bool (nameB t.text)) ∧ Below w.heap.size w w' := by
  have hc := fun w2 => refName_any t.text ht w2
  obtain ⟨r, hr⟩ : ∃ r, nameB t.text = r := ⟨_, rfl⟩
  rw [hr]
  simp only [hr] at hc
  clear hr ht
  simp only [nodeV, hkd]
  go_enter Tryz.func70, Tryz.ntmps70
  go_wp2_with (go_at_call 84; (with_reducible refine (hc _).mono ?_); rintro e w3 ⟨rfl, hb3⟩)
  go_ret
  exact ⟨rfl, bt ((Below.refl _ _).alloc (Nat.le_refl _) _) hb3⟩

set_option maxRecDepth 100000 in
set_option maxHeartbeats 6400000 in
theorem refText_7 (t : Tree) (p : Option Addr) (cap : Nat) (w : World) (ht : t.text.size ≤ 4096) (hkd : t.kind = 7) :
    Calls Tryz.prog 70 #[nodeV t (.slice p t.kids.length cap)] w fun e w' => e = .returned (.bool (nameB t.text)) ∧ Below w.heap.size w w' := by
  have hc := fun w2 => refName_any t.text ht w2
  obtain ⟨r, hr⟩ : ∃ r, nameB t.text = r := ⟨_, rfl⟩
  rw [hr]
  simp only [hr] at hc
  clear hr ht
  simp only [nodeV, hkd]
  go_enter Tryz.func70, Tryz.ntmps70
  go_wp2_with (go_at_call 84; (with_reducible refine (hc _).mono ?_); rintro e w3 ⟨rfl, hb3⟩)
  go_ret
  exact ⟨rfl, bt ((Below.refl _ _).alloc (Nat.le_refl _) _) hb3⟩

set_option maxRecDepth 100000 in
set_option maxHeartbeats 6400000 in
theorem refText_8 (t : Tree) (p : Option Addr) (cap : Nat) (w : World) (ht : t.text.size ≤ 4096) (hkd : t.kind = 8) :
    Calls Tryz.prog 70 #[nodeV t (.slice p t.kids.length cap)] w fun e w' => e = .returned (.bool (nameB t.text)) ∧ Below w.heap.size w w' := by
  have hc := fun w2 => refName_any t.text ht w2
  obtain ⟨r, hr⟩ : ∃ r, nameB t.text = r := ⟨_, rfl⟩
  rw [hr]
  simp only [hr] at hc
  clear hr ht
  simp only [nodeV, hkd]
  go_enter Tryz.func70, Tryz.ntmps70
  go_wp2_with (go_at_call 84; (with_reducible refine (hc _).mono ?_); rintro e w3 ⟨rfl, hb3⟩)
  go_ret
  exact ⟨rfl, bt ((Below.refl _ _).alloc (Nat.le_refl _) _) hb3⟩

set_option maxRecDepth 100000 in
set_option maxHeartbeats 6400000 in
theorem refText_9 (t : Tree) (p : Option Addr) (cap : Nat) (w : World) (ht : t.text.size ≤ 4096) (hkd : t.kind = 9) :
    Calls Tryz.prog 70 #[nodeV t (.slice p t.kids.length cap)] w fun e w' => e = .returned (.bool (nameB t.text)) ∧ Below w.heap.size w w' := by
  have hc := fun w2 => refName_any t.text ht w2
  obtain ⟨r, hr⟩ : ∃ r, nameB t.text = r := ⟨_, rfl⟩
  rw [hr]
  simp only [hr] at hc
  clear hr ht
  simp only [nodeV, hkd]
  go_enter Tryz.func70, Tryz.ntmps70
  go_wp2_with (go_at_call 84; (with_reducible refine (hc _).mono ?_); rintro e w3 ⟨rfl, hb3⟩)
  go_ret
  exact ⟨rfl, bt ((Below.refl _ _).alloc (Nat.le_refl _) _) hb3⟩

set_option maxRecDepth 100000 in
set_option maxHeartbeats 6400000 in
theorem refText_11 (t : Tree) (p : Option Addr) (cap : Nat) (w : World) (ht : t.text.size ≤ 4096) (hkd : t.kind = 11) :
    Calls Tryz.prog 70 #[nodeV t (.slice p t.kids.length cap)] w fun e w' => e = .returned (.bool (nameB t.text)) ∧ Below w.heap.size w w' := by
  have hc := fun w2 => refName_any t.text ht w2
  obtain ⟨r, hr⟩ : ∃ r, nameB t.text = r := ⟨_, rfl⟩
  rw [hr]
  simp only [hr] at hc
  clear hr ht
  simp only [nodeV, hkd]
  go_enter Tryz.func70, Tryz.ntmps70
  go_wp2_with (go_at_call 84; (with_reducible refine (hc _).mono ?_); rintro e w3 ⟨rfl, hb3⟩)
  go_ret
  exact ⟨rfl, bt ((Below.refl _ _).alloc (Nat.le_refl _) _) hb3⟩

set_option maxRecDepth 100000 in
set_option maxHeartbeats 6400000 in
theorem refText_13 (t : Tree) (p : Option Addr) (cap : Nat) (w : World) (ht : t.text.size ≤ 4096) (hkd : t.kind = 13) :
    Calls Tryz.prog 70 #[nodeV t (.slice p t.kids.length cap)] w fun e w' => e = .returned (.bool (nameB t.text)) ∧ Below w.heap.size w w' := by
  have hc := fun w2 => refName_any t.text ht w2
  obtain ⟨r, hr⟩ : ∃ r, nameB t.text = r := ⟨_, rfl⟩
  rw [hr]
  simp only [hr] at hc
  clear hr ht
  simp only [nodeV, hkd]
  go_enter Tryz.func70, Tryz.ntmps70
  go_wp2_with (go_at_call 84; (with_reducible refine (hc _).mono ?_); rintro e w3 ⟨rfl, hb3⟩)
  go_ret
  exact ⟨rfl, bt ((Below.refl _ _).alloc (Nat.le_refl _) _) hb3⟩

set_option maxRecDepth 100000 in
set_option maxHeartbeats 6400000 in
theorem refText_14 (t : Tree) (p : Option Addr) (cap : Nat) (w : World) (ht : t.text.size ≤ 4096) (hkd : t.kind = 14) :
    Calls Tryz.prog 70 #[nodeV t (.slice p t.kids.length cap)] w fun e w' => e = .returned (.bool (nameB t.text)) ∧ Below w.heap.size w w' := by
  have hc := fun w2 => refName_any t.text ht w2
  obtain ⟨r, hr⟩ : ∃ r, nameB t.text = r := ⟨_, rfl⟩
  rw [hr]
  simp only [hr] at hc
  clear hr ht
  simp only [nodeV, hkd]
  go_enter Tryz.func70, Tryz.ntmps70
  go_wp2_with (go_at_call 84; (with_reducible refine (hc _).mono ?_); rintro e w3 ⟨rfl, hb3⟩)
  go_ret
  exact ⟨rfl, bt ((Below.refl _ _).alloc (Nat.le_refl _) _) hb3⟩

set_option maxRecDepth 100000 in
set_option maxHeartbeats 6400000 in
theorem refText_15 (t : Tree) (p : Option Addr) (cap : Nat) (w : World) (ht : t.text.size ≤ 4096) (hkd : t.kind = 15) :
    Calls Tryz.prog 70 #[nodeV t (.slice p t.kids.length cap)] w fun e w' => e = .returned (.bool (nameB t.text)) ∧ Below w.heap.size w w' := by
  have hc := fun w2 => refName_any t.text ht w2
  obtain ⟨r, hr⟩ : ∃ r, nameB t.text = r := ⟨_, rfl⟩
  rw [hr]
  simp only [hr] at hc
  clear hr ht
  simp only [nodeV, hkd]
  go_enter Tryz.func70, Tryz.ntmps70
  go_wp2_with (go_at_call 84; (with_reducible refine (hc _).mono ?_); rintro e w3 ⟨rfl, hb3⟩)
  go_ret
  exact ⟨rfl, bt ((Below.refl _ _).alloc (Nat.le_refl _) _) hb3⟩

set_option maxRecDepth 100000 in
set_option maxHeartbeats 6400000 in
theorem refText_16 (t : Tree) (p : Option Addr) (cap : Nat) (w : World) (ht : t.text.size ≤ 4096) (hkd : t.kind = 16) :
    Calls Tryz.prog 70 #[nodeV t (.slice p t.kids.length cap)] w fun e w' => e = .returned (.bool (nameB t.text)) ∧ Below w.heap.size w w' := by
  have hc := fun w2 => refName_any t.text ht w2
  obtain ⟨r, hr⟩ : ∃ r, nameB t.text = r := ⟨_, rfl⟩
  rw [hr]
  simp only [hr] at hc
  clear hr ht
  simp only [nodeV, hkd]
  go_enter Tryz.func70, Tryz.ntmps70
  go_wp2_with (go_at_call 84; (with_reducible refine (hc _).mono ?_); rintro e w3 ⟨rfl, hb3⟩)
  go_ret
  exact ⟨rfl, bt ((Below.refl _ _).alloc (Nat.le_refl _) _) hb3⟩

set_option maxRecDepth 100000 in
set_option maxHeartbeats 6400000 in
theorem refText_22 (t : Tree) (p : Option Addr) (cap : Nat) (w : World) (ht : t.text.size ≤ 4096) (hkd : t.kind = 22) :
    Calls Tryz.prog 70 #[nodeV t (.slice p t.kids.length cap)] w fun e w' => e = .returned (.bool (nameB t.text)) ∧ Below w.heap.size w w' := by
  have hc := fun w2 => refName_any t.text ht w2
  obtain ⟨r, hr⟩ : ∃ r, nameB t.text = r := ⟨_, rfl⟩
  rw [hr]
  simp only [hr] at hc
  clear hr ht
  simp only [nodeV, hkd]
  go_enter Tryz.func70, Tryz.ntmps70
  go_wp2_with (go_at_call 84; (with_reducible refine (hc _).mono ?_); rintro e w3 ⟨rfl, hb3⟩)
  go_ret
  exact ⟨rfl, bt ((Below.refl _ _).alloc (Nat.le_refl _) _) hb3⟩

set_option maxRecDepth 100000 in
set_option maxHeartbeats 6400000 in
theorem refText_24 (t : Tree) (p : Option Addr) (cap : Nat) (w : World) (ht : t.text.size ≤ 4096) (hkd : t.kind = 24) :
    Calls Tryz.prog 70 #[nodeV t (.slice p t.kids.length cap)] w fun e w' => e = .returned (.bool (nameB t.text)) ∧ Below w.heap.size w w' := by
  have hc := fun w2 => refName_any t.text ht w2
  obtain ⟨r, hr⟩ : ∃ r, nameB t.text = r := ⟨_, rfl⟩
  rw [hr]
  simp only [hr] at hc
  clear hr ht
  simp only [nodeV, hkd]
  go_enter Tryz.func70, Tryz.ntmps70
  go_wp2_with (go_at_call 84; (with_reducible refine (hc _).mono ?_); rintro e w3 ⟨rfl, hb3⟩)
  go_ret
  exact ⟨rfl, bt ((Below.refl _ _).alloc (Nat.le_refl _) _) hb3⟩

set_option maxRecDepth 100000 in
set_option maxHeartbeats 6400000 in
theorem refText_35 (t : Tree) (p : Option Addr) (cap : Nat) (w : World) (ht : t.text.size ≤ 4096) (hkd : t.kind = 35) :
    Calls Tryz.prog 70 #[nodeV t (.slice p t.kids.length cap)] w fun e w' => e = .returned (.bool (nameB t.text)) ∧ Below w.heap.size w w' := by
  have hc := fun w2 => refName_any t.text ht w2
  obtain ⟨r, hr⟩ : ∃ r, nameB t.text = r := ⟨_, rfl⟩
  rw [hr]
  simp only [hr] at hc
  clear hr ht
  simp only [nodeV, hkd]
  go_enter Tryz.func70, Tryz.ntmps70
  go_wp2_with (go_at_call 84; (with_reducible refine (hc _).mono ?_); rintro e w3 ⟨rfl, hb3⟩)
  go_ret
  exact ⟨rfl, bt ((Below.refl _ _).alloc (Nat.le_refl _) _) hb3⟩

set_option maxRecDepth 100000 in
set_option maxHeartbeats 6400000 in
theorem refText_36 (t : Tree) (p : Option Addr) (cap : Nat) (w : World) (ht : t.text.size ≤ 4096) (hkd : t.kind = 36) :
    Calls Tryz.prog 70 #[nodeV t (.slice p t.kids.length cap)] w fun e w' => e = .returned (.bool (isNumB t.text)) ∧ Below w.heap.size w w' := by
  have hc := fun w2 => refDigits_any t.text ht w2
  obtain ⟨r, hr⟩ : ∃ r, isNumB t.text = r := ⟨_, rfl⟩
  rw [hr]
  simp only [hr] at hc
  clear hr ht
  simp only [nodeV, hkd]
  go_enter Tryz.func70, Tryz.ntmps70
  go_wp2_with (go_at_call 85; (with_reducible refine (hc _).mono ?_); rintro e w3 ⟨rfl, hb3⟩)
  go_ret
  exact ⟨rfl, bt ((Below.refl _ _).alloc (Nat.le_refl _) _) hb3⟩

set_option maxRecDepth 100000 in
set_option maxHeartbeats 6400000 in
theorem refText_37 (t : Tree) (p : Option Addr) (cap : Nat) (w : World) (ht : t.text.size ≤ 4096) (hkd : t.kind = 37) :
    Calls Tryz.prog 70 #[nodeV t (.slice p t.kids.length cap)] w fun e w' => e = .returned (.bool (intB t.text)) ∧ Below w.heap.size w w' := by
  have hc := fun w2 => refInteger_any t.text ht w2
  obtain ⟨r, hr⟩ : ∃ r, intB t.text = r := ⟨_, rfl⟩
  rw [hr]
  simp only [hr] at hc
  clear hr ht
  simp only [nodeV, hkd]
  go_enter Tryz.func70, Tryz.ntmps70
  go_wp2_with (go_at_call 86; (with_reducible refine (hc _).mono ?_); rintro e w3 ⟨rfl, hb3⟩)
  go_ret
  exact ⟨rfl, bt ((Below.refl _ _).alloc (Nat.le_refl _) _) hb3⟩

set_option maxRecDepth 100000 in
set_option maxHeartbeats 6400000 in
theorem refText_19 (t : Tree) (p : Option Addr) (cap : Nat) (w : World) (hkd : t.kind = 19) :
    Calls Tryz.prog 70 #[nodeV t (.slice p t.kids.length cap)] w fun e w' => e = .returned (.bool (hasB boundWs t.text)) ∧ Below w.heap.size w w' := by
  simp only [nodeV, hkd]
  by_cases h1 : t.text = ⟨#[60, 61]⟩
  · rw [h1, show hasB boundWs ⟨#[60, 61]⟩ = true from by decide]
    go_enter Tryz.func70, Tryz.ntmps70
    go_wp2_with fail
    go_ret
    exact ⟨rfl, (Below.refl _ _).alloc (Nat.le_refl _) _⟩
  by_cases h2 : t.text = ⟨#[62, 61]⟩
  · rw [h2, show hasB boundWs ⟨#[62, 61]⟩ = true from by decide]
    go_enter Tryz.func70, Tryz.ntmps70
    go_wp2_with fail
    go_ret
    exact ⟨rfl, (Below.refl _ _).alloc (Nat.le_refl _) _⟩
  · have e1 : (t.text.toList == [60, 61]) = false := by have := str_neq h1; rwa [show (⟨#[60, 61]⟩ : ByteArray).toList = [60, 61] by simp] at this
    have e2 : (t.text.toList == [62, 61]) = false := by have := str_neq h2; rwa [show (⟨#[62, 61]⟩ : ByteArray).toList = [62, 61] by simp] at this
    rw [show hasB boundWs t.text = false by
      unfold hasB boundWs
      rw [List.any_cons, List.any_cons, List.any_nil, decide_eq_false (fun e => h1 e.symm), decide_eq_false (fun e => h2 e.symm)]; rfl]
    clear h1 h2
    go_enter Tryz.func70, Tryz.ntmps70
    go_wp2_with fail
    go_ret
    exact ⟨rfl, (Below.refl _ _).alloc (Nat.le_refl _) _⟩

set_option maxRecDepth 100000 in
set_option maxHeartbeats 6400000 in
theorem refText_21 (t : Tree) (p : Option Addr) (cap : Nat) (w : World) (hkd : t.kind = 21) :
    Calls Tryz.prog 70 #[nodeV t (.slice p t.kids.length cap)] w fun e w' => e = .returned (.bool (hasB opT t.text)) ∧ Below w.heap.size w w' := by
  simp only [nodeV, hkd]
  by_cases h1 : t.text = ⟨#[43]⟩
  · rw [h1, show hasB opT ⟨#[43]⟩ = true from by decide]
    go_enter Tryz.func70, Tryz.ntmps70
    go_wp2_with fail
    go_ret
    exact ⟨rfl, (Below.refl _ _).alloc (Nat.le_refl _) _⟩
  by_cases h2 : t.text = ⟨#[45]⟩
  · rw [h2, show hasB opT ⟨#[45]⟩ = true from by decide]
    go_enter Tryz.func70, Tryz.ntmps70
    go_wp2_with fail
    go_ret
    exact ⟨rfl, (Below.refl _ _).alloc (Nat.le_refl _) _⟩
  · have e1 : (t.text.toList == [43]) = false := by have := str_neq h1; rwa [show (⟨#[43]⟩ : ByteArray).toList = [43] by simp] at this
    have e2 : (t.text.toList == [45]) = false := by have := str_neq h2; rwa [show (⟨#[45]⟩ : ByteArray).toList = [45] by simp] at this
    rw [show hasB opT t.text = false by
      unfold hasB opT
      rw [List.any_cons, List.any_cons, List.any_nil, decide_eq_false (fun e => h1 e.symm), decide_eq_false (fun e => h2 e.symm)]; rfl]
    clear h1 h2
    go_enter Tryz.func70, Tryz.ntmps70
    go_wp2_with fail
    go_ret
    exact ⟨rfl, (Below.refl _ _).alloc (Nat.le_refl _) _⟩

set_option maxRecDepth 100000 in
set_option maxHeartbeats 6400000 in
theorem refText_39 (t : Tree) (p : Option Addr) (cap : Nat) (w : World) (hkd : t.kind = 39) :
    Calls Tryz.prog 70 #[nodeV t (.slice p t.kids.length cap)] w fun e w' => e = .returned (.bool (hasB unT t.text)) ∧ Below w.heap.size w w' := by
  simp only [nodeV, hkd]
  by_cases h1 : t.text = ⟨#[45]⟩
  · rw [h1, show hasB unT ⟨#[45]⟩ = true from by decide]
    go_enter Tryz.func70, Tryz.ntmps70
    go_wp2_with fail
    go_ret
    exact ⟨rfl, (Below.refl _ _).alloc (Nat.le_refl _) _⟩
  by_cases h2 : t.text = ⟨#[110, 111, 116]⟩
  · rw [h2, show hasB unT ⟨#[110, 111, 116]⟩ = true from by decide]
    go_enter Tryz.func70, Tryz.ntmps70
    go_wp2_with fail
    go_ret
    exact ⟨rfl, (Below.refl _ _).alloc (Nat.le_refl _) _⟩
  · have e1 : (t.text.toList == [45]) = false := by have := str_neq h1; rwa [show (⟨#[45]⟩ : ByteArray).toList = [45] by simp] at this
    have e2 : (t.text.toList == [110, 111, 116]) = false := by have := str_neq h2; rwa [show (⟨#[110, 111, 116]⟩ : ByteArray).toList = [110, 111, 116] by simp] at this
    rw [show hasB unT t.text = false by
      unfold hasB unT
      rw [List.any_cons, List.any_cons, List.any_nil, decide_eq_false (fun e => h1 e.symm), decide_eq_false (fun e => h2 e.symm)]; rfl]
    clear h1 h2
    go_enter Tryz.func70, Tryz.ntmps70
    go_wp2_with fail
    go_ret
    exact ⟨rfl, (Below.refl _ _).alloc (Nat.le_refl _) _⟩

set_option maxRecDepth 100000 in
set_option maxHeartbeats 6400000 in
theorem refText_40 (t : Tree) (p : Option Addr) (cap : Nat) (w : World) (hkd : t.kind = 40) :
    Calls Tryz.prog 70 #[nodeV t (.slice p t.kids.length cap)] w fun e w' => e = .returned (.bool (hasB opsL t.text)) ∧ Below w.heap.size w w' := by
  have hB1 : Below w.heap.size w (w.alloc (.cells #[.int .i64 40, .string t.text, .int .i64 t.at_, .int .i64 t.end_, .slice p t.kids.length cap] 24)).drew := ((Below.refl _ _).alloc (Nat.le_refl _) _).drew
  have HN : NodeAt (w.alloc (.cells #[.int .i64 40, .string t.text, .int .i64 t.at_, .int .i64 t.end_, .slice p t.kids.length cap] 24)).drew w.heap.size 0 t (.slice p t.kids.length cap) := by constructor <;> simp [go_sem, hkd]
  simp only [nodeV, hkd]
  go_enter Tryz.func70, Tryz.ntmps70
  go_wp2_with fail
  refine region_spec (by kernel_rfl) [66, 67, 68, 69, 2] (fun i => (([.strs opsL, .is (.pointer (some ⟨w.heap.size, 1, none⟩)), .is (.string t.text), .is (.bool (hasB opsL t.text)), .is (.bool (hasB opsL t.text))] : List Ph).getD i .any).says) rfl (by decide) 75 rfl (by decide) (by kernel_rfl) (fun _ _ _ _ h hb => Ph.later h hb) ?_ ?_
  · intro i hi a w' hN hall
    have HN' := HN.stays hN.below
    have hi' : i < 5 := hi
    rcases (show i = 0 ∨ i = 1 ∨ i = 2 ∨ i = 3 ∨ i = 4 by omega) with rfl | rfl | rfl | rfl | rfl
    · exact do_operators rfl
    · exact do_fieldT (o := 0) rfl (wanted_free rfl) (hN.base 1 (by decide))
    · exact do_loadT rfl (wanted_free rfl) (hall 1 rfl) HN'.c1
    · exact do_has (by decide) (by decide) rfl (hall 0 rfl) (hall 2 rfl)
    · exact do_assign rfl (hall 3 rfl)
  · intro a w' hN hall
    have h4 : a.eval (.tmp 2) = (.bool (hasB opsL t.text)) := hall 4 (by decide)
    go_wp2_with fail
    exact bodyPost_ret (v := (.bool (hasB opsL t.text))) (by rw [← h4]; exact results_tmp rfl _ _ _) hN.defers ⟨rfl, bt hB1 hN.below⟩

set_option maxRecDepth 100000 in
set_option maxHeartbeats 6400000 in
theorem refText_38 (t : Tree) (p : Option Addr) (cap : Nat) (w : World) (hkd : t.kind = 38) :
    Calls Tryz.prog 70 #[nodeV t (.slice p t.kids.length cap)] w fun e w' => e = .returned (.bool (true)) ∧ Below w.heap.size w w' := by
  simp only [nodeV, hkd]
  go_enter Tryz.func70, Tryz.ntmps70
  go_wp2_with fail
  go_ret
  exact ⟨rfl, (Below.refl _ _).alloc (Nat.le_refl _) _⟩

set_option maxRecDepth 100000 in
set_option maxHeartbeats 6400000 in
theorem refText_none (t : Tree) (p : Option Addr) (cap : Nat) (w : World) (n3 : (t.kind == 3) = false) (n4 : (t.kind == 4) = false) (n5 : (t.kind == 5) = false) (n6 : (t.kind == 6) = false) (n7 : (t.kind == 7) = false) (n8 : (t.kind == 8) = false) (n9 : (t.kind == 9) = false) (n11 : (t.kind == 11) = false) (n13 : (t.kind == 13) = false) (n14 : (t.kind == 14) = false) (n15 : (t.kind == 15) = false) (n16 : (t.kind == 16) = false) (n22 : (t.kind == 22) = false) (n24 : (t.kind == 24) = false) (n35 : (t.kind == 35) = false) (n36 : (t.kind == 36) = false) (n37 : (t.kind == 37) = false) (n19 : (t.kind == 19) = false) (n21 : (t.kind == 21) = false) (n39 : (t.kind == 39) = false) (n40 : (t.kind == 40) = false) (n38 : (t.kind == 38) = false) :
    Calls Tryz.prog 70 #[nodeV t (.slice p t.kids.length cap)] w fun e w' => e = .returned (.bool (decide (t.text = ⟨#[]⟩))) ∧ Below w.heap.size w w' := by
  simp only [nodeV]
  by_cases h1 : t.text = ⟨#[]⟩
  · rw [h1, decide_eq_true rfl]
    go_enter Tryz.func70, Tryz.ntmps70
    go_wp2_with fail
    go_ret
    exact ⟨rfl, (Below.refl _ _).alloc (Nat.le_refl _) _⟩
  · have e0 : ¬ t.text.toList = [] := fun h => h1 (by
      rw [ByteArray.toList_eq] at h
      apply ByteArray.ext
      exact Array.toList_inj.1 h)
    have e1 : (t.text.toList == []) = false := by rw [beq_eq_false_iff_ne]; exact e0
    have e2 : t.text.toList.isEmpty = false := by rw [List.isEmpty_eq_false_iff]; exact e0
    rw [decide_eq_false h1]
    clear h1
    go_enter Tryz.func70, Tryz.ntmps70
    go_wp2_with fail
    go_ret
    exact ⟨rfl, (Below.refl _ _).alloc (Nat.le_refl _) _⟩

end Go.Proofs.YtlbaaiglebpjiaaGreatDoor
