import Derived.Test.YtlbaaiglebpjiaaGreatDoorJe
/-
  The reference: size, short, Small.
-/

namespace Go.Proofs.YtlbaaiglebpjiaaGreatDoor
open Go.RowKit Go.Shelf Go.Lib

def textB (t : Tree) : Bool := decide (t.text.size ≤ 40)
/-- All texts are short. -/
def shortB (t : Tree) : Bool := t.nodes.all textB

set_option maxRecDepth 100000 in
set_option maxHeartbeats 6400000 in
theorem refSize_any (m : Nat) (hm : m ≤ 1000) (t : Tree) : ∀ (kv : Value) (w : World), KidsV w kv t.kids → t.count ≤ 4194304 →
    Calls Tryz.prog 46 #[nodeV t kv, .int .i64 m] w fun e w' => ∃ s : Nat, e = .returned (.int .i64 s) ∧ Hid (s ≤ t.count ∧ (s ≤ m → s = t.count) ∧ Below w.heap.size w w') := by
  refine Tree.induct (P := fun t => ∀ (kv : Value) (w : World), KidsV w kv t.kids → t.count ≤ 4194304 →
    Calls Tryz.prog 46 #[nodeV t kv, .int .i64 m] w fun e w' => ∃ s : Nat, e = .returned (.int .i64 s) ∧ Hid (s ≤ t.count ∧ (s ≤ m → s = t.count) ∧ Below w.heap.size w w')) (fun t ih => ?_) t
  intro kv w hk hct
  obtain ⟨p, cap, g, o, rfl, hpp, hat⟩ := hk.open
  have HAT := hidden hat
  have HPP := hidden hpp
  have HC := hidden (Tree.count_eq t)
  have HCT := hidden hct
  have hlb : t.kids.length < 4194304 := by have := Tree.length_le_countL t.kids; have := Tree.count_eq t; omega
  clear hk hat hpp hct
  simp only [nodeV]
  go_enter Tryz.func46, Tryz.ntmps46
  go_wp2_with fail
  obtain ⟨w1, hw1⟩ : ∃ w1, w1 = w.alloc (.cells #[.int .i64 t.kind, .string t.text, .int .i64 t.at_, .int .i64 t.end_, .slice p t.kids.length cap] 24) := ⟨_, rfl⟩
  have hB1 : Below w.heap.size w w1 := by rw [hw1]; exact (Below.refl _ _).alloc (Nat.le_refl _) _
  have hb4 : w1.cell? ⟨w.heap.size, 4, none⟩ = some (.slice p t.kids.length cap) := by rw [hw1]; simp [go_sem]
  have hlt1 : w.heap.size < w1.heap.size := by rw [hw1]; simp
  rw [← hw1]
  clear hw1
  go_loopw [5, 6] (fun sv i wr => ∃ k s : Nat, k ≤ t.kids.length ∧ i = .int .i64 k ∧ sv = .int .i64 s ∧ Hid (s ≤ 1 + Tree.countL (t.kids.take k) ∧ (s ≤ m → s = 1 + Tree.countL (t.kids.take k)) ∧ Below w1.heap.size w1 wr)) (fun _ i _ => t.kids.length - (intOf i).toNat)
  case atStart => exact ⟨0, 1, Nat.zero_le _, rfl, rfl, by rw [List.take_zero, Tree.countL_nil]; exact ⟨Nat.le_refl _, fun _ => rfl, Below.refl _ _⟩⟩
  case round =>
    obtain ⟨k, s, hk, rfl, rfl, hh⟩ := hrel
    obtain ⟨hs1, hs2, hB⟩ := hh.out
    clear hh
    have hBw := bt hB1 hB
    have hb4' := (hB.cell (p := ⟨w.heap.size, 4, none⟩) hlt1).trans hb4
    by_cases hlt : k < t.kids.length
    · by_cases hsm : s ≤ m
      · obtain ⟨x, hx⟩ : ∃ x, t.kids[k]? = some x := ⟨_, List.getElem?_eq_getElem hlt⟩
        obtain ⟨rfl, hg⟩ := HPP.out (fun h => by rw [h] at hlt; exact absurd hlt (Nat.not_lt_zero _))
        obtain ⟨kv', hn, hkv⟩ := HAT.out k x hx
        obtain ⟨p2, cap2, _, _, rfl, _, _⟩ := hkv.open
        obtain ⟨c0, c1, c2, c3, c4⟩ := hn.of_block (hBw.block g hg)
        have hltz : (k : Int) < (t.kids.length : Int) := by omega
        have hsz : (s : Int) ≤ (m : Int) := by omega
        have hcx : x.count ≤ 4194304 := by have := Tree.count_kid hx; have := HC.out; have := HCT.out; omega
        have hrec := ih x (List.mem_of_getElem? hx) _ wr (hkv.later hBw) hcx
        simp only [nodeV] at hrec
        have HT := hidden (Tree.countL_take hx)
        have HS := hidden (hs2 hsm)
        have hsb : s ≤ 4194304 := by omega
        have HB := hidden hB
        have HCX := hidden hcx
        clear hs1 hs2 hn hkv hx ih hb4 hcx hBw hB
        go_wp2_with (go_at_call 46; (with_reducible refine hrec.mono ?_); rintro e w3 ⟨s', rfl, hh3⟩; have hs3 : s' ≤ 4194304 := (by have := hh3.out.1; have := HCX.out; omega))
        go_roundw
        case rel => exact ⟨k + 1, s + s', by omega, by go_num, by go_num, by have := hh3.out.1; have := HT.out; have := HS.out; omega, fun h => by have := hh3.out.2.1 (by omega); have := HT.out; have := HS.out; omega, bt HB.out hh3.out.2.2⟩
        case measure => simp [intOf]; omega
      · have hltz : (k : Int) < (t.kids.length : Int) := by omega
        have hsz : ¬ ((s : Int) ≤ (m : Int)) := by omega
        have HF : Hid (s ≤ t.count ∧ (s ≤ m → s = t.count) ∧ Below w.heap.size w wr) := ⟨by have := HC.out; have := Tree.countL_take_le t.kids k; omega, fun h => absurd h hsm, hBw⟩
        clear hs1 hs2 hB hBw hsm
        go_wp2_with fail
        go_ret
        exact ⟨s, rfl, HF⟩
    · obtain rfl : k = t.kids.length := by omega
      rw [List.take_length] at hs1 hs2
      have HF : Hid (s ≤ t.count ∧ (s ≤ m → s = t.count) ∧ Below w.heap.size w wr) := ⟨by have := HC.out; omega, fun h => by have := HC.out; have := hs2 h; omega, hBw⟩
      clear hs1 hs2 hB hBw
      go_wp2_with fail
      go_ret
      exact ⟨s, rfl, HF⟩

set_option maxRecDepth 100000 in
set_option maxHeartbeats 6400000 in
theorem refShort_any (t : Tree) : ∀ (kv : Value) (w : World), KidsV w kv t.kids → t.count ≤ 4194304 →
    Calls Tryz.prog 47 #[nodeV t kv] w fun e w' => e = .returned (.bool (shortB t)) ∧ Below w.heap.size w w' := by
  refine Tree.induct (P := fun t => ∀ (kv : Value) (w : World), KidsV w kv t.kids → t.count ≤ 4194304 →
    Calls Tryz.prog 47 #[nodeV t kv] w fun e w' => e = .returned (.bool (shortB t)) ∧ Below w.heap.size w w') (fun t ih => ?_) t
  intro kv w hk hct
  obtain ⟨p, cap, g, o, rfl, hpp, hat⟩ := hk.open
  have HAT := hidden hat
  have HPP := hidden hpp
  have HC := hidden (Tree.count_eq t)
  have HCT := hidden hct
  have hlb : t.kids.length < 4194304 := by have := Tree.length_le_countL t.kids; have := Tree.count_eq t; omega
  clear hk hat hpp hct
  have hsh : shortB t = (textB t && (Tree.nodesL t.kids).all textB) := by unfold shortB; rw [Tree.nodes_eq, List.all_cons]
  simp only [nodeV]
  have hal : ∀ o, Below w.heap.size w (w.alloc o) := fun o => (Below.refl _ _).alloc (Nat.le_refl _) _
  by_cases h40 : t.text.size ≤ 40
  · have d0 : ¬ ((40 : Int) < (t.text.size : Int)) := by omega
    rw [hsh, show textB t = true from decide_eq_true h40, Bool.true_and]
    obtain ⟨r, hr⟩ : ∃ r, (Tree.nodesL t.kids).all textB = r := ⟨_, rfl⟩
    rw [hr]
    have HR := hidden hr
    clear hr hsh h40
    go_enter Tryz.func47, Tryz.ntmps47
    go_wp2_with fail
    obtain ⟨w1, hw1⟩ : ∃ w1, w1 = w.alloc (.cells #[.int .i64 t.kind, .string t.text, .int .i64 t.at_, .int .i64 t.end_, .slice p t.kids.length cap] 24) := ⟨_, rfl⟩
    have hB1 : Below w.heap.size w w1 := by rw [hw1]; exact hal _
    have hb4 : w1.cell? ⟨w.heap.size, 4, none⟩ = some (.slice p t.kids.length cap) := by rw [hw1]; simp [go_sem]
    have hlt1 : w.heap.size < w1.heap.size := by rw [hw1]; simp
    rw [← hw1]
    clear hw1 d0 hal
    go_loopw [3] (fun i wr => ∃ k : Nat, k ≤ t.kids.length ∧ i = .int .i64 k ∧ Hid ((Tree.nodesL (t.kids.drop k)).all textB = r ∧ Below w1.heap.size w1 wr)) (fun i _ => t.kids.length - (intOf i).toNat)
    case atStart => exact ⟨0, Nat.zero_le _, rfl, by rw [List.drop_zero]; exact HR.out, Below.refl _ _⟩
    case round =>
      obtain ⟨k, hk, rfl, hh⟩ := hrel
      obtain ⟨hall, hB⟩ := hh.out
      clear hh
      have hBw := bt hB1 hB
      have hb4' := (hB.cell (p := ⟨w.heap.size, 4, none⟩) hlt1).trans hb4
      by_cases hlt : k < t.kids.length
      · obtain ⟨x, hx⟩ : ∃ x, t.kids[k]? = some x := ⟨_, List.getElem?_eq_getElem hlt⟩
        obtain ⟨rfl, hg⟩ := HPP.out (fun h => by rw [h] at hlt; exact absurd hlt (Nat.not_lt_zero _))
        obtain ⟨kv', hn, hkv⟩ := HAT.out k x hx
        obtain ⟨p2, cap2, _, _, rfl, _, _⟩ := hkv.open
        obtain ⟨c0, c1, c2, c3, c4⟩ := hn.of_block (hBw.block g hg)
        have hltz : (k : Int) < (t.kids.length : Int) := by omega
        have hrec := ih x (List.mem_of_getElem? hx) _ wr (hkv.later hBw) (by have := Tree.count_kid hx; have := HC.out; have := HCT.out; omega)
        simp only [nodeV] at hrec
        rw [drop_step hx, Tree.nodesL, List.all_append] at hall
        obtain ⟨b, hb⟩ : ∃ b, shortB x = b := ⟨_, rfl⟩
        rw [show x.nodes.all textB = b from hb] at hall
        rw [hb] at hrec
        have HALL := hidden hall
        have HB := hidden hB
        have HBW := hidden hBw
        clear hn hkv hx ih hb4 hBw hB hall hb
        cases b with
        | false =>
          go_wp2_with (go_at_call 47; (with_reducible refine hrec.mono ?_); rintro e w3 ⟨rfl, hb3⟩)
          go_ret
          exact ⟨by have h := HALL.out; rw [Bool.false_and] at h; rw [← h]; rfl, bt HBW.out hb3⟩
        | true =>
          go_wp2_with (go_at_call 47; (with_reducible refine hrec.mono ?_); rintro e w3 ⟨rfl, hb3⟩)
          go_roundw
          case rel => exact ⟨k + 1, by omega, by go_num, by have h := HALL.out; rw [Bool.true_and] at h; exact h, bt HB.out hb3⟩
          case measure => simp [intOf]; omega
      · obtain rfl : k = t.kids.length := by omega
        rw [List.drop_length, Tree.nodesL] at hall
        have HALL := hidden hall
        have HBW := hidden hBw
        clear hall hB hBw
        go_wp2_with fail
        go_ret
        exact ⟨by rw [← HALL.out]; rfl, HBW.out⟩
  · have d0 : (40 : Int) < (t.text.size : Int) := by omega
    rw [hsh, show textB t = false from decide_eq_false h40, Bool.false_and]
    clear hsh h40
    go_enter Tryz.func47, Tryz.ntmps47
    go_wp2_with fail
    go_ret
    exact ⟨rfl, hal _⟩

end Go.Proofs.YtlbaaiglebpjiaaGreatDoor
/-
  The reference: Small.
-/

namespace Go.Proofs.YtlbaaiglebpjiaaGreatDoor
open Go.RowKit Go.Shelf Go.Lib

def smallB (m : Nat) (t : Tree) : Bool := decide (t.count ≤ m) && shortB t

set_option maxRecDepth 100000 in
set_option maxHeartbeats 3200000 in
theorem refSmall_any (m : Nat) (hm : m ≤ 1000) (t : Tree) (kv : Value) (w : World) (hk : KidsV w kv t.kids) (hct : t.count ≤ 4194304) :
    Calls Tryz.prog 12 #[nodeV t kv, .int .i64 m] w fun e w' => e = .returned (.bool (smallB m t)) ∧ Below w.heap.size w w' := by
  have hsz := fun W (hb : Below w.heap.size w W) => refSize_any m hm t kv W (hk.later hb) hct
  have hsh := fun W (hb : Below w.heap.size w W) => refShort_any t kv W (hk.later hb) hct
  obtain ⟨p, cap, g, o, rfl, _, _⟩ := hk.open
  simp only [nodeV] at hsz hsh ⊢
  clear hk
  obtain ⟨b, hb⟩ : ∃ b, shortB t = b := ⟨_, rfl⟩
  unfold smallB
  rw [hb] at hsh ⊢
  clear hb
  obtain ⟨w1, hw1⟩ : ∃ w1, w1 = w.alloc (.cells #[.int .i64 t.kind, .string t.text, .int .i64 t.at_, .int .i64 t.end_, .slice p t.kids.length cap] 24) := ⟨_, rfl⟩
  have hB1 : Below w.heap.size w w1 := by rw [hw1]; exact (Below.refl _ _).alloc (Nat.le_refl _) _
  have hbx : NodeOwn w1 w.heap.size t (.slice p t.kids.length cap) := by
    refine ⟨⟨by simp [hw1, go_sem], by simp [hw1, go_sem], by simp [hw1, go_sem], by simp [hw1, go_sem], by simp [hw1, go_sem]⟩, fun j hj => ?_⟩
    simp [hw1, go_sem]
  have HW1 := hidden hw1
  clear hw1
  go_enter Tryz.func12, Tryz.ntmps12
  go_wp2_with fail
  rw [← HW1.out]
  (with_reducible refine (hsz _ hB1).mono ?_)
  rintro e w2 ⟨s, rfl, hh⟩
  have hB2 := hh.out.2.2
  obtain ⟨c0, c1, c2, c3, c4⟩ := (hbx.of_block (hB2.block _ (World.block_lt_of_cell? w1 _ hbx.1.c0))).1
  simp only [Nat.zero_add] at c1 c2 c3 c4
  by_cases hsm : s ≤ m
  · have hd : ¬ ((m : Int) < (s : Int)) := by omega
    have hcm : t.count ≤ m := by have := hh.out.2.1 hsm; omega
    have hs2 := hsh w2 (bt hB1 hB2)
    have Hcm := hidden hcm
    have HB := hidden (bt hB1 hB2)
    clear hsz hsh hh hB2 hB1 hbx hcm hsm
    go_wp2_with fail
    (with_reducible refine hs2.mono ?_)
    rintro e w3 ⟨rfl, hb3⟩
    have HB3 := hidden (bt HB.out hb3)
    clear hs2 hb3
    go_wp2_with fail
    go_ret
    exact ⟨by rw [decide_eq_true Hcm.out, Bool.true_and]; rfl, HB3.out⟩
  · have hd : ((m : Int) < (s : Int)) := by omega
    have hcm : ¬ t.count ≤ m := by have := hh.out.1; omega
    have Hcm := hidden hcm
    have HB := hidden (bt hB1 hB2)
    clear hsz hsh hh hB2 hB1 hbx hcm hsm
    go_wp2_with fail
    go_ret
    exact ⟨by rw [decide_eq_false Hcm.out, Bool.false_and]; rfl, HB.out⟩

end Go.Proofs.YtlbaaiglebpjiaaGreatDoor
