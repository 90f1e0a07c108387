/-
  The reference: Count, Levels.
-/
import Derived.Test.YtlbaaiglebpjiaaGreatDoorYt
namespace Go.Proofs.YtlbaaiglebpjiaaGreatDoor
open Go.RowKit Go.Shelf Go.Lib

set_option maxRecDepth 100000 in
set_option maxHeartbeats 6400000 in
theorem refCount_any (t : Tree) : ∀ (kv : Value) (w : World), KidsV w kv t.kids → t.count ≤ 4194304 →
    Calls Tryz.prog 24 #[nodeV t kv] w fun e w' => e = .returned (.int .i64 t.count) ∧ Below w.heap.size w w' := by
  refine Tree.induct (P := fun t => ∀ (kv : Value) (w : World), KidsV w kv t.kids → t.count ≤ 4194304 →
    Calls Tryz.prog 24 #[nodeV t kv] w fun e w' => e = .returned (.int .i64 t.count) ∧ Below w.heap.size w w') (fun t ih => ?_) t
  intro kv w hk hct
  obtain ⟨p, cap, g, o, rfl, hpp, hat⟩ := hk.open
  have HAT := hidden hat
  have HPP := hidden hpp
  have HC := hidden (Tree.count_eq t)
  have HCT := hidden hct
  have hlb : t.kids.length < 4194304 := by have := Tree.length_le_countL t.kids; have := Tree.count_eq t; omega
  clear hk hat hpp hct
  simp only [nodeV]
  generalize t.count = tc at *
  go_enter Tryz.func24, Tryz.ntmps24
  go_wp2_with fail
  obtain ⟨w1, hw1⟩ : ∃ w1, w1 = w.alloc (.cells #[.int .i64 t.kind, .string t.text, .int .i64 t.at_, .int .i64 t.end_, .slice p t.kids.length cap] 24) := ⟨_, rfl⟩
  have hB1 : Below w.heap.size w w1 := by rw [hw1]; exact (Below.refl _ _).alloc (Nat.le_refl _) _
  have hb4 : w1.cell? ⟨w.heap.size, 4, none⟩ = some (.slice p t.kids.length cap) := by rw [hw1]; simp [go_sem]
  have hlt1 : w.heap.size < w1.heap.size := by rw [hw1]; simp
  rw [← hw1]
  clear hw1
  go_loopw [3, 4] (fun sv i wr => ∃ k s : Nat, k ≤ t.kids.length ∧ i = .int .i64 k ∧ sv = .int .i64 s ∧ Hid (s = 1 + Tree.countL (t.kids.take k) ∧ Below w1.heap.size w1 wr)) (fun _ i _ => t.kids.length - (intOf i).toNat)
  case atStart => exact ⟨0, 1, Nat.zero_le _, rfl, rfl, by rw [List.take_zero, Tree.countL_nil], Below.refl _ _⟩
  case round =>
    obtain ⟨k, s, hk, rfl, rfl, hh⟩ := hrel
    obtain ⟨hs1, hB⟩ := hh.out
    clear hh
    have hBw := bt hB1 hB
    have hb4' := (hB.cell (p := ⟨w.heap.size, 4, none⟩) hlt1).trans hb4
    by_cases hlt : k < t.kids.length
    · obtain ⟨x, hx⟩ : ∃ x, t.kids[k]? = some x := ⟨_, List.getElem?_eq_getElem hlt⟩
      obtain ⟨rfl, hg⟩ := HPP.out (fun h => by rw [h] at hlt; exact absurd hlt (Nat.not_lt_zero _))
      obtain ⟨kv', hn, hkv⟩ := HAT.out k x hx
      obtain ⟨p2, cap2, _, _, rfl, _, _⟩ := hkv.open
      obtain ⟨c0, c1, c2, c3, c4⟩ := hn.of_block (hBw.block g hg)
      have hltz : (k : Int) < (t.kids.length : Int) := by omega
      have hcx : x.count ≤ 4194304 := by have := Tree.count_kid hx; have := HC.out; have := HCT.out; omega
      have hrec := ih x (List.mem_of_getElem? hx) _ wr (hkv.later hBw) hcx
      simp only [nodeV] at hrec
      have HT := hidden (Tree.countL_take hx)
      have HS := hidden hs1
      have hsb : s ≤ 4194304 := by have := Tree.countL_take_le t.kids k; have := HC.out; have := HCT.out; omega
      have HB := hidden hB
      generalize x.count = xc at *
      clear hs1 hn hkv hx ih hb4 hBw hB
      go_wp2_with (go_at_call 24; (with_reducible refine hrec.mono ?_); rintro e w3 ⟨rfl, hh3⟩)
      go_roundw
      case rel => exact ⟨k + 1, s + xc, by omega, by go_num, by go_num, by have := HT.out; have := HS.out; omega, bt HB.out hh3⟩
      case measure => simp [intOf]; omega
    · obtain rfl : k = t.kids.length := by omega
      rw [List.take_length] at hs1
      have HF : Hid (s = tc ∧ Below w.heap.size w wr) := ⟨by have := HC.out; omega, hBw⟩
      clear hs1 hB hBw
      go_wp2_with fail
      go_ret
      exact ⟨by rw [HF.out.1]; rfl, HF.out.2⟩

set_option maxRecDepth 100000 in
set_option maxHeartbeats 6400000 in
theorem refLevels_any (t : Tree) : ∀ (kv : Value) (w : World), KidsV w kv t.kids → t.count ≤ 4194304 →
    Calls Tryz.prog 26 #[nodeV t kv] w fun e w' => e = .returned (.int .i64 t.levels) ∧ Below w.heap.size w w' := by
  refine Tree.induct (P := fun t => ∀ (kv : Value) (w : World), KidsV w kv t.kids → t.count ≤ 4194304 →
    Calls Tryz.prog 26 #[nodeV t kv] w fun e w' => e = .returned (.int .i64 t.levels) ∧ Below w.heap.size w w') (fun t ih => ?_) t
  intro kv w hk hct
  obtain ⟨p, cap, g, o, rfl, hpp, hat⟩ := hk.open
  have HAT := hidden hat
  have HPP := hidden hpp
  have HC := hidden (Tree.count_eq t)
  have HE := hidden (Tree.levels_eq t)
  have HCT := hidden hct
  have hlv : Tree.levelsL t.kids < 4194304 := by have := Tree.levels_eq t; have := Tree.levels_le_count t; omega
  have HLV := hidden hlv
  have hlb : t.kids.length < 4194304 := by have := Tree.length_le_countL t.kids; have := Tree.count_eq t; omega
  clear hk hat hpp hct hlv
  simp only [nodeV]
  generalize t.levels = lv at *
  go_enter Tryz.func26, Tryz.ntmps26
  go_wp2_with fail
  obtain ⟨w1, hw1⟩ : ∃ w1, w1 = w.alloc (.cells #[.int .i64 t.kind, .string t.text, .int .i64 t.at_, .int .i64 t.end_, .slice p t.kids.length cap] 24) := ⟨_, rfl⟩
  have hB1 : Below w.heap.size w w1 := by rw [hw1]; exact (Below.refl _ _).alloc (Nat.le_refl _) _
  have hb4 : w1.cell? ⟨w.heap.size, 4, none⟩ = some (.slice p t.kids.length cap) := by rw [hw1]; simp [go_sem]
  have hlt1 : w.heap.size < w1.heap.size := by rw [hw1]; simp
  rw [← hw1]
  clear hw1
  go_loopw [3, 4] (fun sv i wr => ∃ k s : Nat, k ≤ t.kids.length ∧ i = .int .i64 k ∧ sv = .int .i64 s ∧ Hid (s = Tree.levelsL (t.kids.take k) ∧ Below w1.heap.size w1 wr)) (fun _ i _ => t.kids.length - (intOf i).toNat)
  case atStart => exact ⟨0, 0, Nat.zero_le _, rfl, rfl, by rw [List.take_zero, Tree.levelsL], Below.refl _ _⟩
  case round =>
    obtain ⟨k, s, hk, rfl, rfl, hh⟩ := hrel
    obtain ⟨hs1, hB⟩ := hh.out
    clear hh
    have hBw := bt hB1 hB
    have hb4' := (hB.cell (p := ⟨w.heap.size, 4, none⟩) hlt1).trans hb4
    by_cases hlt : k < t.kids.length
    · obtain ⟨x, hx⟩ : ∃ x, t.kids[k]? = some x := ⟨_, List.getElem?_eq_getElem hlt⟩
      obtain ⟨rfl, hg⟩ := HPP.out (fun h => by rw [h] at hlt; exact absurd hlt (Nat.not_lt_zero _))
      obtain ⟨kv', hn, hkv⟩ := HAT.out k x hx
      obtain ⟨p2, cap2, _, _, rfl, _, _⟩ := hkv.open
      obtain ⟨c0, c1, c2, c3, c4⟩ := hn.of_block (hBw.block g hg)
      have hltz : (k : Int) < (t.kids.length : Int) := by omega
      have hcx : x.count ≤ 4194304 := by have := Tree.count_kid hx; have := HC.out; have := HCT.out; omega
      have hrec := ih x (List.mem_of_getElem? hx) _ wr (hkv.later hBw) hcx
      simp only [nodeV] at hrec
      have HM : Hid (max s x.levels = Tree.levelsL (t.kids.take (k + 1))) := by show _ = _; rw [Tree.levelsL_take hx, hs1]
      have HMI : Hid (((max s x.levels : Nat) : Int) = max (s : Int) (x.levels : Int)) := by show _ = _; omega
      have HB := hidden hB
      generalize x.levels = xl at *
      clear hs1 hn hkv hx ih hb4 hBw hB
      go_wp2_with (go_at_call 26; (with_reducible refine hrec.mono ?_); rintro e w3 ⟨rfl, hh3⟩)
      go_roundw
      case rel => exact ⟨k + 1, max s xl, by omega, by go_num, by rw [HMI.out], HM.out, bt HB.out hh3⟩
      case measure => simp [intOf]; omega
    · obtain rfl : k = t.kids.length := by omega
      rw [List.take_length] at hs1
      have hsb : s < 4194304 := by have := HLV.out; omega
      have HF : Hid (s + 1 = lv ∧ Below w.heap.size w wr) := ⟨by have := HE.out; omega, hBw⟩
      clear hs1 hB hBw
      go_wp2_with fail
      go_ret
      exact ⟨by rw [← HF.out.1]; go_num, HF.out.2⟩

end Go.Proofs.YtlbaaiglebpjiaaGreatDoor
