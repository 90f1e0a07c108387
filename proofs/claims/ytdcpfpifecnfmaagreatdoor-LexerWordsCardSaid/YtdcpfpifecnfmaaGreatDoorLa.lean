import Derived.Test.YtdcpfpifecnfmaaGreatDoorTd
import Derived.Test.YtdcpfpifecnfmaaGreatDoorLm
namespace Go.Proofs.YtdcpfpifecnfmaaGreatDoor
open Go.RowKit Go.Shelf Go.Lib

theorem byte_eqI (c d : UInt8) : ((c.toNat : Int) == (d.toNat : Int)) = (c == d) := by
  by_cases h : c = d
  · subst h; simp
  · have := byte_ne h
    rw [this]; simp [h]

set_option maxHeartbeats 400000 in
theorem isSpace_any (c : UInt8) (w : World) : Calls Tryz.prog 43 #[.int .u8 c.toNat] w fun e w' => e = .returned (.bool (whiteB c)) ∧ w = w' := by
  have e1 : ((c.toNat : Int) == 9) = (c == 9) := byte_eqI c 9
  have e2 : ((c.toNat : Int) == 10) = (c == 10) := byte_eqI c 10
  have e3 : ((c.toNat : Int) == 13) = (c == 13) := byte_eqI c 13
  have e4 : ((c.toNat : Int) == 32) = (c == 32) := byte_eqI c 32
  unfold whiteB
  generalize (c == 9) = b1 at *
  generalize (c == 10) = b2 at *
  generalize (c == 13) = b3 at *
  generalize (c == 32) = b4 at *
  cases b1 <;> cases b2 <;> cases b3 <;> cases b4 <;> (go_enter Tryz.func43, Tryz.ntmps43; go_wp2; go_ret; exact ⟨rfl, rfl⟩)

set_option maxHeartbeats 400000 in
theorem isLetter_any (c : UInt8) (w : World) : Calls Tryz.prog 45 #[.int .u8 c.toNat] w fun e w' => e = .returned (.bool (letterB c)) ∧ w = w' := by
  unfold letterB
  by_cases h1 : 97 ≤ c.toNat
  · by_cases h2 : c.toNat ≤ 122
    · rw [decide_eq_true h1, decide_eq_true h2]
      have g1 : (97 : Int) ≤ (c.toNat : Int) := by omega
      have g2 : (c.toNat : Int) ≤ 122 := by omega
      clear h1 h2
      go_enter Tryz.func45, Tryz.ntmps45
      go_wp2
      go_ret
      exact ⟨rfl, rfl⟩
    · rw [decide_eq_true h1, decide_eq_false h2]
      have g1 : (97 : Int) ≤ (c.toNat : Int) := by omega
      have g2 : (122 : Int) < (c.toNat : Int) := by omega
      clear h1 h2
      go_enter Tryz.func45, Tryz.ntmps45
      go_wp2
      go_ret
      exact ⟨by show Ending.returned (.bool (decide ((c.toNat : Int) ≤ 122))) = _; rw [decide_eq_false (by omega)]; rfl, rfl⟩
  · rw [decide_eq_false h1]
    have g1 : (c.toNat : Int) < 97 := by omega
    clear h1
    go_enter Tryz.func45, Tryz.ntmps45
    go_wp2
    go_ret
    exact ⟨rfl, rfl⟩

set_option maxHeartbeats 400000 in
theorem isDigit_any (c : UInt8) (w : World) : Calls Tryz.prog 48 #[.int .u8 c.toNat] w fun e w' => e = .returned (.bool (digitB c)) ∧ w = w' := by
  unfold digitB
  by_cases h1 : 48 ≤ c.toNat
  · by_cases h2 : c.toNat ≤ 57
    · rw [decide_eq_true h1, decide_eq_true h2]
      have g1 : (48 : Int) ≤ (c.toNat : Int) := by omega
      have g2 : (c.toNat : Int) ≤ 57 := by omega
      clear h1 h2
      go_enter Tryz.func48, Tryz.ntmps48
      go_wp2
      go_ret
      exact ⟨rfl, rfl⟩
    · rw [decide_eq_true h1, decide_eq_false h2]
      have g1 : (48 : Int) ≤ (c.toNat : Int) := by omega
      have g2 : (57 : Int) < (c.toNat : Int) := by omega
      clear h1 h2
      go_enter Tryz.func48, Tryz.ntmps48
      go_wp2
      go_ret
      exact ⟨by show Ending.returned (.bool (decide ((c.toNat : Int) ≤ 57))) = _; rw [decide_eq_false (by omega)]; rfl, rfl⟩
  · rw [decide_eq_false h1]
    have g1 : (c.toNat : Int) < 48 := by omega
    clear h1
    go_enter Tryz.func48, Tryz.ntmps48
    go_wp2
    go_ret
    exact ⟨rfl, rfl⟩

set_option maxHeartbeats 400000 in
theorem isPart_any (c : UInt8) (w : World) : Calls Tryz.prog 47 #[.int .u8 c.toNat] w fun e w' => e = .returned (.bool (partB c)) ∧ w = w' := by
  have hl := fun w' => isLetter_any c w'
  have hd := fun w' => isDigit_any c w'
  have e1 : ((c.toNat : Int) == 95) = (c == 95) := byte_eqI c 95
  unfold partB
  generalize (c == 95) = b3 at *
  generalize letterB c = b1 at *
  generalize digitB c = b2 at *
  cases b1 <;> cases b2 <;> cases b3 <;> (go_enter Tryz.func47, Tryz.ntmps47; go_wp2_with (first | (go_at_call 45; (with_reducible refine (hl _).mono ?_); rintro e w1 ⟨rfl, rfl⟩) | (go_at_call 48; (with_reducible refine (hd _).mono ?_); rintro e w1 ⟨rfl, rfl⟩)); go_ret; exact ⟨rfl, rfl⟩)

theorem bt {w a b : World} (h : Below w.heap.size w a) (h2 : Below a.heap.size a b) : Below w.heap.size w b := h.trans (h2.mono h.size)
theorem bq (w : World) (q : Nat) : Below w.heap.size w (w.drewN q) := Go.below_drewN (Below.refl _ _) q

/-- The end of the line of an offset. -/
def lineEndN (l : List UInt8) (k : Nat) : Nat := endN (feedsOf l) l.length (lineN (feedsOf l) (k : Int))

theorem lineEnd_facts (l : List UInt8) (k : Nat) (h : k ≤ l.length) : k ≤ lineEndN l k ∧ lineEndN l k ≤ l.length ∧ (∀ i, k ≤ i → i < lineEndN l k → l.getD i 0 ≠ 10) ∧ (lineEndN l k = l.length ∨ l.getD (lineEndN l k) 0 = 10) := by
  have h1 := lineN_ge (feedsOf l) k
  have h2 := lineN_le (feedsOf l) k
  have h3 := startN_le l l.length k h
  have h4 := endN_ge l k h
  obtain ⟨m, hm⟩ : ∃ m, lineN (feedsOf l) (k : Int) = m + 1 := ⟨lineN (feedsOf l) k - 1, by omega⟩
  unfold lineEndN
  rw [hm] at h3 h4 ⊢
  refine ⟨h4, end_le_len l _, fun i hi hi2 => line_plain l m i (by omega) (by omega) hi2, ?_⟩
  by_cases hh : m < (feedsOf l).length
  · exact Or.inr ((line_end l m).1 hh).2
  · exact Or.inl ((line_end l m).2 (by omega))

theorem bytes_len (s : ByteArray) : s.data.toList.length = s.size := by simp

abbrev scanV (s : ByteArray) (b : Nat) : Value := .agg #[.string s, .pointer (some ⟨b, 0, none⟩)]

set_option maxHeartbeats 800000 in
theorem lineEnd_any {w : World} {b : Nat} {s : ByteArray} (h : Idx w b s (feedsOf s.data.toList)) (k : Nat) (hk : k ≤ s.size) :
    Calls Tryz.prog 44 #[scanV s b, .int .i64 k] w fun e w' => e = .returned (.int .i64 (lineEndN s.data.toList k : Nat)) ∧ Below w.heap.size w w' := by
  have hsm := h.small
  have hlen := h.len
  have hB0 : Below w.heap.size w (w.alloc (.cells #[.string s, .pointer (some ⟨b, 0, none⟩)] 40)) := (Below.refl _ _).alloc (Nat.le_refl _) _
  have hp := position_any (h.below hB0) k
  have hbl := bytes_len s
  have h1 := lineN_ge (feedsOf s.data.toList) k
  have h2 := lineN_le (feedsOf s.data.toList) k
  have hpos : (posN (feedsOf s.data.toList) s.size k).1 = (lineN (feedsOf s.data.toList) k : Nat) := by unfold posN; rw [if_neg (by omega)]
  rw [hpos] at hp
  have ho := fun w' hb => offset_any ((h.below hB0).below (w' := w') hb) ((lineN (feedsOf s.data.toList) k : Nat) + 1) 1 (by omega) (by omega)
  by_cases hl : lineN (feedsOf s.data.toList) k ≤ (feedsOf s.data.toList).length
  · have hoff : offN (feedsOf s.data.toList) s.size ((lineN (feedsOf s.data.toList) k : Nat) + 1) 1 = (((lineEndN s.data.toList k : Nat) : Int) + 1, true) := by
      have hse := start_le_end (feedsOf_sorted s.data.toList) (feedsOf_lt s.data.toList) (lineN (feedsOf s.data.toList) k + 1) (by omega) (by omega)
      have hst : startN (feedsOf s.data.toList) s.size (lineN (feedsOf s.data.toList) k + 1) = lineEndN s.data.toList k + 1 := by unfold startN lineEndN; rw [if_neg (by omega), hbl]; rfl
      rw [hbl, hst] at hse
      unfold offN
      rw [show (((lineN (feedsOf s.data.toList) (k : Int) : Nat) : Int) + 1).toNat = lineN (feedsOf s.data.toList) k + 1 by omega, hst, if_pos ⟨⟨by omega, by omega⟩, by omega, by omega⟩]
      congr 1; omega
    rw [hoff] at ho
    have hle := (lineEnd_facts s.data.toList k (by omega)).2.1
    rw [hbl] at hle
    clear hoff hpos hbl hl h
    generalize lineEndN s.data.toList k = en at *
    generalize (posN (feedsOf s.data.toList) s.size k).2 = col at *
    generalize lineN (feedsOf s.data.toList) k = ln at *
    go_enter Tryz.func44, Tryz.ntmps44
    go_wp2_with (first
      | (go_at_call 66; (with_reducible refine hp.mono ?_); rintro e w1 ⟨rfl, hB1⟩; have c1 := (hB1.cell (p := ⟨w.heap.size, 1, none⟩) (by simp)); simp at c1)
      | (go_at_call 67; (with_reducible refine (ho _ hB1).mono ?_); rintro e w2 ⟨rfl, rfl⟩))
    go_ret
    exact ⟨by simp, bt hB0 hB1⟩
  · have hoff : offN (feedsOf s.data.toList) s.size ((lineN (feedsOf s.data.toList) k : Nat) + 1) 1 = (0, false) := by unfold offN; rw [if_neg (by intro hx; omega)]
    have hle : lineEndN s.data.toList k = s.size := by
      obtain ⟨m, hm⟩ : ∃ m, lineN (feedsOf s.data.toList) (k : Int) = m + 1 := ⟨lineN (feedsOf s.data.toList) k - 1, by omega⟩
      unfold lineEndN; rw [hm]
      have := (line_end s.data.toList m).2 (by omega)
      rw [this, hbl]
    rw [hoff] at ho
    rw [hle]
    clear hoff hpos hbl hl h hle
    generalize (posN (feedsOf s.data.toList) s.size k).2 = col at *
    generalize lineN (feedsOf s.data.toList) k = ln at *
    go_enter Tryz.func44, Tryz.ntmps44
    go_wp2_with (first
      | (go_at_call 66; (with_reducible refine hp.mono ?_); rintro e w1 ⟨rfl, hB1⟩; have c1 := (hB1.cell (p := ⟨w.heap.size, 1, none⟩) (by simp)); have c0 := (hB1.cell (p := ⟨w.heap.size, 0, none⟩) (by simp)); simp at c1 c0)
      | (go_at_call 67; (with_reducible refine (ho _ hB1).mono ?_); rintro e w2 ⟨rfl, rfl⟩))
    go_ret
    exact ⟨rfl, bt hB0 hB1⟩

end Go.Proofs.YtdcpfpifecnfmaaGreatDoor
