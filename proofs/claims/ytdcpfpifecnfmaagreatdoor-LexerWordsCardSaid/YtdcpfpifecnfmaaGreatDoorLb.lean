import Derived.Test.YtdcpfpifecnfmaaGreatDoorLa
namespace Go.Proofs.YtdcpfpifecnfmaaGreatDoor
open Go.RowKit Go.Shelf Go.Lib

def skipTo (l : List UInt8) (k : Nat) : Nat := k + skipF false (l.drop k)
theorem skipTo_le (l : List UInt8) (k : Nat) (h : k ≤ l.length) : skipTo l k ≤ l.length := by
  unfold skipTo; have := skipF_le false (l.drop k); rw [List.length_drop] at this; omega
theorem drop_get (l : List UInt8) (k : Nat) (h : k < l.length) : l.drop k = l.getD k 0 :: l.drop (k + 1) := by
  rw [List.drop_eq_getElem_cons h, List.getD_eq_getElem?_getD, List.getElem?_eq_getElem h]; rfl
theorem skipTo_white (l : List UInt8) (k : Nat) (h : k < l.length) (hw : whiteB (l.getD k 0) = true) : skipTo l k = skipTo l (k + 1) := by
  unfold skipTo; rw [drop_get l k h, skipF, if_pos hw]; omega
theorem skipTo_stop (l : List UInt8) (k : Nat) (h : k < l.length) (hw : whiteB (l.getD k 0) = false) (hc : l.getD k 0 ≠ 35) : skipTo l k = k := by
  unfold skipTo; rw [drop_get l k h, skipF, if_neg (by rw [hw]; simp), if_neg hc]; rfl
theorem skipTo_end (l : List UInt8) : skipTo l l.length = l.length := by unfold skipTo; simp [skipF]
theorem skipTo_hash (l : List UInt8) (k : Nat) (h : k < l.length) (hc : l.getD k 0 = 35) : skipTo l k = skipTo l (lineEndN l k) := by
  obtain ⟨h1, h2, h3, h4⟩ := lineEnd_facts l k (by omega)
  have hne : lineEndN l k ≠ k := by
    intro e
    rw [e] at h4
    rcases h4 with h5 | h5
    · omega
    · rw [hc] at h5; exact absurd h5 (by decide)
  have hs := skip_comment (l.drop (k + 1)) (lineEndN l k - (k + 1)) (by rw [List.length_drop]; omega)
    (fun i hi => by have := h3 (k + 1 + i) (by omega) (by omega); rwa [List.getD_eq_getElem?_getD, List.getElem?_drop, ← List.getD_eq_getElem?_getD])
    (by rw [List.length_drop]; rcases h4 with h5 | h5
        · left; omega
        · right; rw [List.getD_eq_getElem?_getD, List.getElem?_drop, ← List.getD_eq_getElem?_getD, show k + 1 + (lineEndN l k - (k + 1)) = lineEndN l k by omega]; exact h5)
  unfold skipTo
  rw [drop_get l k h, hc, skipF, if_neg (by decide), if_pos rfl, hs, List.drop_drop, show k + 1 + (lineEndN l k - (k + 1)) = lineEndN l k by omega]
  omega

set_option maxHeartbeats 800000 in
theorem skip_any {w : World} {b : Nat} {s : ByteArray} (h : Idx w b s (feedsOf s.data.toList)) (k : Nat) (hk : k ≤ s.size) :
    Calls Tryz.prog 28 #[scanV s b, .int .i64 k] w fun e w' => e = .returned (.int .i64 (skipTo s.data.toList k : Nat)) ∧ Below w.heap.size w w' := by
  have hsm := h.small
  have hbl := bytes_len s
  have hB0 : Below w.heap.size w (w.alloc (.cells #[.string s, .pointer (some ⟨b, 0, none⟩)] 40)) := (Below.refl _ _).alloc (Nat.le_refl _) _
  obtain ⟨W0, hW0⟩ : ∃ W0, W0 = w.alloc (.cells #[.string s, .pointer (some ⟨b, 0, none⟩)] 40) := ⟨_, rfl⟩
  rw [← hW0] at hB0
  have hz : w.heap.size < W0.heap.size := by rw [hW0]; simp
  have c0 : W0.cell? ⟨w.heap.size, 0, none⟩ = some (.string s) := by rw [hW0]; simp
  have c1 : W0.cell? ⟨w.heap.size, 1, none⟩ = some (.pointer (some ⟨b, 0, none⟩)) := by rw [hW0]; simp
  have HI : Hid (Idx W0 b s (feedsOf s.data.toList)) := h.below hB0
  have HC : Hid (W0.cell? ⟨w.heap.size, 0, none⟩ = some (.string s) ∧ W0.cell? ⟨w.heap.size, 1, none⟩ = some (.pointer (some ⟨b, 0, none⟩))) := ⟨c0, c1⟩
  have HL : Hid (s.data.toList.length = s.size) := hbl
  clear h c0 c1 hbl
  go_enter Tryz.func28, Tryz.ntmps28
  go_wp2
  rw [← hW0]
  clear hW0
  go_loopw [1] (fun i wr => ∃ j : Nat, j ≤ s.size ∧ i = .int .i64 j ∧ Hid (skipTo s.data.toList k = skipTo s.data.toList j) ∧ Below W0.heap.size W0 wr) (fun i _ => s.size - (intOf i).toNat)
  case atStart => exact ⟨k, hk, rfl, rfl, Below.refl _ _⟩
  case round =>
    obtain ⟨j, hj, rfl, hs, hnx⟩ := hrel
    have d0 : wr.cell? ⟨w.heap.size, 0, none⟩ = some (.string s) := (hnx.cell (p := ⟨w.heap.size, 0, none⟩) hz).trans HC.out.1
    have d1 : wr.cell? ⟨w.heap.size, 1, none⟩ = some (.pointer (some ⟨b, 0, none⟩)) := (hnx.cell (p := ⟨w.heap.size, 1, none⟩) hz).trans HC.out.2
    by_cases hlt : j < s.size
    · have hsp := fun w' => isSpace_any s[j] w'
      have hg := getD_bytes s j hlt
      cases hw : whiteB s[j] with
      | true =>
        rw [hw] at hsp
        have HS : Hid (skipTo s.data.toList j = skipTo s.data.toList (j + 1)) := skipTo_white _ _ (by rw [HL.out]; exact hlt) (by rw [hg]; exact hw)
        clear hg hw
        go_wp2_with (go_at_call 43; (with_reducible refine (hsp _).mono ?_); rintro e w1 ⟨rfl, rfl⟩)
        go_roundw
        case rel => exact ⟨j + 1, by omega, by go_num, hs.out.trans HS.out, hnx⟩
        case measure => simp [intOf]; omega
      | false =>
        rw [hw] at hsp
        by_cases hc : s[j] = 35
        · have e1 : ((s[j].toNat : Int) == 35) = true := by rw [hc]; rfl
          have HS : Hid (skipTo s.data.toList j = skipTo s.data.toList (lineEndN s.data.toList j)) := skipTo_hash _ _ (by rw [HL.out]; exact hlt) (by rw [hg]; exact hc)
          have hf := lineEnd_facts s.data.toList j (by rw [HL.out]; omega)
          have hgt : j < lineEndN s.data.toList j := by
            rcases Nat.lt_or_eq_of_le hf.1 with h1 | h1
            · exact h1
            · exfalso
              rcases hf.2.2.2 with h2 | h2
              · rw [HL.out] at h2; omega
              · rw [← h1, hg, hc] at h2; exact absurd h2 (by decide)
          have hle := hf.2.1
          rw [HL.out] at hle
          have hln := lineEnd_any (HI.out.below hnx) j hj
          generalize lineEndN s.data.toList j = en at *
          clear hf hg hw hc
          go_wp2_with (first
            | (go_at_call 43; (with_reducible refine (hsp _).mono ?_); rintro e w1 ⟨rfl, rfl⟩)
            | (go_at_call 44; (with_reducible refine hln.mono ?_); rintro e w1 ⟨rfl, hB1⟩))
          go_roundw
          case rel => exact ⟨en, by omega, rfl, hs.out.trans HS.out, bt hnx hB1⟩
          case measure => simp [intOf]; omega
        · have e1 : ((s[j].toNat : Int) == 35) = false := byte_ne hc
          have HS : Hid (skipTo s.data.toList j = j) := skipTo_stop _ _ (by rw [HL.out]; exact hlt) (by rw [hg]; exact hw) (by rw [hg]; exact hc)
          clear hg hw hc
          go_wp2_with (go_at_call 43; (with_reducible refine (hsp _).mono ?_); rintro e w1 ⟨rfl, rfl⟩)
          go_ret
          exact ⟨by rw [hs.out, HS.out]; rfl, hB0.trans (hnx.mono hB0.size)⟩
    · obtain rfl : j = s.size := by omega
      have HS : Hid (skipTo s.data.toList s.size = s.size) := by show _ = _; have := skipTo_end s.data.toList; rwa [HL.out] at this
      clear hlt
      go_wp2
      go_ret
      exact ⟨by rw [hs.out, HS.out]; rfl, hB0.trans (hnx.mono hB0.size)⟩

end Go.Proofs.YtdcpfpifecnfmaaGreatDoor
