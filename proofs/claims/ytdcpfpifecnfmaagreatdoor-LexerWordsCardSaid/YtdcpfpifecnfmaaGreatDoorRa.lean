import Derived.Test.YtdcpfpifecnfmaaGreatDoorLg
/-
  The reference: classes of bytes, what is skipped.
-/
namespace Go.Proofs.YtdcpfpifecnfmaaGreatDoor
open Go.RowKit Go.Shelf Go.Lib

set_option maxHeartbeats 400000 in
theorem refWhite_any (c : UInt8) (w : World) : Calls Tryz.prog 52 #[.int .u8 c.toNat] w fun e w' => e = .returned (.bool (whiteB c)) ∧ w = w' := by
  have e1 : ((c.toNat : Int) == 9) = (c == 9) := byte_eqI c 9
  have e2 : ((c.toNat : Int) == 10) = (c == 10) := byte_eqI c 10
  have e3 : ((c.toNat : Int) == 13) = (c == 13) := byte_eqI c 13
  have e4 : ((c.toNat : Int) == 32) = (c == 32) := byte_eqI c 32
  unfold whiteB
  generalize (c == 9) = b1 at *
  generalize (c == 10) = b2 at *
  generalize (c == 13) = b3 at *
  generalize (c == 32) = b4 at *
  cases b1 <;> cases b2 <;> cases b3 <;> cases b4 <;> (go_enter Tryz.func52, Tryz.ntmps52; go_wp2; go_ret; exact ⟨rfl, rfl⟩)

set_option maxHeartbeats 400000 in
theorem refLetter_any (c : UInt8) (w : World) : Calls Tryz.prog 53 #[.int .u8 c.toNat] w fun e w' => e = .returned (.bool (letterB c)) ∧ w = w' := by
  unfold letterB
  by_cases h1 : 97 ≤ c.toNat
  · by_cases h2 : c.toNat ≤ 122
    · rw [decide_eq_true h1, decide_eq_true h2]
      have g1 : (97 : Int) ≤ (c.toNat : Int) := by omega
      have g2 : (c.toNat : Int) ≤ 122 := by omega
      clear h1 h2
      go_enter Tryz.func53, Tryz.ntmps53
      go_wp2
      go_ret
      exact ⟨rfl, rfl⟩
    · rw [decide_eq_true h1, decide_eq_false h2]
      have g1 : (97 : Int) ≤ (c.toNat : Int) := by omega
      have g2 : (122 : Int) < (c.toNat : Int) := by omega
      clear h1 h2
      go_enter Tryz.func53, Tryz.ntmps53
      go_wp2
      go_ret
      exact ⟨by show Ending.returned (.bool (decide ((c.toNat : Int) ≤ 122))) = _; rw [decide_eq_false (by omega)]; rfl, rfl⟩
  · rw [decide_eq_false h1]
    have g1 : (c.toNat : Int) < 97 := by omega
    clear h1
    go_enter Tryz.func53, Tryz.ntmps53
    go_wp2
    go_ret
    exact ⟨rfl, rfl⟩

set_option maxHeartbeats 400000 in
theorem refDigit_any (c : UInt8) (w : World) : Calls Tryz.prog 54 #[.int .u8 c.toNat] w fun e w' => e = .returned (.bool (digitB c)) ∧ w = w' := by
  unfold digitB
  by_cases h1 : 48 ≤ c.toNat
  · by_cases h2 : c.toNat ≤ 57
    · rw [decide_eq_true h1, decide_eq_true h2]
      have g1 : (48 : Int) ≤ (c.toNat : Int) := by omega
      have g2 : (c.toNat : Int) ≤ 57 := by omega
      clear h1 h2
      go_enter Tryz.func54, Tryz.ntmps54
      go_wp2
      go_ret
      exact ⟨rfl, rfl⟩
    · rw [decide_eq_true h1, decide_eq_false h2]
      have g1 : (48 : Int) ≤ (c.toNat : Int) := by omega
      have g2 : (57 : Int) < (c.toNat : Int) := by omega
      clear h1 h2
      go_enter Tryz.func54, Tryz.ntmps54
      go_wp2
      go_ret
      exact ⟨by show Ending.returned (.bool (decide ((c.toNat : Int) ≤ 57))) = _; rw [decide_eq_false (by omega)]; rfl, rfl⟩
  · rw [decide_eq_false h1]
    have g1 : (c.toNat : Int) < 48 := by omega
    clear h1
    go_enter Tryz.func54, Tryz.ntmps54
    go_wp2
    go_ret
    exact ⟨rfl, rfl⟩

theorem skipTo_comment (l : List UInt8) (k d : Nat) (h1 : k < l.length) (hc : l.getD k 0 = 35) (hd : k < d) (hl : d ≤ l.length) (hno : ∀ i, k < i → i < d → l.getD i 0 ≠ 10) (he : d = l.length ∨ l.getD d 0 = 10) :
    skipTo l k = skipTo l d := by
  have h := skip_comment (l.drop (k + 1)) (d - (k + 1)) (by rw [List.length_drop]; omega)
    (fun i hi => by rw [List.getD_eq_getElem?_getD, List.getElem?_drop, ← List.getD_eq_getElem?_getD]; exact hno _ (by omega) (by omega))
    (by
      rcases he with h | h
      · left; rw [List.length_drop]; omega
      · right; rw [List.getD_eq_getElem?_getD, List.getElem?_drop, ← List.getD_eq_getElem?_getD, show k + 1 + (d - (k + 1)) = d by omega]; exact h)
  rw [List.drop_drop, show k + 1 + (d - (k + 1)) = d by omega] at h
  unfold skipTo
  rw [drop_get l k h1, hc]
  have e : skipF false ((35 : UInt8) :: l.drop (k + 1)) = skipF true (l.drop (k + 1)) + 1 := by rw [skipF]; simp [whiteB]
  rw [e, h]
  omega

set_option maxHeartbeats 1600000 in
theorem refSkip_any (s : ByteArray) (hs : s.size ≤ 4096) (k : Nat) (hk : k ≤ s.size) (w : World) :
    Calls Tryz.prog 31 #[.string s, .int .i64 k] w fun e w' => e = .returned (.int .i64 (skipTo s.data.toList k : Nat)) ∧ w = w' := by
  have HL : Hid (s.data.toList.length = s.size) := bytes_len s
  go_enter Tryz.func31, Tryz.ntmps31
  go_wp2
  go_loop [1] (fun i => ∃ j : Nat, j ≤ s.size ∧ i = .int .i64 j ∧ Hid (skipTo s.data.toList k = skipTo s.data.toList j)) (fun i => s.size - (intOf i).toNat)
  case atStart => exact ⟨k, hk, rfl, rfl⟩
  case round =>
    obtain ⟨j, hj, rfl, hr⟩ := hrel
    by_cases hlt : j < s.size
    · have hwh := fun w' => refWhite_any s[j] w'
      have hg := getD_bytes s j hlt
      cases hw : whiteB s[j] with
      | true =>
        rw [hw] at hwh
        have HS : Hid (skipTo s.data.toList j = skipTo s.data.toList (j + 1)) := skipTo_white _ _ (by rw [HL.out]; exact hlt) (by rw [hg]; exact hw)
        have b1 : ((s[j].toNat : Int) == 35) = false := by
          refine byte_ne (c := 35) fun e => ?_
          rw [e] at hw
          exact absurd hw (by decide)
        clear hg hw
        go_wp2_with (go_at_call 52; (with_reducible refine (hwh _).mono ?_); rintro e w1 ⟨rfl, rfl⟩)
        go_round
        case rel => exact ⟨j + 1, by omega, by go_num, hr.out.trans HS.out⟩
        case measure => simp [intOf]; omega
      | false =>
        rw [hw] at hwh
        by_cases hc : s[j] = 35
        · have b1 : ((s[j].toNat : Int) == 35) = true := by rw [hc]; rfl
          have hg35 : s.data.toList.getD j 0 = 35 := by rw [hg, hc]
          have HG := hidden hg35
          clear hg hw hc hg35
          go_wp2_with (go_at_call 52; (with_reducible refine (hwh _).mono ?_); rintro e w1 ⟨rfl, rfl⟩)
          go_loop [1] (fun i => ∃ d : Nat, j ≤ d ∧ d ≤ s.size ∧ i = .int .i64 d ∧ Hid (∀ i, j < i → i < d → s.data.toList.getD i 0 ≠ 10)) (fun i => s.size - (intOf i).toNat)
          case atStart => exact ⟨j, Nat.le_refl _, by omega, rfl, fun i h1 h2 => by omega⟩
          case round =>
            obtain ⟨d, hd1, hd2, rfl, hno⟩ := hrel
            by_cases hdl : d < s.size
            · have hgd := getD_bytes s d hdl
              by_cases h10 : s[d] = 10
              · have b2 : ((s[d].toNat : Int) != 10) = false := by rw [h10]; rfl
                have hjd : j < d := by
                  rcases Nat.lt_or_eq_of_le hd1 with h | h
                  · exact h
                  · subst h
                    have h := HG.out
                    rw [hgd, h10] at h
                    exact absurd h (by decide)
                have HS : Hid (skipTo s.data.toList j = skipTo s.data.toList d) := skipTo_comment _ j d (by rw [HL.out]; exact hlt) HG.out hjd (by rw [HL.out]; exact hd2) hno.out (.inr (by rw [hgd, h10]))
                clear hgd h10
                go_wp2
                go_round
                case rel => exact ⟨d, by omega, rfl, hr.out.trans HS.out⟩
                case measure => simp [intOf]; omega
              · have b2 : ((s[d].toNat : Int) != 10) = true := by
                  show (!((s[d].toNat : Int) == 10)) = true
                  rw [show ((s[d].toNat : Int) == 10) = false from byte_ne (c := 10) h10]; rfl
                have HN : Hid (∀ i, j < i → i < d + 1 → s.data.toList.getD i 0 ≠ 10) := fun i h1 h2 => by
                  rcases Nat.lt_or_eq_of_le (Nat.le_of_lt_succ h2) with h | h
                  · exact hno.out i h1 h
                  · rw [h, hgd]; exact h10
                clear hgd h10
                go_wp2
                go_round
                case rel => exact ⟨d + 1, by omega, by omega, by go_num, HN⟩
                case measure => simp [intOf]; omega
            · obtain rfl : d = s.size := by omega
              have HS : Hid (skipTo s.data.toList j = skipTo s.data.toList s.size) := skipTo_comment _ j s.size (by rw [HL.out]; exact hlt) HG.out hlt (by rw [HL.out]; exact hd2) hno.out (.inl HL.out.symm)
              clear hdl
              go_wp2
              go_round
              case rel => exact ⟨s.size, Nat.le_refl _, rfl, hr.out.trans HS.out⟩
              case measure => simp [intOf]; omega
        · have b1 : ((s[j].toNat : Int) == 35) = false := byte_ne (c := 35) hc
          have HS : Hid (skipTo s.data.toList j = j) := skipTo_stop _ _ (by rw [HL.out]; exact hlt) (by rw [hg]; exact hw) (by rw [hg]; exact hc)
          clear hg hw hc
          go_wp2_with (go_at_call 52; (with_reducible refine (hwh _).mono ?_); rintro e w1 ⟨rfl, rfl⟩)
          go_ret
          exact ⟨by rw [hr.out, HS.out]; rfl, rfl⟩
    · obtain rfl : j = s.size := by omega
      have HS : Hid (skipTo s.data.toList s.size = s.size) := by show _ = _; have := skipTo_end s.data.toList; rwa [HL.out] at this
      clear hlt
      go_wp2
      go_ret
      exact ⟨by rw [hr.out, HS.out]; rfl, rfl⟩

end Go.Proofs.YtdcpfpifecnfmaaGreatDoor
