import Derived.Test.YtbcolkkhigdmcaaDoorTg
namespace Go.Proofs.YtbcolkkhigdmcaaDoor
open Go.RowKit Go.Shelf Go.Lib

theorem byte_eqs {x c : UInt8} (h : x = c) : ((x.toNat : Int) == (c.toNat : Int)) = true ∧ ((x.toNat : Int) != (c.toNat : Int)) = false := by subst h; simp
theorem byte_nes {x c : UInt8} (h : ¬ x = c) : ((x.toNat : Int) == (c.toNat : Int)) = false ∧ ((x.toNat : Int) != (c.toNat : Int)) = true := by
  have := byte_ne h; simp_all

/-- What the reference's end returns for a line from a to e. -/
def refEnd (l : List UInt8) (a e : Nat) : Nat := if e < l.length ∧ a < e ∧ l.getD (e - 1) 0 = 13 then e - 1 else e

set_option maxHeartbeats 1600000 in
theorem refEnd_any (s : ByteArray) (a e : Nat) (w : World) (hs : s.size ≤ 1000) (hae : a ≤ e) (hel : e ≤ s.size) (hpl : ∀ i, a ≤ i → i < e → s.data.toList.getD i 0 ≠ 10) (hend : e = s.size ∨ s.data.toList.getD e 0 = 10) :
    Calls Tryd.prog 32 #[.string s, .int .i64 a] w fun e' w' => e' = .returned (.int .i64 (refEnd s.data.toList a e : Nat)) ∧ w = w' := by
  have hR : refEnd s.data.toList a e = if e < s.size ∧ a < e ∧ s.data.toList.getD (e - 1) 0 = 13 then e - 1 else e := by unfold refEnd; rw [bytes_len]
  have HR := hR
  generalize refEnd s.data.toList a e = r at *
  have H : Hid (r = if e < s.size ∧ a < e ∧ s.data.toList.getD (e - 1) 0 = 13 then e - 1 else e) := HR
  have HP : Hid (∀ i, a ≤ i → i < e → s.data.toList.getD i 0 ≠ 10) := hpl
  have HE : Hid (e = s.size ∨ s.data.toList.getD e 0 = 10) := hend
  clear hR HR hpl hend
  go_enter Tryd.func32, Tryd.ntmps32
  go_wp2
  go_loop [5] (fun i => ∃ k : Nat, a ≤ k ∧ k ≤ e ∧ i = .int .i64 k) (fun i => e - (intOf i).toNat)
  case atStart => exact ⟨a, Nat.le_refl _, hae, rfl⟩
  case round =>
    obtain ⟨k, hk1, hk2, rfl⟩ := hrel
    by_cases hlt : k < e
    · have hks : k < s.size := by omega
      have hb := HP.out k hk1 hlt
      rw [getD_bytes s k hks] at hb
      have e1 : ((s[k].toNat : Int) != 10) = true := (byte_nes hb).2
      clear hb
      go_wp2
      go_round
      case rel => exact ⟨k + 1, by omega, by omega, by go_num⟩
      case measure => simp [intOf]; omega
    · obtain rfl : k = e := by omega
      clear hlt
      by_cases hks : k < s.size
      · have hb := HE.out.resolve_left (by omega)
        rw [getD_bytes s k hks] at hb
        have e1 : ((s[k].toNat : Int) != 10) = false := (byte_eqs hb).2
        clear hb
        by_cases hak : a < k
        · have hk0 : k - 1 < s.size := by omega
          have H' := H.out
          rw [getD_bytes s (k - 1) hk0] at H'
          by_cases h13 : s[k - 1] = 13
          · rw [if_pos ⟨hks, hak, h13⟩] at H'
            have f1 : ((s[k - 1].toNat : Int) == 13) = true := (byte_eqs h13).1
            have HX : Hid (r = k - 1) := H'
            clear H H' h13
            go_wp2
            go_ret
            exact ⟨by rw [HX.out]; show Ending.returned (.int .i64 ((k : Int) - 1)) = _; rw [show ((k - 1 : Nat) : Int) = (k : Int) - 1 by omega], rfl⟩
          · rw [if_neg (fun h => h13 h.2.2)] at H'
            have f1 : ((s[k - 1].toNat : Int) == 13) = false := (byte_nes h13).1
            have HX : Hid (r = k) := H'
            clear H H' h13
            go_wp2
            go_ret
            exact ⟨by rw [HX.out]; rfl, rfl⟩
        · have H' := H.out
          rw [if_neg (fun h => hak h.2.1)] at H'
          clear H
          have HX : Hid (r = k) := H'; clear H'
          go_wp2
          go_ret
          exact ⟨by rw [HX.out]; rfl, rfl⟩
      · have H' := H.out
        rw [if_neg (fun h => hks h.1)] at H'
        clear H
        have HX : Hid (r = k) := H'; clear H'
        obtain rfl : k = s.size := by omega
        clear hks
        go_wp2
        go_ret
        exact ⟨by rw [HX.out]; rfl, rfl⟩

theorem hasSuffix_snoc (xs : List UInt8) (y : UInt8) : Lib.hasSuffix (xs ++ [y]) [13] = decide (y = 13) := by
  unfold Lib.hasSuffix List.isSuffixOf
  rw [List.reverse_append]
  show ((13 : UInt8) == y && true) = _
  rw [Bool.and_true]
  by_cases h : y = 13
  · subst h; rfl
  · rw [decide_eq_false h, beq_eq_false_iff_ne]; exact Ne.symm h

theorem take_trim (l : List UInt8) (st e : Nat) (h1 : st ≤ e) (h2 : e ≤ l.length) :
    Lib.trimSuffix ((l.drop st).take (e - st)) [13] = (l.drop st).take ((if st < e ∧ l.getD (e - 1) 0 = 13 then e - 1 else e) - st) := by
  unfold Lib.trimSuffix
  by_cases h : st < e
  · obtain ⟨d, rfl⟩ : ∃ d, e = st + d + 1 := ⟨e - st - 1, by omega⟩
    have hd : d < (l.drop st).length := by rw [List.length_drop]; omega
    have hg : l.getD (st + d + 1 - 1) 0 = (l.drop st)[d] := by
      rw [List.getElem_drop, Nat.add_sub_cancel, List.getD_eq_getElem?_getD, List.getElem?_eq_getElem (by omega)]; rfl
    rw [hg, show st + d + 1 - st = d + 1 by omega, List.take_succ_eq_append_getElem hd, hasSuffix_snoc]
    by_cases e13 : (l.drop st)[d] = 13
    · rw [if_pos (by simpa using e13), if_pos ⟨h, e13⟩, List.length_append, show st + d + 1 - 1 - st = d by omega]
      simp
    · rw [if_neg (by simpa using e13), if_neg (fun hx => e13 hx.2), show st + d + 1 - st = d + 1 by omega, List.take_succ_eq_append_getElem hd]
  · obtain rfl : st = e := by omega
    rw [if_neg (show ¬ (st < st ∧ l.getD (st - 1) 0 = 13) by omega), Nat.sub_self, List.take_zero]
    simp

theorem content_ref (l : List UInt8) (m : Nat) (hm : m ≤ (feedsOf l).length) :
    contentL l (feedsOf l) ((m : Int) + 1) = (l.drop (startN (feedsOf l) l.length (m + 1))).take (refEnd l (startN (feedsOf l) l.length (m + 1)) (endN (feedsOf l) l.length (m + 1)) - startN (feedsOf l) l.length (m + 1)) := by
  have h1 := start_le_end (feedsOf_sorted l) (feedsOf_lt l) (m + 1) (by omega) (by omega)
  have h2 := end_le_len l (m + 1)
  have h3 := line_end l m
  unfold contentL refEnd
  rw [if_pos ⟨by omega, by omega⟩, show ((m : Int) + 1).toNat = m + 1 by omega]
  by_cases h : m < (feedsOf l).length
  · rw [if_pos (by omega), take_trim _ _ _ h1 h2]
    congr 2
    have := (h3.1 h).1
    simp [this]
  · rw [if_neg (by omega)]
    have := h3.2 (by omega)
    rw [if_neg (by omega)]

set_option maxHeartbeats 800000 in
theorem refContent_any (s : ByteArray) (line : Int) (w : World) (hs : s.size ≤ 1000) :
    Calls Tryd.prog 19 #[.string s, .int .i64 line] w fun e w' => e = .returned (.string ⟨(contentL s.data.toList (feedsOf s.data.toList) line).toArray⟩) ∧ w = w' := by
  have hsz := bytes_len s
  have ho := refOffset_any s line 1 w hs
  by_cases h1 : 1 ≤ line ∧ line ≤ (feedsOf s.data.toList).length + 1
  · obtain ⟨m, rfl⟩ : ∃ m : Nat, line = (m : Int) + 1 := ⟨(line - 1).toNat, by omega⟩
    have hm : m ≤ (feedsOf s.data.toList).length := by omega
    have hle := start_le_end (feedsOf_sorted s.data.toList) (feedsOf_lt s.data.toList) (m + 1) (by omega) (by omega)
    have hel := end_le_len s.data.toList (m + 1)
    have hpl := line_plain s.data.toList m
    have hle2 := line_end s.data.toList m
    rw [hsz] at hle hel hpl hle2
    have hoff : offN (feedsOf s.data.toList) s.size ((m : Int) + 1) 1 = (((startN (feedsOf s.data.toList) s.size (m + 1) : Nat) : Int), true) := by
      unfold offN
      rw [show ((m : Int) + 1).toNat = m + 1 by omega, if_pos ⟨h1, by omega, by omega⟩]
      congr 1; omega
    rw [hoff] at ho
    have hE := refEnd_any s (startN (feedsOf s.data.toList) s.size (m + 1)) (endN (feedsOf s.data.toList) s.size (m + 1)) w hs hle hel (fun i a b => hpl i hm a b)
      (by by_cases h : m < (feedsOf s.data.toList).length
          · exact Or.inr (hle2.1 h).2
          · exact Or.inl (hle2.2 (by omega)))
    have hr1 : startN (feedsOf s.data.toList) s.size (m + 1) ≤ refEnd s.data.toList (startN (feedsOf s.data.toList) s.size (m + 1)) (endN (feedsOf s.data.toList) s.size (m + 1)) := by unfold refEnd; split <;> omega
    have hr2 : refEnd s.data.toList (startN (feedsOf s.data.toList) s.size (m + 1)) (endN (feedsOf s.data.toList) s.size (m + 1)) ≤ s.size := by unfold refEnd; split <;> omega
    have hC := content_ref s.data.toList m hm
    rw [hsz] at hC
    rw [hC, ← extract_list]
    clear hC hoff hpl hle2 hle hel h1
    generalize refEnd s.data.toList (startN (feedsOf s.data.toList) s.size (m + 1)) (endN (feedsOf s.data.toList) s.size (m + 1)) = en at *
    generalize startN (feedsOf s.data.toList) s.size (m + 1) = st at *
    have hst : st ≤ s.size := by omega
    clear hsz
    go_enter Tryd.func19, Tryd.ntmps19
    go_wp2_with (first | (go_at_call 15; refine ho.mono ?_; rintro e w' ⟨rfl, rfl⟩) | (go_at_call 32; refine hE.mono ?_; rintro e w' ⟨rfl, rfl⟩))
    go_ret
    exact ⟨rfl, rfl⟩
  · have hN : contentL s.data.toList (feedsOf s.data.toList) line = [] := by unfold contentL; rw [if_neg h1]
    have hoff : offN (feedsOf s.data.toList) s.size line 1 = (0, false) := by unfold offN; rw [if_neg (fun h => h1 h.1)]
    rw [hoff] at ho
    rw [hN]
    clear hN hoff h1
    go_enter Tryd.func19, Tryd.ntmps19
    go_wp2_with (go_at_call 15; refine ho.mono ?_; rintro e w' ⟨rfl, rfl⟩)
    go_ret
    exact ⟨rfl, rfl⟩

end Go.Proofs.YtbcolkkhigdmcaaDoor
