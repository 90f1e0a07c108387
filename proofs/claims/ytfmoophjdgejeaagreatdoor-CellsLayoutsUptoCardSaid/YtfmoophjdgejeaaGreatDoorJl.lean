import Derived.Test.YtfmoophjdgejeaaGreatDoorJk
import Derived.Test.YtfmoophjdgejeaaGreatDoorJh
import Derived.Deep.RegionHeld3
/-
  The reference's token.
-/
namespace Go.Proofs.YtfmoophjdgejeaaGreatDoor
open Go.RowKit Go.Shelf Go.Lib

/-- Has, of the keywords. -/
theorem hasKw_any (y : ByteArray) (w : World) :
    Calls Tryz.prog 103 #[.slice (some ⟨w.heap.size, 0, none⟩) 35 35, .string y] (w.alloc (.cells (kwBytes.map Value.string).toArray 9)).drew fun e w' => e = .returned (.bool (decide (y.data.toList ∈ kwords))) ∧ (w.alloc (.cells (kwBytes.map Value.string).toArray 9)).drew = w' := by
  have h := refHas_any ((Strs.lit w kwBytes).below (below_drewN (Below.refl _ _) 1)) (by decide) (by decide) y
  have e : hasB kwBytes y = decide (y.data.toList ∈ kwords) := by
    by_cases hy : y.data.toList ∈ kwords
    · rw [decide_eq_true hy]
      refine hasB_yes (List.mem_map.2 ⟨_, hy, ?_⟩)
      simp
    · rw [decide_eq_false hy]
      refine hasB_no fun h => ?_
      obtain ⟨k, hk, rfl⟩ := List.mem_map.1 h
      simp at hy
      exact hy hk
  rw [e] at h
  exact h

/-- The kind that the reference gives. -/
def refKind (s : ByteArray) (k : Nat) : Nat := if (tokF (s.data.toList.drop k)).1 = 1 ∧ (s.extract k (k + (tokF (s.data.toList.drop k)).2)).data.toList ∈ kwords then 2 else (tokF (s.data.toList.drop k)).1

theorem tokKeep {w w' w'' : World} (h : Hid (Below w.heap.size w w')) (hb : Below w'.heap.size w' w'') : Hid (Below w.heap.size w w'') := bt h.out hb

set_option maxRecDepth 100000 in
set_option maxHeartbeats 3200000 in
theorem refToken_letter (s : ByteArray) (hs : s.size ≤ 4096) (k : Nat) (hk : k < s.size) (hl : letterB s[k] = true) (w : World) :
    Calls Tryz.prog 91 #[.string s, .int .i64 k] w fun e w' =>
      e = .returned (.tuple #[.int .i64 (refKind s k : Nat), .int .i64 ((k + (tokF (s.data.toList.drop k)).2 : Nat) : Int)]) ∧ Below w.heap.size w w' := by
  have hg := getD_bytes s k hk
  have hbl := bytes_len s
  have hdr := drop_get s.data.toList k (by rw [hbl]; exact hk)
  rw [hg] at hdr
  have ht : tokF (s.data.toList.drop k) = (1, ((s.data.toList.drop (k + 1)).takeWhile partB).length + 1) := by rw [hdr, tokF, if_pos hl]
  have hr := runTo_tok partB s.data.toList k (by rw [hbl]; exact hk) (by rw [hg]; unfold partB; rw [hl]; rfl)
  have hru := runTo_le partB s.data.toList k (by rw [hbl]; omega)
  rw [hbl] at hru
  have hrk : refKind s k = if (s.extract k (runTo partB s.data.toList k)).data.toList ∈ kwords then 2 else 1 := by
    unfold refKind
    rw [ht, hr]
    by_cases h : (s.extract k (k + (((s.data.toList.drop (k + 1)).takeWhile partB).length + 1))).data.toList ∈ kwords
    · rw [if_pos ⟨rfl, h⟩, if_pos h]
    · rw [if_neg (fun hh => h hh.2), if_neg h]
  rw [ht]
  rw [← hr, hrk]
  have hle0 := fun w' => refLetter_any s[k] w'
  rw [hl] at hle0
  have hkr : k ≤ runTo partB s.data.toList k := by unfold runTo; omega
  have hkw := fun w' => refKeywords_any w'
  have hhas := fun w' => hasKw_any (s.extract k (runTo partB s.data.toList k)) w'
  obtain ⟨c, hc⟩ : ∃ c, decide ((s.extract k (runTo partB s.data.toList k)).data.toList ∈ kwords) = c := ⟨_, rfl⟩
  have HV : Hid ((if (s.extract k (runTo partB s.data.toList k)).data.toList ∈ kwords then 2 else 1) = if c = true then 2 else 1) := by
    rw [← hc]
    show _ = _
    by_cases h : (s.extract k (runTo partB s.data.toList k)).data.toList ∈ kwords
    · rw [if_pos h, decide_eq_true h]; rfl
    · rw [if_neg h, decide_eq_false h]; rfl
  rw [hc] at hhas
  rw [HV.out]
  have HL : Hid (s.data.toList.length = s.size) := hbl
  clear hrk ht hr hdr hg hbl hc HV hl
  obtain ⟨R, hR⟩ : ∃ R, runTo partB s.data.toList k = R := ⟨_, rfl⟩
  rw [hR] at hhas hru hkr ⊢
  have HR := hidden hR
  clear hR
  go_enter Tryz.func91, Tryz.ntmps91
  go_wp2_with (go_at_call 101; (with_reducible refine (hle0 _).mono ?_); rintro e w1 ⟨rfl, rfl⟩)
  go_loop [6] (fun i => ∃ j : Nat, j ≤ s.size ∧ i = .int .i64 j ∧ Hid (R = runTo partB s.data.toList j)) (fun i => s.size - (intOf i).toNat)
  case atStart => exact ⟨k, by omega, rfl, HR.out.symm⟩
  case round =>
    obtain ⟨j, hj, rfl, hr⟩ := hrel
    clear hle0
    by_cases hlt : j < s.size
    · have hle := fun w' => refLetter_any s[j] w'
      have hdi := fun w' => refDigit_any s[j] w'
      have hg := getD_bytes s j hlt
      have hgo : partB s[j] = true → Hid (R = runTo partB s.data.toList (j + 1)) := fun h => hr.out.trans (runTo_yes _ _ _ (by rw [HL.out]; exact hlt) (by rw [hg]; exact h))
      have hno : partB s[j] = false → R = j := fun h => hr.out.trans (runTo_no _ _ _ (by rw [HL.out]; exact hlt) (by rw [hg]; exact h))
      unfold partB at hgo hno
      cases h1 : letterB s[j] with
      | true =>
        rw [h1] at hle hgo
        have HS := hgo rfl
        clear hgo hno h1 hg hdi
        go_wp2_with (go_at_call 101; (with_reducible refine (hle _).mono ?_); rintro e w1 ⟨rfl, rfl⟩)
        go_round
        case rel => exact ⟨j + 1, by omega, by go_num, HS⟩
        case measure => simp [intOf]; omega
      | false =>
        rw [h1] at hle hgo hno
        cases h2 : digitB s[j] with
        | true =>
          rw [h2] at hdi hgo
          have HS := hgo rfl
          clear hgo hno h1 h2 hg
          go_wp2_with (first | (go_at_call 101; (with_reducible refine (hle _).mono ?_); rintro e w1 ⟨rfl, rfl⟩) | (go_at_call 102; (with_reducible refine (hdi _).mono ?_); rintro e w1 ⟨rfl, rfl⟩))
          go_round
          case rel => exact ⟨j + 1, by omega, by go_num, HS⟩
          case measure => simp [intOf]; omega
        | false =>
          rw [h2] at hdi hgo hno
          by_cases h3 : s[j] = 95
          · have b3 : ((s[j].toNat : Int) == 95) = true := by rw [h3]; rfl
            have HS := hgo (by rw [h3]; rfl)
            clear hgo hno h1 h2 h3 hg
            go_wp2_with (first | (go_at_call 101; (with_reducible refine (hle _).mono ?_); rintro e w1 ⟨rfl, rfl⟩) | (go_at_call 102; (with_reducible refine (hdi _).mono ?_); rintro e w1 ⟨rfl, rfl⟩))
            go_round
            case rel => exact ⟨j + 1, by omega, by go_num, HS⟩
            case measure => simp [intOf]; omega
          · have b3 : ((s[j].toNat : Int) == 95) = false := byte_ne (c := 95) h3
            have hRj := hno (by simpa using h3)
            subst hRj
            clear hgo hno h1 h2 h3 hg
            go_wp2_with (first | (go_at_call 101; (with_reducible refine (hle _).mono ?_); rintro e w1 ⟨rfl, rfl⟩) | (go_at_call 102; (with_reducible refine (hdi _).mono ?_); rintro e w1 ⟨rfl, rfl⟩))
            cases c
            all_goals
              go_region_held3 (fun w' => Hid (Below w.heap.size w w'))
                (first | assumption | (exact tokKeep (by assumption) (by assumption)) | (exact (Below.refl _ _ : Below w.heap.size w w)) | (exact below_drewN (Below.refl w.heap.size w) 1) | (exact below_drewN ((Below.refl w.heap.size w).alloc (Nat.le_refl _) _) 1))
                (first | (go_at_call 104; (with_reducible refine (hkw _).mono ?_); rintro e w4 ⟨rfl, rfl⟩) | (go_at_call 103; (with_reducible refine (hhas _).mono ?_); rintro e w5 ⟨rfl, rfl⟩))
              go_wp2_with fail
              go_ret2
              exact ⟨rfl, below_drewN ((Below.refl w.heap.size w).alloc (Nat.le_refl _) _) 1⟩
    · have hRj : R = s.size := by
        have : j = s.size := by omega
        rw [hr.out, this]
        have := runTo_end partB s.data.toList
        rwa [HL.out] at this
      have hjs : j = s.size := by omega
      subst hjs
      subst hRj
      clear hlt hr
      go_wp2_with fail
      cases c
      all_goals
        go_region_held3 (fun w' => Hid (Below w.heap.size w w'))
          (first | assumption | (exact tokKeep (by assumption) (by assumption)) | (exact (Below.refl _ _ : Below w.heap.size w w)) | (exact below_drewN (Below.refl w.heap.size w) 1) | (exact below_drewN ((Below.refl w.heap.size w).alloc (Nat.le_refl _) _) 1))
          (first | (go_at_call 104; (with_reducible refine (hkw _).mono ?_); rintro e w4 ⟨rfl, rfl⟩) | (go_at_call 103; (with_reducible refine (hhas _).mono ?_); rintro e w5 ⟨rfl, rfl⟩))
        go_wp2_with fail
        go_ret2
        exact ⟨rfl, below_drewN ((Below.refl w.heap.size w).alloc (Nat.le_refl _) _) 1⟩

set_option maxRecDepth 100000 in
set_option maxHeartbeats 3200000 in
theorem refToken_digit (s : ByteArray) (hs : s.size ≤ 4096) (k : Nat) (hk : k < s.size) (hl : letterB s[k] = false) (hd : digitB s[k] = true) (w : World) :
    Calls Tryz.prog 91 #[.string s, .int .i64 k] w fun e w' =>
      e = .returned (.tuple #[.int .i64 (refKind s k : Nat), .int .i64 ((k + (tokF (s.data.toList.drop k)).2 : Nat) : Int)]) ∧ Below w.heap.size w w' := by
  have hg := getD_bytes s k hk
  have hbl := bytes_len s
  have hdr := drop_get s.data.toList k (by rw [hbl]; exact hk)
  rw [hg] at hdr
  have ht : tokF (s.data.toList.drop k) = (3, ((s.data.toList.drop (k + 1)).takeWhile digitB).length + 1) := by rw [hdr, tokF, if_neg (by rw [hl]; simp), if_pos hd]
  have hr := runTo_tok digitB s.data.toList k (by rw [hbl]; exact hk) (by rw [hg]; exact hd)
  have hru := runTo_le digitB s.data.toList k (by rw [hbl]; omega)
  rw [hbl] at hru
  have hrk : refKind s k = 3 := by unfold refKind; rw [ht]; simp
  rw [hrk, ht]
  rw [← hr]
  have hle0 := fun w' => refLetter_any s[k] w'
  have hdi0 := fun w' => refDigit_any s[k] w'
  rw [hl] at hle0
  rw [hd] at hdi0
  have HL : Hid (s.data.toList.length = s.size) := hbl
  clear hrk ht hr hdr hg hbl hl hd
  obtain ⟨R, hR⟩ : ∃ R, runTo digitB s.data.toList k = R := ⟨_, rfl⟩
  rw [hR] at hru ⊢
  have HR := hidden hR
  clear hR
  go_enter Tryz.func91, Tryz.ntmps91
  go_wp2_with (first | (go_at_call 101; (with_reducible refine (hle0 _).mono ?_); rintro e w1 ⟨rfl, rfl⟩) | (go_at_call 102; (with_reducible refine (hdi0 _).mono ?_); rintro e w1 ⟨rfl, rfl⟩))
  go_loop [6] (fun i => ∃ j : Nat, j ≤ s.size ∧ i = .int .i64 j ∧ Hid (R = runTo digitB s.data.toList j)) (fun i => s.size - (intOf i).toNat)
  case atStart => exact ⟨k, by omega, rfl, HR.out.symm⟩
  case round =>
    obtain ⟨j, hj, rfl, hr⟩ := hrel
    clear hle0 hdi0
    by_cases hlt : j < s.size
    · have hdi := fun w' => refDigit_any s[j] w'
      have hg := getD_bytes s j hlt
      have hgo : digitB s[j] = true → Hid (R = runTo digitB s.data.toList (j + 1)) := fun h => hr.out.trans (runTo_yes _ _ _ (by rw [HL.out]; exact hlt) (by rw [hg]; exact h))
      have hno : digitB s[j] = false → R = j := fun h => hr.out.trans (runTo_no _ _ _ (by rw [HL.out]; exact hlt) (by rw [hg]; exact h))
      cases h2 : digitB s[j] with
      | true =>
        rw [h2] at hdi
        have HS := hgo h2
        clear hgo hno h2 hg
        go_wp2_with (go_at_call 102; (with_reducible refine (hdi _).mono ?_); rintro e w1 ⟨rfl, rfl⟩)
        go_round
        case rel => exact ⟨j + 1, by omega, by go_num, HS⟩
        case measure => simp [intOf]; omega
      | false =>
        rw [h2] at hdi
        have hRj := hno h2
        subst hRj
        clear hgo hno h2 hg
        go_wp2_with (go_at_call 102; (with_reducible refine (hdi _).mono ?_); rintro e w1 ⟨rfl, rfl⟩)
        go_ret2
        exact ⟨rfl, Below.refl _ _⟩
    · have hRj : R = s.size := by
        have : j = s.size := by omega
        rw [hr.out, this]
        have := runTo_end digitB s.data.toList
        rwa [HL.out] at this
      have hjs : j = s.size := by omega
      subst hjs
      subst hRj
      clear hlt hr
      go_wp2_with fail
      go_ret2
      exact ⟨rfl, Below.refl _ _⟩

set_option maxRecDepth 100000 in
set_option maxHeartbeats 3200000 in
theorem refToken_symbol (s : ByteArray) (hs : s.size ≤ 4096) (k : Nat) (hk : k < s.size) (hl : letterB s[k] = false) (hd : digitB s[k] = false) (h0 : 0 < symL (s.data.toList.drop k)) (w : World) :
    Calls Tryz.prog 91 #[.string s, .int .i64 k] w fun e w' =>
      e = .returned (.tuple #[.int .i64 (refKind s k : Nat), .int .i64 ((k + (tokF (s.data.toList.drop k)).2 : Nat) : Int)]) ∧ Below w.heap.size w w' := by
  have hg := getD_bytes s k hk
  have hbl := bytes_len s
  have hdr := drop_get s.data.toList k (by rw [hbl]; exact hk)
  rw [hg] at hdr
  have hsl := symL_le (s.data.toList.drop k)
  rw [List.length_drop, hbl] at hsl
  have hsy := fun w' => refSymbol_any s hs k (by omega) w'
  have ht : tokF (s.data.toList.drop k) = (4, symL (s.data.toList.drop k)) := by rw [hdr] at h0 ⊢; rw [tokF, if_neg (by rw [hl]; simp), if_neg (by rw [hd]; simp), if_pos h0]
  have hrk : refKind s k = 4 := by unfold refKind; rw [ht]; simp
  rw [hrk, ht]
  have hle0 := fun w' => refLetter_any s[k] w'
  have hdi0 := fun w' => refDigit_any s[k] w'
  rw [hl] at hle0
  rw [hd] at hdi0
  generalize symL (s.data.toList.drop k) = n at *
  have hp : (0 : Int) < (n : Int) := by omega
  clear hrk ht hdr hg hbl hl hd h0
  go_enter Tryz.func91, Tryz.ntmps91
  go_wp2_with (first | (go_at_call 101; (with_reducible refine (hle0 _).mono ?_); rintro e w1 ⟨rfl, rfl⟩) | (go_at_call 102; (with_reducible refine (hdi0 _).mono ?_); rintro e w1 ⟨rfl, rfl⟩) | (go_at_call 105; (with_reducible refine (hsy _).mono ?_); rintro e w1 ⟨rfl, hB1⟩))
  go_ret2
  exact ⟨by congr 3, hB1⟩

set_option maxRecDepth 100000 in
set_option maxHeartbeats 3200000 in
theorem refToken_wrong (s : ByteArray) (hs : s.size ≤ 4096) (k : Nat) (hk : k < s.size) (hw : whiteB s[k] = false) (hc : s[k] ≠ 35) (hl : letterB s[k] = false) (hd : digitB s[k] = false) (h0 : symL (s.data.toList.drop k) = 0) (w : World) :
    Calls Tryz.prog 91 #[.string s, .int .i64 k] w fun e w' =>
      e = .returned (.tuple #[.int .i64 (refKind s k : Nat), .int .i64 ((k + (tokF (s.data.toList.drop k)).2 : Nat) : Int)]) ∧ Below w.heap.size w w' := by
  have hg := getD_bytes s k hk
  have hbl := bytes_len s
  have hdr := drop_get s.data.toList k (by rw [hbl]; exact hk)
  rw [hg] at hdr
  have hsy := fun w' => refSymbol_any s hs k (by omega) w'
  have ht : tokF (s.data.toList.drop k) = (5, wrongF (s.data.toList.drop (k + 1)) + 1) := by rw [hdr] at h0 ⊢; rw [tokF, if_neg (by rw [hl]; simp), if_neg (by rw [hd]; simp), if_neg (by omega)]
  have hr : wrongTo s.data.toList k = k + (wrongF (s.data.toList.drop (k + 1)) + 1) := by
    unfold wrongTo
    have he : endsB (s.data.toList.drop k) = false := by
      rw [hdr] at h0 ⊢
      show (whiteB s[k] || s[k] == 35 || letterB s[k] || digitB s[k] || decide (0 < symL (s[k] :: s.data.toList.drop (k + 1)))) = false
      rw [hw, hl, hd, h0]
      simpa using hc
    rw [hdr] at he ⊢
    rw [wrongF, if_neg (by rw [he]; simp)]
  have hru : wrongTo s.data.toList k ≤ s.size := by
    unfold wrongTo
    have := wrongF_le (s.data.toList.drop k)
    rw [List.length_drop, hbl] at this
    omega
  have hrk : refKind s k = 5 := by unfold refKind; rw [ht]; simp
  rw [hrk, ht]
  rw [← hr]
  have hle0 := fun w' => refLetter_any s[k] w'
  have hdi0 := fun w' => refDigit_any s[k] w'
  rw [hl] at hle0
  rw [hd] at hdi0
  rw [h0] at hsy
  have HL : Hid (s.data.toList.length = s.size) := hbl
  clear hrk ht hr hdr hg hbl hl hd h0 hw hc
  obtain ⟨R, hR⟩ : ∃ R, wrongTo s.data.toList k = R := ⟨_, rfl⟩
  rw [hR] at hru ⊢
  have HR := hidden hR
  clear hR
  go_enter Tryz.func91, Tryz.ntmps91
  go_wp2_with (first | (go_at_call 101; (with_reducible refine (hle0 _).mono ?_); rintro e w1 ⟨rfl, rfl⟩) | (go_at_call 102; (with_reducible refine (hdi0 _).mono ?_); rintro e w1 ⟨rfl, rfl⟩) | (go_at_call 105; (with_reducible refine (hsy _).mono ?_); rintro e w1 ⟨rfl, hB1⟩))
  have HB1 := hidden hB1
  clear hle0 hdi0 hsy hB1
  go_loopw [6] (fun i wr => ∃ j : Nat, j ≤ s.size ∧ i = .int .i64 j ∧ Hid (R = wrongTo s.data.toList j) ∧ Hid (Below w.heap.size w wr)) (fun i _ => s.size - (intOf i).toNat)
  case atStart => exact ⟨k, by omega, rfl, HR.out.symm, HB1⟩
  case round =>
    obtain ⟨j, hj, rfl, hr, hb⟩ := hrel
    by_cases hlt : j < s.size
    · have hwh := fun w' => refWhite_any s[j] w'
      have hle := fun w' => refLetter_any s[j] w'
      have hdi := fun w' => refDigit_any s[j] w'
      have hsy := fun w' => refSymbol_any s hs j (by omega) w'
      have hg := getD_bytes s j hlt
      have hdj := drop_get s.data.toList j (by rw [HL.out]; exact hlt)
      rw [hg] at hdj
      have hgo : endsB (s.data.toList.drop j) = false → Hid (R = wrongTo s.data.toList (j + 1)) := fun h => hr.out.trans (wrongTo_go _ _ (by rw [HL.out]; exact hlt) h)
      have hno : endsB (s.data.toList.drop j) = true → R = j := fun h => hr.out.trans (wrongTo_stop _ _ (by rw [HL.out]; exact hlt) h)
      have he : endsB (s.data.toList.drop j) = (whiteB s[j] || s[j] == 35 || letterB s[j] || digitB s[j] || decide (0 < symL (s.data.toList.drop j))) := by rw [hdj]; rfl
      rw [he] at hgo hno
      clear he hdj hg
      have hz := hb.out.size
      cases h1 : whiteB s[j] with
      | true =>
        rw [h1] at hwh
        have hRj := hno (by rw [h1]; simp)
        subst hRj
        clear hgo hno h1 hr
        go_wp2_with (first | (go_at_call 100; (with_reducible refine (hwh _).mono ?_); rintro e w2 ⟨rfl, rfl⟩))
        go_ret2
        exact ⟨rfl, hb.out⟩
      | false =>
        rw [h1] at hwh hgo hno
        by_cases h2 : s[j] = 35
        · have hRj := hno (by rw [h2]; simp)
          have b2 : ((s[j].toNat : Int) != 35) = false := by rw [h2]; rfl
          subst hRj
          clear hgo hno h1 hr h2
          go_wp2_with (first | (go_at_call 100; (with_reducible refine (hwh _).mono ?_); rintro e w2 ⟨rfl, rfl⟩))
          go_ret2
          exact ⟨rfl, hb.out⟩
        · have b2 : ((s[j].toNat : Int) != 35) = true := by
            show (!((s[j].toNat : Int) == 35)) = true
            rw [show ((s[j].toNat : Int) == 35) = false from byte_ne (c := 35) h2]; rfl
          have b2' : (s[j] == 35) = false := by simpa using h2
          rw [b2'] at hgo hno
          clear h2 b2'
          cases h3 : letterB s[j] with
          | true =>
            rw [h3] at hle
            have hRj := hno (by rw [h3]; simp)
            subst hRj
            clear hgo hno h1 hr h3
            go_wp2_with (first | (go_at_call 100; (with_reducible refine (hwh _).mono ?_); rintro e w2 ⟨rfl, rfl⟩) | (go_at_call 101; (with_reducible refine (hle _).mono ?_); rintro e w2 ⟨rfl, rfl⟩))
            go_ret2
            exact ⟨rfl, hb.out⟩
          | false =>
            rw [h3] at hle hgo hno
            cases h4 : digitB s[j] with
            | true =>
              rw [h4] at hdi
              have hRj := hno (by rw [h4]; simp)
              subst hRj
              clear hgo hno h1 hr h3 h4
              go_wp2_with (first | (go_at_call 100; (with_reducible refine (hwh _).mono ?_); rintro e w2 ⟨rfl, rfl⟩) | (go_at_call 101; (with_reducible refine (hle _).mono ?_); rintro e w2 ⟨rfl, rfl⟩) | (go_at_call 102; (with_reducible refine (hdi _).mono ?_); rintro e w2 ⟨rfl, rfl⟩))
              go_ret2
              exact ⟨rfl, hb.out⟩
            | false =>
              rw [h4] at hdi hgo hno
              by_cases h5 : symL (s.data.toList.drop j) = 0
              · rw [h5] at hsy
                have HS := hgo (by rw [h5]; rfl)
                clear hgo hno h1 h3 h4 h5
                go_wp2_with (first | (go_at_call 100; (with_reducible refine (hwh _).mono ?_); rintro e w2 ⟨rfl, rfl⟩) | (go_at_call 101; (with_reducible refine (hle _).mono ?_); rintro e w2 ⟨rfl, rfl⟩) | (go_at_call 102; (with_reducible refine (hdi _).mono ?_); rintro e w2 ⟨rfl, rfl⟩) | (go_at_call 105; (with_reducible refine (hsy _).mono ?_); rintro e w3 ⟨rfl, hB3⟩))
                go_roundw
                case rel => exact ⟨j + 1, by omega, by go_num, HS, bt hb.out hB3⟩
                case measure => simp [intOf]; omega
              · have hRj := hno (by simp; omega)
                generalize symL (s.data.toList.drop j) = n at *
                have b5 : ((n : Int) == 0) = false := by rw [beq_eq_false_iff_ne]; omega
                subst hRj
                clear hgo hno h1 h3 h4 h5 hr
                go_wp2_with (first | (go_at_call 100; (with_reducible refine (hwh _).mono ?_); rintro e w2 ⟨rfl, rfl⟩) | (go_at_call 101; (with_reducible refine (hle _).mono ?_); rintro e w2 ⟨rfl, rfl⟩) | (go_at_call 102; (with_reducible refine (hdi _).mono ?_); rintro e w2 ⟨rfl, rfl⟩) | (go_at_call 105; (with_reducible refine (hsy _).mono ?_); rintro e w3 ⟨rfl, hB3⟩))
                go_ret2
                exact ⟨rfl, bt hb.out hB3⟩
    · have hjs : j = s.size := by omega
      subst hjs
      have hRj : R = s.size := by
        rw [hr.out]
        have := wrongTo_end s.data.toList
        rwa [HL.out] at this
      subst hRj
      clear hlt hr
      go_wp2_with fail
      go_ret2
      exact ⟨rfl, hb.out⟩

theorem refToken_any (s : ByteArray) (hs : s.size ≤ 4096) (k : Nat) (hk : k < s.size) (hw : whiteB s[k] = false) (hc : s[k] ≠ 35) (w : World) :
    Calls Tryz.prog 91 #[.string s, .int .i64 k] w fun e w' =>
      e = .returned (.tuple #[.int .i64 (refKind s k : Nat), .int .i64 ((k + (tokF (s.data.toList.drop k)).2 : Nat) : Int)]) ∧ Below w.heap.size w w' := by
  cases hl : letterB s[k] with
  | true => exact refToken_letter s hs k hk hl w
  | false =>
    cases hd : digitB s[k] with
    | true => exact refToken_digit s hs k hk hl hd w
    | false =>
      by_cases h0 : symL (s.data.toList.drop k) = 0
      · exact refToken_wrong s hs k hk hw hc hl hd h0 w
      · exact refToken_symbol s hs k hk hl hd (by omega) w

end Go.Proofs.YtfmoophjdgejeaaGreatDoor
/-
  The reference's Scan.
-/
namespace Go.Proofs.YtfmoophjdgejeaaGreatDoor
open Go.RowKit Go.Shelf Go.Lib

theorem ref_kwT (s : ByteArray) (p : Nat) : kwT s (nextT s.data.toList p) = ⟨refKind s (skipTo s.data.toList p), p, skipTo s.data.toList p, skipTo s.data.toList p + (tokF (s.data.toList.drop (skipTo s.data.toList p))).2⟩ := by
  unfold kwT refKind
  by_cases h : (tokF (s.data.toList.drop (skipTo s.data.toList p))).1 = 1 ∧ (s.extract (skipTo s.data.toList p) (skipTo s.data.toList p + (tokF (s.data.toList.drop (skipTo s.data.toList p))).2)).data.toList ∈ kwords
  · rw [if_pos h]
    exact if_pos h
  · rw [if_neg h]
    exact if_neg h

theorem tok_starts (s : ByteArray) (p : Nat) (h : skipTo s.data.toList p < s.size) : whiteB s[skipTo s.data.toList p] = false ∧ s[skipTo s.data.toList p] ≠ 35 := by
  have hbl := bytes_len s
  have hg := getD_bytes s _ h
  have e : skipTo s.data.toList p = p + skipF false (s.data.toList.drop p) := rfl
  have hdr := drop_get s.data.toList (skipTo s.data.toList p) (by rw [hbl]; exact h)
  have h2 : s.data.toList.drop (skipTo s.data.toList p) = (s.data.toList.drop p).drop (skipTo s.data.toList p - p) := by rw [List.drop_drop]; congr 1; omega
  have hs : skipF false ((s.data.toList.drop p).take (skipTo s.data.toList p - p) ++ s.data.toList.drop (skipTo s.data.toList p)) = ((s.data.toList.drop p).take (skipTo s.data.toList p - p)).length := by
    rw [h2, List.take_append_drop, List.length_take, List.length_drop]
    omega
  rw [hg] at hdr
  generalize s[skipTo s.data.toList p] = c at *
  rw [hdr] at hs
  rcases skip_after false _ _ hs with h1 | h1
  · have := (skip_cons _ _).1 h1
    unfold gapB at this
    simp only [Bool.or_eq_false_iff] at this
    exact ⟨this.1, by simpa using this.2⟩
  · cases h1

theorem own_ge' {w : World} {base e size n : Nat} {v : Value} {xs : List Value} (h : w.ownsRow base e size v n xs) : ∀ k, v.ownBlock = some k → base ≤ k := row_block h

theorem toks_take {s : ByteArray} {k p : Nat} (h : TokHere s k p) : (toksK s).take (k + 1) = (toksK s).take k ++ [kwT s (nextT s.data.toList p)] := by
  have := tokHere_get h
  rw [List.take_add_one, this]; rfl

theorem owns_below {w w' : World} {base e size n : Nat} {v : Value} {xs : List Value} (h : w.ownsRow base e size v n xs) (hb : Below w.heap.size w w') : w'.ownsRow base e size v n xs := by
  refine ⟨h.1, ?_⟩
  rcases h.2 with h | ⟨g, cap, cur, h1, h2, h3, h4⟩
  · exact .inl h
  · exact .inr ⟨g, cap, cur, h1, h2, (hb.block g (Array.getElem?_eq_some_iff.1 h3).1).trans h3, h4⟩

set_option maxRecDepth 100000 in
set_option maxHeartbeats 3200000 in
theorem refScan_any (s : ByteArray) (hs : s.size ≤ 4096) (w : World) :
    Calls Tryz.prog 78 #[.string s] w fun e w' => ∃ v, e = .returned (.tuple #[v, .int .i64 0]) ∧ ToksOf w (toksK s) v w' := by
  obtain ⟨i0, hi, hz0, hz1, hz2⟩ := info_parts infoTok
  have hlen := toksK_len s hs
  have hbl := bytes_len s
  have b1 : ¬ ((4096 : Int) < (s.size : Int)) := by omega
  have hpos : 0 < (toksK s).length := List.length_pos_iff.2 (toksK_ne s)
  go_enter Tryz.func78, Tryz.ntmps78
  go_wp2_with fail
  obtain ⟨w2, hw2⟩ : ∃ w2, w2 = w.alloc (.cells #[] 115) := ⟨_, rfl⟩
  have hB2 : Below w.heap.size w w2 := by rw [hw2]; exact (Below.refl _ _).alloc (Nat.le_refl _) _
  have hown0 : w2.ownsRow w.heap.size 115 4 (.slice (some ⟨w.heap.size, 0, none⟩) 0 0) 0 [] :=
    ⟨rfl, Or.inr ⟨w.heap.size, 0, #[], rfl, Nat.le_refl _, by rw [hw2]; exact World.alloc_heap_new _ _, Nat.le_refl _, Nat.zero_le _, rfl, rfl⟩⟩
  rw [← hw2]
  clear hw2
  go_loopw [4, 5] (fun out fr wr => ∃ k p : Nat, k < (toksK s).length ∧ fr = .int .i64 p ∧ p ≤ s.size ∧ Hid (TokHere s k p ∧ wr.ownsRow w.heap.size 115 4 out k (toksC ((toksK s).take k)) ∧ Below w.heap.size w wr)) (fun _ fr _ => s.size - (intOf fr).toNat)
  case atStart => exact ⟨0, 0, hpos, rfl, Nat.zero_le _, tokHere_first s, hown0, hB2⟩
  case round =>
    obtain ⟨k, p, hk, rfl, hp, hh⟩ := hrel
    clear hown0 hB2
    obtain ⟨ht, hown, hB⟩ := hh.out
    have hz := hB.size
    have hsk := fun w' => refSkip_any s hs p hp w'
    have hkT := ref_kwT s p
    have hfa := nextT_facts s.data.toList p (by rw [hbl]; exact hp)
    rw [hbl] at hfa
    obtain ⟨f1, f2, f3, f4, f5, f6⟩ := hfa
    have e1 : (nextT s.data.toList p).at_ = skipTo s.data.toList p := rfl
    have e2 : (nextT s.data.toList p).end_ = skipTo s.data.toList p + (tokF (s.data.toList.drop (skipTo s.data.toList p))).2 := rfl
    have htk := toks_take ht
    rw [hkT] at htk
    have hst := tok_starts s p
    by_cases h0 : (nextT s.data.toList p).kind = 0
    · obtain ⟨l1, l2, l3⟩ := tokHere_last ht h0
      rw [e1] at l2
      rw [e2, l2] at l3
      rw [kwT_other s _ (by omega)] at hkT
      have hx : (nextT s.data.toList p) = ⟨0, p, s.size, s.size⟩ := by
        rw [hkT]
        have := congrArg Tok.kind hkT
        rw [h0] at this
        simp only at this
        rw [← this, l2, l3]
      have HT : Hid (toksC (toksK s) = toksC ((toksK s).take k) ++ tokC ⟨0, p, s.size, s.size⟩) := by
        rw [← hkT, hx] at htk
        show _ = _
        rw [← toksC_snoc, ← htk, l1, List.take_length]
      rw [l2] at hsk
      have HL : Hid ((toksK s).length = k + 1) := l1.symm
      clear hkT f1 f2 f3 f4 f5 f6 e1 e2 htk hst h0 l1 l2 l3 hx hh ht
      go_wp2_with (first | (go_at_call 90; (with_reducible refine (hsk _).mono ?_); rintro e w1 ⟨rfl, rfl⟩) | (at_builtin; refine wpList_append_own _ rfl (.tmp 37) (.tmp 44) 122 rfl w.heap.size 115 i0 (.agg #[.int .i64 0, .int .i64 0, .int .i64 0, .int .i64 0]) 4 32 Tryz.underlying122 hi hz0 hz1 hz2 rfl (by decide) _ _ _ rfl (hown.alloc _) ⟨wr.heap.size, 0, none⟩ 1 1 (tokC ⟨0, p, s.size, s.size⟩) rfl rfl (tokC_new _ _ _) (tokC_one _) (by unfold maxLen; omega) (by omega) (by simp; omega) ?_; intro v' w5 hown5 hgrow5 _))
      go_ret2
      exact ⟨_, rfl, by rw [HL.out, HT.out]; exact hown5, (hB.alloc hz _).grown hgrow5 (by simp; omega) (own_ge' hown)⟩
    · obtain ⟨l1, l2, l3⟩ := tokHere_next ht h0
      rw [e1, e2] at l2
      rw [e2] at l3
      rw [e1, e2] at f3
      rw [e2] at f4
      have hlt : skipTo s.data.toList p < s.size := by omega
      obtain ⟨hw, hc⟩ := hst hlt
      have htok := fun w' => refToken_any s hs _ hlt hw hc w'
      have HT : Hid (toksC ((toksK s).take (k + 1)) = toksC ((toksK s).take k) ++ tokC ⟨refKind s (skipTo s.data.toList p), p, skipTo s.data.toList p, skipTo s.data.toList p + (tokF (s.data.toList.drop (skipTo s.data.toList p))).2⟩) := by
        show _ = _
        rw [htk, toksC_snoc]
      have HN := hidden l3
      rw [e1] at f2
      generalize refKind s (skipTo s.data.toList p) = kd at *
      generalize skipTo s.data.toList p + (tokF (s.data.toList.drop (skipTo s.data.toList p))).2 = e at *
      generalize skipTo s.data.toList p = a at *
      clear hkT f1 f5 f6 e1 e2 htk hst h0 l3 hh ht hw hc
      go_wp2_with (first | (go_at_call 90; (with_reducible refine (hsk _).mono ?_); rintro e w1 ⟨rfl, rfl⟩) | (go_at_call 91; (with_reducible refine (htok _).mono ?_); rintro e w3 ⟨rfl, hB3⟩; have hown3 := owns_below hown hB3; have hB4 := bt hB hB3) | (at_builtin; refine wpList_append_own _ rfl (.tmp 28) (.tmp 34) 122 rfl w.heap.size 115 i0 (.agg #[.int .i64 0, .int .i64 0, .int .i64 0, .int .i64 0]) 4 32 Tryz.underlying122 hi hz0 hz1 hz2 rfl (by decide) _ _ _ rfl (hown3.alloc _) ⟨w3.heap.size, 0, none⟩ 1 1 (tokC ⟨kd, p, a, e⟩) rfl rfl (tokC_new _ _ _) (tokC_one _) (by unfold maxLen; omega) (by omega) (by simp; have := hB4.size; omega) ?_; intro v' w5 hown5 hgrow5 _))
      go_roundw
      case rel => exact ⟨k + 1, e, l1, rfl, f4, HN.out, by rw [HT.out]; exact hown5, (hB4.alloc hB4.size _).grown hgrow5 (by simp; have := hB4.size; omega) (own_ge' hown)⟩
      case measure => simp [intOf]; omega

end Go.Proofs.YtfmoophjdgejeaaGreatDoor
