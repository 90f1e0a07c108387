import Derived.Test.YtdcpfpifecnfmaaGreatDoorRb
import Derived.Test.YtdcpfpifecnfmaaGreatDoorMr
import Derived.Deep.RegionHeld3
/-
  The reference's token.
-/
namespace Go.Proofs.YtdcpfpifecnfmaaGreatDoor
open Go.RowKit Go.Shelf Go.Lib

/-- Has, of the keywords. -/
theorem hasKw_any (y : ByteArray) (w : World) :
    Calls Tryz.prog 55 #[.slice (some ⟨w.heap.size, 0, none⟩) 35 35, .string y] (w.alloc (.cells (kwBytes.map Value.string).toArray 9)).drew fun e w' => e = .returned (.bool (decide (y.data.toList ∈ kwords))) ∧ (w.alloc (.cells (kwBytes.map Value.string).toArray 9)).drew = w' := by
  have h := refHas_any ((Strs.lit w kwBytes).below (below_drewN (Below.refl _ _) 1)) (by decide) (by decide) y
  have e : hasB kwBytes y = decide (y.data.toList ∈ kwords) := by
    by_cases hy : y.data.toList ∈ kwords
    · rw [decide_eq_true hy]
      refine hasB_yes (List.mem_map.2 ⟨_, hy, ?_⟩)
      simp
    · rw [decide_eq_false hy]
      refine hasB_no fun h => ?_
      obtain ⟨k, hk, rfl⟩ := List.mem_map.1 h
      simp at hy
      exact hy hk
  rw [e] at h
  exact h

/-- The kind that the reference gives. -/
def refKind (s : ByteArray) (k : Nat) : Nat := if (tokF (s.data.toList.drop k)).1 = 1 ∧ (s.extract k (k + (tokF (s.data.toList.drop k)).2)).data.toList ∈ kwords then 2 else (tokF (s.data.toList.drop k)).1

theorem tokKeep {w w' w'' : World} (h : Hid (Below w.heap.size w w')) (hb : Below w'.heap.size w' w'') : Hid (Below w.heap.size w w'') := bt h.out hb

set_option maxRecDepth 100000 in
set_option maxHeartbeats 3200000 in
theorem refToken_letter (s : ByteArray) (hs : s.size ≤ 4096) (k : Nat) (hk : k < s.size) (hl : letterB s[k] = true) (w : World) :
    Calls Tryz.prog 32 #[.string s, .int .i64 k] w fun e w' =>
      e = .returned (.tuple #[.int .i64 (refKind s k : Nat), .int .i64 ((k + (tokF (s.data.toList.drop k)).2 : Nat) : Int)]) ∧ Below w.heap.size w w' := by
  have hg := getD_bytes s k hk
  have hbl := bytes_len s
  have hdr := drop_get s.data.toList k (by rw [hbl]; exact hk)
  rw [hg] at hdr
  have ht : tokF (s.data.toList.drop k) = (1, ((s.data.toList.drop (k + 1)).takeWhile partB).length + 1) := by rw [hdr, tokF, if_pos hl]
  have hr := runTo_tok partB s.data.toList k (by rw [hbl]; exact hk) (by rw [hg]; unfold partB; rw [hl]; rfl)
  have hru := runTo_le partB s.data.toList k (by rw [hbl]; omega)
  rw [hbl] at hru
  have hrk : refKind s k = if (s.extract k (runTo partB s.data.toList k)).data.toList ∈ kwords then 2 else 1 := by
    unfold refKind
    rw [ht, hr]
    by_cases h : (s.extract k (k + (((s.data.toList.drop (k + 1)).takeWhile partB).length + 1))).data.toList ∈ kwords
    · rw [if_pos ⟨rfl, h⟩, if_pos h]
    · rw [if_neg (fun hh => h hh.2), if_neg h]
  rw [ht]
  rw [← hr, hrk]
  have hle0 := fun w' => refLetter_any s[k] w'
  rw [hl] at hle0
  have hkr : k ≤ runTo partB s.data.toList k := by unfold runTo; omega
  have hkw := fun w' => refKeywords_any w'
  have hhas := fun w' => hasKw_any (s.extract k (runTo partB s.data.toList k)) w'
  obtain ⟨c, hc⟩ : ∃ c, decide ((s.extract k (runTo partB s.data.toList k)).data.toList ∈ kwords) = c := ⟨_, rfl⟩
  have HV : Hid ((if (s.extract k (runTo partB s.data.toList k)).data.toList ∈ kwords then 2 else 1) = if c = true then 2 else 1) := by
    rw [← hc]
    show _ = _
    by_cases h : (s.extract k (runTo partB s.data.toList k)).data.toList ∈ kwords
    · rw [if_pos h, decide_eq_true h]; rfl
    · rw [if_neg h, decide_eq_false h]; rfl
  rw [hc] at hhas
  rw [HV.out]
  have HL : Hid (s.data.toList.length = s.size) := hbl
  clear hrk ht hr hdr hg hbl hc HV hl
  obtain ⟨R, hR⟩ : ∃ R, runTo partB s.data.toList k = R := ⟨_, rfl⟩
  rw [hR] at hhas hru hkr ⊢
  have HR := hidden hR
  clear hR
  go_enter Tryz.func32, Tryz.ntmps32
  go_wp2_with (go_at_call 53; (with_reducible refine (hle0 _).mono ?_); rintro e w1 ⟨rfl, rfl⟩)
  go_loop [6] (fun i => ∃ j : Nat, j ≤ s.size ∧ i = .int .i64 j ∧ Hid (R = runTo partB s.data.toList j)) (fun i => s.size - (intOf i).toNat)
  case atStart => exact ⟨k, by omega, rfl, HR.out.symm⟩
  case round =>
    obtain ⟨j, hj, rfl, hr⟩ := hrel
    clear hle0
    by_cases hlt : j < s.size
    · have hle := fun w' => refLetter_any s[j] w'
      have hdi := fun w' => refDigit_any s[j] w'
      have hg := getD_bytes s j hlt
      have hgo : partB s[j] = true → Hid (R = runTo partB s.data.toList (j + 1)) := fun h => hr.out.trans (runTo_yes _ _ _ (by rw [HL.out]; exact hlt) (by rw [hg]; exact h))
      have hno : partB s[j] = false → R = j := fun h => hr.out.trans (runTo_no _ _ _ (by rw [HL.out]; exact hlt) (by rw [hg]; exact h))
      unfold partB at hgo hno
      cases h1 : letterB s[j] with
      | true =>
        rw [h1] at hle hgo
        have HS := hgo rfl
        clear hgo hno h1 hg hdi
        go_wp2_with (go_at_call 53; (with_reducible refine (hle _).mono ?_); rintro e w1 ⟨rfl, rfl⟩)
        go_round
        case rel => exact ⟨j + 1, by omega, by go_num, HS⟩
        case measure => simp [intOf]; omega
      | false =>
        rw [h1] at hle hgo hno
        cases h2 : digitB s[j] with
        | true =>
          rw [h2] at hdi hgo
          have HS := hgo rfl
          clear hgo hno h1 h2 hg
          go_wp2_with (first | (go_at_call 53; (with_reducible refine (hle _).mono ?_); rintro e w1 ⟨rfl, rfl⟩) | (go_at_call 54; (with_reducible refine (hdi _).mono ?_); rintro e w1 ⟨rfl, rfl⟩))
          go_round
          case rel => exact ⟨j + 1, by omega, by go_num, HS⟩
          case measure => simp [intOf]; omega
        | false =>
          rw [h2] at hdi hgo hno
          by_cases h3 : s[j] = 95
          · have b3 : ((s[j].toNat : Int) == 95) = true := by rw [h3]; rfl
            have HS := hgo (by rw [h3]; rfl)
            clear hgo hno h1 h2 h3 hg
            go_wp2_with (first | (go_at_call 53; (with_reducible refine (hle _).mono ?_); rintro e w1 ⟨rfl, rfl⟩) | (go_at_call 54; (with_reducible refine (hdi _).mono ?_); rintro e w1 ⟨rfl, rfl⟩))
            go_round
            case rel => exact ⟨j + 1, by omega, by go_num, HS⟩
            case measure => simp [intOf]; omega
          · have b3 : ((s[j].toNat : Int) == 95) = false := byte_ne (c := 95) h3
            have hRj := hno (by simpa using h3)
            subst hRj
            clear hgo hno h1 h2 h3 hg
            go_wp2_with (first | (go_at_call 53; (with_reducible refine (hle _).mono ?_); rintro e w1 ⟨rfl, rfl⟩) | (go_at_call 54; (with_reducible refine (hdi _).mono ?_); rintro e w1 ⟨rfl, rfl⟩))
            cases c
            all_goals
              go_region_held3 (fun w' => Hid (Below w.heap.size w w'))
                (first | assumption | (exact tokKeep (by assumption) (by assumption)) | (exact (Below.refl _ _ : Below w.heap.size w w)) | (exact below_drewN (Below.refl w.heap.size w) 1) | (exact below_drewN ((Below.refl w.heap.size w).alloc (Nat.le_refl _) _) 1))
                (first | (go_at_call 56; (with_reducible refine (hkw _).mono ?_); rintro e w4 ⟨rfl, rfl⟩) | (go_at_call 55; (with_reducible refine (hhas _).mono ?_); rintro e w5 ⟨rfl, rfl⟩))
              go_wp2_with fail
              go_ret2
              exact ⟨rfl, below_drewN ((Below.refl w.heap.size w).alloc (Nat.le_refl _) _) 1⟩
    · have hRj : R = s.size := by
        have : j = s.size := by omega
        rw [hr.out, this]
        have := runTo_end partB s.data.toList
        rwa [HL.out] at this
      have hjs : j = s.size := by omega
      subst hjs
      subst hRj
      clear hlt hr
      go_wp2_with fail
      cases c
      all_goals
        go_region_held3 (fun w' => Hid (Below w.heap.size w w'))
          (first | assumption | (exact tokKeep (by assumption) (by assumption)) | (exact (Below.refl _ _ : Below w.heap.size w w)) | (exact below_drewN (Below.refl w.heap.size w) 1) | (exact below_drewN ((Below.refl w.heap.size w).alloc (Nat.le_refl _) _) 1))
          (first | (go_at_call 56; (with_reducible refine (hkw _).mono ?_); rintro e w4 ⟨rfl, rfl⟩) | (go_at_call 55; (with_reducible refine (hhas _).mono ?_); rintro e w5 ⟨rfl, rfl⟩))
        go_wp2_with fail
        go_ret2
        exact ⟨rfl, below_drewN ((Below.refl w.heap.size w).alloc (Nat.le_refl _) _) 1⟩

set_option maxRecDepth 100000 in
set_option maxHeartbeats 3200000 in
theorem refToken_digit (s : ByteArray) (hs : s.size ≤ 4096) (k : Nat) (hk : k < s.size) (hl : letterB s[k] = false) (hd : digitB s[k] = true) (w : World) :
    Calls Tryz.prog 32 #[.string s, .int .i64 k] w fun e w' =>
      e = .returned (.tuple #[.int .i64 (refKind s k : Nat), .int .i64 ((k + (tokF (s.data.toList.drop k)).2 : Nat) : Int)]) ∧ Below w.heap.size w w' := by
  have hg := getD_bytes s k hk
  have hbl := bytes_len s
  have hdr := drop_get s.data.toList k (by rw [hbl]; exact hk)
  rw [hg] at hdr
  have ht : tokF (s.data.toList.drop k) = (3, ((s.data.toList.drop (k + 1)).takeWhile digitB).length + 1) := by rw [hdr, tokF, if_neg (by rw [hl]; simp), if_pos hd]
  have hr := runTo_tok digitB s.data.toList k (by rw [hbl]; exact hk) (by rw [hg]; exact hd)
  have hru := runTo_le digitB s.data.toList k (by rw [hbl]; omega)
  rw [hbl] at hru
  have hrk : refKind s k = 3 := by unfold refKind; rw [ht]; simp
  rw [hrk, ht]
  rw [← hr]
  have hle0 := fun w' => refLetter_any s[k] w'
  have hdi0 := fun w' => refDigit_any s[k] w'
  rw [hl] at hle0
  rw [hd] at hdi0
  have HL : Hid (s.data.toList.length = s.size) := hbl
  clear hrk ht hr hdr hg hbl hl hd
  obtain ⟨R, hR⟩ : ∃ R, runTo digitB s.data.toList k = R := ⟨_, rfl⟩
  rw [hR] at hru ⊢
  have HR := hidden hR
  clear hR
  go_enter Tryz.func32, Tryz.ntmps32
  go_wp2_with (first | (go_at_call 53; (with_reducible refine (hle0 _).mono ?_); rintro e w1 ⟨rfl, rfl⟩) | (go_at_call 54; (with_reducible refine (hdi0 _).mono ?_); rintro e w1 ⟨rfl, rfl⟩))
  go_loop [6] (fun i => ∃ j : Nat, j ≤ s.size ∧ i = .int .i64 j ∧ Hid (R = runTo digitB s.data.toList j)) (fun i => s.size - (intOf i).toNat)
  case atStart => exact ⟨k, by omega, rfl, HR.out.symm⟩
  case round =>
    obtain ⟨j, hj, rfl, hr⟩ := hrel
    clear hle0 hdi0
    by_cases hlt : j < s.size
    · have hdi := fun w' => refDigit_any s[j] w'
      have hg := getD_bytes s j hlt
      have hgo : digitB s[j] = true → Hid (R = runTo digitB s.data.toList (j + 1)) := fun h => hr.out.trans (runTo_yes _ _ _ (by rw [HL.out]; exact hlt) (by rw [hg]; exact h))
      have hno : digitB s[j] = false → R = j := fun h => hr.out.trans (runTo_no _ _ _ (by rw [HL.out]; exact hlt) (by rw [hg]; exact h))
      cases h2 : digitB s[j] with
      | true =>
        rw [h2] at hdi
        have HS := hgo h2
        clear hgo hno h2 hg
        go_wp2_with (go_at_call 54; (with_reducible refine (hdi _).mono ?_); rintro e w1 ⟨rfl, rfl⟩)
        go_round
        case rel => exact ⟨j + 1, by omega, by go_num, HS⟩
        case measure => simp [intOf]; omega
      | false =>
        rw [h2] at hdi
        have hRj := hno h2
        subst hRj
        clear hgo hno h2 hg
        go_wp2_with (go_at_call 54; (with_reducible refine (hdi _).mono ?_); rintro e w1 ⟨rfl, rfl⟩)
        go_ret2
        exact ⟨rfl, Below.refl _ _⟩
    · have hRj : R = s.size := by
        have : j = s.size := by omega
        rw [hr.out, this]
        have := runTo_end digitB s.data.toList
        rwa [HL.out] at this
      have hjs : j = s.size := by omega
      subst hjs
      subst hRj
      clear hlt hr
      go_wp2_with fail
      go_ret2
      exact ⟨rfl, Below.refl _ _⟩

set_option maxRecDepth 100000 in
set_option maxHeartbeats 3200000 in
theorem refToken_symbol (s : ByteArray) (hs : s.size ≤ 4096) (k : Nat) (hk : k < s.size) (hl : letterB s[k] = false) (hd : digitB s[k] = false) (h0 : 0 < symL (s.data.toList.drop k)) (w : World) :
    Calls Tryz.prog 32 #[.string s, .int .i64 k] w fun e w' =>
      e = .returned (.tuple #[.int .i64 (refKind s k : Nat), .int .i64 ((k + (tokF (s.data.toList.drop k)).2 : Nat) : Int)]) ∧ Below w.heap.size w w' := by
  have hg := getD_bytes s k hk
  have hbl := bytes_len s
  have hdr := drop_get s.data.toList k (by rw [hbl]; exact hk)
  rw [hg] at hdr
  have hsl := symL_le (s.data.toList.drop k)
  rw [List.length_drop, hbl] at hsl
  have hsy := fun w' => refSymbol_any s hs k (by omega) w'
  have ht : tokF (s.data.toList.drop k) = (4, symL (s.data.toList.drop k)) := by rw [hdr] at h0 ⊢; rw [tokF, if_neg (by rw [hl]; simp), if_neg (by rw [hd]; simp), if_pos h0]
  have hrk : refKind s k = 4 := by unfold refKind; rw [ht]; simp
  rw [hrk, ht]
  have hle0 := fun w' => refLetter_any s[k] w'
  have hdi0 := fun w' => refDigit_any s[k] w'
  rw [hl] at hle0
  rw [hd] at hdi0
  generalize symL (s.data.toList.drop k) = n at *
  have hp : (0 : Int) < (n : Int) := by omega
  clear hrk ht hdr hg hbl hl hd h0
  go_enter Tryz.func32, Tryz.ntmps32
  go_wp2_with (first | (go_at_call 53; (with_reducible refine (hle0 _).mono ?_); rintro e w1 ⟨rfl, rfl⟩) | (go_at_call 54; (with_reducible refine (hdi0 _).mono ?_); rintro e w1 ⟨rfl, rfl⟩) | (go_at_call 57; (with_reducible refine (hsy _).mono ?_); rintro e w1 ⟨rfl, hB1⟩))
  go_ret2
  exact ⟨by congr 3, hB1⟩

set_option maxRecDepth 100000 in
set_option maxHeartbeats 3200000 in
theorem refToken_wrong (s : ByteArray) (hs : s.size ≤ 4096) (k : Nat) (hk : k < s.size) (hw : whiteB s[k] = false) (hc : s[k] ≠ 35) (hl : letterB s[k] = false) (hd : digitB s[k] = false) (h0 : symL (s.data.toList.drop k) = 0) (w : World) :
    Calls Tryz.prog 32 #[.string s, .int .i64 k] w fun e w' =>
      e = .returned (.tuple #[.int .i64 (refKind s k : Nat), .int .i64 ((k + (tokF (s.data.toList.drop k)).2 : Nat) : Int)]) ∧ Below w.heap.size w w' := by
  have hg := getD_bytes s k hk
  have hbl := bytes_len s
  have hdr := drop_get s.data.toList k (by rw [hbl]; exact hk)
  rw [hg] at hdr
  have hsy := fun w' => refSymbol_any s hs k (by omega) w'
  have ht : tokF (s.data.toList.drop k) = (5, wrongF (s.data.toList.drop (k + 1)) + 1) := by rw [hdr] at h0 ⊢; rw [tokF, if_neg (by rw [hl]; simp), if_neg (by rw [hd]; simp), if_neg (by omega)]
  have hr : wrongTo s.data.toList k = k + (wrongF (s.data.toList.drop (k + 1)) + 1) := by
    unfold wrongTo
    have he : endsB (s.data.toList.drop k) = false := by
      rw [hdr] at h0 ⊢
      show (whiteB s[k] || s[k] == 35 || letterB s[k] || digitB s[k] || decide (0 < symL (s[k] :: s.data.toList.drop (k + 1)))) = false
      rw [hw, hl, hd, h0]
      simpa using hc
    rw [hdr] at he ⊢
    rw [wrongF, if_neg (by rw [he]; simp)]
  have hru : wrongTo s.data.toList k ≤ s.size := by
    unfold wrongTo
    have := wrongF_le (s.data.toList.drop k)
    rw [List.length_drop, hbl] at this
    omega
  have hrk : refKind s k = 5 := by unfold refKind; rw [ht]; simp
  rw [hrk, ht]
  rw [← hr]
  have hle0 := fun w' => refLetter_any s[k] w'
  have hdi0 := fun w' => refDigit_any s[k] w'
  rw [hl] at hle0
  rw [hd] at hdi0
  rw [h0] at hsy
  have HL : Hid (s.data.toList.length = s.size) := hbl
  clear hrk ht hr hdr hg hbl hl hd h0 hw hc
  obtain ⟨R, hR⟩ : ∃ R, wrongTo s.data.toList k = R := ⟨_, rfl⟩
  rw [hR] at hru ⊢
  have HR := hidden hR
  clear hR
  go_enter Tryz.func32, Tryz.ntmps32
  go_wp2_with (first | (go_at_call 53; (with_reducible refine (hle0 _).mono ?_); rintro e w1 ⟨rfl, rfl⟩) | (go_at_call 54; (with_reducible refine (hdi0 _).mono ?_); rintro e w1 ⟨rfl, rfl⟩) | (go_at_call 57; (with_reducible refine (hsy _).mono ?_); rintro e w1 ⟨rfl, hB1⟩))
  have HB1 := hidden hB1
  clear hle0 hdi0 hsy hB1
  go_loopw [6] (fun i wr => ∃ j : Nat, j ≤ s.size ∧ i = .int .i64 j ∧ Hid (R = wrongTo s.data.toList j) ∧ Hid (Below w.heap.size w wr)) (fun i _ => s.size - (intOf i).toNat)
  case atStart => exact ⟨k, by omega, rfl, HR.out.symm, HB1⟩
  case round =>
    obtain ⟨j, hj, rfl, hr, hb⟩ := hrel
    by_cases hlt : j < s.size
    · have hwh := fun w' => refWhite_any s[j] w'
      have hle := fun w' => refLetter_any s[j] w'
      have hdi := fun w' => refDigit_any s[j] w'
      have hsy := fun w' => refSymbol_any s hs j (by omega) w'
      have hg := getD_bytes s j hlt
      have hdj := drop_get s.data.toList j (by rw [HL.out]; exact hlt)
      rw [hg] at hdj
      have hgo : endsB (s.data.toList.drop j) = false → Hid (R = wrongTo s.data.toList (j + 1)) := fun h => hr.out.trans (wrongTo_go _ _ (by rw [HL.out]; exact hlt) h)
      have hno : endsB (s.data.toList.drop j) = true → R = j := fun h => hr.out.trans (wrongTo_stop _ _ (by rw [HL.out]; exact hlt) h)
      have he : endsB (s.data.toList.drop j) = (whiteB s[j] || s[j] == 35 || letterB s[j] || digitB s[j] || decide (0 < symL (s.data.toList.drop j))) := by rw [hdj]; rfl
      rw [he] at hgo hno
      clear he hdj hg
      have hz := hb.out.size
      cases h1 : whiteB s[j] with
      | true =>
        rw [h1] at hwh
        have hRj := hno (by rw [h1]; simp)
        subst hRj
        clear hgo hno h1 hr
        go_wp2_with (first | (go_at_call 52; (with_reducible refine (hwh _).mono ?_); rintro e w2 ⟨rfl, rfl⟩))
        go_ret2
        exact ⟨rfl, hb.out⟩
      | false =>
        rw [h1] at hwh hgo hno
        by_cases h2 : s[j] = 35
        · have hRj := hno (by rw [h2]; simp)
          have b2 : ((s[j].toNat : Int) != 35) = false := by rw [h2]; rfl
          subst hRj
          clear hgo hno h1 hr h2
          go_wp2_with (first | (go_at_call 52; (with_reducible refine (hwh _).mono ?_); rintro e w2 ⟨rfl, rfl⟩))
          go_ret2
          exact ⟨rfl, hb.out⟩
        · have b2 : ((s[j].toNat : Int) != 35) = true := by
            show (!((s[j].toNat : Int) == 35)) = true
            rw [show ((s[j].toNat : Int) == 35) = false from byte_ne (c := 35) h2]; rfl
          have b2' : (s[j] == 35) = false := by simpa using h2
          rw [b2'] at hgo hno
          clear h2 b2'
          cases h3 : letterB s[j] with
          | true =>
            rw [h3] at hle
            have hRj := hno (by rw [h3]; simp)
            subst hRj
            clear hgo hno h1 hr h3
            go_wp2_with (first | (go_at_call 52; (with_reducible refine (hwh _).mono ?_); rintro e w2 ⟨rfl, rfl⟩) | (go_at_call 53; (with_reducible refine (hle _).mono ?_); rintro e w2 ⟨rfl, rfl⟩))
            go_ret2
            exact ⟨rfl, hb.out⟩
          | false =>
            rw [h3] at hle hgo hno
            cases h4 : digitB s[j] with
            | true =>
              rw [h4] at hdi
              have hRj := hno (by rw [h4]; simp)
              subst hRj
              clear hgo hno h1 hr h3 h4
              go_wp2_with (first | (go_at_call 52; (with_reducible refine (hwh _).mono ?_); rintro e w2 ⟨rfl, rfl⟩) | (go_at_call 53; (with_reducible refine (hle _).mono ?_); rintro e w2 ⟨rfl, rfl⟩) | (go_at_call 54; (with_reducible refine (hdi _).mono ?_); rintro e w2 ⟨rfl, rfl⟩))
              go_ret2
              exact ⟨rfl, hb.out⟩
            | false =>
              rw [h4] at hdi hgo hno
              by_cases h5 : symL (s.data.toList.drop j) = 0
              · rw [h5] at hsy
                have HS := hgo (by rw [h5]; rfl)
                clear hgo hno h1 h3 h4 h5
                go_wp2_with (first | (go_at_call 52; (with_reducible refine (hwh _).mono ?_); rintro e w2 ⟨rfl, rfl⟩) | (go_at_call 53; (with_reducible refine (hle _).mono ?_); rintro e w2 ⟨rfl, rfl⟩) | (go_at_call 54; (with_reducible refine (hdi _).mono ?_); rintro e w2 ⟨rfl, rfl⟩) | (go_at_call 57; (with_reducible refine (hsy _).mono ?_); rintro e w3 ⟨rfl, hB3⟩))
                go_roundw
                case rel => exact ⟨j + 1, by omega, by go_num, HS, bt hb.out hB3⟩
                case measure => simp [intOf]; omega
              · have hRj := hno (by simp; omega)
                generalize symL (s.data.toList.drop j) = n at *
                have b5 : ((n : Int) == 0) = false := by rw [beq_eq_false_iff_ne]; omega
                subst hRj
                clear hgo hno h1 h3 h4 h5 hr
                go_wp2_with (first | (go_at_call 52; (with_reducible refine (hwh _).mono ?_); rintro e w2 ⟨rfl, rfl⟩) | (go_at_call 53; (with_reducible refine (hle _).mono ?_); rintro e w2 ⟨rfl, rfl⟩) | (go_at_call 54; (with_reducible refine (hdi _).mono ?_); rintro e w2 ⟨rfl, rfl⟩) | (go_at_call 57; (with_reducible refine (hsy _).mono ?_); rintro e w3 ⟨rfl, hB3⟩))
                go_ret2
                exact ⟨rfl, bt hb.out hB3⟩
    · have hjs : j = s.size := by omega
      subst hjs
      have hRj : R = s.size := by
        rw [hr.out]
        have := wrongTo_end s.data.toList
        rwa [HL.out] at this
      subst hRj
      clear hlt hr
      go_wp2_with fail
      go_ret2
      exact ⟨rfl, hb.out⟩

theorem refToken_any (s : ByteArray) (hs : s.size ≤ 4096) (k : Nat) (hk : k < s.size) (hw : whiteB s[k] = false) (hc : s[k] ≠ 35) (w : World) :
    Calls Tryz.prog 32 #[.string s, .int .i64 k] w fun e w' =>
      e = .returned (.tuple #[.int .i64 (refKind s k : Nat), .int .i64 ((k + (tokF (s.data.toList.drop k)).2 : Nat) : Int)]) ∧ Below w.heap.size w w' := by
  cases hl : letterB s[k] with
  | true => exact refToken_letter s hs k hk hl w
  | false =>
    cases hd : digitB s[k] with
    | true => exact refToken_digit s hs k hk hl hd w
    | false =>
      by_cases h0 : symL (s.data.toList.drop k) = 0
      · exact refToken_wrong s hs k hk hw hc hl hd h0 w
      · exact refToken_symbol s hs k hk hl hd (by omega) w

end Go.Proofs.YtdcpfpifecnfmaaGreatDoor
