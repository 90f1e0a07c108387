import Derived.Test.YtfmoophjdgejeaaGreatDoorCy
/-
  CellsTuples.
-/
namespace Go.Proofs.YtfmoophjdgejeaaGreatDoor
open Go.RowKit Go.Shelf
attribute [local go_sem] Oper.semAt_some

theorem rows_at {B : Nat} {w : World} {v : Value} {L : List (List Nat)} (h : RowsOf B w v L) (hL : L ≠ []) : ∃ g c, v = .slice (some ⟨g, 0, none⟩) L.length c ∧ g < w.heap.size ∧
    ∀ (k : Nat) t, L[k]? = some t → ∃ p c, w.cell? ⟨g, k, none⟩ = some (.slice p t.length c) ∧ IntsV w (.slice p t.length c) (natL t) := by
  obtain ⟨svs, h1, h2, h3⟩ := h
  have h4 := h2.1
  rcases h4.2 with ⟨_, h5⟩ | ⟨g, cap, cur, rfl, _, hb, _⟩
  · exact absurd (List.length_eq_zero_iff.1 h5) hL
  · refine ⟨g, cap, rfl, (Array.getElem?_eq_some_iff.1 hb).1, fun k t ht => ?_⟩
    have hk := (List.getElem?_eq_some_iff.1 ht).1
    have hs : svs[k]? = some svs[k] := List.getElem?_eq_getElem (by omega)
    have h6 := (h3 k _ t hs ht).1
    obtain ⟨p, c, hp⟩ := row_form h6
    refine ⟨p, c, ?_, ?_⟩
    · rw [h4.cellAt k (by omega), hs, hp]
    · rw [← hp]; exact row_ints h6

theorem InL.at_ : ∀ {ss t : List Nat}, InL ss t → ∀ {j n x : Nat}, ss[j]? = some n → t[j]? = some x → x < n
  | [], [], _, j, n, x, h, _ => by simp at h
  | n' :: ss, y :: t, hin, 0, n, x, h1, h2 => by
    simp only [List.getElem?_cons_zero, Option.some.injEq] at h1 h2
    subst h1 h2
    exact hin.1
  | n' :: ss, y :: t, hin, j + 1, n, x, h1, h2 => InL.at_ hin.2 (by simpa using h1) (by simpa using h2)
  | [], _ :: _, h, _, _, _, _, _ => h.elim
  | _ :: _, [], h, _, _, _, _, _ => h.elim

set_option maxRecDepth 100000 in
set_option maxHeartbeats 12800000 in
theorem tuplesLaw_walk (ss cs : List Int) (sv cv : Value) (w : World) (hs : IntsV w sv ss) (hc : IntsV w cv cs) (hm : MaxAt w) (hl : ss.length ≤ 4611686018427387904) (hlc : cs.length ≤ 4611686018427387904) :
    Calls Tryz.prog 7 #[sv, cv] w fun e w' => e = .returned (.bool true) ∧ Below w.heap.size w w' := by
  have haw := awake_any w hm
  have HTU : Hid (∀ w', Below w.heap.size w w' → Calls Tryz.prog 16 #[sv, cv] w' fun e w2 => ∃ v, e = .returned v ∧ RowsOf w'.heap.size w2 v (tupsOf ss cs) ∧ Below w'.heap.size w' w2) := fun w' h => tuplesAll_any ss cs sv cv w' (hs.later h) (hc.later h) hl hlc
  obtain ⟨p, cap, g, o, rfl, hp, hci⟩ := hs
  obtain ⟨pc, capc, gc, oc, rfl, hpc, hcci⟩ := hc
  have HNO : Hid (tupsOf ss cs = [] → ∀ w', Below w.heap.size w w' → Calls Tryz.prog 16 #[.slice p ss.length cap, .slice pc cs.length capc] w' fun e w2 => (∃ q c, e = .returned (.slice q 0 c)) ∧ Below w'.heap.size w' w2) := fun h0 w' h => by
    refine (HTU.out w' h).mono ?_
    rintro e w2 ⟨v, rfl, ⟨svs, _, hr, _⟩, hb⟩
    rw [h0] at hr
    obtain ⟨q, c, rfl⟩ := row_form hr.1
    exact ⟨⟨q, c, rfl⟩, hb⟩
  have HP := hidden hp
  have HCI := hidden hci
  have HPC := hidden hpc
  have HCC := hidden hcci
  clear hp hci hpc hcci hm hl hlc
  by_cases h12 : (12 : Int) < (ss.length : Int)
  · go_enter Tryz.func7, Tryz.ntmps7
    go_wp2_with fail
    (with_reducible refine haw.mono ?_)
    rintro e w1 ⟨rfl, hB1⟩
    have HB1 := hidden hB1
    clear hB1 haw
    go_wp2_with fail
    go_ret
    exact ⟨rfl, HB1.out⟩
  · by_cases h3 : (3 : Int) < (cs.length : Int)
    · go_enter Tryz.func7, Tryz.ntmps7
      go_wp2_with fail
      (with_reducible refine haw.mono ?_)
      rintro e w1 ⟨rfl, hB1⟩
      have HB1 := hidden hB1
      clear hB1 haw
      go_wp2_with fail
      go_ret
      exact ⟨rfl, HB1.out⟩
    · have hs12 : ss.length ≤ 12 := by omega
      have hc3 : cs.length ≤ 3 := by omega
      go_enter Tryz.func7, Tryz.ntmps7
      go_wp2_with fail
      (with_reducible refine haw.mono ?_)
      rintro e w1 ⟨rfl, hB1⟩
      have HB1 := hidden hB1
      clear hB1 haw
      go_wp2_with fail
      go_loopw [27] (fun i wr => ∃ k : Nat, k ≤ ss.length ∧ i = .int .i64 k ∧ Hid (wr = w1 ∧ soundB (ss.take k) = true)) (fun i _ => ss.length - (intOf i).toNat)
      case atStart => exact ⟨0, Nat.zero_le _, rfl, rfl, rfl⟩
      case round =>
        obtain ⟨k, hk, rfl, hh⟩ := hrel
        by_cases hlt : k < ss.length
        · have hx : ss[k]? = some ss[k] := List.getElem?_eq_getElem hlt
          generalize ss[k] = x at hx
          obtain ⟨rfl, hg⟩ := HP.out (fun h => by rw [h] at hlt; exact absurd hlt (Nat.not_lt_zero _))
          have hBr : Below w.heap.size w wr := by rw [hh.out.1]; exact HB1.out
          have ci : wr.cell? ⟨g, o + k, none⟩ = some (.int .i64 x) := (hBr.cell (p := ⟨g, o + k, none⟩) hg).trans (HCI.out k x hx)
          have hkz : (k : Int) < (ss.length : Int) := by omega
          have HBr := hidden hBr
          have HX := hidden hx
          clear hBr hx
          by_cases hgood : 1 ≤ x ∧ x ≤ 6
          · have hx1 : ¬ x < 1 := by omega
            have hx6 : ¬ 6 < x := by omega
            have HST : Hid (soundB (ss.take (k + 1)) = true) := by
              show _ = _
              rw [take_step HX.out]
              unfold soundB
              rw [List.all_append]
              have h1 := hh.out.2
              unfold soundB at h1
              rw [h1]
              simp [sizeB, hgood.1, hgood.2]
            clear hgood
            go_wp2_with fail
            go_roundw
            case rel => exact ⟨k + 1, hlt, rfl, hh.out.1, HST.out⟩
            case measure => simp [intOf]; omega
          · have h0 : tupsOf ss cs = [] := by
              unfold tupsOf
              rw [if_neg]
              rintro ⟨h1, _⟩
              have h2 := List.all_eq_true.1 h1 x (List.mem_of_getElem? HX.out)
              simp only [sizeB, Bool.and_eq_true, decide_eq_true_eq] at h2
              exact hgood h2
            have hno := HNO.out h0 wr HBr.out
            have hbad : x < 1 ∨ 6 < x := by omega
            clear hgood h0
            rcases hbad with hb | hb
            · go_wp2_with fail
              (with_reducible refine hno.mono ?_)
              rintro e w2 ⟨⟨q, c, rfl⟩, hB2⟩
              have HB2 := hidden (bt HBr.out hB2)
              clear hB2 hno
              go_wp2_with fail
              go_ret
              exact ⟨rfl, HB2.out⟩
            · have hb1 : ¬ x < 1 := by omega
              go_wp2_with fail
              (with_reducible refine hno.mono ?_)
              rintro e w2 ⟨⟨q, c, rfl⟩, hB2⟩
              have HB2 := hidden (bt HBr.out hB2)
              clear hB2 hno
              go_wp2_with fail
              go_ret
              exact ⟨rfl, HB2.out⟩
        · obtain rfl : k = ss.length := by omega
          have hkz : ¬ (ss.length : Int) < (ss.length : Int) := by omega
          obtain ⟨hw, hsnd⟩ := hh.out
          rw [List.take_length] at hsnd
          have HBr : Hid (Below w.heap.size w wr) := by rw [hw]; exact HB1.out
          have HSND := hidden hsnd
          clear hh hlt hw hsnd
          go_wp2_with fail
          obtain ⟨wa, hwa⟩ : ∃ wa, wa = wr := ⟨_, rfl⟩
          subst hwa
          go_loopw [5, 45] (fun pr i wr => ∃ k : Nat, k ≤ cs.length ∧ pr = .int .i64 (prodL (lensL ss (cs.take k)) : Nat) ∧ i = .int .i64 k ∧ Hid (wr = wa ∧ (cs.take k).all (colB ss.length) = true)) (fun _ i _ => cs.length - (intOf i).toNat)
          case atStart => exact ⟨0, Nat.zero_le _, rfl, rfl, rfl, rfl⟩
          case round =>
            obtain ⟨k, hk2, rfl, rfl, hh⟩ := hrel
            by_cases hlt : k < cs.length
            · have hx : cs[k]? = some cs[k] := List.getElem?_eq_getElem hlt
              generalize cs[k] = x at hx
              obtain ⟨rfl, hg⟩ := HPC.out (fun h => by rw [h] at hlt; exact absurd hlt (Nat.not_lt_zero _))
              have hBr : Below w.heap.size w wr := by rw [hh.out.1]; exact HBr.out
              have ci : wr.cell? ⟨gc, oc + k, none⟩ = some (.int .i64 x) := (hBr.cell (p := ⟨gc, oc + k, none⟩) hg).trans (HCC.out k x hx)
              have hkz2 : (k : Int) < (cs.length : Int) := by omega
              have HBr2 := hidden hBr
              have HX := hidden hx
              clear hx
              by_cases hgood : 0 ≤ x ∧ x < ss.length
              · obtain ⟨m, rfl⟩ : ∃ m : Nat, x = m := ⟨x.toNat, by omega⟩
                have hm : m < ss.length := by omega
                have hy0 : ss[m]? = some ss[m] := List.getElem?_eq_getElem hm
                generalize ss[m] = y at hy0
                obtain ⟨y, rfl, hy1, hy2⟩ := sound_at HSND.out hy0
                obtain ⟨rfl, hgs⟩ := HP.out (fun h => by rw [h] at hm; exact absurd hm (Nat.not_lt_zero _))
                have cj : wr.cell? ⟨g, o + m, none⟩ = some (.int .i64 (y : Int)) := (hBr.cell (p := ⟨g, o + m, none⟩) hgs).trans (HCI.out m _ hy0)
                have hm0 : ¬ (m : Int) < 0 := by omega
                have hm1 : (m : Int) < (ss.length : Int) := by omega
                have hm2 : ¬ (ss.length : Int) ≤ (m : Int) := by omega
                have HST : Hid ((cs.take (k + 1)).all (colB ss.length) = true) := by
                  show _ = _
                  rw [take_step HX.out, List.all_append, hh.out.2]
                  simp [colB, hm]
                have hln : lensL ss (cs.take (k + 1)) = lensL ss (cs.take k) ++ [y] := by
                  have h := lens_take (ss := ss) HX.out
                  rw [Int.toNat_natCast, List.getD_eq_getElem?_getD, hy0] at h
                  exact h
                have HPR : Hid (prodL (lensL ss (cs.take (k + 1))) = prodL (lensL ss (cs.take k)) * y) := by
                  show _ = _
                  rw [hln, prod_snoc]
                have hpk : prodL (lensL ss (cs.take k)) ≤ 216 := prod_le (by rw [lens_len, List.length_take]; omega) (fun n hn => (lens_pos HSND.out hh.out.2 n hn).2)
                have hle : prodL (lensL ss (cs.take k)) * y ≤ 216 * 6 := Nat.mul_le_mul hpk hy2
                have hmm : ((prodL (lensL ss (cs.take k)) : Nat) : Int) * (y : Int) = ((prodL (lensL ss (cs.take k)) * y : Nat) : Int) := by rw [Int.natCast_mul]
                have HM := hidden hmm
                have hm3 : ((prodL (lensL ss (cs.take k)) : Nat) : Int) * (y : Int) ≤ 1296 := by rw [hmm]; omega
                have hm4 : 0 ≤ ((prodL (lensL ss (cs.take k)) : Nat) : Int) * (y : Int) := by rw [hmm]; omega
                generalize prodL (lensL ss (cs.take k)) = PP at *
                clear hgood hy0 hln hle hmm hBr
                go_wp2_with fail
                go_roundw
                case rel => exact ⟨k + 1, hlt, by rw [HPR.out, ← HM.out], rfl, hh.out.1, HST.out⟩
                case measure => simp [intOf]; omega
              · have h0 : tupsOf ss cs = [] := by
                  unfold tupsOf
                  rw [if_neg]
                  rintro ⟨_, h1, _⟩
                  have h2 := List.all_eq_true.1 h1 x (List.mem_of_getElem? HX.out)
                  simp only [colB, Bool.and_eq_true, decide_eq_true_eq] at h2
                  exact hgood h2
                have hno := HNO.out h0 wr hBr
                have hbad : x < 0 ∨ (0 ≤ x ∧ (ss.length : Int) ≤ x) := by omega
                clear hgood h0 hBr
                rcases hbad with hb | ⟨hb1, hb⟩
                · go_wp2_with fail
                  (with_reducible refine hno.mono ?_)
                  rintro e w2 ⟨⟨q, c, rfl⟩, hB2⟩
                  have HB2 := hidden (bt HBr2.out hB2)
                  clear hB2 hno
                  go_wp2_with fail
                  go_ret
                  exact ⟨rfl, HB2.out⟩
                · have hb2 : ¬ x < 0 := by omega
                  go_wp2_with fail
                  (with_reducible refine hno.mono ?_)
                  rintro e w2 ⟨⟨q, c, rfl⟩, hB2⟩
                  have HB2 := hidden (bt HBr2.out hB2)
                  clear hB2 hno
                  go_wp2_with fail
                  go_ret
                  exact ⟨rfl, HB2.out⟩
            · obtain rfl : k = cs.length := by omega
              have hkz2 : ¬ (cs.length : Int) < (cs.length : Int) := by omega
              obtain ⟨hw, hco⟩ := hh.out
              rw [List.take_length] at hco ⊢
              have hBr2 : Below w.heap.size w wr := by rw [hw]; exact HBr.out
              have htu := HTU.out wr hBr2
              rw [show tupsOf ss cs = tups (lensL ss cs) from by unfold tupsOf; rw [if_pos ⟨HSND.out, hco, hc3⟩]] at htu
              have hlp := lens_pos HSND.out hco
              have hll := lens_len ss cs
              have HCO := hidden hco
              have HLP := hidden hlp
              have HLL := hidden hll
              have HBr2 := hidden hBr2
              clear hh hlt hw hco hlp hll hBr2
              go_wp2_with fail
              (with_reducible refine htu.mono ?_)
              rintro e w5 ⟨v, rfl, hrows, hB5⟩
              have hpos : Pos (lensL ss cs) := fun n hn => (HLP.out n hn).1
              have hpp := prod_pos hpos
              obtain ⟨rg, rc, rfl, hrg, hrow⟩ := rows_at hrows (fun h => by have h2 := congrArg List.length h; rw [tups_len] at h2; simp at h2; omega)
              rw [tups_len]
              have HB5 := hidden (bt HBr2.out hB5)
              have hp216 : prodL (lensL ss cs) ≤ 216 := prod_le (by rw [HLL.out]; exact hc3) (fun n hn => (HLP.out n hn).2)
              have hls3 := HLL.out
              obtain ⟨ls, hls⟩ : ∃ ls, lensL ss cs = ls := ⟨_, rfl⟩
              rw [hls] at hpp hp216 hpos hrow hls3 ⊢
              have HROW := hidden hrow
              have HPos := hidden hpos
              have HLS := hidden hls
              have HLS3 := hidden hls3
              obtain ⟨PP, hPP⟩ : ∃ PP, prodL ls = PP := ⟨_, rfl⟩
              rw [hPP] at hpp hp216 ⊢
              have HPP := hidden hPP
              clear hrows hB5 hrow hpos htu hls hPP hls3
              go_wp2_with fail
              obtain ⟨wb, hwb⟩ : ∃ wb, wb = w5 := ⟨_, rfl⟩
              subst hwb
              go_loopw [74] (fun i wr => ∃ k : Nat, k ≤ PP ∧ i = .int .i64 k ∧ Hid (wr = wb)) (fun i _ => PP - (intOf i).toNat)
              case atStart => exact ⟨0, Nat.zero_le _, rfl, rfl⟩
              case round =>
                obtain ⟨k, hk3, rfl, hw⟩ := hrel
                obtain rfl := hw.out
                by_cases hlt : k < PP
                · have hkz3 : (k : Int) < (PP : Int) := by omega
                  have hgt := tups_get ls k (by rw [HPP.out]; exact hlt)
                  obtain ⟨rp, rcc, hcell, hint⟩ := HROW.out k _ hgt
                  have hin := tup_in HPos.out k
                  have htl := tup_len ls k
                  rw [htl, HLS3.out] at hcell hint
                  have HIN := hidden hin
                  have HTL := hidden htl
                  have HINT := hidden hint
                  have HGT := hidden hgt
                  have hw0 := hidden hlt
                  clear hgt hin htl hint hw
                  rcases k with _ | kk
                  · go_wp2_with fail
                    obtain ⟨wc, hwc⟩ : ∃ wc, wc = wr := ⟨_, rfl⟩
                    subst hwc
                    go_loopw [100] (fun i wr => ∃ j : Nat, j ≤ cs.length ∧ i = .int .i64 j ∧ Hid (wr = wc)) (fun i _ => cs.length - (intOf i).toNat)
                    case atStart => exact ⟨0, Nat.zero_le _, rfl, rfl⟩
                    case round =>
                      obtain ⟨j, hj, rfl, hw2⟩ := hrel
                      obtain rfl := hw2.out
                      by_cases hlt2 : j < cs.length
                      · have hx : cs[j]? = some cs[j] := List.getElem?_eq_getElem hlt2
                        generalize cs[j] = x at hx
                        obtain ⟨m, rfl, hm⟩ := cols_at HCO.out hx
                        obtain ⟨rfl, hg⟩ := HPC.out (fun h => by rw [h] at hlt2; exact absurd hlt2 (Nat.not_lt_zero _))
                        have hy0 : ss[m]? = some ss[m] := List.getElem?_eq_getElem hm
                        generalize ss[m] = y at hy0
                        obtain ⟨y, rfl, hy1, hy2⟩ := sound_at HSND.out hy0
                        obtain ⟨rfl, hgs⟩ := HP.out (fun h => by rw [h] at hm; exact absurd hm (Nat.not_lt_zero _))
                        have ci : wr.cell? ⟨gc, oc + j, none⟩ = some (.int .i64 (m : Int)) := (HB5.out.cell (p := ⟨gc, oc + j, none⟩) hg).trans (HCC.out j _ hx)
                        have cj : wr.cell? ⟨g, o + m, none⟩ = some (.int .i64 (y : Int)) := (HB5.out.cell (p := ⟨g, o + m, none⟩) hgs).trans (HCI.out m _ hy0)
                        have hly : ls[j]? = some y := by
                          rw [← HLS.out]
                          unfold lensL
                          rw [List.getElem?_map, hx]
                          simp [hy0]
                        have hjl : j < (tupN ls 0).length := by rw [HTL.out, HLS3.out]; exact hlt2
                        have hz0 : (tupN ls 0)[j]? = some (tupN ls 0)[j] := List.getElem?_eq_getElem hjl
                        have hzy := InL.at_ HIN.out hly hz0
                        generalize (tupN ls 0)[j] = z at hz0 hzy
                        obtain ⟨gz, oz, czap, hzv, _, hzc⟩ := IntsV.at_ HINT.out (fun h => by have h2 := congrArg List.length h; rw [natL_len, List.length_nil] at h2; omega)
                        have hzc2 := hzc j (by rw [natL_len]; exact hjl)
                        rw [List.getD_eq_getElem?_getD, natL_get hz0] at hzc2
                        injection hzv with hzv1 hzv2 hzv3
                        subst hzv1
                        clear hzv2 hzv3
                        have hjz : (j : Int) < (cs.length : Int) := by omega
                        have hmz : (m : Int) < (ss.length : Int) := by omega
                        have hzz0 : ¬ (z : Int) < 0 := by omega
                        have hzz1 : ¬ (y : Int) ≤ (z : Int) := by omega
                        simp only [Option.getD_some] at hzc2
                        clear hx hy0 hly hz0 hzc hzy hw2 hjl
                        go_wp2_with fail
                        go_roundw
                        case rel => exact ⟨j + 1, hlt2, rfl, trivial⟩
                        case measure => simp [intOf]; omega
                      · obtain rfl : j = cs.length := by omega
                        have hjz : ¬ (cs.length : Int) < (cs.length : Int) := by omega
                        clear hlt2 hw2
                        go_wp2_with fail
                        go_roundw
                        case rel => exact ⟨0 + 1, hw0.out, rfl, trivial⟩
                        case measure => simp [intOf]; have := hw0.out; omega
                  · obtain ⟨rp2, rcc2, hcell2, hint2⟩ := HROW.out kk _ (tups_get ls kk (by rw [HPP.out]; omega))
                    rw [tup_len, HLS3.out] at hcell2 hint2
                    have hcm : Calls Tryz.prog 28 #[.slice rp2 cs.length rcc2, .slice rp cs.length rcc] wr fun e w' => e = .returned (.int .i64 (-1)) ∧ w' = wr := by
                      have h := intsCompare_any _ _ wr hint2 HINT.out (by rw [tup_len, tup_len]) (by rw [tup_len, HLS3.out]; omega)
                      rw [tups_cmp HPos.out (by rw [HPP.out]; exact hw0.out)] at h
                      exact h
                    clear hint2
                    go_wp2_with fail
                    (with_reducible refine hcm.mono ?_)
                    rintro e w7 ⟨rfl, hw7⟩
                    rw [hw7]
                    clear hw7
                    go_wp2_with fail
                    obtain ⟨wc, hwc⟩ : ∃ wc, wc = wr := ⟨_, rfl⟩
                    subst hwc
                    go_loopw [100] (fun i wr => ∃ j : Nat, j ≤ cs.length ∧ i = .int .i64 j ∧ Hid (wr = wc)) (fun i _ => cs.length - (intOf i).toNat)
                    case atStart => exact ⟨0, Nat.zero_le _, rfl, rfl⟩
                    case round =>
                      obtain ⟨j, hj, rfl, hw2⟩ := hrel
                      obtain rfl := hw2.out
                      by_cases hlt2 : j < cs.length
                      · have hx : cs[j]? = some cs[j] := List.getElem?_eq_getElem hlt2
                        generalize cs[j] = x at hx
                        obtain ⟨m, rfl, hm⟩ := cols_at HCO.out hx
                        obtain ⟨rfl, hg⟩ := HPC.out (fun h => by rw [h] at hlt2; exact absurd hlt2 (Nat.not_lt_zero _))
                        have hy0 : ss[m]? = some ss[m] := List.getElem?_eq_getElem hm
                        generalize ss[m] = y at hy0
                        obtain ⟨y, rfl, hy1, hy2⟩ := sound_at HSND.out hy0
                        obtain ⟨rfl, hgs⟩ := HP.out (fun h => by rw [h] at hm; exact absurd hm (Nat.not_lt_zero _))
                        have ci : wr.cell? ⟨gc, oc + j, none⟩ = some (.int .i64 (m : Int)) := (HB5.out.cell (p := ⟨gc, oc + j, none⟩) hg).trans (HCC.out j _ hx)
                        have cj : wr.cell? ⟨g, o + m, none⟩ = some (.int .i64 (y : Int)) := (HB5.out.cell (p := ⟨g, o + m, none⟩) hgs).trans (HCI.out m _ hy0)
                        have hly : ls[j]? = some y := by
                          rw [← HLS.out]
                          unfold lensL
                          rw [List.getElem?_map, hx]
                          simp [hy0]
                        have hjl : j < (tupN ls (kk + 1)).length := by rw [HTL.out, HLS3.out]; exact hlt2
                        have hz0 : (tupN ls (kk + 1))[j]? = some (tupN ls (kk + 1))[j] := List.getElem?_eq_getElem hjl
                        have hzy := InL.at_ HIN.out hly hz0
                        generalize (tupN ls (kk + 1))[j] = z at hz0 hzy
                        obtain ⟨gz, oz, czap, hzv, _, hzc⟩ := IntsV.at_ HINT.out (fun h => by have h2 := congrArg List.length h; rw [natL_len, List.length_nil] at h2; omega)
                        have hzc2 := hzc j (by rw [natL_len]; exact hjl)
                        rw [List.getD_eq_getElem?_getD, natL_get hz0] at hzc2
                        injection hzv with hzv1 hzv2 hzv3
                        subst hzv1
                        clear hzv2 hzv3
                        have hjz : (j : Int) < (cs.length : Int) := by omega
                        have hmz : (m : Int) < (ss.length : Int) := by omega
                        have hzz0 : ¬ (z : Int) < 0 := by omega
                        have hzz1 : ¬ (y : Int) ≤ (z : Int) := by omega
                        simp only [Option.getD_some] at hzc2
                        clear hx hy0 hly hz0 hzc hzy hw2 hjl
                        go_wp2_with fail
                        go_roundw
                        case rel => exact ⟨j + 1, hlt2, rfl, trivial⟩
                        case measure => simp [intOf]; omega
                      · obtain rfl : j = cs.length := by omega
                        have hjz : ¬ (cs.length : Int) < (cs.length : Int) := by omega
                        clear hlt2 hw2
                        go_wp2_with fail
                        go_roundw
                        case rel => exact ⟨(kk + 1) + 1, hw0.out, rfl, trivial⟩
                        case measure => simp [intOf]; have := hw0.out; omega
                · obtain rfl : k = PP := by omega
                  have hkz3 : ¬ (k : Int) < (k : Int) := by omega
                  clear hlt hw
                  go_wp2_with fail
                  go_ret
                  exact ⟨by simp, HB5.out⟩

end Go.Proofs.YtfmoophjdgejeaaGreatDoor
