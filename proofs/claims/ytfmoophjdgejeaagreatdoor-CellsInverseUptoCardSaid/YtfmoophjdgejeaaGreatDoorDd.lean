import Derived.Test.YtfmoophjdgejeaaGreatDoorDc
/-
  CellsInverse.
-/
namespace Go.Proofs.YtfmoophjdgejeaaGreatDoor
open Go.RowKit Go.Shelf
attribute [local go_sem] Oper.semAt_some

theorem tupAt_ints {w : World} {T C : Nat} {l : List Nat} (h : TupAt w T l) (hT : T < w.heap.size) : IntsV w (.slice (some ⟨T, 0, none⟩) l.length C) (natL l) := by
  refine ⟨some ⟨T, 0, none⟩, C, T, 0, by rw [natL_len], fun _ => ⟨rfl, hT⟩, fun i z hz => ?_⟩
  have hi : i < l.length := by have := (List.getElem?_eq_some_iff.1 hz).1; rwa [natL_len] at this
  rw [natL_get (List.getElem?_eq_getElem hi)] at hz
  cases hz
  rw [Nat.zero_add]
  exact h.1 i _ (List.getElem?_eq_getElem hi)

set_option maxRecDepth 100000 in
set_option maxHeartbeats 12800000 in
theorem inverseLaw_walk (ss : List Int) (ts : List Tab) (sv tv : Value) (w : World) (hs : IntsV w sv ss) (ht : TabsV w tv ts) (hm : MaxAt w) (hl : ss.length ≤ 1048576) (hlt : ts.length ≤ 1048576) :
    Calls Tryz.prog 5 #[sv, tv] w fun e w' => e = .returned (.bool true) ∧ Below w.heap.size w w' := by
  have haw := awake_any w hm
  have hfew := fun w' (h : Below w.heap.size w w') => few_any ss ts sv tv w' (hs.later h) (ht.later h) hl hlt
  have hs2 := hs
  have ht2 := ht
  obtain ⟨p, cap, g, o, rfl, _, _⟩ := hs
  obtain ⟨q, tcap, tg, to, ks, rfl, hqp, hat⟩ := ht
  by_cases hf : fewB ss ts = true
  · obtain ⟨hf1, hf2, hf3⟩ := few_parts hf
    have hsm : ∀ t ∈ ts, t.name.size ≤ 4096 ∧ t.cols.length ≤ 4611686018427387904 := fun t h => ⟨by have := (hf1 t h).1; omega, by have := (hf1 t h).2; omega⟩
    have hva := fun w' (h : Below w.heap.size w w') => validAll_any ss ts _ _ w' (hs2.later h) (ht2.later h) (by omega) (by omega) hsm (hm.keep h)
    rw [hf] at hfew
    by_cases hv : validB ss ts = true
    · rw [hv] at hva
      have HCO : Hid (∀ isS w', Below w.heap.size w w' → Calls Tryz.prog 18 #[.slice p ss.length cap, .slice q ts.length tcap, .bool isS] w' fun e w2 => e = .returned (.int .i64 ((cellsOf ss ts isS).length : Int)) ∧ Below w'.heap.size w' w2) :=
        fun isS w' h => count_any ss ts isS _ _ w' (hs2.later h) (ht2.later h) (by omega) (by omega) hsm (hm.keep h)
      have HTU : Hid (∀ isS c x w', (cellsOf ss ts isS)[c]? = some x → Below w.heap.size w w' → Calls Tryz.prog 22 #[.slice p ss.length cap, .slice q ts.length tcap, .bool isS, .int .i64 ((c : Nat) : Int)] w' fun e w2 =>
          ∃ T C, e = .returned (.tuple #[.int .i64 (x.1 : Int), .slice (some ⟨T, 0, none⟩) x.2.length C, .bool true]) ∧ Hid (IntsV w2 (.slice (some ⟨T, 0, none⟩) x.2.length C) (natL x.2)) ∧ Below w'.heap.size w' w2) :=
        fun isS c x w' hx h => (tuple_any ss ts isS c _ _ w' (hs2.later h) (ht2.later h) (by omega) (by omega) hsm (hm.keep h)).mono (by
          rintro e w2 ⟨hb, ⟨y, T, C, h1, rfl, _, h3, h4⟩ | ⟨h1, _⟩⟩
          · rw [cellAt_nat, hx] at h1
            obtain rfl := Option.some.inj h1
            exact ⟨T, C, rfl, tupAt_ints h4 h3, hb⟩
          · rw [cellAt_nat, hx] at h1; cases h1)
      have HTN : Hid (∀ isS w', Below w.heap.size w w' → Calls Tryz.prog 22 #[.slice p ss.length cap, .slice q ts.length tcap, .bool isS, .int .i64 ((cellsOf ss ts isS).length : Int)] w' fun e w2 =>
          e = .returned (.tuple #[.int .i64 0, .slice none 0 0, .bool false]) ∧ Below w'.heap.size w' w2) :=
        fun isS w' h => (tuple_any ss ts isS _ _ _ w' (hs2.later h) (ht2.later h) (by omega) (by omega) hsm (hm.keep h)).mono (by
          rintro e w2 ⟨hb, ⟨y, T, C, h1, rfl, _, h3, h4⟩ | ⟨h1, rfl⟩⟩
          · rw [cellAt_nat, List.getElem?_eq_none (Nat.le_refl _)] at h1; cases h1
          · exact ⟨rfl, hb⟩)
      have HCE : Hid (∀ (i c : Nat) (l : List Nat) lv w', cellB ss ts (i : Int) (natL l) = ((c : Int), 0) → l.length ≤ 3 → Below w.heap.size w w' → IntsV w' lv (natL l) → Calls Tryz.prog 20 #[.slice p ss.length cap, .slice q ts.length tcap, .int .i64 (i : Int), lv] w' fun e w2 =>
          e = .returned (.tuple #[.int .i64 (c : Int), .int .i64 0]) ∧ Below w'.heap.size w' w2) := fun i c l lv w' hc hl3 h hlv => by
        have h2 := cellOf_any ss ts i (natL l) _ _ lv w' (hs2.later h) (ht2.later h) hlv (by omega) (by omega) (by rw [natL_len]; omega) hsm (hm.keep h)
        rw [hc] at h2
        exact h2
      have HTS : Hid (∀ (k : Nat) t cv w', ts[k]? = some t → Below w.heap.size w w' → IntsV w' cv t.cols → Calls Tryz.prog 16 #[.slice p ss.length cap, cv] w' fun e w2 =>
          ∃ v, e = .returned v ∧ RowsOf w'.heap.size w2 v (tups (lensL ss t.cols)) ∧ Below w'.heap.size w' w2) := fun k t cv w' hk h hcv => by
        have h2 := tuplesAll_any ss t.cols _ cv w' (hs2.later h) hcv (by omega) (by have := (hsm t (List.mem_of_getElem? hk)).2; omega)
        rw [tupsOf_valid hv hk] at h2
        exact h2
      have HV := hidden hv
      have HFEW := hidden hfew
      have HVA := hidden hva
      have HQP := hidden hqp
      have HAT := hidden hat
      have H20 : Hid (ts.length ≤ 20) := hf3
      clear hs2 ht2 hqp hat hm hl hlt hf hf1 hf2 hf3 hsm hv hfew hva
      go_enter Tryz.func5, Tryz.ntmps5
      go_wp2_with fail
      (with_reducible refine haw.mono ?_)
      rintro e w1 ⟨rfl, hB1⟩
      have hfw := HFEW.out w1 hB1
      have HB1 := hidden hB1
      clear hB1 haw
      go_wp2_with fail
      (with_reducible refine hfw.mono ?_)
      rintro e w2 ⟨rfl, hw2⟩
      rw [hw2]
      clear hw2 hfw HFEW
      have hvw := HVA.out w1 HB1.out
      go_wp2_with fail
      (with_reducible refine hvw.mono ?_)
      rintro e w3 ⟨rfl, hB3⟩
      have hBw := bt HB1.out hB3
      obtain ⟨W4, hW4⟩ : ∃ W4, W4 = w3.alloc (.cells #[.bool true, .bool false] 4) := ⟨_, rfl⟩
      have hB4 : Below w.heap.size w W4 := by rw [hW4]; exact hBw.alloc hBw.size _
      have b0 : W4.cell? ⟨w3.heap.size, 0, none⟩ = some (.bool true) := by rw [hW4]; simp [go_sem]
      have b1 : W4.cell? ⟨w3.heap.size, 1, none⟩ = some (.bool false) := by rw [hW4]; simp [go_sem]
      have hz4 : W4.heap.size = w3.heap.size + 1 := by rw [hW4]; simp
      have HB4 := hidden hB4
      have HBS : Hid (W4.cell? ⟨w3.heap.size, 0, none⟩ = some (.bool true) ∧ W4.cell? ⟨w3.heap.size, 1, none⟩ = some (.bool false) ∧ w3.heap.size < W4.heap.size) := ⟨b0, b1, by omega⟩
      clear hB3 hBw hB4 b0 b1 hz4 hvw HVA HB1
      go_wp2_with fail
      rw [← hW4]
      clear hW4
      go_loopw [38] (fun i wr => ∃ k : Nat, k ≤ 2 ∧ i = .int .i64 k ∧ Hid (Below W4.heap.size W4 wr)) (fun i _ => 2 - (intOf i).toNat)
      case atStart => exact ⟨0, by omega, rfl, Below.refl _ _⟩
      case round =>
        obtain ⟨k, hk, rfl, hBr⟩ := hrel
        by_cases hlt : k < 2
        · obtain ⟨isS, hb⟩ : ∃ isS, wr.cell? ⟨w3.heap.size, k, none⟩ = some (.bool isS) := by
            rcases k with _ | _ | k
            · exact ⟨true, (hBr.out.cell (p := ⟨w3.heap.size, 0, none⟩) HBS.out.2.2).trans HBS.out.1⟩
            · exact ⟨false, (hBr.out.cell (p := ⟨w3.heap.size, 1, none⟩) HBS.out.2.2).trans HBS.out.2.1⟩
            · omega
          have hkz : (k : Int) < 2 := by omega
          have hBw := HB4.out.trans (hBr.out.mono HB4.out.size)
          have hco := HCO.out isS wr hBw
          have HBw := hidden hBw
          have HLT := hidden hlt
          obtain ⟨N, hN⟩ : ∃ N, (cellsOf ss ts isS).length = N := ⟨_, rfl⟩
          have hN128 : N ≤ 128 := by rw [← hN]; exact cellsOf_le HV.out
          rw [hN] at hco
          have HN := hidden hN
          clear hBw hlt hN
          go_wp2_with fail
          (with_reducible refine hco.mono ?_)
          rintro e w5 ⟨rfl, hB5⟩
          have HB5 := hidden (bt hBr.out hB5)
          clear hB5 hco hb HBw
          go_wp2_with fail
          go_loopw [47] (fun i wr => ∃ c : Nat, c ≤ N ∧ i = .int .i64 c ∧ Hid (Below W4.heap.size W4 wr)) (fun i _ => N - (intOf i).toNat)
          case atStart => exact ⟨0, Nat.zero_le _, rfl, HB5.out⟩
          case round =>
            obtain ⟨c, hc, rfl, hBr2⟩ := hrel
            by_cases hlt2 : c < N
            · have hx : (cellsOf ss ts isS)[c]? = some ((cellsOf ss ts isS)[c]'(by rw [HN.out]; exact hlt2)) := List.getElem?_eq_getElem _
              generalize (cellsOf ss ts isS)[c]'(by rw [HN.out]; exact hlt2) = x at hx
              have hBw := HB4.out.trans (hBr2.out.mono HB4.out.size)
              have htu := HTU.out isS c x wr hx hBw
              have hce := cell_of_at HV.out hx
              have hal := (at_len HV.out hx).1
              obtain ⟨xi, xl⟩ := x
              have HBw := hidden hBw
              have HCI := hidden hce
              have HAL := hidden hal
              have hcz : (c : Int) < (N : Int) := by omega
              have HLT2 := hidden hlt2
              clear hx hBw hce hal hlt2
              go_wp2_with fail
              (with_reducible refine htu.mono ?_)
              rintro e w6 ⟨T, C, rfl, HI6, hB6⟩
              have hcc := HCE.out xi c xl _ w6 HCI.out HAL.out (bt HBw.out hB6) HI6.out
              have HB6 := hidden (bt hBr2.out hB6)
              clear hB6 htu
              go_wp2_with fail
              (with_reducible refine hcc.mono ?_)
              rintro e w7 ⟨rfl, hB7⟩
              have HB7 := hidden (bt HB6.out hB7)
              clear hB7 hcc
              go_wp2_with fail
              go_roundw
              case rel => exact ⟨c + 1, HLT2.out, rfl, HB7.out⟩
              case measure => simp [intOf]; have := HLT2.out; omega
            · obtain rfl : c = N := by omega
              have hcz : ¬ (c : Int) < (c : Int) := by omega
              clear hlt2
              go_wp2_with fail
              go_loopw [8, 81] (fun sn i wr => ∃ j m : Nat, j ≤ ts.length ∧ m ≤ 128 ∧ sn = .int .i64 (m : Int) ∧ i = .int .i64 j ∧ Hid (m = (cellsFrom ss isS (ts.take j) 0).length ∧ Below W4.heap.size W4 wr)) (fun _ i _ => ts.length - (intOf i).toNat)
              case atStart => exact ⟨0, 0, Nat.zero_le _, by omega, rfl, rfl, rfl, hBr2.out⟩
              case round =>
                obtain ⟨j, m, hj, hm128, rfl, rfl, hBr3⟩ := hrel
                by_cases hlt3 : j < ts.length
                · have hx : ts[j]? = some ts[j] := List.getElem?_eq_getElem hlt3
                  generalize ts[j] = t at hx
                  obtain ⟨rfl, hg⟩ := HQP.out (fun h => by rw [h] at hlt3; exact absurd hlt3 (Nat.not_lt_zero _))
                  obtain ⟨hta, hci⟩ := HAT.out j t hx
                  have hci2 := hci
                  obtain ⟨pc, capc, gc, oc, hkv, _, _⟩ := hci
                  rw [hkv] at hta hci2
                  have hBw := HB4.out.trans (hBr3.out.2.mono HB4.out.size)
                  have hta2 := hta.of_block (hBw.block tg hg)
                  have c0 := hta2.c0
                  have c1 := hta2.c1
                  have c2 := hta2.c2
                  have c3 := hta2.c3
                  have c4 := hta2.c4
                  have c5 := hta2.c5
                  have hjz : (j : Int) < (ts.length : Int) := by omega
                  have hj20 : j < 20 := Nat.lt_of_lt_of_le hlt3 H20.out
                  obtain ⟨W5, hW5⟩ : ∃ W5, W5 = wr.alloc (.cells #[.string t.name, .int .i64 t.kind, .slice pc t.cols.length capc, .int .i64 t.lo, .int .i64 t.hi, .int .i64 t.first] 44) := ⟨_, rfl⟩
                  have hB5 : Below W4.heap.size W4 W5 := by rw [hW5]; exact hBr3.out.2.alloc hBr3.out.2.size _
                  have HBw5 := hidden (HB4.out.trans (hB5.mono HB4.out.size))
                  have HCV := hidden (hci2.later HBw5.out)
                  have HX := hidden hx
                  have HLT3 := hidden hlt3
                  have HB5 := hidden hB5
                  have hstep := seen_step (ss := ss) (isS := isS) hx
                  have h128 := seen_le (isS := isS) HV.out (show j + 1 ≤ ts.length from hlt3)
                  have hcases : ((t.kind == 0) = true ∧ isS = true ∧ strictB t.kind = isS) ∨ ((t.kind == 0) = false ∧ (t.kind == 1) = true ∧ isS = true ∧ strictB t.kind = isS) ∨ ((t.kind == 0) = false ∧ (t.kind == 1) = false ∧ isS = false ∧ strictB t.kind = isS) ∨
                      ((t.kind == 0) = true ∧ isS = false ∧ strictB t.kind ≠ isS) ∨ ((t.kind == 0) = false ∧ (t.kind == 1) = true ∧ isS = false ∧ strictB t.kind ≠ isS) ∨ ((t.kind == 0) = false ∧ (t.kind == 1) = false ∧ isS = true ∧ strictB t.kind ≠ isS) := by
                    unfold strictB
                    cases h0 : (t.kind == 0) <;> cases h1 : (t.kind == 1) <;> cases isS <;> simp
                  have hsplit : (strictB t.kind = isS ∧ (((t.kind == 0) = true ∧ isS = true) ∨ ((t.kind == 0) = false ∧ (t.kind == 1) = true ∧ isS = true) ∨ ((t.kind == 0) = false ∧ (t.kind == 1) = false ∧ isS = false))) ∨
                      (strictB t.kind ≠ isS ∧ (((t.kind == 0) = true ∧ isS = false) ∨ ((t.kind == 0) = false ∧ (t.kind == 1) = true ∧ isS = false) ∨ ((t.kind == 0) = false ∧ (t.kind == 1) = false ∧ isS = true))) := by
                    rcases hcases with ⟨a, b, c⟩ | ⟨a, b, c, d⟩ | ⟨a, b, c, d⟩ | ⟨a, b, c⟩ | ⟨a, b, c, d⟩ | ⟨a, b, c, d⟩
                    · exact .inl ⟨c, .inl ⟨a, b⟩⟩
                    · exact .inl ⟨d, .inr (.inl ⟨a, b, c⟩)⟩
                    · exact .inl ⟨d, .inr (.inr ⟨a, b, c⟩)⟩
                    · exact .inr ⟨c, .inl ⟨a, b⟩⟩
                    · exact .inr ⟨d, .inr (.inl ⟨a, b, c⟩)⟩
                    · exact .inr ⟨d, .inr (.inr ⟨a, b, c⟩)⟩
                  clear hcases hta hta2 hci2 hkv hBw hB5 hx hlt3
                  rcases hsplit with ⟨hst, hsp⟩ | ⟨hst, hsp⟩
                  · rw [if_pos hst] at hstep
                    have hts := HTS.out j t _ W5 HX.out HBw5.out HCV.out
                    have hpp := prod_pos (lens_Pos HV.out HX.out)
                    have hls3 := (at_len_cols HV.out HX.out)
                    have hct := fun d (hd : d < prodL (lensL ss t.cols)) => cell_of_tup HV.out HX.out hd
                    rw [hst, ← hBr3.out.1] at hct
                    rw [← hBr3.out.1] at hstep
                    obtain ⟨ls, hls⟩ : ∃ ls, lensL ss t.cols = ls := ⟨_, rfl⟩
                    rw [hls] at hts hpp hls3 hct hstep
                    obtain ⟨PP, hPP⟩ : ∃ PP, prodL ls = PP := ⟨_, rfl⟩
                    have HPP := hidden hPP
                    rw [hPP] at hpp hct hstep
                    have hmP : m + PP ≤ 128 := by omega
                    have HST := hidden hstep
                    have HCT := hidden hct
                    have HLS3 := hidden hls3
                    clear hst hls hPP hstep hct hls3 h128
                    rcases hsp with ⟨ha, hs⟩ | ⟨ha, hb, hs⟩ | ⟨ha, hb, hs⟩
                    all_goals
                      subst hs
                      go_wp2_with fail
                      rw [← hW5]
                      clear hW5
                      (with_reducible refine hts.mono ?_)
                      rintro e w6 ⟨v, rfl, hrows, hB6⟩
                      obtain ⟨rg, rc, rfl, hrg, hrow⟩ := rows_at hrows (fun h => by have h2 := congrArg List.length h; rw [tups_len, HPP.out] at h2; simp at h2; omega)
                      rw [tups_len, HPP.out]
                      have HROW := hidden hrow
                      have HB6 := hidden (bt HB5.out hB6)
                      clear hrows hrow hB6 hts c0 c1 c2 c3 c4 c5 ha
                      go_wp2_with fail
                      obtain ⟨wa, hwa⟩ : ∃ wa, wa = w6 := ⟨_, rfl⟩
                      subst hwa
                      go_loopw [8, 101] (fun sn i wr => ∃ d n : Nat, d ≤ PP ∧ n = m + d ∧ sn = .int .i64 (n : Int) ∧ i = .int .i64 d ∧ Hid (Below wa.heap.size wa wr)) (fun _ i _ => PP - (intOf i).toNat)
                      case atStart => exact ⟨0, m, Nat.zero_le _, rfl, rfl, rfl, Below.refl _ _⟩
                      case round =>
                        obtain ⟨d, n, hd, hn, rfl, rfl, hBr4⟩ := hrel
                        have HN2 := hidden hn
                        by_cases hlt4 : d < PP
                        · have hn128 : n < 128 := by omega
                          obtain ⟨rp, rcc, hcell, hint⟩ := HROW.out d _ (tups_get ls d (by rw [HPP.out]; exact hlt4))
                          have hce := HCE.out j (m + d) (tupN ls d) _ wr (HCT.out d hlt4) (by rw [tup_len]; exact HLS3.out) (bt (HB4.out.trans (HB6.out.mono HB4.out.size)) hBr4.out) (hint.later hBr4.out)
                          rw [← hn, tup_len] at hce
                          rw [tup_len] at hcell
                          have hcl := (hBr4.out.cell (p := ⟨rg, d, none⟩) hrg).trans hcell
                          have hdz : (d : Int) < (PP : Int) := by omega
                          have HLT4 := hidden hlt4
                          clear hcell hint hn hlt4
                          go_wp2_with fail
                          (with_reducible refine hce.mono ?_)
                          rintro e w8 ⟨rfl, hB8⟩
                          have HB8 := hidden (bt hBr4.out hB8)
                          clear hB8 hce hcl
                          go_wp2_with fail
                          go_roundw
                          case rel => exact ⟨d + 1, n + 1, HLT4.out, by rw [HN2.out, Nat.add_assoc], by go_num, rfl, HB8.out⟩
                          case measure => simp [intOf]; have := HLT4.out; omega
                        · obtain rfl : d = PP := by omega
                          have hdz : ¬ (d : Int) < (d : Int) := by omega
                          have hn128 : n ≤ 128 := by omega
                          clear hlt4 hn
                          go_wp2_with fail
                          go_roundw
                          case rel => exact ⟨j + 1, n, HLT3.out, hn128, rfl, rfl, by rw [HN2.out, HST.out], bt HB6.out hBr4.out⟩
                          case measure => simp [intOf]; have := HLT3.out; omega
                  · rw [if_neg hst] at hstep
                    have HST := hidden hstep
                    clear hst hstep h128
                    rcases hsp with ⟨ha, hs⟩ | ⟨ha, hb, hs⟩ | ⟨ha, hb, hs⟩
                    all_goals
                      subst hs
                      go_wp2_with fail
                      rw [← hW5]
                      clear hW5
                      go_roundw
                      case rel => exact ⟨j + 1, m, HLT3.out, hm128, rfl, rfl, by have h1 := HST.out; have h2 := hBr3.out.1; omega, HB5.out⟩
                      case measure => simp [intOf]; have := HLT3.out; omega
                · obtain rfl : j = ts.length := by omega
                  have hjz : ¬ (ts.length : Int) < (ts.length : Int) := by omega
                  have hmc := hBr3.out.1
                  rw [seen_all HV.out, HN.out] at hmc
                  have HB9 := hidden hBr3.out.2
                  have htn := HTN.out isS wr (HB4.out.trans (hBr3.out.2.mono HB4.out.size))
                  rw [HN.out] at htn
                  subst hmc
                  clear hlt3 hBr3
                  go_wp2_with fail
                  (with_reducible refine htn.mono ?_)
                  rintro e w9 ⟨rfl, hB10⟩
                  have HB10 := hidden (bt HB9.out hB10)
                  clear hB10 htn
                  go_wp2_with fail
                  go_roundw
                  case rel => exact ⟨k + 1, HLT.out, rfl, HB10.out⟩
                  case measure => simp [intOf]; have := HLT.out; omega
        · obtain rfl : k = 2 := by omega
          have HF := hidden (HB4.out.trans (hBr.out.mono HB4.out.size))
          clear hlt hBr
          go_wp2_with fail
          go_ret
          exact ⟨rfl, HF.out⟩
    · have hvf : validB ss ts = false := by simpa using hv
      rw [hvf] at hva
      have HFEW := hidden hfew
      have HVA := hidden hva
      clear hs2 ht2 hqp hat hm hl hlt hf hf1 hf2 hf3 hsm hv hfew hva hvf
      go_enter Tryz.func5, Tryz.ntmps5
      go_wp2_with fail
      (with_reducible refine haw.mono ?_)
      rintro e w1 ⟨rfl, hB1⟩
      have hfw := HFEW.out w1 hB1
      have HB1 := hidden hB1
      clear hB1 haw
      go_wp2_with fail
      (with_reducible refine hfw.mono ?_)
      rintro e w2 ⟨rfl, hw2⟩
      rw [hw2]
      clear hw2 hfw HFEW
      have hvw := HVA.out w1 HB1.out
      go_wp2_with fail
      (with_reducible refine hvw.mono ?_)
      rintro e w3 ⟨rfl, hB3⟩
      have HBw := hidden (bt HB1.out hB3)
      clear hB3 hvw HVA
      go_wp2_with fail
      go_ret
      exact ⟨rfl, HBw.out⟩
  · have hff : fewB ss ts = false := by simpa using hf
    rw [hff] at hfew
    have HFEW := hidden hfew
    clear hs2 ht2 hqp hat hm hl hlt hf hfew hff
    go_enter Tryz.func5, Tryz.ntmps5
    go_wp2_with fail
    (with_reducible refine haw.mono ?_)
    rintro e w1 ⟨rfl, hB1⟩
    have hfw := HFEW.out w1 hB1
    have HB1 := hidden hB1
    clear hB1 haw
    go_wp2_with fail
    (with_reducible refine hfw.mono ?_)
    rintro e w2 ⟨rfl, hw2⟩
    rw [hw2]
    clear hw2 hfw HFEW
    go_wp2_with fail
    go_ret
    exact ⟨rfl, HB1.out⟩

end Go.Proofs.YtfmoophjdgejeaaGreatDoor
