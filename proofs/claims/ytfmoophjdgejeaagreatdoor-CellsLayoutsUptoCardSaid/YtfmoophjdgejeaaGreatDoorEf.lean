import Derived.Test.YtfmoophjdgejeaaGreatDoorEe
/-
  The reference's Count, Cell and Tuple.
-/
namespace Go.Proofs.YtfmoophjdgejeaaGreatDoor
open Go.RowKit Go.Shelf Go.Lib
attribute [local go_sem] Oper.semAt_some

theorem cnt_valid {ss : List Int} {ts : List Tab} (h : validB ss ts = true) {i : Nat} {t : Tab} (ht : ts[i]? = some t) : cntB ss t.cols = prodL (lensL ss t.cols) := by
  have hp := valid_parts h
  have h2 := hp.2.2.1 t (List.mem_of_getElem? ht)
  unfold cntB
  rw [if_pos ⟨h2.2.1, hp.1, h2.1⟩]

set_option maxRecDepth 100000 in
set_option maxHeartbeats 6400000 in
theorem refCount_any (ss : List Int) (ts : List Tab) (isS : Bool) (sv tv : Value) (w : World) (hs : IntsV w sv ss) (ht : TabsV w tv ts) (hl : ss.length ≤ 1048576) (hlt : ts.length ≤ 1048576) (hsm : ∀ t ∈ ts, t.name.size ≤ 4096 ∧ t.cols.length ≤ 1048576) :
    Calls Tryz.prog 19 #[sv, tv, .bool isS] w fun e w' => e = .returned (.int .i64 ((cellsOf ss ts isS).length : Int)) ∧ Below w.heap.size w w' := by
  have hva := refValid_any ss ts sv tv w hs ht hl hlt hsm
  have hs2 := hs
  obtain ⟨p, cap, g, o, rfl, _, _⟩ := hs
  obtain ⟨q, tcap, tg, to, ks, rfl, hqp, hat⟩ := ht
  obtain ⟨R, hR⟩ : ∃ R, (cellsOf ss ts isS).length = R := ⟨_, rfl⟩
  rw [hR]
  have HR := hidden hR
  clear hR
  by_cases hv : validB ss ts = true
  · rw [hv] at hva
    have HV := hidden hv
    have HS2 := hidden hs2
    have HQP := hidden hqp
    have HAT := hidden hat
    have HSM := hidden hsm
    have HL := hidden hl
    have H12 := hidden (valid_parts hv).2.1
    clear hs2 hqp hat hsm hl hlt hv
    go_enter Tryz.func19, Tryz.ntmps19
    go_wp2_with fail
    (with_reducible refine hva.mono ?_)
    rintro e w1 ⟨rfl, hB1⟩
    have HB1 := hidden hB1
    clear hB1 hva
    go_wp2_with fail
    go_loop [7, 8] (fun a i => ∃ k n : Nat, k ≤ ts.length ∧ n ≤ 128 ∧ a = .int .i64 (n : Int) ∧ i = .int .i64 k ∧ Hid (n = (cellsFrom ss isS (ts.take k) 0).length)) (fun _ i => ts.length - (intOf i).toNat)
    case atStart => exact ⟨0, 0, Nat.zero_le _, by omega, rfl, rfl, rfl⟩
    case round =>
      obtain ⟨k, n, hk, hn, rfl, rfl, hh⟩ := hrel
      by_cases hlt : k < ts.length
      · have hx : ts[k]? = some ts[k] := List.getElem?_eq_getElem hlt
        generalize ts[k] = t at hx
        obtain ⟨rfl, hg⟩ := HQP.out (fun h => by rw [h] at hlt; exact absurd hlt (Nat.not_lt_zero _))
        obtain ⟨hta, hci⟩ := HAT.out k t hx
        have hci2 := hci
        obtain ⟨pc, capc, gc, oc, hkv, _, _⟩ := hci
        rw [hkv] at hta hci2
        have hta2 := hta.of_block (HB1.out.block tg hg)
        have c1 := hta2.c1
        have c2 := hta2.c2
        have hkz : (k : Int) < (ts.length : Int) := by omega
        have hst := refStrict_any t.kind w1
        have hnu := refNumber_any ss t.cols _ _ w1 (HS2.out.later HB1.out) (hci2.later HB1.out) HL.out (HSM.out t (List.mem_of_getElem? hx)).2
        rw [cnt_valid HV.out hx] at hnu
        have hstep := seen_step (ss := ss) (isS := isS) hx
        have h128 := seen_le (isS := isS) HV.out (show k + 1 ≤ ts.length from hlt)
        rw [← hh.out] at hstep
        have HLT := hidden hlt
        have hk12 : k < 12 := Nat.lt_of_lt_of_le hlt H12.out
        obtain ⟨sb, hsb⟩ : ∃ sb, strictB t.kind = sb := ⟨_, rfl⟩
        rw [hsb] at hst hstep
        by_cases he : sb = isS
        · rw [if_pos he] at hstep
          rw [hstep] at h128
          have HST := hidden hstep
          subst he
          obtain ⟨PP, hPP⟩ : ∃ PP, prodL (lensL ss t.cols) = PP := ⟨_, rfl⟩
          rw [hPP] at hnu h128
          have HPP := hidden hPP
          have hnp : n + PP ≤ 128 := h128
          clear hsb hstep hta hta2 hci2 hkv hx hlt hh hPP h128
          cases sb
          all_goals
            go_wp2_with fail
            (with_reducible refine hst.mono ?_)
            rintro e w2 ⟨rfl, hw2⟩
            rw [hw2]
            clear hw2 hst
            go_wp2_with fail
            (with_reducible refine hnu.mono ?_)
            rintro e w3 ⟨rfl, hw3⟩
            rw [hw3]
            clear hw3 hnu
            go_wp2_with fail
            go_round
            case rel => exact ⟨k + 1, n + PP, HLT.out, hnp, by go_num, by go_num, by rw [← HPP.out]; exact HST.out.symm⟩
            case measure => simp [intOf]; have := HLT.out; omega
        · rw [if_neg he] at hstep
          have HST := hidden hstep
          clear hsb hstep hta hta2 hci2 hkv hx hlt hh hnu h128
          cases sb <;> cases isS <;> first | (exact absurd rfl he) | skip
          all_goals
            clear he
            go_wp2_with fail
            (with_reducible refine hst.mono ?_)
            rintro e w2 ⟨rfl, hw2⟩
            rw [hw2]
            clear hw2 hst
            go_wp2_with fail
            go_round
            case rel => exact ⟨k + 1, n, HLT.out, hn, rfl, by go_num, by have h1 := HST.out; show _ = _; omega⟩
            case measure => simp [intOf]; have := HLT.out; omega
      · obtain rfl : k = ts.length := by omega
        have hkz : ¬ (ts.length : Int) < (ts.length : Int) := by omega
        have HF : Hid (R = n) := by show _ = _; rw [hh.out, seen_all HV.out, HR.out]
        clear hh hlt
        go_wp2_with fail
        go_ret
        exact ⟨by rw [HF.out]; rfl, HB1.out⟩
  · have hvf : validB ss ts = false := by simpa using hv
    rw [hvf] at hva
    have HF : Hid (R = 0) := by show _ = _; rw [← HR.out]; unfold cellsOf; rw [if_neg hv]; rfl
    clear hs2 hqp hat hsm hl hlt hv hvf
    go_enter Tryz.func19, Tryz.ntmps19
    go_wp2_with fail
    (with_reducible refine hva.mono ?_)
    rintro e w1 ⟨rfl, hB1⟩
    have HB1 := hidden hB1
    clear hB1 hva
    go_wp2_with fail
    go_ret
    exact ⟨by rw [HF.out]; rfl, HB1.out⟩

set_option maxRecDepth 100000 in
set_option maxHeartbeats 6400000 in
theorem refCell_any (ss : List Int) (ts : List Tab) (z : Int) (l : List Int) (sv tv lv : Value) (w : World) (hs : IntsV w sv ss) (ht : TabsV w tv ts) (hlv : IntsV w lv l) (hl : ss.length ≤ 1048576) (hlt : ts.length ≤ 1048576) (hll : l.length ≤ 1048576)
    (hsm : ∀ t ∈ ts, t.name.size ≤ 4096 ∧ t.cols.length ≤ 1048576) :
    Calls Tryz.prog 21 #[sv, tv, .int .i64 z, lv] w fun e w' => e = .returned (.tuple #[.int .i64 (cellB ss ts z l).1, .int .i64 (cellB ss ts z l).2]) ∧ Below w.heap.size w w' := by
  have hva := refValid_any ss ts sv tv w hs ht hl hlt hsm
  have hs2 := hs
  have hlv2 := hlv
  obtain ⟨p, cap, g, o, rfl, _, _⟩ := hs
  obtain ⟨q, tcap, tg, to, ks, rfl, hqp, hat⟩ := ht
  obtain ⟨pt, capt, gt, ot, rfl, _, _⟩ := hlv
  obtain ⟨r1, r2, hr⟩ : ∃ r1 r2, cellB ss ts z l = (r1, r2) := ⟨_, _, rfl⟩
  rw [hr]
  simp only []
  unfold cellB at hr
  by_cases hvb : validB ss ts = true
  · rw [if_pos hvb] at hr
    rw [hvb] at hva
    by_cases hz : 0 ≤ z
    · rw [if_pos hz] at hr
      obtain ⟨k, rfl⟩ : ∃ k : Nat, z = k := ⟨z.toNat, by omega⟩
      rw [Int.toNat_natCast] at hr
      have hz2 : ¬ (k : Int) < 0 := by omega
      by_cases hk : k < ts.length
      · have hx : ts[k]? = some ts[k] := List.getElem?_eq_getElem hk
        generalize ts[k] = t at hx
        rw [hx] at hr
        simp only [] at hr
        have hfl := first_le hvb hx
        obtain ⟨rfl, hg⟩ := hqp (fun h => by rw [h] at hk; exact absurd hk (Nat.not_lt_zero _))
        obtain ⟨hta, hci⟩ := hat k t hx
        have hci2 := hci
        obtain ⟨pc, capc, gc, oc, hkv, _, _⟩ := hci
        rw [hkv] at hta hci2
        have hkz : (k : Int) < (ts.length : Int) := by omega
        have hkz2 : ¬ (ts.length : Int) ≤ (k : Int) := by omega
        have hpos := lens_Pos hvb hx
        have HTS : Hid (∀ w', Below w.heap.size w w' → Calls Tryz.prog 17 #[.slice p ss.length cap, .slice pc t.cols.length capc] w' fun e w2 => ∃ P c, e = .returned (.slice P (prodL (lensL ss t.cols)) c) ∧ Hid (RowsV w2 (.slice P (prodL (lensL ss t.cols)) c) (tups (lensL ss t.cols))) ∧ Below w'.heap.size w' w2) := fun w' h =>
          (refTuples_any ss t.cols _ _ w' (hs2.later h) (hci2.later h) hl (hsm t (List.mem_of_getElem? hx)).2).mono (by
            rintro e w2 ⟨v, rfl, hv, hb⟩
            rw [tupsOf_valid hvb hx] at hv
            obtain ⟨P, c, rfl, h2⟩ := id hv
            rw [tups_len] at hv ⊢
            exact ⟨P, c, rfl, hv, hb⟩)
        have hlt3 := at_len_cols hvb hx
        have hpl : prodL (lensL ss t.cols) ≤ 216 := prod_le hlt3 (fun n hn => (lens_pos (valid_parts hvb).1 ((valid_parts hvb).2.2.1 t (List.mem_of_getElem? hx)).1 n hn).2)
        have hpt := place_tups hpos l
        have HPL : Hid (∀ w' v, RowsV w' v (tups (lensL ss t.cols)) → Below w.heap.size w w' → Calls Tryz.prog 44 #[v, .slice pt l.length capt] w' fun e w2 => e = .returned (.int .i64 (if withinB (lensL ss t.cols) l = true then ((hornL (lensL ss t.cols) (l.map Int.toNat) : Nat) : Int) else -1)) ∧ ∃ q, w2 = w'.drewN q) := fun w' v hv hb => by
          rw [← hpt]
          refine refPlace_any _ l v _ w' hv (hlv2.later hb) (by rw [tups_len]; omega) hll (fun t' ht' => ?_)
          unfold tups at ht'
          obtain ⟨j, _, rfl⟩ := List.mem_map.1 ht'
          rw [tup_len]; exact hlt3
        have HH : Hid (withinB (lensL ss t.cols) l = true → hornL (lensL ss t.cols) (l.map Int.toNat) < prodL (lensL ss t.cols)) := fun h => by
          obtain ⟨n, rfl, hin⟩ := within_nat h
          rw [toNat_natL]; exact horn_lt hin
        obtain ⟨ls, hls⟩ : ∃ ls, lensL ss t.cols = ls := ⟨_, rfl⟩
        rw [hls] at HTS HPL HH hr hpl
        have HTA := hidden hta
        have HG := hidden hg
        clear hs2 hlv2 hqp hat hsm hl hlt hll hci2 hkv hta hpos hlt3 hpt hls hx hvb hz hk hg
        generalize hPP : prodL ls = PP at *
        have HPP := hidden hPP
        clear hPP
        go_enter Tryz.func21, Tryz.ntmps21
        go_wp2_with fail
        (with_reducible refine hva.mono ?_)
        rintro e w1 ⟨rfl, hB1⟩
        have c2 := (HTA.out.of_block (hB1.block tg HG.out)).c2
        have hts := HTS.out w1 hB1
        have HB1 := hidden hB1
        clear hB1 hva
        go_wp2_with fail
        (with_reducible refine hts.mono ?_)
        rintro e w2 ⟨P, c, rfl, hV, hB2⟩
        have hpl2 := HPL.out w2 _ hV.out (bt HB1.out hB2)
        have HB2 := hidden (bt HB1.out hB2)
        clear hB2 hts c2
        obtain ⟨wb, hwb⟩ : ∃ wb, withinB ls l = wb := ⟨_, rfl⟩
        rw [hwb] at hpl2 hr HH
        cases wb with
        | false =>
          rw [if_neg (by simp)] at hpl2 hr
          obtain ⟨rfl, rfl⟩ := Prod.mk.inj hr
          clear hr hwb
          go_wp2_with fail
          (with_reducible refine hpl2.mono ?_)
          rintro e w3 ⟨rfl, qn, hw3⟩
          have HF : Hid (Below w.heap.size w w3) := by rw [hw3]; exact below_drewN HB2.out qn
          clear hw3 hpl2
          go_wp2_with fail
          go_ret2
          exact ⟨rfl, HF.out⟩
        | true =>
          rw [if_pos rfl] at hpl2 hr
          obtain ⟨h1, h2⟩ := Prod.mk.inj hr
          subst h2
          have hh := HH.out rfl
          generalize hornL ls (l.map Int.toNat) = hn at *
          have HR1 := hidden h1
          have hn216 : hn < 216 := Nat.lt_of_lt_of_le hh hpl
          clear hr hwb h1 hh
          go_wp2_with fail
          (with_reducible refine hpl2.mono ?_)
          rintro e w3 ⟨rfl, qn, hw3⟩
          have hF : Below w.heap.size w w3 := by rw [hw3]; exact below_drewN HB2.out qn
          have c5 := (HTA.out.of_block (hF.block tg HG.out)).c5
          have HF := hidden hF
          clear hw3 hpl2 hF
          have hf1 := hfl.1
          have hf2 := hfl.2
          generalize t.first = fi at *
          clear hfl
          go_wp2_with fail
          go_ret2
          exact ⟨by rw [← HR1.out]; rfl, HF.out⟩
      · have hx : ts[k]? = none := List.getElem?_eq_none_iff.2 (by omega)
        rw [hx] at hr
        simp only [] at hr
        obtain ⟨rfl, rfl⟩ := Prod.mk.inj hr
        have hkz2 : (ts.length : Int) ≤ (k : Int) := by omega
        clear hs2 hlv2 hqp hat hsm hl hlt hll hvb hz hr hx hk
        go_enter Tryz.func21, Tryz.ntmps21
        go_wp2_with fail
        (with_reducible refine hva.mono ?_)
        rintro e w2 ⟨rfl, hB2⟩
        have HF := hidden hB2
        clear hB2 hva
        go_wp2_with fail
        go_ret2
        exact ⟨rfl, HF.out⟩
    · rw [if_neg hz] at hr
      obtain ⟨rfl, rfl⟩ := Prod.mk.inj hr
      have hz2 : z < 0 := by omega
      clear hs2 hlv2 hqp hat hsm hl hlt hll hvb hz hr
      go_enter Tryz.func21, Tryz.ntmps21
      go_wp2_with fail
      (with_reducible refine hva.mono ?_)
      rintro e w2 ⟨rfl, hB2⟩
      have HF := hidden hB2
      clear hB2 hva
      go_wp2_with fail
      go_ret2
      exact ⟨rfl, HF.out⟩
  · rw [if_neg hvb] at hr
    obtain ⟨rfl, rfl⟩ := Prod.mk.inj hr
    have hvf : validB ss ts = false := by simpa using hvb
    rw [hvf] at hva
    clear hs2 hlv2 hqp hat hsm hl hlt hll hvb hr hvf
    go_enter Tryz.func21, Tryz.ntmps21
    go_wp2_with fail
    (with_reducible refine hva.mono ?_)
    rintro e w2 ⟨rfl, hB2⟩
    have HF := hidden hB2
    clear hB2 hva
    go_wp2_with fail
    go_ret2
    exact ⟨rfl, HF.out⟩

end Go.Proofs.YtfmoophjdgejeaaGreatDoor
