import Derived.Test.YtfmoophjdgejeaaGreatDoorEf
/-
  The reference's Tuple.
-/
namespace Go.Proofs.YtfmoophjdgejeaaGreatDoor
open Go.RowKit Go.Shelf Go.Lib
attribute [local go_sem] Oper.semAt_some

/-- What stands at a place of a table's part. -/
theorem cells_here {ss : List Int} {ts : List Tab} {isS : Bool} (h : validB ss ts = true) {i : Nat} {t : Tab} (ht : ts[i]? = some t) (hs : strictB t.kind = isS) {k : Nat} (hk : k < prodL (lensL ss t.cols)) :
    (cellsOf ss ts isS)[(cellsFrom ss isS (ts.take i) 0).length + k]? = some (i, tupN (lensL ss t.cols) k) := by
  unfold cellsOf
  rw [if_pos h]
  obtain ⟨r, hr⟩ := cellsFrom_prefix (ss := ss) (isS := isS) (show i + 1 ≤ ts.length from (List.getElem?_eq_some_iff.1 ht).1)
  rw [← hr, cellsFrom_step ht, if_pos hs, List.append_assoc, List.getElem?_append_right (by omega), Nat.add_sub_cancel_left, List.getElem?_append_left (by rw [List.length_map, tups_len]; exact hk), List.getElem?_map, tups_get _ _ hk]
  rfl

theorem cellAt_far {L : List (Nat × List Nat)} {c : Int} (h : 0 ≤ c → (L.length : Int) ≤ c) : cellAt L c = none := by
  unfold cellAt
  split
  · rename_i h0
    rw [List.getElem?_eq_none]
    have := h h0
    omega
  · rfl

set_option maxRecDepth 100000 in
set_option maxHeartbeats 12800000 in
theorem refTuple_any (ss : List Int) (ts : List Tab) (isS : Bool) (c : Int) (sv tv : Value) (w : World) (hs : IntsV w sv ss) (ht : TabsV w tv ts) (hl : ss.length ≤ 1048576) (hlt : ts.length ≤ 1048576) (hsm : ∀ t ∈ ts, t.name.size ≤ 4096 ∧ t.cols.length ≤ 1048576)
    (hc1 : c ≤ 9223372036854775807) :
    Calls Tryz.prog 23 #[sv, tv, .bool isS, .int .i64 c] w fun e w' => Below w.heap.size w w' ∧
      ((∃ x T C, cellAt (cellsOf ss ts isS) c = some x ∧ e = .returned (.tuple #[.int .i64 (x.1 : Int), .slice (some ⟨T, 0, none⟩) x.2.length C, .bool true]) ∧ T < w'.heap.size ∧ TupAt w' T x.2) ∨
        (cellAt (cellsOf ss ts isS) c = none ∧ e = .returned (.tuple #[.int .i64 0, .slice none 0 0, .bool false]))) := by
  have hva := refValid_any ss ts sv tv w hs ht hl hlt hsm
  have hs2 := hs
  obtain ⟨p, cap, g, o, rfl, _, _⟩ := hs
  obtain ⟨q, tcap, tg, to, ks, rfl, hqp, hat⟩ := ht
  by_cases hv : validB ss ts = true
  · rw [hv] at hva
    have HV := hidden hv
    have HS2 := hidden hs2
    have HQP := hidden hqp
    have HAT := hidden hat
    have HSM := hidden hsm
    have HL := hidden hl
    clear hs2 hqp hat hsm hl hlt hv
    go_enter Tryz.func23, Tryz.ntmps23
    go_wp2_with fail
    (with_reducible refine hva.mono ?_)
    rintro e w1 ⟨rfl, hB1⟩
    have HB1 := hidden hB1
    clear hB1 hva
    go_wp2_with fail
    go_loop [11] (fun i => ∃ k : Nat, k ≤ ts.length ∧ i = .int .i64 k ∧ Hid (0 ≤ c → ((cellsFrom ss isS (ts.take k) 0).length : Int) ≤ c)) (fun i => ts.length - (intOf i).toNat)
    case atStart => exact ⟨0, Nat.zero_le _, rfl, fun h => by simpa [cellsFrom] using h⟩
    case round =>
      obtain ⟨k, hk, rfl, hh⟩ := hrel
      by_cases hlt : k < ts.length
      · have hx : ts[k]? = some ts[k] := List.getElem?_eq_getElem hlt
        generalize ts[k] = t at hx
        obtain ⟨rfl, hg⟩ := HQP.out (fun h => by rw [h] at hlt; exact absurd hlt (Nat.not_lt_zero _))
        obtain ⟨hta, hci⟩ := HAT.out k t hx
        have hci2 := hci
        obtain ⟨pc, capc, gc, oc, hkv, _, _⟩ := hci
        rw [hkv] at hta hci2
        have hta2 := hta.of_block (HB1.out.block tg hg)
        have c1 := hta2.c1
        have c2 := hta2.c2
        have c5 := hta2.c5
        have hkz : (k : Int) < (ts.length : Int) := by omega
        have hst := refStrict_any t.kind w1
        have hcl := (HSM.out t (List.mem_of_getElem? hx)).2
        have hnu := refNumber_any ss t.cols _ _ w1 (HS2.out.later HB1.out) (hci2.later HB1.out) HL.out hcl
        rw [cnt_valid HV.out hx] at hnu
        have hstep := seen_step (ss := ss) (isS := isS) hx
        have hfl := first_le HV.out hx
        have hfe := valid_first HV.out hx
        have hvp := valid_parts HV.out
        have hco := hvp.2.2.1 t (List.mem_of_getElem? hx)
        have hpl : prodL (lensL ss t.cols) ≤ 216 := prod_le (at_len_cols HV.out hx) (fun n hn => (lens_pos hvp.1 hco.1 n hn).2)
        have HNT : Hid (∀ k0 : Nat, k0 ≤ 100000 → Calls Tryz.prog 46 #[.slice p ss.length cap, .slice pc t.cols.length capc, .int .i64 (k0 : Int)] w1 fun e w' => ∃ T C, e = .returned (.slice (some ⟨T, 0, none⟩) (tupN (lensL ss t.cols) k0).length C) ∧ Hid (T < w'.heap.size ∧ TupAt w' T (tupN (lensL ss t.cols) k0)) ∧ Below w1.heap.size w1 w') := fun k0 hk0 =>
          (refNth_any ss t.cols k0 _ _ w1 (HS2.out.later HB1.out) (hci2.later HB1.out) hvp.1 hco.1 hco.2.1 hk0).mono (by
            rintro e w' ⟨C, rfl, h1, h2, h3⟩
            exact ⟨_, C, by rw [tup_len, lens_len], ⟨h2, h1⟩, h3⟩)
        have HHERE : Hid (strictB t.kind = isS → ∀ k0 : Nat, k0 < prodL (lensL ss t.cols) → (cellsOf ss ts isS)[(cellsFrom ss isS (ts.take k) 0).length + k0]? = some (k, tupN (lensL ss t.cols) k0)) := fun h k0 hk0 => cells_here HV.out hx h hk0
        have HLT := hidden hlt
        have hk12 : k < 12 := Nat.lt_of_lt_of_le hlt hvp.2.1
        obtain ⟨sb, hsb⟩ : ∃ sb, strictB t.kind = sb := ⟨_, rfl⟩
        rw [hsb] at hst hstep hfe HHERE
        obtain ⟨F, hF⟩ : ∃ F, (cellsFrom ss isS (ts.take k) 0).length = F := ⟨_, rfl⟩
        obtain ⟨PP, hPP⟩ : ∃ PP, prodL (lensL ss t.cols) = PP := ⟨_, rfl⟩
        have hpl' := hpl
        rw [hPP] at hnu hpl hstep HHERE
        rw [hF] at hstep hh HHERE
        have hf1 := hfl.1
        have hf2 := hfl.2
        obtain ⟨fi, hfi⟩ : ∃ fi, t.first = fi := ⟨_, rfl⟩
        rw [hfi] at c5 hf1 hf2 hfe
        by_cases he : sb = isS
        · subst he
          rw [hF] at hfe
          have HHERE2 := hidden (HHERE.out rfl)
          rw [if_pos rfl] at hstep
          have HSTEP := hidden hstep
          have HFE := hidden hfe
          have HHH := hidden hh.out
          by_cases h0 : 0 ≤ c
          · have hFc := hh.out h0
            have hk0 : 0 ≤ c - fi := by rw [hfe]; omega
            have hkx : c - fi ≤ 9223372036854775807 := by omega
            by_cases hin : c - fi < (PP : Int)
            · obtain ⟨k0, hk0e⟩ : ∃ k0 : Nat, c = fi + k0 := ⟨(c - fi).toNat, by omega⟩
              have hk0l : k0 < PP := by omega
              have hnt := HNT.out k0 (by omega)
              have hhere := HHERE2.out k0 hk0l
              have HAN : Hid (cellAt (cellsOf ss ts sb) c = some (k, tupN (lensL ss t.cols) k0)) := by
                show _ = _
                have e1 : c = ((F + k0 : Nat) : Int) := by rw [hk0e, hfe]; omega
                rw [e1, cellAt_nat]; exact hhere
              have e2 : fi + (k0 : Int) - fi = (k0 : Int) := by omega
              have hk0z : (k0 : Int) < (PP : Int) := by omega
              have hc0 : 0 ≤ fi + (k0 : Int) := by omega
              have hk100 : k0 ≤ 100000 := by omega
              have HLL := hidden (tup_len (lensL ss t.cols) k0)
              generalize tupN (lensL ss t.cols) k0 = tu at *
              subst hk0e
              clear hfl hfe hh hF hPP hsb hstep hta hta2 hci2 hkv hx hlt hcl hvp hco hpl' hFc hhere hfi HHERE HHERE2 HNT hin hk0 hkx h0
              cases sb
              all_goals
                go_wp2_with fail
                (with_reducible refine hst.mono ?_)
                rintro e w2 ⟨rfl, hw2⟩
                rw [hw2]
                clear hw2 hst
                go_wp2_with fail
                (with_reducible refine hnu.mono ?_)
                rintro e w3 ⟨rfl, hw3⟩
                rw [hw3]
                clear hw3 hnu
                go_wp2_with fail
                (with_reducible refine hnt.mono ?_)
                rintro e w4 ⟨T, C, rfl, HT, hB4⟩
                have HB4 := hidden (bt HB1.out hB4)
                clear hB4 hnt
                go_wp2_with fail
                go_ret3
                exact ⟨HB4.out, .inl ⟨_, T, C, HAN.out, rfl, HT.out.1, HT.out.2⟩⟩
            · have HNX : Hid (0 ≤ c → ((cellsFrom ss sb (ts.take (k + 1)) 0).length : Int) ≤ c) := fun _ => by rw [HSTEP.out]; omega
              clear hfl hfe hh hF hPP hsb hstep hta hta2 hci2 hkv hx hlt hcl hvp hco hpl' hFc hfi HHERE HHERE2 HNT
              cases sb
              all_goals
                go_wp2_with fail
                (with_reducible refine hst.mono ?_)
                rintro e w2 ⟨rfl, hw2⟩
                rw [hw2]
                clear hw2 hst
                go_wp2_with fail
                (with_reducible refine hnu.mono ?_)
                rintro e w3 ⟨rfl, hw3⟩
                rw [hw3]
                clear hw3 hnu
                go_wp2_with fail
                go_round
                case rel => exact ⟨k + 1, HLT.out, by go_num, HNX.out⟩
                case measure => simp [intOf]; have := HLT.out; omega
          · have HNX : Hid (0 ≤ c → ((cellsFrom ss sb (ts.take (k + 1)) 0).length : Int) ≤ c) := fun h => absurd h h0
            clear hfl hfe hh hF hPP hsb hstep hta hta2 hci2 hkv hx hlt hcl hvp hco hpl' hfi HHERE HHERE2 HNT hnu
            cases sb
            all_goals
              go_wp2_with fail
              (with_reducible refine hst.mono ?_)
              rintro e w2 ⟨rfl, hw2⟩
              rw [hw2]
              clear hw2 hst
              go_wp2_with fail
              go_round
              case rel => exact ⟨k + 1, HLT.out, by go_num, HNX.out⟩
              case measure => simp [intOf]; have := HLT.out; omega
        · rw [if_neg he] at hstep
          have HNX : Hid (0 ≤ c → ((cellsFrom ss isS (ts.take (k + 1)) 0).length : Int) ≤ c) := fun h => by
            have h1 := hh.out h
            omega
          clear hfl hfe hh hF hPP hsb hstep hta hta2 hci2 hkv hx hlt hcl hvp hco hpl' hfi HHERE HNT hnu
          cases sb <;> cases isS <;> first | (exact absurd rfl he) | skip
          all_goals
            clear he
            go_wp2_with fail
            (with_reducible refine hst.mono ?_)
            rintro e w2 ⟨rfl, hw2⟩
            rw [hw2]
            clear hw2 hst
            go_wp2_with fail
            go_round
            case rel => exact ⟨k + 1, HLT.out, by go_num, HNX.out⟩
            case measure => simp [intOf]; have := HLT.out; omega
      · obtain rfl : k = ts.length := by omega
        have hkz : ¬ (ts.length : Int) < (ts.length : Int) := by omega
        have HN : Hid (cellAt (cellsOf ss ts isS) c = none) := cellAt_far (fun h => by rw [← seen_all HV.out]; exact hh.out h)
        clear hh hlt
        go_wp2_with fail
        go_ret3
        exact ⟨HB1.out, .inr ⟨HN.out, rfl⟩⟩
  · have hvf : validB ss ts = false := by simpa using hv
    rw [hvf] at hva
    have HN : Hid (cellAt (cellsOf ss ts isS) c = none) := by
      show _ = _
      unfold cellsOf
      rw [if_neg hv]
      exact cellAt_far (fun h => by simpa using h)
    clear hs2 hqp hat hsm hl hlt hv hvf
    go_enter Tryz.func23, Tryz.ntmps23
    go_wp2_with fail
    (with_reducible refine hva.mono ?_)
    rintro e w1 ⟨rfl, hB1⟩
    have HB1 := hidden hB1
    clear hB1 hva
    go_wp2_with fail
    go_ret3
    exact ⟨HB1.out, .inr ⟨HN.out, rfl⟩⟩

end Go.Proofs.YtfmoophjdgejeaaGreatDoor
