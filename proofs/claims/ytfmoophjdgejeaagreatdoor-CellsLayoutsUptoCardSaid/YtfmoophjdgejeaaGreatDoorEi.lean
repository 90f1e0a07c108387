import Derived.Test.YtfmoophjdgejeaaGreatDoorEh
/-
  CellsLayouts.
-/
namespace Go.Proofs.YtfmoophjdgejeaaGreatDoor
open Go.RowKit Go.Shelf Go.Lib
attribute [local go_sem] Oper.semAt_some

set_option maxRecDepth 100000 in
set_option maxHeartbeats 3200000 in
theorem refSizes_any (l : List (ByteArray × Int)) (v : Value) (w : World) (h : SortsV w v l) (hl : l.length ≤ 1000000) :
    Calls Tryz.prog 12 #[v] w fun e w' => ∃ v', e = .returned v' ∧ w'.ownsRow w.heap.size 3 1 v' l.length (sizesC l) ∧ Below w.heap.size w w' := by
  obtain ⟨p, cap, g, o, rfl, hp, hc⟩ := h
  obtain ⟨i0, hi, hz0, hz1, hz2⟩ := info_parts infoI
  have HP := hidden hp
  have HC := hidden hc
  have HL := hidden hl
  clear hp hc hl
  go_enter Tryz.func12, Tryz.ntmps12
  go_wp2_with fail
  obtain ⟨W1, hW1⟩ : ∃ W1, W1 = w.alloc (.cells #[] 3) := ⟨_, rfl⟩
  have hB1 : Below w.heap.size w W1 := by rw [hW1]; exact (Below.refl _ _).alloc (Nat.le_refl _) _
  have own0 : W1.ownsRow w.heap.size 3 1 (.slice (some ⟨w.heap.size, 0, none⟩) 0 0) 0 [] := ⟨rfl, Or.inr ⟨w.heap.size, 0, #[], rfl, Nat.le_refl _, by rw [hW1]; exact World.alloc_heap_new _ _, Nat.le_refl _, Nat.zero_le _, rfl, rfl⟩⟩
  rw [← hW1]
  have HB1 := hidden hB1
  have HO := hidden own0
  clear hW1 hB1 own0
  go_loopw [3, 4] (fun out i wr => ∃ k : Nat, k ≤ l.length ∧ i = .int .i64 k ∧ Hid (wr.ownsRow w.heap.size 3 1 out k (sizesC (l.take k)) ∧ Below w.heap.size w wr)) (fun _ i _ => l.length - (intOf i).toNat)
  case atStart => exact ⟨0, Nat.zero_le _, rfl, HO.out, HB1.out⟩
  case round =>
    obtain ⟨k, hk, rfl, hh⟩ := hrel
    obtain ⟨hown, hnx⟩ := hh.out
    have hwr := hnx.size
    have hl3 := HL.out
    clear hh
    by_cases hlt : k < l.length
    · have hx : l[k]? = some l[k] := List.getElem?_eq_getElem hlt
      generalize l[k] = x at hx
      obtain ⟨rfl, hg⟩ := HP.out (fun h => by rw [h] at hlt; exact absurd hlt (Nat.not_lt_zero _))
      have c1 : wr.cell? ⟨g, o + k * 2 + 1, none⟩ = some (.int .i64 x.2) := (hnx.cell (p := ⟨g, o + k * 2 + 1, none⟩) hg).trans (HC.out k x hx).2
      have hltz : (k : Int) < (l.length : Int) := by omega
      have HT : Hid (sizesC (l.take (k + 1)) = sizesC (l.take k) ++ [.int .i64 x.2]) := by
        show _ = _
        unfold sizesC
        rw [take_step hx]; simp
      clear hx
      go_wp2_with (at_builtin; refine wpList_append_own _ rfl (.tmp 12) (.tmp 18) 23 rfl w.heap.size 3 i0 (.int .i64 0) 1 8 Tryz.underlying23 hi hz0 hz1 hz2 rfl (by decide) _ _ _ rfl (hown.alloc _) ⟨wr.heap.size, 0, none⟩ 1 1 [.int .i64 x.2] rfl rfl (cell_one_new _ _ _) (by intro u hu; simp at hu; subst hu; rfl) (by unfold maxLen; omega) (by omega) (by simp; omega) ?_; intro v' w5 hown5 hgrow5 _)
      go_roundw
      case rel => exact ⟨k + 1, hlt, by go_num, by rw [HT.out]; exact hown5, (hnx.alloc (by omega) _).grown hgrow5 (by simp; omega) (row_block hown)⟩
      case measure => simp [intOf]; omega
    · obtain rfl : k = l.length := by omega
      have hltz : ¬ (l.length : Int) < (l.length : Int) := by omega
      rw [List.take_length] at hown
      have HN := hidden hnx
      have HO2 := hidden hown
      clear hown hnx hlt
      go_wp2_with fail
      go_ret
      exact ⟨_, rfl, HO2.out, HN.out⟩

/-- A slice that reads as a list of rows, whatever an empty one's address is. -/
def RowsW (w : World) (v : Value) (L : List (List Nat)) : Prop :=
  ∃ P c, v = .slice P L.length c ∧ ∀ (k : Nat) t, L[k]? = some t → ∃ g p c', P = some ⟨g, 0, none⟩ ∧ g < w.heap.size ∧ w.cell? ⟨g, k, none⟩ = some (.slice p t.length c') ∧ IntsV w (.slice p t.length c') (natL t)

theorem RowsV.toW {w : World} {v : Value} {L : List (List Nat)} (h : RowsV w v L) : RowsW w v L := by
  obtain ⟨P, c, h1, h2⟩ := h
  refine ⟨P, c, h1, fun k t ht => ?_⟩
  obtain ⟨g, g', o', c', e1, e2, e3, e4⟩ := h2 k t ht
  exact ⟨g, _, c', e1, e2, e3, e4⟩

theorem RowsW.later {w w' : World} {v : Value} {L : List (List Nat)} (h : RowsW w v L) (hb : Below w.heap.size w w') : RowsW w' v L := by
  obtain ⟨P, c, h1, h2⟩ := h
  refine ⟨P, c, h1, fun k t ht => ?_⟩
  obtain ⟨g, p, c', e1, e2, e3, e4⟩ := h2 k t ht
  exact ⟨g, p, c', e1, Nat.lt_of_lt_of_le e2 hb.size, (hb.cell (p := ⟨g, k, none⟩) e2).trans e3, e4.later hb⟩

theorem RowsOf.toW {B : Nat} {w : World} {v : Value} {L : List (List Nat)} (h : RowsOf B w v L) : RowsW w v L := by
  by_cases hL : L = []
  · subst hL
    obtain ⟨svs, _, hr, _⟩ := h
    obtain ⟨q, c, rfl⟩ := row_form hr.1
    exact ⟨q, c, rfl, fun k t ht => by simp at ht⟩
  · obtain ⟨g, c, rfl, hg, hrow⟩ := rows_at h hL
    refine ⟨_, c, rfl, fun k t ht => ?_⟩
    obtain ⟨p, c', e1, e2⟩ := hrow k t ht
    exact ⟨g, p, c', rfl, hg, e1, e2⟩

set_option maxRecDepth 100000 in
set_option maxHeartbeats 3200000 in
theorem equalRows_any (L : List (List Nat)) (v u : Value) (w : World) (hv : RowsW w v L) (hu : RowsW w u L) (hL : L.length ≤ 1000) (h3 : ∀ t ∈ L, t.length ≤ 3) :
    Calls Tryz.prog 15 #[v, u, .func (.func 10) #[] #[]] w fun e w' => e = .returned (.bool true) ∧ ∃ q, w' = w.drewN q := by
  obtain ⟨P, c, rfl, hrow⟩ := hv
  obtain ⟨P', c', rfl, hrow'⟩ := hu
  have HROW := hidden hrow
  have HROW2 := hidden hrow'
  have H3 := hidden h3
  clear hrow hrow' h3
  go_enter Tryz.func15, Tryz.ntmps15
  go_wp2_with fail
  go_loopw [17] (fun i wr => ∃ k q : Nat, k ≤ L.length ∧ i = .int .i64 k ∧ Hid (wr = w.drewN q)) (fun i _ => L.length - (intOf i).toNat)
  case atStart => exact ⟨0, 0, Nat.zero_le _, rfl, rfl⟩
  case round =>
    obtain ⟨k, q, hk, rfl, hw⟩ := hrel
    by_cases hlt : k < L.length
    · have hx : L[k]? = some L[k] := List.getElem?_eq_getElem hlt
      generalize L[k] = t at hx
      obtain ⟨g, p1, c1, rfl, hg, hcell, hint⟩ := HROW.out k t hx
      obtain ⟨g2, p2, c2, rfl, hg2, hcell2, hint2⟩ := HROW2.out k t hx
      have e1 : wr.cell? ⟨g, k, none⟩ = some (.slice p1 t.length c1) := by rw [hw.out]; exact hcell
      have e2 : wr.cell? ⟨g2, k, none⟩ = some (.slice p2 t.length c2) := by rw [hw.out]; exact hcell2
      have htl := H3.out t (List.mem_of_getElem? hx)
      have hin := refInts_any (natL t) (natL t) _ _ wr (by rw [hw.out]; exact hint.drewN q) (by rw [hw.out]; exact hint2.drewN q) (by rw [natL_len]; omega) (by rw [natL_len]; omega)
      rw [decide_eq_true rfl] at hin
      have hkz : (k : Int) < (L.length : Int) := by omega
      have HLT := hidden hlt
      clear hcell hcell2 hint hint2 hx hlt
      go_wp2_with fail
      (with_reducible refine hin.mono ?_)
      rintro e w2 ⟨rfl, q2, hw2⟩
      have HQ : Hid (w2 = w.drewN (q + q2)) := by show _ = _; rw [hw2, hw.out, World.drewN_drewN]
      clear hin hw2
      go_wp2_with fail
      go_roundw
      case rel => exact ⟨k + 1, q + q2, HLT.out, rfl, HQ.out⟩
      case measure => simp [intOf]; have := HLT.out; omega
    · obtain rfl : k = L.length := by omega
      have hkz : ¬ (L.length : Int) < (L.length : Int) := by omega
      clear hlt
      go_wp2_with fail
      go_ret
      exact ⟨rfl, q, hw.out⟩

theorem tupsOf_small (ss cs : List Int) : (tupsOf ss cs).length ≤ 216 ∧ ∀ t ∈ tupsOf ss cs, t.length ≤ 3 := by
  unfold tupsOf
  split
  · rename_i h
    refine ⟨?_, fun t ht => ?_⟩
    · rw [tups_len]
      exact prod_le (by rw [lens_len]; exact h.2.2) (fun n hn => (lens_pos h.1 h.2.1 n hn).2)
    · unfold tups at ht
      obtain ⟨j, _, rfl⟩ := List.mem_map.1 ht
      rw [tup_len, lens_len]; exact h.2.2
  · exact ⟨by simp, fun t ht => by simp at ht⟩

theorem sizes_ints {w : World} {b : Nat} {v : Value} {l : List (ByteArray × Int)} (h : w.ownsRow b 3 1 v l.length (sizesC l)) : IntsV w v (l.map (·.2)) := by
  refine row_intsZ (b := b) (e := 3) ?_
  have e1 : intC (l.map (·.2)) = sizesC l := by unfold intC sizesC; rw [List.map_map]; rfl
  rw [e1, List.length_map]; exact h

set_option maxRecDepth 100000 in
set_option maxHeartbeats 12800000 in
theorem layoutsLaw_walk (so : List (ByteArray × Int)) (ss : List Int) (ts : List Tab) (cs : List Int) (ov sv tv cv : Value) (w : World) (hso : SortsV w ov so) (hs : IntsV w sv ss) (ht : TabsV w tv ts) (hc : IntsV w cv cs) (hm : MaxAt w) (hl : ss.length ≤ 1048576) (hlt : ts.length ≤ 1048576) (hlc : cs.length ≤ 1048576) :
    Calls Tryz.prog 3 #[ov, sv, tv, cv] w fun e w' => e = .returned (.bool true) ∧ Below w.heap.size w w' := by
  have haw := awake_any w hm
  have hfew := fun w' (h : Below w.heap.size w w') => few_any ss ts sv tv w' (hs.later h) (ht.later h) hl hlt
  have hso2 := hso
  have hs2 := hs
  have ht2 := ht
  have hc2 := hc
  obtain ⟨po, capo, go_, oo, rfl, hpo, hoc⟩ := hso
  obtain ⟨p, cap, g, o, rfl, _, _⟩ := hs
  obtain ⟨q, tcap, tg, to, ks, rfl, _, _⟩ := ht
  obtain ⟨pc, capc, gc, oc, rfl, _, _⟩ := hc
  by_cases hf : fewB ss ts = true
  · obtain ⟨hf1, hf2, hf3⟩ := few_parts hf
    rw [hf] at hfew
    have hcond : (20 < so.length) ∨ (so.length ≤ 20 ∧ 20 < cs.length) ∨ (so.length ≤ 20 ∧ cs.length ≤ 20) := by omega
    have HFEW := hidden hfew
    rcases hcond with h20 | ⟨h20, h21⟩ | ⟨h20, h21⟩
    · have h20z : (20 : Int) < (so.length : Int) := by omega
      clear hso2 hs2 ht2 hc2 hpo hoc hm hl hlt hlc hf hf1 hf2 hf3 hfew h20
      go_enter Tryz.func3, Tryz.ntmps3
      go_wp2_with fail
      (with_reducible refine haw.mono ?_)
      rintro e w1 ⟨rfl, hB1⟩
      have hfw := HFEW.out w1 hB1
      have HB1 := hidden hB1
      clear hB1 haw HFEW
      go_wp2_with fail
      (with_reducible refine hfw.mono ?_)
      rintro e w2 ⟨rfl, hw2⟩
      rw [hw2]
      clear hw2 hfw
      go_wp2_with fail
      go_ret
      exact ⟨rfl, HB1.out⟩
    · have h20z : ¬ (20 : Int) < (so.length : Int) := by omega
      have h21z : (20 : Int) < (cs.length : Int) := by omega
      clear hso2 hs2 ht2 hc2 hpo hoc hm hl hlt hlc hf hf1 hf2 hf3 hfew h20 h21
      go_enter Tryz.func3, Tryz.ntmps3
      go_wp2_with fail
      (with_reducible refine haw.mono ?_)
      rintro e w1 ⟨rfl, hB1⟩
      have hfw := HFEW.out w1 hB1
      have HB1 := hidden hB1
      clear hB1 haw HFEW
      go_wp2_with fail
      (with_reducible refine hfw.mono ?_)
      rintro e w2 ⟨rfl, hw2⟩
      rw [hw2]
      clear hw2 hfw
      go_wp2_with fail
      go_ret
      exact ⟨rfl, HB1.out⟩
    · have h20z : ¬ (20 : Int) < (so.length : Int) := by omega
      have h21z : ¬ (20 : Int) < (cs.length : Int) := by omega
      have hsm : ∀ t ∈ ts, t.name.size ≤ 4096 ∧ t.cols.length ≤ 4611686018427387904 := fun t h => ⟨by have := (hf1 t h).1; omega, by have := (hf1 t h).2; omega⟩
      have hsm2 : ∀ t ∈ ts, t.name.size ≤ 4096 ∧ t.cols.length ≤ 1048576 := fun t h => ⟨by have := (hf1 t h).1; omega, by have := (hf1 t h).2; omega⟩
      have hsoL : ∀ w', Below w.heap.size w w' → SortsV w' (.slice po so.length capo) so := fun w' h => by
        refine ⟨po, capo, go_, oo, rfl, fun hn => ⟨(hpo hn).1, Nat.lt_of_lt_of_le (hpo hn).2 h.size⟩, fun i x hx => ?_⟩
        have hg := (hpo (fun e => by rw [e] at hx; simp at hx)).2
        exact ⟨(h.cell (p := ⟨go_, oo + i * 2, none⟩) hg).trans (hoc i x hx).1, (h.cell (p := ⟨go_, oo + i * 2 + 1, none⟩) hg).trans (hoc i x hx).2⟩
      have HSZ : Hid (∀ w', Below w.heap.size w w' → Calls Tryz.prog 11 #[.slice po so.length capo] w' fun e w2 => ∃ P C, e = .returned (.slice P so.length C) ∧ Hid (IntsV w2 (.slice P so.length C) (so.map (·.2))) ∧ Below w'.heap.size w' w2) := fun w' h =>
        (sizes_any so _ w' (hsoL w' h) (by omega)).mono (by
          rintro e w2 ⟨v', rfl, h1, h2⟩
          have h3 := sizes_ints h1
          obtain ⟨P, C, rfl⟩ := row_form h1
          exact ⟨P, C, rfl, h3, h2⟩)
      have HRS : Hid (∀ w', Below w.heap.size w w' → Calls Tryz.prog 12 #[.slice po so.length capo] w' fun e w2 => ∃ P C, e = .returned (.slice P so.length C) ∧ Hid (IntsV w2 (.slice P so.length C) (so.map (·.2))) ∧ Below w'.heap.size w' w2) := fun w' h =>
        (refSizes_any so _ w' (hsoL w' h) (by omega)).mono (by
          rintro e w2 ⟨v', rfl, h1, h2⟩
          have h3 := sizes_ints h1
          obtain ⟨P, C, rfl⟩ := row_form h1
          exact ⟨P, C, rfl, h3, h2⟩)
      have HIN : Hid (∀ w' P C P' C', IntsV w' (.slice P so.length C) (so.map (·.2)) → IntsV w' (.slice P' so.length C') (so.map (·.2)) → Calls Tryz.prog 10 #[.slice P so.length C, .slice P' so.length C'] w' fun e w2 => e = .returned (.bool true) ∧ ∃ q, w2 = w'.drewN q) := fun w' P C P' C' h1 h2 => by
        have h3 := refInts_any _ _ _ _ w' h1 h2 (by rw [List.length_map]; omega) (by rw [List.length_map]; omega)
        rw [decide_eq_true rfl] at h3
        exact h3
      have HVA : Hid (∀ w', Below w.heap.size w w' → Calls Tryz.prog 13 #[.slice p ss.length cap, .slice q ts.length tcap] w' fun e w2 => e = .returned (.bool (validB ss ts)) ∧ Below w'.heap.size w' w2) :=
        fun w' h => validAll_any ss ts _ _ w' (hs2.later h) (ht2.later h) (by omega) (by omega) hsm (hm.keep h)
      have HRV : Hid (∀ w', Below w.heap.size w w' → Calls Tryz.prog 14 #[.slice p ss.length cap, .slice q ts.length tcap] w' fun e w2 => e = .returned (.bool (validB ss ts)) ∧ Below w'.heap.size w' w2) :=
        fun w' h => refValid_any ss ts _ _ w' (hs2.later h) (ht2.later h) hl hlt hsm2
      have HTU : Hid (∀ w', Below w.heap.size w w' → Calls Tryz.prog 16 #[.slice p ss.length cap, .slice pc cs.length capc] w' fun e w2 => ∃ P C, e = .returned (.slice P (tupsOf ss cs).length C) ∧ Hid (RowsW w2 (.slice P (tupsOf ss cs).length C) (tupsOf ss cs)) ∧ Below w'.heap.size w' w2) := fun w' h =>
        (tuplesAll_any ss cs _ _ w' (hs2.later h) (hc2.later h) (by omega) (by omega)).mono (by
          rintro e w2 ⟨v, rfl, h1, h2⟩
          have h3 := h1.toW
          obtain ⟨P, C, rfl, h4⟩ := id h3
          exact ⟨P, C, rfl, h3, h2⟩)
      have HRT : Hid (∀ w', Below w.heap.size w w' → Calls Tryz.prog 17 #[.slice p ss.length cap, .slice pc cs.length capc] w' fun e w2 => ∃ P C, e = .returned (.slice P (tupsOf ss cs).length C) ∧ Hid (RowsW w2 (.slice P (tupsOf ss cs).length C) (tupsOf ss cs)) ∧ Below w'.heap.size w' w2) := fun w' h =>
        (refTuples_any ss cs _ _ w' (hs2.later h) (hc2.later h) hl hlc).mono (by
          rintro e w2 ⟨v, rfl, h1, h2⟩
          have h3 := h1.toW
          obtain ⟨P, C, rfl, h4⟩ := id h3
          exact ⟨P, C, rfl, h3, h2⟩)
      have HEQ : Hid (∀ w' P C P' C', RowsW w' (.slice P (tupsOf ss cs).length C) (tupsOf ss cs) → RowsW w' (.slice P' (tupsOf ss cs).length C') (tupsOf ss cs) →
          Calls Tryz.prog 15 #[.slice P (tupsOf ss cs).length C, .slice P' (tupsOf ss cs).length C', .func (.func 10) #[] #[]] w' fun e w2 => e = .returned (.bool true) ∧ ∃ q, w2 = w'.drewN q) := fun w' P C P' C' h1 h2 =>
        equalRows_any _ _ _ w' h1 h2 (Nat.le_trans (tupsOf_small ss cs).1 (by decide)) (tupsOf_small ss cs).2
      have HCO : Hid (∀ isS w', Below w.heap.size w w' → Calls Tryz.prog 18 #[.slice p ss.length cap, .slice q ts.length tcap, .bool isS] w' fun e w2 => e = .returned (.int .i64 ((cellsOf ss ts isS).length : Int)) ∧ Below w'.heap.size w' w2) :=
        fun isS w' h => count_any ss ts isS _ _ w' (hs2.later h) (ht2.later h) (by omega) (by omega) hsm (hm.keep h)
      have HRO : Hid (∀ isS w', Below w.heap.size w w' → Calls Tryz.prog 19 #[.slice p ss.length cap, .slice q ts.length tcap, .bool isS] w' fun e w2 => e = .returned (.int .i64 ((cellsOf ss ts isS).length : Int)) ∧ Below w'.heap.size w' w2) :=
        fun isS w' h => refCount_any ss ts isS _ _ w' (hs2.later h) (ht2.later h) hl hlt hsm2
      clear hso2 hs2 ht2 hc2 hpo hoc hm hl hlt hlc hf hf1 hf2 hf3 hfew h20 h21 hsm hsm2 hsoL
      generalize so.map (·.2) = sz at *
      generalize so.length = nso at *
      generalize validB ss ts = vb at *
      generalize hNT : (tupsOf ss cs).length = NT at *
      generalize tupsOf ss cs = L at *
      clear hNT
      have HC1 := hidden (HCO.out true)
      have HC0 := hidden (HCO.out false)
      have HR1 := hidden (HRO.out true)
      have HR0 := hidden (HRO.out false)
      clear HCO HRO
      generalize (cellsOf ss ts true).length = n1 at *
      generalize (cellsOf ss ts false).length = n0 at *
      cases vb
      all_goals
        go_enter Tryz.func3, Tryz.ntmps3
        go_wp2_with fail
        (with_reducible refine haw.mono ?_)
        rintro e w1 ⟨rfl, hB1⟩
        have hfw := HFEW.out w1 hB1
        have k1 := HSZ.out w1 hB1
        have HB1 := hidden hB1
        clear hB1 haw HFEW
        go_wp2_with fail
        (with_reducible refine hfw.mono ?_)
        rintro e w2 ⟨rfl, hw2⟩
        rw [hw2]
        clear hw2 hfw
        go_wp2_with fail
        (with_reducible refine k1.mono ?_)
        rintro e w2 ⟨P1, C1, rfl, HI1, hB⟩
        have HB2 := hidden (bt HB1.out hB)
        clear k1 hB HB1
        have k2 := HRS.out w2 HB2.out
        go_wp2_with fail
        (with_reducible refine k2.mono ?_)
        rintro e w3 ⟨P2, C2, rfl, HI2, hB⟩
        have HB3 := hidden (bt HB2.out hB)
        have k3 := HIN.out w3 P1 C1 P2 C2 (HI1.out.later hB) HI2.out
        clear k2 hB HB2 HI1 HI2
        go_wp2_with fail
        (with_reducible refine k3.mono ?_)
        rintro e w4 ⟨rfl, qn, hw⟩
        have HB4 : Hid (Below w.heap.size w w4) := by rw [hw]; exact below_drewN HB3.out qn
        clear k3 hw HB3
        have k4 := HVA.out w4 HB4.out
        go_wp2_with fail
        (with_reducible refine k4.mono ?_)
        rintro e w5 ⟨rfl, hB⟩
        have HB5 := hidden (bt HB4.out hB)
        clear k4 hB HB4
        have k5 := HRV.out w5 HB5.out
        go_wp2_with fail
        (with_reducible refine k5.mono ?_)
        rintro e w6 ⟨rfl, hB⟩
        have HB6 := hidden (bt HB5.out hB)
        clear k5 hB HB5
        have k6 := HTU.out w6 HB6.out
        go_wp2_with fail
        (with_reducible refine k6.mono ?_)
        rintro e w7 ⟨P3, C3, rfl, HI3, hB⟩
        have HB7 := hidden (bt HB6.out hB)
        clear k6 hB HB6
        have k7 := HRT.out w7 HB7.out
        go_wp2_with fail
        (with_reducible refine k7.mono ?_)
        rintro e w8 ⟨P4, C4, rfl, HI4, hB⟩
        have HB8 := hidden (bt HB7.out hB)
        have k8 := HEQ.out w8 P3 C3 P4 C4 (HI3.out.later hB) HI4.out
        clear k7 hB HB7 HI3 HI4
        go_wp2_with fail
        (with_reducible refine k8.mono ?_)
        rintro e w9 ⟨rfl, qn2, hw⟩
        have HB9 : Hid (Below w.heap.size w w9) := by rw [hw]; exact below_drewN HB8.out qn2
        clear k8 hw HB8
        have k9 := HC1.out w9 HB9.out
        go_wp2_with fail
        (with_reducible refine k9.mono ?_)
        rintro e w10 ⟨rfl, hB⟩
        have HB10 := hidden (bt HB9.out hB)
        clear k9 hB HB9
        have k10 := HR1.out w10 HB10.out
        go_wp2_with fail
        (with_reducible refine k10.mono ?_)
        rintro e w11 ⟨rfl, hB⟩
        have HB11 := hidden (bt HB10.out hB)
        clear k10 hB HB10
        have k11 := HC0.out w11 HB11.out
        go_wp2_with fail
        (with_reducible refine k11.mono ?_)
        rintro e w12 ⟨rfl, hB⟩
        have HB12 := hidden (bt HB11.out hB)
        clear k11 hB HB11
        have k12 := HR0.out w12 HB12.out
        go_wp2_with fail
        (with_reducible refine k12.mono ?_)
        rintro e w13 ⟨rfl, hB⟩
        have HB13 := hidden (bt HB12.out hB)
        clear k12 hB HB12
        go_wp2_with fail
        go_ret
        exact ⟨by simp, HB13.out⟩
  · have hff : fewB ss ts = false := by simpa using hf
    rw [hff] at hfew
    have HFEW := hidden hfew
    clear hso2 hs2 ht2 hc2 hpo hoc hm hl hlt hlc hf hfew hff
    go_enter Tryz.func3, Tryz.ntmps3
    go_wp2_with fail
    (with_reducible refine haw.mono ?_)
    rintro e w1 ⟨rfl, hB1⟩
    have hfw := HFEW.out w1 hB1
    have HB1 := hidden hB1
    clear hB1 haw
    go_wp2_with fail
    (with_reducible refine hfw.mono ?_)
    rintro e w2 ⟨rfl, hw2⟩
    rw [hw2]
    clear hw2 hfw HFEW
    go_wp2_with fail
    go_ret
    exact ⟨rfl, HB1.out⟩

end Go.Proofs.YtfmoophjdgejeaaGreatDoor
