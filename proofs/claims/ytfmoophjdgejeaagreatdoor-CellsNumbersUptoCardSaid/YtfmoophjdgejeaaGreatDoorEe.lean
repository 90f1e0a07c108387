import Derived.Test.YtfmoophjdgejeaaGreatDoorEd
/-
  The reference's Tuples.
-/
namespace Go.Proofs.YtfmoophjdgejeaaGreatDoor
open Go.RowKit Go.Shelf Go.Lib
attribute [local go_sem] Oper.semAt_some

/-- A row of rows of one's own, in a value. -/
def RowsP (H : Nat) (w : World) (v : Value) (L : List (List Nat)) : Prop :=
  ∃ svs : List Value, svs.length = L.length ∧ w.ownsRow H 23 1 v L.length svs ∧ ∀ (i : Nat) sv t, svs[i]? = some sv → L[i]? = some t → w.ownsRow H 3 1 sv t.length (intsC t)

theorem RowsP.toV {H : Nat} {w : World} {v : Value} {L : List (List Nat)} (h : RowsP H w v L) (hne : ∀ t ∈ L, t ≠ []) : RowsV w v L := by
  obtain ⟨svs, h1, h2, h3⟩ := h
  obtain ⟨P, c, rfl⟩ := row_form h2
  refine ⟨P, c, rfl, fun k t ht => ?_⟩
  have hk := (List.getElem?_eq_some_iff.1 ht).1
  have hs : svs[k]? = some svs[k] := List.getElem?_eq_getElem (by omega)
  generalize svs[k] = sv at hs
  have h6 := h3 k _ t hs ht
  have hint := row_ints h6
  have h4 := h2
  rcases h4.2 with ⟨_, h5⟩ | ⟨g, cap, cur, he, _, hb, _⟩
  · omega
  · obtain ⟨m, hm⟩ : ∃ m, t.length = m + 1 := ⟨t.length - 1, by have := List.length_pos_iff.2 (hne t (List.mem_of_getElem? ht)); omega⟩
    have h7 := h6
    rw [hm] at h7
    obtain ⟨g', cap', rfl⟩ := ownsRow_succ h7
    injection he with he1 he2 he3
    subst he1
    refine ⟨g, g', 0, cap', rfl, (Array.getElem?_eq_some_iff.1 hb).1, ?_, ?_⟩
    · rw [h4.cellAt k (by omega), hs, hm]
    · rw [← hm] at hint; exact hint

theorem ints_cells {w : World} {g' o' c' : Nat} {t : List Nat} (h : IntsV w (.slice (some ⟨g', o', none⟩) t.length c') (natL t)) : ∀ j u, (intsC t)[j]? = some u → w.cell? ((⟨g', o', none⟩ : Addr).add j) = some u := by
  intro j u hu
  unfold intsC at hu
  rw [List.getElem?_map] at hu
  have hj : j < t.length := by
    rcases Nat.lt_or_ge j t.length with h1 | h1
    · exact h1
    · rw [List.getElem?_eq_none h1] at hu; cases hu
  rw [List.getElem?_eq_getElem hj] at hu
  simp only [Option.map_some, Option.some.injEq] at hu
  obtain ⟨p, cap, g, o, he, h1, h2⟩ := h
  have hne : natL t ≠ [] := fun h => by have h2 := congrArg List.length h; rw [natL_len, List.length_nil] at h2; omega
  injection he with he1 he2 he3
  rw [(h1 hne).1] at he1
  injection he1 with he1
  injection he1 with e1 e2 e3
  subst e1; subst e2
  have h3 := h2 j _ (natL_get (List.getElem?_eq_getElem hj))
  rw [show ((⟨g', o', none⟩ : Addr).add j) = ⟨g', o' + j, none⟩ from Go.WideShapes.add_plain _ _ _, h3, hu]

theorem ints_one (t : List Nat) : ∀ u ∈ intsC t, u.oneCell' = true := by
  intro u hu
  unfold intsC at hu
  obtain ⟨n, _, rfl⟩ := List.mem_map.1 hu
  rfl

/-- A row of one's own is appended to a row of rows. -/
theorem rows_push {H : Nat} {A w1 w2 : World} {v v' cv : Value} {pre : List (List Nat)} {x : List Nat} {svs : List Value} {tmp : Obj}
    (hsl : svs.length = pre.length) (hso : A.ownsRow H 23 1 v pre.length svs) (hse : ∀ (i : Nat) sv t, svs[i]? = some sv → pre[i]? = some t → A.ownsRow H 3 1 sv t.length (intsC t))
    (hb : Below A.heap.size A w1) (hcr : w1.ownsRow A.heap.size 3 1 cv x.length (intsC x)) (hHA : H ≤ A.heap.size)
    (hown' : w2.ownsRow H 23 1 v' (pre.length + 1) (svs ++ [cv])) (hgrow : (w1.alloc tmp).grownBy w2 v.ownBlock) : RowsP H w2 v' (pre ++ [x]) ∧ Below H A w2 := by
  have hso1 := row_later hso hb
  refine ⟨⟨svs ++ [cv], by simp [hsl], by simpa using hown', ?_⟩, ?_⟩
  · intro i sv t hs ht
    have key : ∀ {b : Nat}, w1.ownsRow b 3 1 sv t.length (intsC t) → w2.ownsRow b 3 1 sv t.length (intsC t) := fun {b} h => (h.alloc tmp).kept hgrow (rows_apart h hso1 (by decide))
    rcases Nat.lt_or_ge i svs.length with hi | hi
    · rw [List.getElem?_append_left hi] at hs
      rw [List.getElem?_append_left (by omega)] at ht
      exact key (row_later (hse i sv t hs ht) hb)
    · rw [List.getElem?_append_right hi] at hs
      rw [List.getElem?_append_right (by omega)] at ht
      have h0 : i - svs.length = 0 := by
        rcases Nat.eq_zero_or_pos (i - svs.length) with h | h
        · exact h
        · obtain ⟨d, hd⟩ : ∃ d, i - svs.length = d + 1 := ⟨i - svs.length - 1, by omega⟩
          rw [hd] at hs; simp at hs
      rw [h0] at hs
      rw [show i - pre.length = 0 by omega] at ht
      simp only [List.getElem?_cons_zero, Option.some.injEq] at hs ht
      subst hs; subst ht
      exact key (row_mono hcr hHA)
  · exact ((hb.mono hHA).alloc (Nat.le_trans hHA hb.size) tmp).grown hgrow (by simp; have := hb.size; omega) (row_block hso)

/-- The tuples of one size more, as a walk makes them. -/
def grownT (y : Nat) (t : List Nat) : List (List Nat) := (List.range y).map fun x => t ++ [x]

theorem grown_take {L : List (List Nat)} {a y : Nat} {t : List Nat} (h : L[a]? = some t) : (L.take (a + 1)).flatMap (grownT y) = (L.take a).flatMap (grownT y) ++ grownT y t := by
  rw [take_step h, List.flatMap_append, List.flatMap_cons, List.flatMap_nil, List.append_nil]

theorem flat_len (L : List (List Nat)) (y : Nat) : (L.flatMap (grownT y)).length = L.length * y := by
  induction L with
  | nil => simp
  | cons t L ih =>
    rw [List.flatMap_cons, List.length_append, ih, List.length_cons, Nat.add_mul, Nat.one_mul, Nat.add_comm]
    simp [grownT]

set_option maxRecDepth 100000 in
set_option maxHeartbeats 12800000 in
theorem refTuples_any (ss cs : List Int) (sv cv : Value) (w : World) (hs : IntsV w sv ss) (hc : IntsV w cv cs) (hl : ss.length ≤ 1048576) (hlc : cs.length ≤ 1048576) :
    Calls Tryz.prog 17 #[sv, cv] w fun e w' => ∃ v, e = .returned v ∧ RowsV w' v (tupsOf ss cs) ∧ Below w.heap.size w w' := by
  have hsn := refSound_any ss sv w hs hl
  obtain ⟨p, cap, g, o, rfl, hp, hci⟩ := hs
  obtain ⟨pc, capc, gc, oc, rfl, hpc, hcci⟩ := hc
  have HNIL : Hid (∀ w', RowsV w' (.slice none 0 0) []) := fun w' => ⟨none, 0, rfl, fun k t h => by simp at h⟩
  have HP := hidden hp
  have HCI := hidden hci
  have HPC := hidden hpc
  have HCC := hidden hcci
  clear hp hci hpc hcci
  by_cases h3 : 3 < cs.length
  · have h3z : (3 : Int) < (cs.length : Int) := by omega
    have H0 : Hid (tupsOf ss cs = []) := by show _ = _; unfold tupsOf; rw [if_neg (by omega)]
    clear hl hlc h3 hsn
    go_enter Tryz.func17, Tryz.ntmps17
    go_wp2_with fail
    go_ret
    exact ⟨_, rfl, by rw [H0.out]; exact HNIL.out _, Below.refl _ _⟩
  · have h3z : ¬ (3 : Int) < (cs.length : Int) := by omega
    by_cases hsd : soundB ss = true
    · rw [hsd] at hsn
      obtain ⟨i0, hi, hz0, hz1, hz2⟩ := info_parts infoI
      obtain ⟨i1, hi', hy0, hy1, hy2⟩ := info_parts infoL
      have HSD := hidden hsd
      have HC3 : Hid (cs.length ≤ 3) := by show _ ≤ _; omega
      clear hsd h3
      go_enter Tryz.func17, Tryz.ntmps17
      go_wp2_with fail
      (with_reducible refine hsn.mono ?_)
      rintro e w1 ⟨rfl, hw1⟩
      rw [hw1]
      clear hw1 hsn
      go_wp2_with fail
      obtain ⟨W1, hW1⟩ : ∃ W1, W1 = (w.alloc (.cells #[] 3)).alloc (.cells #[.slice (some ⟨w.heap.size, 0, none⟩) 0 0] 23) := ⟨_, rfl⟩
      have hB1 : Below w.heap.size w W1 := by rw [hW1]; exact ((Below.refl _ _).alloc (Nat.le_refl _) _).alloc (by simp) _
      have hz1' : W1.heap.size = w.heap.size + 2 := by rw [hW1]; simp
      have hr1 : RowsV W1 (.slice (some ⟨w.heap.size + 1, 0, none⟩) 1 1) [[]] := by
        refine ⟨_, _, rfl, fun k t h => ?_⟩
        cases k with
        | succ k => simp at h
        | zero =>
          simp at h
          subst h
          exact ⟨_, w.heap.size, 0, 0, rfl, by omega, by rw [hW1]; simp [go_sem], ⟨_, _, 0, 0, rfl, fun h => absurd rfl h, fun i z h => by simp [natL] at h⟩⟩
      have HB1 := hidden hB1
      have HR1 := hidden hr1
      rw [← hW1]
      clear hW1 hB1 hr1 hz1'
      go_loopw [5, 6] (fun ov i wr => ∃ (k N : Nat) (P : Option Addr) (c : Nat), k ≤ cs.length ∧ ov = .slice P N c ∧ i = .int .i64 k ∧ N ≤ 216 ∧ Hid (N = prodL (lensL ss (cs.take k)) ∧ (cs.take k).all (colB ss.length) = true ∧ RowsV wr (.slice P N c) (tups (lensL ss (cs.take k))) ∧ Below w.heap.size w wr)) (fun _ i _ => cs.length - (intOf i).toNat)
      case atStart => exact ⟨0, 1, _, 1, Nat.zero_le _, rfl, rfl, by omega, rfl, rfl, HR1.out, HB1.out⟩
      case round =>
        obtain ⟨k, N, P, c, hk, rfl, rfl, hN, hh⟩ := hrel
        by_cases hlt : k < cs.length
        · have hx : cs[k]? = some cs[k] := List.getElem?_eq_getElem hlt
          generalize cs[k] = x at hx
          obtain ⟨rfl, hg⟩ := HPC.out (fun h => by rw [h] at hlt; exact absurd hlt (Nat.not_lt_zero _))
          have ci : wr.cell? ⟨gc, oc + k, none⟩ = some (.int .i64 x) := (hh.out.2.2.2.cell (p := ⟨gc, oc + k, none⟩) hg).trans (HCC.out k x hx)
          have hkz : (k : Int) < (cs.length : Int) := by omega
          have HX := hidden hx
          clear hx
          by_cases hgood : 0 ≤ x ∧ x < ss.length
          · obtain ⟨m, rfl⟩ : ∃ m : Nat, x = m := ⟨x.toNat, by omega⟩
            have hm : m < ss.length := by omega
            have hy0' : ss[m]? = some ss[m] := List.getElem?_eq_getElem hm
            generalize ss[m] = y at hy0'
            obtain ⟨y, rfl, hy1', hy2'⟩ := sound_at HSD.out hy0'
            obtain ⟨rfl, hgs⟩ := HP.out (fun h => by rw [h] at hm; exact absurd hm (Nat.not_lt_zero _))
            have hm0 : ¬ (m : Int) < 0 := by omega
            have hm1 : (m : Int) < (ss.length : Int) := by omega
            have hm2 : ¬ (ss.length : Int) ≤ (m : Int) := by omega
            obtain ⟨wo, hwo⟩ : ∃ wo, wo = wr := ⟨_, rfl⟩
            subst hwo
            obtain ⟨hNe, hall, hrows, hBr⟩ := hh.out
            have hln : lensL ss (cs.take (k + 1)) = lensL ss (cs.take k) ++ [y] := by
              have h := lens_take (ss := ss) HX.out
              rw [Int.toNat_natCast, List.getD_eq_getElem?_getD, hy0'] at h
              exact h
            have HST : Hid ((cs.take (k + 1)).all (colB ss.length) = true) := by
              show _ = _
              rw [take_step HX.out, List.all_append, hall]
              simp [colB, hm]
            have hN1 : prodL (lensL ss (cs.take (k + 1))) = N * y := by rw [hln, prod_snoc, hNe]
            have hN2 : N * y ≤ 216 := by
              rw [← hN1]
              exact prod_le (by rw [lens_len, List.length_take]; have := HC3.out; omega) (fun n hn => (lens_pos HSD.out HST.out n hn).2)
            have hTL : (tups (lensL ss (cs.take k))).length = N := by rw [tups_len, hNe]
            have hTN : tups (lensL ss (cs.take (k + 1))) = (tups (lensL ss (cs.take k))).flatMap (grownT y) := by rw [hln, tups_snoc _ _ hy1']; rfl
            have ht3 : ∀ t ∈ tups (lensL ss (cs.take k)), t.length ≤ 3 := fun t ht => by
              unfold tups at ht
              obtain ⟨j, _, rfl⟩ := List.mem_map.1 ht
              rw [tup_len, lens_len, List.length_take]; have := HC3.out; omega
            have HNX : Hid (prodL (lensL ss (cs.take (k + 1))) = N * y ∧ N * y ≤ 216 ∧ tups (lensL ss (cs.take (k + 1))) = (tups (lensL ss (cs.take k))).flatMap (grownT y)) := ⟨hN1, hN2, hTN⟩
            generalize tups (lensL ss (cs.take k)) = L at *
            have HROWS := hidden hrows
            have HBr := hidden hBr
            have HTL := hidden hTL
            have HT3 := hidden ht3
            have HLT := hidden hlt
            have HY0 := hidden hy0'
            have HN2 := hidden hN2
            obtain ⟨H, hH⟩ : ∃ H, H = wo.heap.size := ⟨_, rfl⟩
            obtain ⟨W5, hW5⟩ : ∃ W5, W5 = wo.alloc (.cells #[] 23) := ⟨_, rfl⟩
            have hB5 : Below H wo W5 := by rw [hW5, hH]; exact (Below.refl _ _).alloc (Nat.le_refl _) _
            have hz5 : W5.heap.size = H + 1 := by rw [hW5, hH]; simp
            have hr5 : RowsP H W5 (.slice (some ⟨H, 0, none⟩) 0 0) [] := by
              refine ⟨[], rfl, ⟨rfl, Or.inr ⟨H, 0, #[], rfl, Nat.le_refl _, ?_, Nat.le_refl _, Nat.zero_le _, rfl, rfl⟩⟩, fun i sv t h => by simp at h⟩
              rw [hW5, hH]; exact World.alloc_heap_new _ _
            have HR5 := hidden hr5
            have HB5 := hidden hB5
            have HHS := hidden hH
            clear hgood hln hN1 hN2 hTN hTL ht3 hNe hall hrows hBr hh hlt hr5 hB5 hz5 hy0'
            go_wp2_with fail
            rw [← hW5, ← hH]
            clear hW5 hH ci
            go_loopw [7, 8] (fun nv j wr2 => ∃ a : Nat, a ≤ N ∧ j = .int .i64 a ∧ Hid (RowsP H wr2 nv ((L.take a).flatMap (grownT y)) ∧ Below H wo wr2)) (fun _ j _ => N - (intOf j).toNat)
            case atStart => exact ⟨0, Nat.zero_le _, rfl, HR5.out, HB5.out⟩
            case round =>
              obtain ⟨a, ha, rfl, hh2⟩ := hrel
              by_cases hlt2 : a < N
              · have ht : L[a]? = some (L[a]'(by rw [HTL.out]; exact hlt2)) := List.getElem?_eq_getElem _
                generalize L[a]'(by rw [HTL.out]; exact hlt2) = t at ht
                have haz : (a : Int) < (N : Int) := by omega
                have HT := hidden ht
                have HLT2 := hidden hlt2
                have hpl : ((L.take a).flatMap (grownT y)).length = a * y := by rw [flat_len, List.length_take, HTL.out]; congr 1; omega
                have hay : a * y + y ≤ 216 := by
                  have h1 : (a + 1) * y ≤ N * y := Nat.mul_le_mul_right _ hlt2
                  rw [Nat.add_mul, Nat.one_mul] at h1
                  have := HN2.out; omega
                have HGT := hidden (grown_take (y := y) ht)
                generalize (L.take a).flatMap (grownT y) = pre at *
                have HPL := hidden hpl
                have HAY := hidden hay
                clear ht hlt2 hpl hay
                go_wp2_with fail
                go_loopw [7, 9] (fun nv j wr3 => ∃ b : Nat, b ≤ y ∧ j = .int .i64 b ∧ Hid (RowsP H wr3 nv (pre ++ (List.range b).map fun x => t ++ [x]) ∧ Below H wo wr3)) (fun _ j _ => y - (intOf j).toNat)
                case atStart => exact ⟨0, Nat.zero_le _, rfl, by rw [List.range_zero, List.map_nil, List.append_nil]; exact hh2.out.1, hh2.out.2⟩
                case round =>
                  obtain ⟨b, hb, rfl, hh3⟩ := hrel
                  obtain ⟨⟨svs, hsl, hso, hse⟩, hB3⟩ := hh3.out
                  have hBw := HBr.out.trans (hB3.mono (by rw [HHS.out]; exact HBr.out.size))
                  have ci : wr.cell? ⟨gc, oc + k, none⟩ = some (.int .i64 (m : Int)) := (hBw.cell (p := ⟨gc, oc + k, none⟩) hg).trans (HCC.out k _ HX.out)
                  have cj : wr.cell? ⟨g, o + m, none⟩ = some (.int .i64 (y : Int)) := (hBw.cell (p := ⟨g, o + m, none⟩) hgs).trans (HCI.out m _ HY0.out)
                  have hHA : H ≤ wr.heap.size := by rw [HHS.out]; exact hB3.size
                  by_cases hlt3 : b < y
                  · have hbz : (b : Int) < (y : Int) := by omega
                    obtain ⟨P', c', he, hrow⟩ := HROWS.out
                    injection he with he1 he2 he3
                    subst he1
                    obtain ⟨g2, g', o', c2, rfl, hg2, hcell, hint⟩ := hrow a t HT.out
                    have hcl : wr.cell? ⟨g2, a, none⟩ = some (.slice (some ⟨g', o', none⟩) t.length c2) := (hB3.cell (p := ⟨g2, a, none⟩) (by rw [HHS.out]; exact hg2)).trans hcell
                    have hintw := hint.later (by rw [HHS.out] at hB3; exact hB3)
                    have htl := HT3.out t (List.mem_of_getElem? HT.out)
                    have hpn : (pre ++ (List.range b).map fun x => t ++ [x]).length = a * y + b := by rw [List.length_append, HPL.out]; simp
                    have hayb : a * y + b + 1 ≤ 216 := by have := HAY.out; omega
                    have hpush := fun x (h : x = t ++ [b]) => (show (pre ++ (List.range (b + 1)).map fun x => t ++ [x]) = (pre ++ (List.range b).map fun x => t ++ [x]) ++ [x] by rw [h, List.range_succ, List.map_append, List.append_assoc]; rfl)
                    have HPU := hidden (hpush _ rfl)
                    generalize (pre ++ (List.range b).map fun x => t ++ [x]) = now at *
                    have own0 : (wr.alloc (.cells #[] 3)).ownsRow wr.heap.size 3 1 (.slice (some ⟨wr.heap.size, 0, none⟩) 0 0) 0 [] := ⟨rfl, Or.inr ⟨wr.heap.size, 0, #[], rfl, Nat.le_refl _, World.alloc_heap_new _ _, Nat.le_refl _, Nat.zero_le _, rfl, rfl⟩⟩
                    have hB0 : Below wr.heap.size wr (wr.alloc (.cells #[] 3)) := (Below.refl _ _).alloc (Nat.le_refl _) _
                    have hnews := ints_cells (hintw.later hB0)
                    have hicl : (intsC t).length = t.length * 1 := by unfold intsC; simp
                    have hg2w : g2 ≠ wr.heap.size := by rw [HHS.out] at hHA; omega
                    have hg2l : g2 < wr.heap.size := by rw [HHS.out] at hHA; omega
                    have HRT : Hid (∀ (v2 : Value) (w2 : World), w2.ownsRow wr.heap.size 3 1 v2 (t.length + 1) ([] ++ intsC t ++ [.int .i64 (b : Int)]) → w2.ownsRow wr.heap.size 3 1 v2 (t ++ [b]).length (intsC (t ++ [b]))) := fun v2 w2 h => by
                      have e1 : (t ++ [b]).length = t.length + 1 := by rw [List.length_append]; rfl
                      have e2 : intsC (t ++ [b]) = [] ++ intsC t ++ [.int .i64 (b : Int)] := by unfold intsC; rw [List.map_append, List.nil_append]; rfl
                      rw [e1, e2]; exact h
                    have HLT3 := hidden hlt3
                    clear hh3 hrow hcell hint he2 he3 hlt3 hpush hintw hBw hb
                    go_wp2_with (first | (at_builtin; refine wpList_append_own _ rfl (.tmp 59) (.tmp 63) 23 rfl wr.heap.size 3 i0 (.int .i64 0) 1 8 Tryz.underlying23 hi hz0 hz1 hz2 rfl (by decide) _ _ _ rfl own0 ⟨g', o', none⟩ t.length c2 (intsC t) rfl hicl hnews (ints_one t) (by unfold maxLen; omega) (by omega) (by simp) ?_; intro v1 w1 own1 grow1 _) | (at_builtin; refine wpList_append_own _ rfl (.tmp 64) (.tmp 66) 23 rfl wr.heap.size 3 i0 (.int .i64 0) 1 8 Tryz.underlying23 hi hz0 hz1 hz2 rfl (by decide) v1 _ _ rfl (own1.alloc _) ⟨w1.heap.size, 0, none⟩ 1 1 [.int .i64 (b : Int)] rfl rfl (cell_one_new _ _ _) (by intro u hu; simp at hu; subst hu; rfl) (by unfold maxLen; omega) (by omega) (by have := (hB0.grown grow1 (by simp) (by intro k hk; cases hk; exact Nat.le_refl _)).size; simp; omega) ?_; intro v2 w2 own2 grow2 _; rw [Nat.zero_add] at own2; obtain ⟨g9, cap9, rfl⟩ := ownsRow_succ own2) | (at_builtin; go_loud (refine wpList_append_own _ rfl (.tmp 58) (.tmp 68) 30 rfl H 23 i1 (.slice none 0 0) 1 24 Tryz.underlying30 hi' hy0 hy1 hy2 rfl (by decide) u7 now.length svs rfl ((row_later hso (((hB0.grown grow1 (by simp) (by intro k hk; cases hk; exact Nat.le_refl _)).alloc (hB0.grown grow1 (by simp) (by intro k hk; cases hk; exact Nat.le_refl _)).size _).grown grow2 (by have := (hB0.grown grow1 (by simp) (by intro k hk; cases hk; exact Nat.le_refl _)).size; simp; omega) (row_block own1))).alloc _) ⟨w2.heap.size, 0, none⟩ 1 1 [.slice (some ⟨g9, 0, none⟩) (t.length + 1) cap9] rfl rfl (cell_one_new _ _ _) (by intro u hu; simp at hu; subst hu; rfl) (by unfold maxLen; omega) (by omega) (by have h1 := (((hB0.grown grow1 (by simp) (by intro k hk; cases hk; exact Nat.le_refl _)).alloc (hB0.grown grow1 (by simp) (by intro k hk; cases hk; exact Nat.le_refl _)).size _).grown grow2 (by have := (hB0.grown grow1 (by simp) (by intro k hk; cases hk; exact Nat.le_refl _)).size; simp; omega) (row_block own1)).size; simp; omega) ?_); intro v3 w3 own3 grow3 _))
                    have hb1 := hB0.grown grow1 (by simp) (by intro k hk; cases hk; exact Nat.le_refl _)
                    have hb2 := (hb1.alloc hb1.size (.cells #[.int .i64 (b : Int)] 3)).grown grow2 (by have := hb1.size; simp; omega) (row_block own1)
                    obtain ⟨hr3, hbl3⟩ := rows_push hsl hso hse hb2 (HRT.out _ w2 own2) hHA own3 grow3
                    go_roundw
                    case rel => exact ⟨b + 1, HLT3.out, by go_num, by rw [HPU.out]; exact hr3, hB3.trans hbl3⟩
                    case measure => simp [intOf]; have := HLT3.out; omega
                  · obtain rfl : b = y := by omega
                    have hbz : ¬ (b : Int) < (b : Int) := by omega
                    have hR := hh3.out.1
                    have HR : Hid (RowsP H wr u7 ((L.take (a + 1)).flatMap (grownT b))) := by
                      show RowsP _ _ _ _
                      rw [HGT.out]; exact hR
                    have HB3 := hidden hB3
                    clear hh3 hsl hso hse hB3 hBw hR hHA hlt3 hb
                    go_wp2_with fail
                    go_roundw
                    case rel => exact ⟨a + 1, HLT2.out, by go_num, HR.out, HB3.out⟩
                    case measure => simp [intOf]; have := HLT2.out; omega
              · obtain rfl : a = N := by omega
                have haz : ¬ (a : Int) < (a : Int) := by omega
                obtain ⟨hR, hB3⟩ := hh2.out
                rw [List.take_of_length_le (by rw [HTL.out]; exact Nat.le_refl _)] at hR
                have hfl : (L.flatMap (grownT y)).length = a * y := by rw [flat_len, HTL.out]
                obtain ⟨svs, hsl, hso, hse⟩ := id hR
                obtain ⟨P7, c7, rfl⟩ := row_form hso
                have hV := hR.toV (fun t ht => by
                  obtain ⟨t0, _, ht2⟩ := List.mem_flatMap.1 ht
                  unfold grownT at ht2
                  obtain ⟨x, _, rfl⟩ := List.mem_map.1 ht2
                  simp)
                have HBw := hidden (HBr.out.trans (hB3.mono (by rw [HHS.out]; exact HBr.out.size)))
                have HV : Hid (RowsV wr (.slice P7 (a * y) c7) (tups (lensL ss (cs.take (k + 1))))) := by
                  show RowsV _ _ _
                  rw [HNX.out.2.2, ← hfl]; exact hV
                rw [hfl]
                clear hh2 hR hB3 hsl hso hse hV hfl hlt2 ha
                go_wp2_with fail
                go_roundw
                case rel => exact ⟨k + 1, a * y, P7, c7, HLT.out, rfl, by go_num, HNX.out.2.1, HNX.out.1.symm, HST.out, HV.out, HBw.out⟩
                case measure => simp [intOf]; have := HLT.out; omega
          · have H0 : Hid (tupsOf ss cs = []) := by
              show _ = _
              unfold tupsOf
              rw [if_neg]
              rintro ⟨_, h1, _⟩
              have h2 := List.all_eq_true.1 h1 x (List.mem_of_getElem? HX.out)
              simp only [colB, Bool.and_eq_true, decide_eq_true_eq] at h2
              exact hgood h2
            have HBr := hidden hh.out.2.2.2
            have hbad : x < 0 ∨ (0 ≤ x ∧ (ss.length : Int) ≤ x) := by omega
            clear hgood hh
            rcases hbad with hb | ⟨hb1, hb⟩
            · go_wp2_with fail
              go_ret
              exact ⟨_, rfl, by rw [H0.out]; exact HNIL.out _, HBr.out⟩
            · have hb2 : ¬ x < 0 := by omega
              go_wp2_with fail
              go_ret
              exact ⟨_, rfl, by rw [H0.out]; exact HNIL.out _, HBr.out⟩
        · obtain rfl : k = cs.length := by omega
          have hkz : ¬ (cs.length : Int) < (cs.length : Int) := by omega
          obtain ⟨hNe, hall, hrows, hBr⟩ := hh.out
          clear hNe
          rw [List.take_length] at hall hrows
          have H0 : Hid (tupsOf ss cs = tups (lensL ss cs)) := by
            show _ = _
            unfold tupsOf
            rw [if_pos ⟨HSD.out, hall, HC3.out⟩]
          have HROWS := hidden hrows
          have HBr := hidden hBr
          clear hh hlt hall hrows hBr
          go_wp2_with fail
          go_ret
          exact ⟨_, rfl, by rw [H0.out]; exact HROWS.out, HBr.out⟩
    · have hsf : soundB ss = false := by simpa using hsd
      rw [hsf] at hsn
      have H0 : Hid (tupsOf ss cs = []) := by show _ = _; unfold tupsOf; rw [if_neg (fun h => hsd h.1)]
      clear hsd hsf h3
      go_enter Tryz.func17, Tryz.ntmps17
      go_wp2_with fail
      (with_reducible refine hsn.mono ?_)
      rintro e w1 ⟨rfl, hw1⟩
      rw [hw1]
      clear hw1 hsn
      go_wp2_with fail
      go_ret
      exact ⟨_, rfl, by rw [H0.out]; exact HNIL.out _, Below.refl _ _⟩

end Go.Proofs.YtfmoophjdgejeaaGreatDoor
