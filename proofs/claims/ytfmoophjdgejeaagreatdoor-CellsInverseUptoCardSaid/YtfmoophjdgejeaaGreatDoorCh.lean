import Derived.Test.YtfmoophjdgejeaaGreatDoorCg
import Derived.Sort.QuietIn
/-
  Tuples, walked.
-/
namespace Go.Proofs.YtfmoophjdgejeaaGreatDoor
open Go.RowKit Go.Shelf
attribute [local go_sem] Oper.semAt_some

/-- The tuples of columns. -/
def tupsOf (ss cs : List Int) : List (List Nat) := if soundB ss = true ∧ cs.all (colB ss.length) = true ∧ cs.length ≤ 3 then tups (lensL ss cs) else []

theorem prod_le {ls : List Nat} (h : ls.length ≤ 3) (h6 : ∀ n ∈ ls, n ≤ 6) : prodL ls ≤ 216 := by
  match ls, h, h6 with
  | [], _, _ => simp [prodL]
  | [a], _, h6 => have := h6 a (by simp); simp only [prodL, Nat.mul_one]; omega
  | [a, b], _, h6 =>
    have h1 := h6 a (by simp)
    have h2 := h6 b (by simp)
    have := Nat.mul_le_mul h1 h2
    simp only [prodL, Nat.mul_one]; omega
  | [a, b, c], _, h6 =>
    have h1 := h6 a (by simp)
    have h2 := h6 b (by simp)
    have h3 := h6 c (by simp)
    have := Nat.mul_le_mul h1 (Nat.mul_le_mul h2 h3)
    simp only [prodL, Nat.mul_one]; omega
  | _ :: _ :: _ :: _ :: _, h, _ => simp at h

theorem RowsO.none (O : Nat → Prop) (B : Nat) (w : World) : RowsO O B w (.slice none 0 0) [] := ⟨[], rfl, ⟨⟨rfl, .inl ⟨rfl, rfl⟩⟩, fun k h => by cases h⟩, fun i _ _ h => by simp at h⟩
theorem RowsOf.none (B : Nat) (w : World) : RowsOf B w (.slice none 0 0) [] := RowsO.none _ B w
theorem RowsOf.mono {B B' : Nat} {w : World} {v : Value} {L : List (List Nat)} (h : RowsOf B w v L) (hB : B' ≤ B) : RowsOf B' w v L := by
  obtain ⟨svs, h1, h2, h3⟩ := h
  exact ⟨svs, h1, ⟨row_mono h2.1 hB, h2.2⟩, fun i sv t hs hl => ⟨row_mono (h3 i sv t hs hl).1 hB, (h3 i sv t hs hl).2⟩⟩

set_option maxRecDepth 100000 in
set_option maxHeartbeats 6400000 in
theorem tuplesAll_any (ss cs : List Int) (sv cv : Value) (w : World) (hs : IntsV w sv ss) (hc : IntsV w cv cs) (hl : ss.length ≤ 4611686018427387904) (hlc : cs.length ≤ 4611686018427387904) :
    Calls Tryz.prog 16 #[sv, cv] w fun e w' => ∃ v, e = .returned v ∧ RowsOf w.heap.size w' v (tupsOf ss cs) ∧ Below w.heap.size w w' := by
  have hs2 := hs
  have hc2 := hc
  obtain ⟨p, cap, g, o, rfl, hp, hci⟩ := hs
  obtain ⟨pc, capc, gc, oc, rfl, hpc, hcci⟩ := hc
  have hmx : Tryz.prog.follows .mixedOrders = true := by kernel_rfl
  obtain ⟨W1, hW1⟩ : ∃ W1, W1 = w.alloc (.cells #[.slice p ss.length cap, .slice none 0 0] 61) := ⟨_, rfl⟩
  have hB1 : Below w.heap.size w W1 := by rw [hW1]; exact (Below.refl _ _).alloc (Nat.le_refl _) _
  have hz1 : W1.heap.size = w.heap.size + 1 := by rw [hW1]; simp
  have c10 : W1.cell? ⟨w.heap.size, 0, none⟩ = some (.slice p ss.length cap) := by rw [hW1]; simp
  have c11 : W1.cell? ⟨w.heap.size, 1, none⟩ = some (.slice none 0 0) := by rw [hW1]; simp
  have hvs := validSizes_any ss _ none 0 0 W1 (hs2.later hB1) hl
  have hvc := fun w' (h : Below W1.heap.size W1 w') => validColumns_any ss.length cs (.slice pc cs.length capc) p cap none 0 0 w' ((hc2.later hB1).later h) hlc
  by_cases h1 : soundB ss = true
  · rw [h1] at hvs
    by_cases h2 : (cs.all (colB ss.length) && decide (cs.length ≤ 3)) = true
    · have h3 := h2
      rw [Bool.and_eq_true, decide_eq_true_eq] at h3
      obtain ⟨h3, h4⟩ := h3
      have hto : tupsOf ss cs = tups (lensL ss cs) := by unfold tupsOf; rw [if_pos ⟨h1, h3, h4⟩]
      rw [hto]
      have hln := fun w' (h : Below W1.heap.size W1 w') => lengths_any ss cs _ _ none 0 0 w' ((hs2.later hB1).later h) ((hc2.later hB1).later h) h1 h3 h4
      have hll := lens_len ss cs
      have hlp := lens_pos h1 h3
      rw [← hll] at h4
      generalize lensL ss cs = ls at *
      obtain ⟨i0, hi, hz0, hz1', hz2⟩ := info_parts infoL
      rw [h2] at hvc
      have HVC := hidden hvc
      have HLN := hidden hln
      have HLL := hidden hll
      have HLP := hidden hlp
      have H4 := hidden h4
      have HB1 := hidden hB1
      clear hvc hln hll hlp h1 h2 h3 h4 hto hB1 hp hci hpc hcci hs2 hc2 hl hlc
      refine (callsIn_wide (n := 9)).1 ?_
      refine callsIn_of_wp_marks Tryz.func16 rfl trivial ?_ rfl
      simp only [Tryz.ntmps16, List.size_toArray, List.length_cons, List.length_nil, Nat.reduceAdd, Nat.reduceSub, Array.replicate_succ, Array.replicate_zero, List.push_toArray, List.append_toArray, List.nil_append, List.cons_append]
      gi_wp2_with fail
      rw [← hW1]
      clear hW1
      refine ⟨trivial, ?_⟩
      (with_reducible refine (callsIn_wide.2 hvs).mono ?_)
      rintro e w2 ⟨rfl, hB2⟩
      have k0 : w2.cell? ⟨w.heap.size, 0, none⟩ = some (.slice p ss.length cap) := (hB2.cell (p := ⟨w.heap.size, 0, none⟩) (by show w.heap.size < _; omega)).trans c10
      have k1 : w2.cell? ⟨w.heap.size, 1, none⟩ = some (.slice none 0 0) := (hB2.cell (p := ⟨w.heap.size, 1, none⟩) (by show w.heap.size < _; omega)).trans c11
      have HVC2 := hidden (HVC.out w2 hB2)
      have HB2 := hidden hB2
      clear hB2 c10 c11 hvs HVC
      gi_wp2_with fail
      refine ⟨trivial, ?_⟩
      (with_reducible refine (callsIn_wide.2 HVC2.out).mono ?_)
      rintro e w3 ⟨rfl, hB3⟩
      have k30 : w3.cell? ⟨w.heap.size, 0, none⟩ = some (.slice p ss.length cap) := (hB3.cell (p := ⟨w.heap.size, 0, none⟩) (by show w.heap.size < _; have := HB2.out.size; omega)).trans k0
      have k31 : w3.cell? ⟨w.heap.size, 1, none⟩ = some (.slice none 0 0) := (hB3.cell (p := ⟨w.heap.size, 1, none⟩) (by show w.heap.size < _; have := HB2.out.size; omega)).trans k1
      have hlt3 : w.heap.size < w3.heap.size := by have h1 := HB2.out.size; have h2 := hB3.size; omega
      have hne3 : w.heap.size ≠ w3.heap.size := Nat.ne_of_lt hlt3
      have HB3 := hidden (bt HB2.out hB3)
      obtain ⟨V, hV⟩ : ∃ V, V = w3.heap.size := ⟨_, rfl⟩
      obtain ⟨W4, hW4⟩ : ∃ W4, W4 = w3.alloc (.cells #[.slice none 0 0] 30) := ⟨_, rfl⟩
      have hB4 : Below W1.heap.size W1 W4 := by rw [hW4]; exact HB3.out.alloc HB3.out.size _
      have hz4 : W4.heap.size = V + 1 := by rw [hW4, hV]; simp
      have bO : Boxed W4 V 30 (.slice none 0 0) := by rw [hW4, hV]; exact Boxed.new w3 30 (.slice none 0 0)
      have hl4 := HLN.out W4 hB4
      clear hB3 k0 k1 HVC2 HB2
      gi_wp2_with fail
      rw [← hW4]
      rw [← hV]
      have HB4 := hidden hB4
      have hVw : w.heap.size < V := by omega
      clear hW4 hV hB4 HB3 hlt3 hne3 k30 k31 HLN
      refine ⟨trivial, ?_⟩
      (with_reducible refine (callsIn_wide.2 hl4).mono ?_)
      rintro e w5 ⟨lv, rfl, hrow5, hB5⟩
      rw [← HLL.out] at hrow5
      have hi5 := row_ints hrow5
      have hge5 := row_block hrow5
      obtain ⟨lp, lcap, lg, lo, hlv, hlp5, hlc5⟩ := hi5
      rw [natL_len] at hlv
      subst hlv
      have hlgV : ls ≠ [] → V + 1 ≤ lg := fun h => by
        have h1 := hlp5 (fun h2 => h (List.map_eq_nil_iff.1 h2))
        have h2 := hge5 lg (by rw [h1.1]; rfl)
        omega
      have hts := fun w' => tuples_any lp ls.length lcap w'
      have HB5 := hidden hB5
      have HLP5 := hidden hlp5
      have HLC5 := hidden hlc5
      clear hl4 hrow5 hB5 hlp5 hlc5 hge5
      gi_wp2_with fail
      refine ⟨trivial, ?_⟩
      (with_reducible refine (callsIn_wide.2 (hts _)).mono ?_)
      rintro e w6 ⟨rfl, rfl⟩
      obtain ⟨S, hS⟩ : ∃ S, S = w5.heap.size := ⟨_, rfl⟩
      obtain ⟨W6, hW6⟩ : ∃ W6, W6 = w5.alloc (.cells #[.slice lp ls.length lcap] 23) := ⟨_, rfl⟩
      have hB6 : Below W4.heap.size W4 W6 := by rw [hW6]; exact HB5.out.alloc HB5.out.size _
      have hz6 : W6.heap.size = S + 1 := by rw [hW6, hS]; simp
      have cS : W6.cell? ⟨S, 0, none⟩ = some (.slice lp ls.length lcap) := by rw [hW6, hS]; simp
      have hSV : V < S := by have := HB5.out.size; omega
      have hlc6 : ∀ i z, (natL ls)[i]? = some z → W6.cell? ⟨lg, lo + i, none⟩ = some (.int .i64 z) := fun i z hz => by
        have hne : natL ls ≠ [] := fun h => by rw [h] at hz; simp at hz
        rw [hW6, World.cell?_alloc_lt _ _ _ (HLP5.out hne).2]; exact HLC5.out i z hz
      have hlp6 : ls ≠ [] → lp = some ⟨lg, lo, none⟩ ∧ lg < W6.heap.size ∧ V + 1 ≤ lg := fun h => by
        have h1 := HLP5.out (fun h2 => h (List.map_eq_nil_iff.1 h2))
        exact ⟨h1.1, by omega, hlgV h⟩
      have HB6 := hidden hB6
      have HLC6 := hidden hlc6
      have HLP6 := hidden hlp6
      clear hts HB5 HLP5 HLC5 hB6 hlc6 hlp6 hlgV
      gi_wp2_with fail
      rw [← hW6]
      rw [← hS]
      clear hW6 hS
      have hlp7 : ls ≠ [] → lp = some ⟨lg, lo, none⟩ ∧ lg < W6.heap.size ∧ V + 1 ≤ lg := HLP6.out
      have hB61 : Below w.heap.size w W6 := HB1.out.trans ((HB4.out.trans (HB6.out.mono HB4.out.size)).mono HB1.out.size)
      have bO6 : Boxed W6 V 30 (.slice none 0 0) := (HB6.out.block V (by omega)).trans bO
      have HB61 := hidden hB61
      have HPos : Hid (Pos ls) := fun n hn => (HLP.out n hn).1
      have H6 : Hid (∀ n ∈ ls, n ≤ 6) := fun n hn => (HLP.out n hn).2
      have hTL := tups_len ls
      have HTL : Hid ((tups ls).length ≤ 216) := by
        rw [hTL]
        exact prod_le H4.out H6.out
      clear hTL hB61 bO HB4 HB6 HB1 HLL HLP
      refine rangeM (gf := 61) (lb := #[.pointer (some ⟨S, 0, none⟩)]) (K := fun k => V + 1 ≤ k ∧ k < W6.heap.size) rfl (enters_of Tryz.func61 (by kernel_rfl) rfl)
        (tuples1_any _ ls HPos.out H6.out H4.out cS (fun k hk => hk.2) ⟨hSV, by omega⟩ (fun h => ⟨(hlp7 h).1, (hlp7 h).2.1, (hlp7 h).2.2, (hlp7 h).2.1⟩) HLC6.out) (by rintro O x vs A ⟨T, C, rfl, _⟩; rfl) (Below.refl _ _) (fun k hk => hk.2)
        (fun O pre A => ∃ v, Boxed A V 30 v ∧ RowsO O W6.heap.size A v pre ∧ Below w.heap.size w A)
        (fun _ _ _ _ => False)
        (fun O pre x a' A => (∃ v, Boxed A V 30 v ∧ RowsO (withLoop W6.heap.size O) W6.heap.size A v pre ∧ Below w.heap.size w A) ∧ ∃ T C, O T ∧ T < A.heap.size ∧ TupAt A T x ∧
          a' = { tmps := #[.slice p ss.length cap, .slice pc cs.length capc, undef, undef, .slice none 0 0, .pointer (some ⟨w.heap.size, 0, none⟩), .pointer (some ⟨V, 0, none⟩), .slice (some ⟨T, 0, none⟩) x.length C, .slice p ss.length cap, .agg #[.slice p ss.length cap, .slice none 0 0], .agg #[.slice p ss.length cap, .slice none 0 0], .bool true, .bool false, .bool false, .agg #[.slice p ss.length cap, .slice none 0 0], .slice pc cs.length capc, .bool true, .bool false, .bool false, .agg #[.slice p ss.length cap, .slice none 0 0], .slice pc cs.length capc, .slice lp ls.length lcap, .func (.func 61) #[] #[.pointer (some ⟨S, 0, none⟩)], .slice (some ⟨T, 0, none⟩) x.length C, undef, undef, undef, undef, undef, undef], defers := [] })
        ?hI ?hIx ?hIg ?hAx ?h0 ?assign ?body ?done ?stop
      case hI =>
        rintro O p A A' hlo hA ⟨v, h1, h2, h3⟩ ht
        exact ⟨v, (ht.block V h1.lt (fun h => by have := hlo V h; omega)).trans h1, h2.turn ht, h3.trans (ht.below (fun k h => by have := hlo k h; omega) h3.size)⟩
      case hIx => exact fun O c p A A' _ _ h _ => h
      case hIg =>
        rintro O O' p A ⟨v, h1, h2, h3⟩ hg
        exact ⟨v, h1, h2.grow hg, h3⟩
      case hAx =>
        rintro O p x a' A A' ⟨⟨v, h1, h2, h3⟩, T, C, h4, h4', h5, h6⟩ hlo hA ht
        exact ⟨⟨v, (ht.block V h1.lt (fun h => by omega)).trans h1, h2.turn (ht.mono (fun k h => .inr (.inr h))), h3.trans (ht.below (fun k h => by omega) h3.size)⟩, T, C, h4, Nat.lt_of_lt_of_le h4' ht.size, h5.of_block (ht.block T h4' (fun h => by have := hlo T h4; omega)), h6⟩
      case h0 =>
        intro A hA
        exact ⟨_, (hA.block V (by omega)).trans bO6, RowsO.none _ _ _, HB61.out.trans (hA.mono HB61.out.size)⟩
      case assign =>
        rintro l' O pre x vs A hi ⟨T, C, rfl, hT1, hT3⟩ hO hA hp
        have HI := hidden hi
        have HT3 := hidden hT3
        clear hi bO6 hT3
        simp only [setAll]
        gi_wp2_with fail
        exact ⟨⟨HI.out, T, C, hT1, (hO T hT1).2, HT3.out, rfl⟩, Keeps.refl _ _, Keeps.refl _ _⟩
      case body =>
        rintro l' O pre x a' A ⟨⟨v, hv, hrow, hB⟩, T, C, hT1, hT2, hT3, rfl⟩ hOA hA hp
        have hx3 : x.length ≤ 3 := by
          have hm : x ∈ tups ls := hp.subset (by simp)
          unfold tups at hm
          obtain ⟨k, _, rfl⟩ := List.mem_map.1 hm
          rw [tup_len]; exact H4.out
        have hvd : A.drew.cell? ⟨V, 0, none⟩ = some v := hv.cell
        have hcl := clone_any A.drew T C x (hT3.of_block rfl) hx3
        obtain ⟨svs, hsl, hso, hse⟩ := hrow
        have hpl : pre.length + 1 ≤ 216 := by
          have := hp.length_le
          have := HTL.out
          simp at *
          omega
        have HV := hidden hv
        have HSL := hidden hsl
        have HSO := hidden hso
        have HSE := hidden hse
        have HHA := hidden hA
        have HOA : Hid (∀ k, withLoop W6.heap.size O k → k < A.heap.size) := fun k h => by
          rcases h with h | h | h
          · exact (hOA k h).2
          · omega
          · omega
        have HVO : Hid (¬ withLoop W6.heap.size O V) := fun h => by
          rcases h with h | h | h
          · have := hOA V h; omega
          · omega
          · omega
        have HBA := hidden hB
        have HPR := hidden hp
        clear hv hsl hso hse hB hx3 hT3 bO6 hp
        gi_wp2_with fail
        refine wpIn_region_any hmx (wpAny_round (by simp) _ _ _ _ ?_)
        change wpAnyIn _ _ _ _ _ _ _ _ _ (World.drew _)
        refine wpAnyIn_take (i := 1) (v := ?_) rfl rfl (by kernel_rfl) (by kernel_rfl) (by kernel_rfl) (fun _ _ _ h => h) ⟨Or.inl ⟨by rfl, ?_⟩, fun _ => rfl⟩ ?_
        rotate_left
        · intro w; go_simp; (try with_reducible rfl)
        refine wpAnyIn_ready (rs := [0, 2]) (by kernel_rfl) (by simp) ?_
        refine AllReadyIn.cons rfl (fun K hK => ?_) ?_
        · go_simp
          refine hK _ _ ?_
          clear hK K
          refine wpAnyIn_ready (rs := [2]) (by kernel_rfl) (by simp) ?_
          refine AllReadyIn.cons rfl (fun K hK => ?_) ?_
          · go_simp
            refine ⟨trivial, ?_⟩
            (with_reducible refine (callsIn_wide.2 hcl).mono ?_)
            rintro e w1 ⟨cg, cc, rfl, hcr, hb⟩
            refine hK _ _ ?_
            clear hK K
            have hv1 : w1.cell? ⟨V, 0, none⟩ = some v := (hb.cell (p := ⟨V, 0, none⟩) (by show V < A.heap.size; have := HHA.out; omega)).trans hvd
            have hV1 : V < w1.heap.size := by have h1 := hb.size; have h2 : A.drew.heap.size = A.heap.size := rfl; have := HHA.out; omega
            have hV2 : V ≠ w1.heap.size := Nat.ne_of_lt hV1
            have HB1 : Hid (Below A.heap.size A w1) := Below.trans (b := A.drew) ⟨rfl, rfl, rfl, Nat.le_refl _, fun _ _ => rfl⟩ hb
            have HCR := hidden hcr
            clear hb hcr hcl
            refine wpAnyIn_ready (rs := [3]) (by kernel_rfl) (by simp) ?_
            refine AllReadyIn.cons rfl (fun K hK => ?_) ?_
            · go_simp
              refine hK _ _ ?_
              clear hK K
              refine wpAnyIn_ready (rs := [4]) (by kernel_rfl) (by simp) ?_
              refine AllReadyIn.cons rfl (fun K hK => ?_) ?_
              · refine wpIn_append_own _ (.tmp 24) (.tmp 27) 30 rfl W6.heap.size 23 i0 (.slice none 0 0) 1 24 Tryz.underlying30 hi hz0 hz1' hz2 rfl (by decide) v pre.length svs rfl ((row_later HSO.out.1 (w' := w1) HB1.out).alloc _) ⟨w1.heap.size, 0, none⟩ 1 1 [.slice (some ⟨cg, 0, none⟩) x.length cc] rfl rfl (cell_one_new _ _ _) (by intro u hu; simp at hu; subst hu; rfl) (by unfold maxLen; omega) (by omega) (by simp; have h1 := HB1.out.size; have h2 : A.drew.heap.size = A.heap.size := rfl; have := HHA.out; omega) ?_
                intro v' w2 hown' hgrow hat
                obtain ⟨g', cap', rfl⟩ := ownsRow_succ hown'
                obtain ⟨hx1, hx2, hx3, hx4⟩ := rows_appended (W := w) HV.out HSL.out HSO.out HSE.out (show Below A.heap.size A w1 from HB1.out) HCR.out (by have := HHA.out; omega) HOA.out HVO.out HB61.out.size (by omega) HBA.out hown' hgrow (by simpa using hat)
                have k1 := hx1.cell
                have k2 := hx1.frozen
                have HX2 := hidden hx2
                have HX3 := hidden hx3
                have HX4 := hidden hx4
                clear hx1 hx2 hx3 hx4 hown' hgrow hat
                refine hK _ _ ?_
                clear hK K
                refine wpAnyIn_ready (rs := [5]) (by kernel_rfl) (by simp) ?_
                refine AllReadyIn.cons rfl (fun K hK => ?_) ?_
                · go_simp
                  refine hK _ _ ?_
                  clear hK K
                  refine wpAnyIn_done (by kernel_rfl) ?_ _
                  gi_wp2_with fail
                  exact ⟨HX2.out, HX3.out, ⟨HX3.out.size, fun k h1 h2 => HX4.out k h2 (by omega) (fun h => by omega)⟩⟩
                exact AllReadyIn.nil
              exact AllReadyIn.nil
            exact AllReadyIn.nil
          exact AllReadyIn.nil
        refine AllReadyIn.cons rfl (fun K hK => ?_) ?_
        · go_simp
          refine ⟨trivial, ?_⟩
          (with_reducible refine (callsIn_wide.2 hcl).mono ?_)
          rintro e w1 ⟨cg, cc, rfl, hcr, hb⟩
          refine hK _ _ ?_
          clear hK K
          have hv1 : w1.cell? ⟨V, 0, none⟩ = some v := (hb.cell (p := ⟨V, 0, none⟩) (by show V < A.heap.size; have := HHA.out; omega)).trans hvd
          have hV1 : V < w1.heap.size := by have h1 := hb.size; have h2 : A.drew.heap.size = A.heap.size := rfl; have := HHA.out; omega
          have hV2 : V ≠ w1.heap.size := Nat.ne_of_lt hV1
          have HB1 : Hid (Below A.heap.size A w1) := Below.trans (b := A.drew) ⟨rfl, rfl, rfl, Nat.le_refl _, fun _ _ => rfl⟩ hb
          have HCR := hidden hcr
          clear hb hcr hcl
          refine wpAnyIn_ready (rs := [0, 3]) (by kernel_rfl) (by simp) ?_
          refine AllReadyIn.cons rfl (fun K hK => ?_) ?_
          · go_simp
            refine hK _ _ ?_
            clear hK K
            refine wpAnyIn_ready (rs := [3]) (by kernel_rfl) (by simp) ?_
            refine AllReadyIn.cons rfl (fun K hK => ?_) ?_
            · go_simp
              refine hK _ _ ?_
              clear hK K
              refine wpAnyIn_ready (rs := [4]) (by kernel_rfl) (by simp) ?_
              refine AllReadyIn.cons rfl (fun K hK => ?_) ?_
              · refine wpIn_append_own _ (.tmp 24) (.tmp 27) 30 rfl W6.heap.size 23 i0 (.slice none 0 0) 1 24 Tryz.underlying30 hi hz0 hz1' hz2 rfl (by decide) v pre.length svs rfl ((row_later HSO.out.1 (w' := w1) HB1.out).alloc _) ⟨w1.heap.size, 0, none⟩ 1 1 [.slice (some ⟨cg, 0, none⟩) x.length cc] rfl rfl (cell_one_new _ _ _) (by intro u hu; simp at hu; subst hu; rfl) (by unfold maxLen; omega) (by omega) (by simp; have h1 := HB1.out.size; have h2 : A.drew.heap.size = A.heap.size := rfl; have := HHA.out; omega) ?_
                intro v' w2 hown' hgrow hat
                obtain ⟨g', cap', rfl⟩ := ownsRow_succ hown'
                obtain ⟨hx1, hx2, hx3, hx4⟩ := rows_appended (W := w) HV.out HSL.out HSO.out HSE.out (show Below A.heap.size A w1 from HB1.out) HCR.out (by have := HHA.out; omega) HOA.out HVO.out HB61.out.size (by omega) HBA.out hown' hgrow (by simpa using hat)
                have k1 := hx1.cell
                have k2 := hx1.frozen
                have HX2 := hidden hx2
                have HX3 := hidden hx3
                have HX4 := hidden hx4
                clear hx1 hx2 hx3 hx4 hown' hgrow hat
                refine hK _ _ ?_
                clear hK K
                refine wpAnyIn_ready (rs := [5]) (by kernel_rfl) (by simp) ?_
                refine AllReadyIn.cons rfl (fun K hK => ?_) ?_
                · go_simp
                  refine hK _ _ ?_
                  clear hK K
                  refine wpAnyIn_done (by kernel_rfl) ?_ _
                  gi_wp2_with fail
                  exact ⟨HX2.out, HX3.out, ⟨HX3.out.size, fun k h1 h2 => HX4.out k h2 (by omega) (fun h => by omega)⟩⟩
                exact AllReadyIn.nil
              exact AllReadyIn.nil
            exact AllReadyIn.nil
          refine AllReadyIn.cons rfl (fun K hK => ?_) ?_
          · go_simp
            refine hK _ _ ?_
            clear hK K
            refine wpAnyIn_ready (rs := [0]) (by kernel_rfl) (by simp) ?_
            refine AllReadyIn.cons rfl (fun K hK => ?_) ?_
            · go_simp
              refine hK _ _ ?_
              clear hK K
              refine wpAnyIn_ready (rs := [4]) (by kernel_rfl) (by simp) ?_
              refine AllReadyIn.cons rfl (fun K hK => ?_) ?_
              · refine wpIn_append_own _ (.tmp 24) (.tmp 27) 30 rfl W6.heap.size 23 i0 (.slice none 0 0) 1 24 Tryz.underlying30 hi hz0 hz1' hz2 rfl (by decide) v pre.length svs rfl ((row_later HSO.out.1 (w' := w1) HB1.out).alloc _) ⟨w1.heap.size, 0, none⟩ 1 1 [.slice (some ⟨cg, 0, none⟩) x.length cc] rfl rfl (cell_one_new _ _ _) (by intro u hu; simp at hu; subst hu; rfl) (by unfold maxLen; omega) (by omega) (by simp; have h1 := HB1.out.size; have h2 : A.drew.heap.size = A.heap.size := rfl; have := HHA.out; omega) ?_
                intro v' w2 hown' hgrow hat
                obtain ⟨g', cap', rfl⟩ := ownsRow_succ hown'
                obtain ⟨hx1, hx2, hx3, hx4⟩ := rows_appended (W := w) HV.out HSL.out HSO.out HSE.out (show Below A.heap.size A w1 from HB1.out) HCR.out (by have := HHA.out; omega) HOA.out HVO.out HB61.out.size (by omega) HBA.out hown' hgrow (by simpa using hat)
                have k1 := hx1.cell
                have k2 := hx1.frozen
                have HX2 := hidden hx2
                have HX3 := hidden hx3
                have HX4 := hidden hx4
                clear hx1 hx2 hx3 hx4 hown' hgrow hat
                refine hK _ _ ?_
                clear hK K
                refine wpAnyIn_ready (rs := [5]) (by kernel_rfl) (by simp) ?_
                refine AllReadyIn.cons rfl (fun K hK => ?_) ?_
                · go_simp
                  refine hK _ _ ?_
                  clear hK K
                  refine wpAnyIn_done (by kernel_rfl) ?_ _
                  gi_wp2_with fail
                  exact ⟨HX2.out, HX3.out, ⟨HX3.out.size, fun k h1 h2 => HX4.out k h2 (by omega) (fun h => by omega)⟩⟩
                exact AllReadyIn.nil
              exact AllReadyIn.nil
            exact AllReadyIn.nil
          exact AllReadyIn.nil
        exact AllReadyIn.nil
      case done =>
        rintro O D A ⟨v, hv, hrow, hB⟩ hO hOD hk
        have hc := hv.cell
        clear bO6
        gi_wp2_with fail
        refine ⟨by simp, .inl ⟨_, _, rfl, run_takeDeferred hk, ?_⟩⟩
        exact ⟨_, results_tmp rfl _ _ _, v, rfl, ((hrow.turn (TurnO.putObj _ hOD)).of).mono HB61.out.size, hB.trans ((TurnO.putObj _ hOD).below (fun k h => by have := (hO k h).1; have := HB61.out.size; omega) hB.size)⟩
      case stop =>
        rintro O D c pre A _ h
        exact h.elim
    · have hto : tupsOf ss cs = [] := by
        unfold tupsOf
        rw [if_neg]
        rintro ⟨_, h3, h4⟩
        exact h2 (by rw [h3, decide_eq_true h4]; rfl)
      have h2f : (cs.all (colB ss.length) && decide (cs.length ≤ 3)) = false := by simpa using h2
      rw [hto]
      rw [h2f] at hvc
      have HVC := hidden hvc
      have HB1 := hidden hB1
      clear hvc h2 h2f hto hB1 hp hci hpc hcci hs2 hc2 hl hlc h1
      go_enter Tryz.func16, Tryz.ntmps16
      go_wp2_with fail
      rw [← hW1]
      clear hW1
      (with_reducible refine hvs.mono ?_)
      rintro e w2 ⟨rfl, hB2⟩
      have k0 : w2.cell? ⟨w.heap.size, 0, none⟩ = some (.slice p ss.length cap) := (hB2.cell (p := ⟨w.heap.size, 0, none⟩) (by show w.heap.size < _; omega)).trans c10
      have k1 : w2.cell? ⟨w.heap.size, 1, none⟩ = some (.slice none 0 0) := (hB2.cell (p := ⟨w.heap.size, 1, none⟩) (by show w.heap.size < _; omega)).trans c11
      have HVC2 := hidden (HVC.out w2 hB2)
      have HB2 := hidden (HB1.out.trans (hB2.mono HB1.out.size))
      clear hB2 c10 c11 hvs HVC
      go_wp2_with fail
      (with_reducible refine HVC2.out.mono ?_)
      rintro e w3 ⟨rfl, hB3⟩
      have HB3 := hidden (HB2.out.trans (hB3.mono HB2.out.size))
      clear hB3 k0 k1 HVC2 HB2
      go_wp2_with fail
      go_ret
      exact ⟨_, rfl, RowsOf.none _ _, HB3.out⟩
  · have hto : tupsOf ss cs = [] := by
      unfold tupsOf
      rw [if_neg]
      rintro ⟨h3, _⟩
      exact h1 h3
    have h1f : soundB ss = false := by simpa using h1
    rw [hto]
    rw [h1f] at hvs
    have HB1 := hidden hB1
    clear hvc h1 h1f hto hB1 hp hci hpc hcci hs2 hc2 hl hlc
    go_enter Tryz.func16, Tryz.ntmps16
    go_wp2_with fail
    rw [← hW1]
    clear hW1
    (with_reducible refine hvs.mono ?_)
    rintro e w2 ⟨rfl, hB2⟩
    have HB2 := hidden (HB1.out.trans (hB2.mono HB1.out.size))
    clear hB2 c10 c11 hvs
    go_wp2_with fail
    go_ret
    exact ⟨_, rfl, RowsOf.none _ _, HB2.out⟩

end Go.Proofs.YtfmoophjdgejeaaGreatDoor
