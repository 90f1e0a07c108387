import Derived.Test.YtfmoophjdgejeaaGreatDoorCp
import Derived.Deep.RegionHeld3
/-
  Cell.
-/
namespace Go.Proofs.YtfmoophjdgejeaaGreatDoor
open Go.RowKit Go.Shelf
attribute [local go_sem] Oper.semAt_some

/-- What Cell answers. -/
def cellB (ss : List Int) (ts : List Tab) (z : Int) (l : List Int) : Int × Int :=
  if validB ss ts = true then
    if 0 ≤ z then match ts[z.toNat]? with
      | some t => if withinB (lensL ss t.cols) l = true then (t.first + (hornL (lensL ss t.cols) (l.map Int.toNat) : Nat), 0) else (0, 2)
      | none => (0, 7)
    else (0, 7)
  else (0, 1)

theorem toNat_natL (t : List Nat) : (natL t).map Int.toNat = t := by
  unfold natL
  rw [List.map_map]
  conv => rhs; rw [← List.map_id t]
  congr 1

theorem eightKeep {Wt w w' : World} {p0 p1 p2 p3 p4 p5 p6 p7 : Addr} {v0 v1 v2 v3 v4 v5 v6 v7 : Value}
    (h : w.cell? p0 = some v0 ∧ w.cell? p1 = some v1 ∧ w.cell? p2 = some v2 ∧ w.cell? p3 = some v3 ∧ w.cell? p4 = some v4 ∧ w.cell? p5 = some v5 ∧ w.cell? p6 = some v6 ∧ w.cell? p7 = some v7 ∧ Hid (Below Wt.heap.size Wt w)) (hb : Below w.heap.size w w') :
    w'.cell? p0 = some v0 ∧ w'.cell? p1 = some v1 ∧ w'.cell? p2 = some v2 ∧ w'.cell? p3 = some v3 ∧ w'.cell? p4 = some v4 ∧ w'.cell? p5 = some v5 ∧ w'.cell? p6 = some v6 ∧ w'.cell? p7 = some v7 ∧ Hid (Below Wt.heap.size Wt w') := by
  obtain ⟨h0, h1, h2, h3, h4, h5, h6, h7, h8⟩ := h
  exact ⟨cell_later h0 hb, cell_later h1 hb, cell_later h2 hb, cell_later h3 hb, cell_later h4 hb, cell_later h5 hb, cell_later h6 hb, cell_later h7 hb, bt h8.out hb⟩

set_option maxRecDepth 100000 in
set_option maxHeartbeats 6400000 in
theorem cellOf_any (ss : List Int) (ts : List Tab) (z : Int) (l : List Int) (sv tv lv : Value) (w : World) (hs : IntsV w sv ss) (ht : TabsV w tv ts) (hlv : IntsV w lv l) (hl : ss.length ≤ 4611686018427387904) (hlt : ts.length ≤ 4611686018427387903)
    (hll : l.length ≤ 4611686018427387904) (hsm : ∀ t ∈ ts, t.name.size ≤ 4096 ∧ t.cols.length ≤ 4611686018427387904) (hm : MaxAt w) :
    Calls Tryz.prog 20 #[sv, tv, .int .i64 z, lv] w fun e w' => e = .returned (.tuple #[.int .i64 (cellB ss ts z l).1, .int .i64 (cellB ss ts z l).2]) ∧ Below w.heap.size w w' := by
  have hs2 := hs
  have ht2 := ht
  have hlv2 := hlv
  obtain ⟨p, cap, g, o, rfl, _, _⟩ := hs
  obtain ⟨q, tcap, tg, to, ks, rfl, hqp, hat⟩ := ht
  obtain ⟨pt, capt, gt, ot, rfl, _, _⟩ := hlv
  obtain ⟨W1, hW1⟩ : ∃ W1, W1 = w.alloc (.cells #[.slice p ss.length cap, .slice q ts.length tcap] 61) := ⟨_, rfl⟩
  have hB1 : Below w.heap.size w W1 := by rw [hW1]; exact (Below.refl _ _).alloc (Nat.le_refl _) _
  have hz1 : W1.heap.size = w.heap.size + 1 := by rw [hW1]; simp
  have c10 : W1.cell? ⟨w.heap.size, 0, none⟩ = some (.slice p ss.length cap) := by rw [hW1]; simp
  have c11 : W1.cell? ⟨w.heap.size, 1, none⟩ = some (.slice q ts.length tcap) := by rw [hW1]; simp
  have hv := valid_any ss ts _ _ W1 (hs2.later hB1) (ht2.later hB1) hl hlt hsm (hm.keep hB1)
  obtain ⟨r1, r2, hr⟩ : ∃ r1 r2, cellB ss ts z l = (r1, r2) := ⟨_, _, rfl⟩
  rw [hr]
  simp only []
  unfold cellB at hr
  have HB1 := hidden hB1
  by_cases hvb : validB ss ts = true
  · rw [if_pos hvb] at hr
    rw [hvb] at hv
    by_cases hz : 0 ≤ z
    · rw [if_pos hz] at hr
      obtain ⟨k, rfl⟩ : ∃ k : Nat, z = k := ⟨z.toNat, by omega⟩
      rw [Int.toNat_natCast] at hr
      have hz2 : ¬ (k : Int) < 0 := by omega
      by_cases hk : k < ts.length
      · have hx : ts[k]? = some ts[k] := List.getElem?_eq_getElem hk
        generalize ts[k] = t at hx
        rw [hx] at hr
        simp only [] at hr
        obtain ⟨v1, v2, v3, v4⟩ := valid_parts hvb
        obtain ⟨hc1, hc2, _⟩ := v3 t (List.mem_of_getElem? hx)
        have hfl := first_le hvb hx
        obtain ⟨rfl, hg⟩ := hqp (fun h => by rw [h] at hk; exact absurd hk (Nat.not_lt_zero _))
        obtain ⟨hta, hci⟩ := hat k t hx
        have hci2 := hci
        obtain ⟨pc, capc, gc, oc, hkv, _, _⟩ := hci
        rw [hkv] at hta hci2
        have hkz : (k : Int) < (ts.length : Int) := by omega
        have hkz2 : ¬ (ts.length : Int) ≤ (k : Int) := by omega
        have HS2 := hidden hs2
        have HLV2 := hidden hlv2
        have HCI2 := hidden hci2
        have HTA := hidden hta
        have V1 := hidden v1
        have HC1 := hidden hc1
        have HC2 := hidden hc2
        have HFL := hidden hfl
        have HR := hidden hr
        have HG := hidden hg
        have HLL := hidden hll
        clear hs2 ht2 hlv2 hqp hat hsm hm hl hlt hll v1 v2 v3 v4 hci2 hta hc1 hc2 hfl hr hg hx hvb hz hkv hB1
        go_enter Tryz.func20, Tryz.ntmps20
        go_wp2_with fail
        rw [← hW1]
        clear hW1
        (with_reducible refine hv.mono ?_)
        rintro e w2 ⟨rfl, hB2⟩
        have hBw := HB1.out.trans (hB2.mono HB1.out.size)
        have hta2 := HTA.out.of_block (hBw.block tg HG.out)
        have hS : w2.cell? ⟨w.heap.size, 0, none⟩ = some (.slice p ss.length cap) ∧ w2.cell? ⟨w.heap.size, 1, none⟩ = some (.slice (some ⟨tg, to, none⟩) ts.length tcap) ∧ w2.cell? ⟨tg, to + k * 6, none⟩ = some (.string t.name) ∧ w2.cell? ⟨tg, to + k * 6 + 1, none⟩ = some (.int .i64 t.kind) ∧ w2.cell? ⟨tg, to + k * 6 + 2, none⟩ = some (.slice pc t.cols.length capc) ∧ w2.cell? ⟨tg, to + k * 6 + 3, none⟩ = some (.int .i64 t.lo) ∧ w2.cell? ⟨tg, to + k * 6 + 4, none⟩ = some (.int .i64 t.hi) ∧ w2.cell? ⟨tg, to + k * 6 + 5, none⟩ = some (.int .i64 t.first) ∧ Hid (Below w2.heap.size w2 w2) :=
          ⟨cell_later c10 hB2, cell_later c11 hB2, hta2.c0, hta2.c1, hta2.c2, hta2.c3, hta2.c4, hta2.c5, Below.refl _ _⟩
        have HLN : Hid (∀ w', Below w2.heap.size w2 w' → Calls Tryz.prog 40 #[.agg #[.slice p ss.length cap, .slice (some ⟨tg, to, none⟩) ts.length tcap], .slice pc t.cols.length capc] w' fun e w5 =>
            ∃ lp lcap, e = .returned (.slice lp (lensL ss t.cols).length lcap) ∧ Hid (IntsV w5 (.slice lp (lensL ss t.cols).length lcap) (natL (lensL ss t.cols))) ∧ Below w'.heap.size w' w5) := fun w' h =>
          (lengths_any ss t.cols _ _ _ _ _ w' (HS2.out.later (bt hBw h)) (HCI2.out.later (bt hBw h)) V1.out HC1.out HC2.out).mono (by
            rintro e w5 ⟨v, rfl, h1, h2⟩
            rw [← lens_len ss t.cols] at h1
            have h3 := row_ints h1
            obtain ⟨lp, lcap, rfl⟩ := row_form h1
            exact ⟨lp, lcap, rfl, h3, h2⟩)
        have HCE : Hid (∀ w', Below w2.heap.size w2 w' → ∀ n, l = natL n → InL (lensL ss t.cols) n → Calls Tryz.prog 43 #[.agg #[.slice p ss.length cap, .slice (some ⟨tg, to, none⟩) ts.length tcap], .agg #[.string t.name, .int .i64 t.kind, .slice pc t.cols.length capc, .int .i64 t.lo, .int .i64 t.hi, .int .i64 t.first], .slice pt l.length capt] w' fun e w5 => e = .returned (.int .i64 (t.first + (hornL (lensL ss t.cols) n : Nat))) ∧ Below w'.heap.size w' w5) := fun w' h n hn hin => by
          have hlw := HLV2.out.later (bt hBw h)
          rw [hn] at hlw ⊢
          exact cell_any ss t n _ _ _ _ _ _ w' (HS2.out.later (bt hBw h)) (HCI2.out.later (bt hBw h)) hlw V1.out HC1.out HC2.out hin HFL.out
        have HLV : Hid (∀ w', Below w2.heap.size w2 w' → IntsV w' (.slice pt l.length capt) l) := fun w' h => HLV2.out.later (bt hBw h)
        have HBw := hidden hBw
        obtain ⟨b, hb⟩ : ∃ b, withinB (lensL ss t.cols) l = b := ⟨_, rfl⟩
        have HWB := hidden hb
        generalize hls : lensL ss t.cols = ls at *
        have HLS := hidden hls
        have HWI : Hid (∀ w5 lp lcap, IntsV w5 (.slice pt l.length capt) l → IntsV w5 (.slice lp ls.length lcap) (natL ls) → Calls Tryz.prog 42 #[.slice pt l.length capt, .slice lp ls.length lcap] w5 fun e w' => e = .returned (.bool b) ∧ ∃ q, w' = w5.drewN q) := fun w5 lp lcap h1 h2 => by
          rw [← HWB.out]; exact within_any ls l _ _ w5 h1 h2 HLL.out
        clear hB2 hBw hta2 c10 c11 hv hb HS2 HLV2 HCI2 HTA HB1 hls
        cases b with
        | false =>
          go_wp2_with fail
          go_region_held3 (fun w' => w'.cell? ⟨w.heap.size, 0, none⟩ = some (.slice p ss.length cap) ∧ w'.cell? ⟨w.heap.size, 1, none⟩ = some (.slice (some ⟨tg, to, none⟩) ts.length tcap) ∧ w'.cell? ⟨tg, to + k * 6, none⟩ = some (.string t.name) ∧ w'.cell? ⟨tg, to + k * 6 + 1, none⟩ = some (.int .i64 t.kind) ∧ w'.cell? ⟨tg, to + k * 6 + 2, none⟩ = some (.slice pc t.cols.length capc) ∧ w'.cell? ⟨tg, to + k * 6 + 3, none⟩ = some (.int .i64 t.lo) ∧ w'.cell? ⟨tg, to + k * 6 + 4, none⟩ = some (.int .i64 t.hi) ∧ w'.cell? ⟨tg, to + k * 6 + 5, none⟩ = some (.int .i64 t.first) ∧ Hid (Below w2.heap.size w2 w'))
            (first | (with_reducible assumption) | (exact eightKeep hS (Below.refl _ _).drew) | (exact eightKeep (by with_reducible assumption) (below_drewN (Below.refl w5.heap.size w5) _)) | (exact eightKeep (by with_reducible assumption) (by with_reducible assumption)))
            (first | (go_at_call 40; (with_reducible refine (HLN.out _ (Below.refl _ _).drew).mono ?_); rintro e w5 ⟨lp, lcap, rfl, HI5, hb5⟩; have HBK : Hid (Below w2.heap.size w2 w5) := bt (Below.refl _ _).drew hb5) | (go_at_call 42; (with_reducible refine (HWI.out _ _ _ (HLV.out _ HBK.out) HI5.out).mono ?_); rintro e w6 ⟨rfl, qn, rfl⟩))
          have HF := hidden (bt HBw.out (bt HBK.out (below_drewN (Below.refl w5.heap.size w5) qn)))
          have hr := HR.out
          rw [HWB.out, if_neg (by simp)] at hr
          obtain ⟨rfl, rfl⟩ := Prod.mk.inj hr
          clear hS hr
          go_wp2_with fail
          go_ret2
          exact ⟨rfl, HF.out⟩
        | true =>
          obtain ⟨n, hn, hin⟩ := within_nat HWB.out
          have hce := fun w' h => HCE.out w' h n hn hin
          have HCE2 := hidden hce
          have hr := HR.out
          rw [HWB.out, if_pos rfl, hn, toNat_natL] at hr
          obtain ⟨h1, h2⟩ := Prod.mk.inj hr
          subst h2
          have HR1 := hidden h1
          have hhl := horn_lt hin
          clear hn hin hce hr h1 HCE hhl
          go_wp2_with fail
          go_region_held3 (fun w' => w'.cell? ⟨w.heap.size, 0, none⟩ = some (.slice p ss.length cap) ∧ w'.cell? ⟨w.heap.size, 1, none⟩ = some (.slice (some ⟨tg, to, none⟩) ts.length tcap) ∧ w'.cell? ⟨tg, to + k * 6, none⟩ = some (.string t.name) ∧ w'.cell? ⟨tg, to + k * 6 + 1, none⟩ = some (.int .i64 t.kind) ∧ w'.cell? ⟨tg, to + k * 6 + 2, none⟩ = some (.slice pc t.cols.length capc) ∧ w'.cell? ⟨tg, to + k * 6 + 3, none⟩ = some (.int .i64 t.lo) ∧ w'.cell? ⟨tg, to + k * 6 + 4, none⟩ = some (.int .i64 t.hi) ∧ w'.cell? ⟨tg, to + k * 6 + 5, none⟩ = some (.int .i64 t.first) ∧ Hid (Below w2.heap.size w2 w'))
            (first | (with_reducible assumption) | (exact eightKeep hS (Below.refl _ _).drew) | (exact eightKeep (by with_reducible assumption) (below_drewN (Below.refl w5.heap.size w5) _)) | (exact eightKeep (by with_reducible assumption) (by with_reducible assumption)))
            (first | (go_at_call 40; (with_reducible refine (HLN.out _ (Below.refl _ _).drew).mono ?_); rintro e w5 ⟨lp, lcap, rfl, HI5, hb5⟩; have HBK : Hid (Below w2.heap.size w2 w5) := bt (Below.refl _ _).drew hb5) | (go_at_call 42; (with_reducible refine (HWI.out _ _ _ (HLV.out _ HBK.out) HI5.out).mono ?_); rintro e w6 ⟨rfl, qn, rfl⟩))
          have hS6 := eightKeep hS (bt HBK.out (below_drewN (Below.refl w5.heap.size w5) qn))
          have HBQ : Hid (Below w2.heap.size w2 (w5.drewN qn)) := bt HBK.out (below_drewN (Below.refl w5.heap.size w5) qn)
          clear hS HI5
          generalize w5.drewN qn = w7 at *
          go_wp2_with fail
          go_region_held3 (fun w' => w'.cell? ⟨w.heap.size, 0, none⟩ = some (.slice p ss.length cap) ∧ w'.cell? ⟨w.heap.size, 1, none⟩ = some (.slice (some ⟨tg, to, none⟩) ts.length tcap) ∧ w'.cell? ⟨tg, to + k * 6, none⟩ = some (.string t.name) ∧ w'.cell? ⟨tg, to + k * 6 + 1, none⟩ = some (.int .i64 t.kind) ∧ w'.cell? ⟨tg, to + k * 6 + 2, none⟩ = some (.slice pc t.cols.length capc) ∧ w'.cell? ⟨tg, to + k * 6 + 3, none⟩ = some (.int .i64 t.lo) ∧ w'.cell? ⟨tg, to + k * 6 + 4, none⟩ = some (.int .i64 t.hi) ∧ w'.cell? ⟨tg, to + k * 6 + 5, none⟩ = some (.int .i64 t.first) ∧ Hid (Below w2.heap.size w2 w'))
            (first | (with_reducible assumption) | (exact eightKeep hS6 (Below.refl _ _).drew) | (exact eightKeep (by assumption) (by assumption)))
            (first | (go_at_call 43; (with_reducible refine (HCE2.out _ (bt HBQ.out (Below.refl _ _).drew)).mono ?_); rintro e w8 ⟨rfl, hb8⟩; have HBE : Hid (Below w2.heap.size w2 w8) := bt (bt HBQ.out (Below.refl _ _).drew) hb8))
          have HF := hidden (bt HBw.out HBE.out)
          have hh := HR1.out
          subst hh
          clear hS6
          go_wp2_with fail
          go_ret2
          exact ⟨rfl, HF.out⟩
      · have hx : ts[k]? = none := List.getElem?_eq_none_iff.2 (by omega)
        rw [hx] at hr
        simp only [] at hr
        obtain ⟨rfl, rfl⟩ := Prod.mk.inj hr
        have hkz2 : (ts.length : Int) ≤ (k : Int) := by omega
        clear hs2 ht2 hlv2 hqp hat hsm hm hl hlt hll hvb hz hB1 hr hx hk
        go_enter Tryz.func20, Tryz.ntmps20
        go_wp2_with fail
        rw [← hW1]
        clear hW1
        (with_reducible refine hv.mono ?_)
        rintro e w2 ⟨rfl, hB2⟩
        have HF := hidden (HB1.out.trans (hB2.mono HB1.out.size))
        clear hB2 c10 c11
        go_wp2_with fail
        go_ret2
        exact ⟨rfl, HF.out⟩
    · rw [if_neg hz] at hr
      obtain ⟨rfl, rfl⟩ := Prod.mk.inj hr
      have hz2 : z < 0 := by omega
      clear hs2 ht2 hlv2 hqp hat hsm hm hl hlt hll hvb hz hB1 hr
      go_enter Tryz.func20, Tryz.ntmps20
      go_wp2_with fail
      rw [← hW1]
      clear hW1
      (with_reducible refine hv.mono ?_)
      rintro e w2 ⟨rfl, hB2⟩
      have HF := hidden (HB1.out.trans (hB2.mono HB1.out.size))
      clear hB2 c10 c11
      go_wp2_with fail
      go_ret2
      exact ⟨rfl, HF.out⟩
  · rw [if_neg hvb] at hr
    obtain ⟨rfl, rfl⟩ := Prod.mk.inj hr
    have hvf : validB ss ts = false := by simpa using hvb
    rw [hvf] at hv
    clear hs2 ht2 hlv2 hqp hat hsm hm hl hlt hll hvb hB1 hr hvf
    go_enter Tryz.func20, Tryz.ntmps20
    go_wp2_with fail
    rw [← hW1]
    clear hW1
    (with_reducible refine hv.mono ?_)
    rintro e w2 ⟨rfl, hB2⟩
    have HF := hidden (HB1.out.trans (hB2.mono HB1.out.size))
    clear hB2 c10 c11
    go_wp2_with fail
    go_ret2
    exact ⟨rfl, HF.out⟩

end Go.Proofs.YtfmoophjdgejeaaGreatDoor
