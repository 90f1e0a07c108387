/-
  The walk of SyntaxSpoils (written by gen_ih.py).
-/
import Derived.Test.YtlbaaiglebpjiaaGreatDoorKh
import Derived.Test.YtlbaaiglebpjiaaGreatDoorIe
namespace Go.Proofs.YtlbaaiglebpjiaaGreatDoor
open Go.RowKit Go.Shelf Go.Lib

theorem rowApart {w w' : World} {B n : Nat} {e : TypeId} {v : Value} {xs : List Value} {o : Obj} (h : w.ownsRow B e 5 v n xs) (hg : (w.alloc o).grownBy w' v.ownBlock) (b : Nat) (hb : b < B) (hl : b < w.heap.size) : w'.heap[b]? = w.heap[b]? :=
  (hg.block b (by simp; omega) (fun e => by have := (h.lt b e.symm).1; omega)).trans ((below_alloc w o).block b hl)

set_option maxRecDepth 100000 in
set_option maxHeartbeats 25600000 in
theorem spoils_walk (t : Tree) (kt : Value) (z : Int) (hz : z ≤ 9223372036854775807) (W : World) (hk : KidsV W kt t.kids) (hct : t.count ≤ 1048576) (hmax : MaxAt W) :
    Calls Tryz.prog 9 #[nodeV t kt, .int .i64 z] W fun e w' => e = .returned (.bool true) ∧ Below W.heap.size W w' := by
  have haw := fun w (h : Below W.heap.size W w) => awake_any w (hmax.keep h)
  have hsa : ∀ w, KidsV w kt t.kids → Calls Tryz.prog 12 #[nodeV t kt, .int .i64 200] w fun e w' => e = .returned (.bool (smallB 200 t)) ∧ Below w.heap.size w w' := fun w h => refSmall_any 200 (by decide) t kt w h (by omega)
  have hpg := fun (ht : TextsOk t) w (h : KidsV w kt t.kids) (hb : Below W.heap.size W w) => program_any t kt w h (by omega) ht (hmax.keep hb)
  have HMAX := hidden hmax
  clear hmax
  have hpt := fun w (h : KidsV w kt t.kids) => pathU t kt z hz w h (by omega)
  have hgn := fun (l : List Int) (hl : l.length ≤ 4611686018427387904) pv w (h : KidsV w kt t.kids) (h2 : IntsV w pv l) => getU t kt l pv w h h2 hl
  have hrn := fun (b : Tree) (kb : Value) (hcb : b.count ≤ 4194304) (l : List Int) (hl : l.length ≤ 4611686018427387904) pv w (h : KidsV w kt t.kids) (h2 : IntsV w pv l) (h3 : KidsV w kb b.kids) => replU t b kt kb l pv w h h2 h3 hl (by omega) hcb
  have hst := fun w (h : KidsV w kt t.kids) => strip_any t kt w h (by omega)
  have HK := hidden hk
  have HCT := hidden hct
  obtain ⟨p, cap, g, o, rfl, _, _⟩ := hk.open
  unfold PathU at hpt
  unfold GetU at hgn
  unfold ReplU at hrn
  simp only [nodeV] at hsa hpg hgn hrn hpt hst ⊢
  have hbA := below_alloc W (.cells #[.int .i64 t.kind, .string t.text, .int .i64 t.at_, .int .i64 t.end_, .slice p t.kids.length cap] 24)
  have hboxa := boxAlloc W t (.slice p t.kids.length cap)
  have HBA := hidden hbA
  have HXA := hidden hboxa
  clear hk hct hbA hboxa
  go_enter Tryz.func9, Tryz.ntmps9
  go_wp2_with fail
  (with_reducible refine (haw _ HBA.out).mono ?_)
  rintro e w1 ⟨rfl, hb1⟩
  have HB1 := hidden (bt HBA.out hb1)
  have HXA1 := hidden (HXA.out.later hb1)
  obtain ⟨n0, n1, n2, n3, n4⟩ := HXA1.out.cells0
  clear haw hb1 HBA HXA
  have hsa1 := hsa w1 (HK.out.later HB1.out)
  obtain ⟨s1, hs1⟩ : ∃ s1, smallB 200 t = s1 := ⟨_, rfl⟩
  rw [hs1] at hsa1
  have HS1 := hidden hs1
  clear hsa hs1
  cases s1 with
  | false =>
    go_wp2_with fail
    (with_reducible refine hsa1.mono ?_)
    rintro e w2 ⟨rfl, hb2⟩
    have HB2 := hidden (bt HB1.out hb2)
    clear hsa1 hpg hpt hgn hrn hst hb2 n0 n1 n2 n3 n4
    go_wp2_with fail
    go_ret
    exact ⟨rfl, HB2.out⟩
  | true =>
    have htx : TextsOk t := by
      have h := HS1.out
      unfold smallB at h
      rw [Bool.and_eq_true] at h
      exact textsOk_short h.2
    have HTX := hidden htx
    have hpg := fun w h hb => hpg HTX.out w h hb
    clear htx
    go_wp2_with fail
    (with_reducible refine hsa1.mono ?_)
    rintro e w2 ⟨rfl, hb2⟩
    have HB2 := hidden (bt HB1.out hb2)
    have HXA2 := hidden (HXA1.out.later hb2)
    clear hsa1 hb2 n0 n1 n2 n3 n4 HXA1 HB1
    obtain ⟨n0, n1, n2, n3, n4⟩ := HXA2.out.cells0
    have hpg2 := hpg w2 (HK.out.later HB2.out) HB2.out
    obtain ⟨s2, hs2⟩ : ∃ s2, progB t = s2 := ⟨_, rfl⟩
    rw [hs2] at hpg2
    have HS2 := hidden hs2
    clear hpg hs2
    cases s2 with
    | false =>
      go_wp2_with fail
      (with_reducible refine hpg2.mono ?_)
      rintro e w3 ⟨rfl, hb3⟩
      have HB3 := hidden (bt HB2.out hb3)
      clear hpg2 hpt hgn hrn hst hb3 n0 n1 n2 n3 n4
      go_wp2_with fail
      go_ret
      exact ⟨rfl, HB3.out⟩
    | true =>
      go_wp2_with fail
      (with_reducible refine hpg2.mono ?_)
      rintro e w3 ⟨rfl, hb3⟩
      have HB3 := hidden (bt HB2.out hb3)
      have HXA3 := hidden (HXA2.out.later hb3)
      clear hpg2 hb3 n0 n1 n2 n3 n4 HXA2 HB2
      obtain ⟨n0, n1, n2, n3, n4⟩ := HXA3.out.cells0
      have hpt3 := hpt w3 (HK.out.later HB3.out)
      obtain ⟨hp1, hhp⟩ : ∃ hp1, hasP t z = hp1 := ⟨_, rfl⟩
      rw [hhp] at hpt3
      clear hpt
      cases hp1 with
      | false =>
        go_wp2_with fail
        (with_reducible refine hpt3.mono ?_)
        rintro e w4 ⟨p4, m4, c4, rfl, hi4, hb4⟩
        have HB4 := hidden (bt HB3.out hb4)
        clear hpt3 hgn hrn hst hb4 hi4 hhp n0 n1 n2 n3 n4
        go_wp2_with fail
        go_ret
        exact ⟨rfl, HB4.out⟩
      | true =>
        obtain ⟨nz, hnz, hpo, hnl⟩ := pathN_some hhp
        obtain ⟨⟨y, hy⟩, hnn⟩ := Tree.pathOf_get t hpo
        have hql := path_len' t hpo
        have hll := Tree.ints_len (pathT t z)
        generalize pathT t z = q at *
        obtain ⟨l, hl⟩ : ∃ l, Tree.ints q = l := ⟨_, rfl⟩
        rw [hl] at hy hll hpt3
        have HY := hidden hy
        have HLL : Hid (l.length ≤ 1048576) := by show _ ≤ _; have := HCT.out; omega
        clear hhp hnz hpo hql hll hl hnl hnn
        go_wp2_with fail
        (with_reducible refine hpt3.mono ?_)
        rintro e w4 ⟨p4, m4, c4, rfl, hi4, hb4⟩
        have HI4 := hidden hi4
        have HB4 := hidden (bt HB3.out hb4)
        have HXA4 := hidden (HXA3.out.later hb4)
        have HWL := hidden HXA4.out.lt
        clear hpt3 hi4 hb4 n0 n1 n2 n3 n4 HXA3
        obtain ⟨n0, n1, n2, n3, n4⟩ := HXA4.out.cells0
        have hge4 := hgn l (by have := HLL.out; omega) _ w4 (HK.out.later HB4.out) HI4.out
        have egy : getT t l = y := by unfold getT; rw [HY.out]; rfl
        have ehy : hasT t l = true := by unfold hasT; rw [HY.out]; rfl
        rw [egy, ehy] at hge4
        clear egy ehy hgn
        go_wp2_with fail
        (with_reducible refine hge4.mono ?_)
        rintro e w5 ⟨p5, m5, c5, rfl, hk5, hb5⟩
        have HKS := hidden hk5.toS
        have HB45 := hidden hb5
        obtain ⟨⟨n0', n1', n2', n3', n4'⟩, ha5, ha6⟩ := boxCells HXA4.out hb5
        clear hge4 hk5 hb5 n0 n1 n2 n3 n4
        go_wp2_with fail
        obtain ⟨w6, hw6⟩ : ∃ w6, w6 = (w5.alloc (.cells #[.int .i64 y.kind, .string ⟨#[63]⟩, .int .i64 y.at_, .int .i64 y.end_, .slice p5 m5 c5] 24)).alloc (.cells #[.int .i64 y.kind, .string y.text, .int .i64 y.at_, .int .i64 y.end_, .slice p5 m5 c5] 24) := ⟨_, rfl⟩
        have hb56 : Below w5.heap.size w5 w6 := by rw [hw6]; exact (below_alloc _ _).alloc (by simp) _
        have hs6 : w6.heap.size = w5.heap.size + 2 := by rw [hw6]; simp
        have HQ : Hid (NodeAt w6 w5.heap.size 0 (.mk y.kind qT y.at_ y.end_ y.kids) (.slice p5 m5 c5)) := by
          show NodeAt _ _ _ _ _
          rw [hw6]
          exact (boxAlloc w5 (.mk y.kind qT y.at_ y.end_ y.kids) (.slice p5 m5 c5)).later (below_alloc _ _)
        have HYO : Hid (NodeOwn w6 (w5.heap.size + 1) y (.slice p5 m5 c5)) := by
          show NodeOwn _ _ _ _
          rw [hw6]
          refine ⟨⟨?_, ?_, ?_, ?_, ?_⟩, fun j _ => ?_⟩ <;> simp [go_sem]
        have HB46 := hidden (bt HB45.out hb56)
        have HF : Hid (∀ k, k < w4.heap.size → k < w6.heap.size) := fun k hk => Nat.lt_of_lt_of_le hk HB46.out.size
        have HKS6 := hidden (HKS.out.later (fun _ h => h) HB46.out)
        have hyc : y.count ≤ 1048576 := by have := Tree.numberOf_lt HY.out; have := HCT.out; omega
        have hyk : y.kids.length ≤ 1048576 := by have := Tree.length_le_countL y.kids; have := Tree.count_eq y; omega
        have hcl := clone_any (fun k => k < w4.heap.size) y.kids (.slice p5 m5 c5) w6 HF.out HKS6.out (by omega)
        have HYC := hidden hyc
        rw [← hw6]
        have HS6 := hidden hs6
        clear n0' n1' n2' n3' n4' ha5 ha6 hb56 hw6 HKS hyc hs6
        (with_reducible refine hcl.mono ?_)
        rintro e w7 ⟨L, p7, m7, c7, rfl, rfl, hLt, hown7, hLk, hb7⟩
        obtain ⟨i0, hi, hz0, hz1, hz2⟩ := info_parts infoNode
        have HLT := hidden hLt
        have HLK := hidden hLk
        have HB67 := hidden hb7
        have hy7 := HYO.out.lat hb7
        have hlt7 : w5.heap.size + 1 < w7.heap.size := hy7.1.lt
        have hne7 : w5.heap.size + 1 ≠ w7.heap.size := Nat.ne_of_lt hlt7
        obtain ⟨⟨a0, a1, a2, a3, a4⟩, f0, f1, f2, f3, f4⟩ := hy7.cells0
        have HY7 := hidden hy7
        have HO7 := hidden hown7
        have hz7 := hb7.size
        have hbase : w6.heap.size ≤ w7.heap.size + 1 := by omega
        clear hcl hLt hLk hb7 hy7 a0 a1 a2 a3 f0 f1 f2 f3
        go_wp2_with (at_builtin; go_loud (refine wpList_append_own_at _ rfl (.tmp 42) (.tmp 44) 22 rfl w6.heap.size 24 i0 (.agg #[.int .i64 0, .string ⟨#[]⟩, .int .i64 0, .int .i64 0, .slice none 0 0]) 5 64 Tryz.underlying22 hi hz0 hz1 hz2 rfl (by decide) _ _ _ rfl (hown7.alloc _) ⟨w7.heap.size, 0, none⟩ 1 1 (nodeC zeroT (.slice none 0 0)) rfl rfl (nodeC_new _ _ _ _ _ _ _) (nodeC_one _ _ _ _) (by unfold maxLen; omega) (by omega) (by first | (simp; omega) | (simp; done)) ?_; intro v8 w8 hown8 hgrow8 hnn8 hat8; obtain ⟨g8, c8, rfl, hg8⟩ := rowForm hown8 (fun e => by have := (hnn8.1 e).2; cases this); have hbk := rowApart HO7.out hgrow8 (w5.heap.size + 1) (by have := HS6.out; omega) hlt7; have e4 := (World.cell?_of_block (a := ⟨w5.heap.size + 1, 4, none⟩) hbk).trans a4; have e5 := (World.frozen?_of_block (a := ⟨w5.heap.size + 1, 4, none⟩) hbk).trans f4; have H8 := hidden (And.intro hown8 hgrow8); have HBK := hidden hbk; clear hown8 hgrow8 hnn8 hat8 hbk; have hw47 : w4.heap.size ≤ w7.heap.size := Nat.le_trans HB46.out.size HB67.out.size; have hb78 : Below w4.heap.size w7 w8 := ((Below.refl _ w7).alloc hw47 _).grown H8.out.2 (by first | (simp; done) | (simp; omega) | omega) (fun k hk => Nat.le_trans HB46.out.size (HO7.out.lt k hk).1); have hb48 : Below w4.heap.size w4 w8 := (HB46.out.trans (HB67.out.mono HB46.out.size)).trans hb78; obtain ⟨n0, n1, n2, n3, n4⟩ := (HXA4.out.later hb48).cells0; have hq7 := HQ.out.later HB67.out; have hq8 := (hq7.of_block (rowApart HO7.out H8.out.2 w5.heap.size HQ.out.lt hq7.lt)).cells0; have q0 : w8.cell? ⟨w5.heap.size, 0, none⟩ = some (.int .i64 y.kind) := hq8.1; have q1 : w8.cell? ⟨w5.heap.size, 1, none⟩ = some (.string ⟨#[63]⟩) := hq8.2.1; have q2 : w8.cell? ⟨w5.heap.size, 2, none⟩ = some (.int .i64 y.at_) := hq8.2.2.1; have q3 : w8.cell? ⟨w5.heap.size, 3, none⟩ = some (.int .i64 y.end_) := hq8.2.2.2.1; have q4 : w8.cell? ⟨w5.heap.size, 4, none⟩ = some (.slice p5 m5 c5) := hq8.2.2.2.2; have hd1 : W.heap.size ≠ w5.heap.size + 1 := Nat.ne_of_lt (Nat.lt_of_lt_of_le HWL.out (Nat.le_succ_of_le HB45.out.size)); have hd2 : w5.heap.size ≠ w5.heap.size + 1 := Nat.ne_of_lt (Nat.lt_succ_self _); have HB48 := hidden hb48; clear hw47 hb78 hb48 hq7 hq8))
        obtain ⟨w9, hw9⟩ : ∃ w9, w9 = w8.setCell ⟨w5.heap.size + 1, 4, none⟩ (.slice (some ⟨g8, 0, none⟩) (y.kids.length + 1) c8) := ⟨_, rfl⟩
        rw [← hw9]
        clear n0 n1 n2 n3 n4 q0 q1 q2 q3 q4 e4 e5 hd1 hd2
        have hb49 : Below w4.heap.size w4 w9 := by
          rw [hw9]
          exact HB48.out.setCell (by show w4.heap.size ≤ w5.heap.size + 1; have := HB45.out.size; omega) _
        obtain ⟨x, y2, ta, tb, hx, hy2, era, erb, eer, hpa, hpb, hta, htb, hca, hcb, hcx, hcy⟩ := spoils_facts HY.out HS2.out HTX.out HCT.out
        have hkx : KidsV w9 (.slice p5 m5 c5) x.kids := by
          rw [hx]
          exact (HKS6.out.keep (fun b hb => (hb49.block b hb).trans (HB46.out.block b hb).symm)).toV
        have hky : KidsV w9 (.slice (some ⟨g8, 0, none⟩) (y.kids.length + 1) c8) y2.kids := by
          have hL : L.length = y.kids.length := by rw [← HLT.out, List.length_map]
          have hLl : (L ++ [(zeroT, Value.slice none 0 0)]).length = y.kids.length + 1 := by rw [List.length_append, hL]; rfl
          have h8 := H8.out.1
          rw [show forestC L ++ nodeC zeroT (.slice none 0 0) = forestC (L ++ [(zeroT, Value.slice none 0 0)]) from (forestC_snoc L (zeroT, .slice none 0 0)).symm, ← hLl] at h8
          have h9 := ownsRow_setCell_below h8 (a := ⟨w5.heap.size + 1, 4, none⟩) (by show w5.heap.size + 1 < w6.heap.size; have := HS6.out; omega) (.slice (some ⟨g8, 0, none⟩) (L ++ [(zeroT, Value.slice none 0 0)]).length c8)
          have h10 := row_kidsV h9 (fun i z hz => by
            rw [hLl, ← hw9]
            by_cases hi : i < L.length
            · rw [List.getElem?_append_left hi] at hz
              exact ((HLK.out i z hz).keep (fun b hb => (hb49.block b hb).trans (HB46.out.block b hb).symm)).toV
            · rw [List.getElem?_append_right (by omega)] at hz
              have hz := List.mem_of_getElem? hz
              rw [List.mem_singleton.1 hz]
              exact KidsV.nil _ _ _)
          rw [hLl, ← hw9, List.map_append, HLT.out] at h10
          rw [hy2]
          exact h10
        have hyb : NodeAt w9 (w5.heap.size + 1) 0 y2 (.slice (some ⟨g8, 0, none⟩) (y.kids.length + 1) c8) := by
          rw [hw9, hy2]
          obtain ⟨a0, a1, a2, a3, a4⟩ := (HY7.out.of_block HBK.out).1
          simp only [Nat.zero_add] at a1 a2 a3 a4
          exact ⟨by (simp [go_sem, a0]; rfl), by (simp [go_sem, a1]; rfl), by (simp [go_sem, a2]; rfl), by (simp [go_sem, a3]; rfl), by simp [go_sem, a4]⟩
        have hrx := hrn x (.slice p5 m5 c5) hcx l (by have := HLL.out; omega) (.slice p4 m4 c4) w9 (HK.out.later (bt HB4.out hb49)) (HI4.out.later hb49) hkx
        rw [era, eer] at hrx
        have exn : Value.agg #[.int .i64 x.kind, .string x.text, .int .i64 x.at_, .int .i64 x.end_, .slice p5 m5 c5] = .agg #[.int .i64 y.kind, .string ⟨#[63]⟩, .int .i64 y.at_, .int .i64 y.end_, .slice p5 m5 c5] := by rw [hx]; rfl
        rw [exn] at hrx
        have HXN9 := hidden (HXA4.out.later hb49)
        have HYB := hidden hyb
        have HKY := hidden hky
        have HB49 := hidden hb49
        have HB9 := hidden (bt HB4.out hb49)
        have HERB := hidden erb
        have HEER := hidden eer
        have HPA := hidden hpa
        have HPB := hidden hpb
        have HTA := hidden hta
        have HTB := hidden htb
        have HCA := hidden hca
        have HCB := hidden hcb
        have HCY := hidden hcy
        clear hw9 hb49 hx hy2 era erb eer hpa hpb hta htb hca hcb hcx hcy hkx hky hyb exn HBK H8 HXA4 HQ HYO HKS6 HLK HLT HY7 HO7 HB67 HB46 HB48 HB45 HF HYC HS6 HWL hlt7 hne7 hz7 hbase hyk hi hz0 hz1 hz2 hg8
        refine hrx.mono ?_
        rintro e w10 ⟨p10, m10, c10, rfl, hk10, hb10⟩
        have HK10 := hidden hk10
        have HB910 := hidden hb10
        obtain ⟨⟨n0, n1, n2, n3, n4⟩, hn5, hn6⟩ := boxCells HXN9.out hb10
        obtain ⟨⟨y0, y1, y2', y3, y4⟩, hy5, hy6⟩ := boxCells HYB.out hb10
        clear hrx hk10 hb10
        go_wp2_with fail
        obtain ⟨w11, hw11⟩ : ∃ w11, w11 = w10.alloc (.cells #[.int .i64 ta.kind, .string ta.text, .int .i64 ta.at_, .int .i64 ta.end_, .slice p10 m10 c10] 24) := ⟨_, rfl⟩
        have hb911 : Below w9.heap.size w9 w11 := by rw [hw11]; exact bt HB910.out (below_alloc _ _)
        have hna : NodeAt w11 w10.heap.size 0 ta (.slice p10 m10 c10) := by rw [hw11]; exact boxAlloc _ _ _
        have hb1011 : Below w10.heap.size w10 w11 := by rw [hw11]; exact below_alloc _ _
        rw [← hw11]
        have hry := hrn y2 (.slice (some ⟨g8, 0, none⟩) (y.kids.length + 1) c8) HCY.out l (by have := HLL.out; omega) (.slice p4 m4 c4) w11 (HK.out.later (bt HB9.out hb911)) (HI4.out.later (bt HB49.out hb911)) (HKY.out.later hb911)
        rw [HERB.out, HEER.out] at hry
        have HNA := hidden hna
        have HB1011 := hidden hb1011
        have HB911 := hidden hb911
        clear hw11 hna hb1011 hb911 n0 n1 n2 n3 n4 hn5 hn6 y0 y1 y2' y3 y4 hy5 hy6 hrn
        refine hry.mono ?_
        rintro e w12 ⟨p12, m12, c12, rfl, hk12, hb12⟩
        have HK12 := hidden hk12
        have HB1112 := hidden hb12
        obtain ⟨⟨a0, a1, a2, a3, a4⟩, ha5, ha6⟩ := boxCells HNA.out hb12
        clear hry hk12 hb12
        have hpa := fun w h hm => program_any ta (.slice p10 m10 c10) w h HCA.out HTA.out hm
        rw [HPA.out] at hpa
        simp only [nodeV] at hpa
        go_wp2_with fail
        obtain ⟨w13, hw13⟩ : ∃ w13, w13 = w12.alloc (.cells #[.int .i64 tb.kind, .string tb.text, .int .i64 tb.at_, .int .i64 tb.end_, .slice p12 m12 c12] 24) := ⟨_, rfl⟩
        have hb1213 : Below w12.heap.size w12 w13 := by rw [hw13]; exact below_alloc _ _
        have hnb : NodeAt w13 w12.heap.size 0 tb (.slice p12 m12 c12) := by rw [hw13]; exact boxAlloc _ _ _
        rw [← hw13]
        have HB1013 := hidden (bt (bt HB1011.out HB1112.out) hb1213)
        have HB1213 := hidden hb1213
        have HNB := hidden hnb
        clear hw13 hb1213 hnb a0 a1 a2 a3 a4 ha5 ha6
        have hpa13 := hpa w13 (HK10.out.later HB1013.out) (HMAX.out.keep (bt HB9.out (bt HB910.out HB1013.out)))
        clear hpa
        refine hpa13.mono ?_
        rintro e w14 ⟨rfl, hb14⟩
        have HB1314 := hidden hb14
        obtain ⟨⟨a0, a1, a2, a3, a4⟩, ha5, ha6⟩ := boxCells HNB.out hb14
        clear hpa13 hb14 ha5 ha6
        have hpb14 := program_any tb (.slice p12 m12 c12) w14 (HK12.out.later (bt HB1213.out HB1314.out)) HCB.out HTB.out (HMAX.out.keep (bt HB9.out (bt HB910.out (bt HB1013.out HB1314.out))))
        rw [HPB.out] at hpb14
        simp only [nodeV] at hpb14
        go_wp2_with fail
        refine hpb14.mono ?_
        rintro e w15 ⟨rfl, hb15⟩
        have HB15 := hidden (bt (bt HB910.out (bt HB1013.out HB1314.out)) hb15)
        obtain ⟨n0, n1, n2, n3, n4⟩ := (HXN9.out.later HB15.out).cells0
        clear hpb14 hb15 a0 a1 a2 a3 a4
        have hst15 := hst w15 (HK.out.later (bt HB9.out HB15.out))
        clear hst
        go_wp2_with fail
        refine hst15.mono ?_
        rintro e w16 ⟨p16, m16, c16, rfl, hO16, hb16⟩
        have hsf := strip_facts t
        have hps16 := program_any t.strip (.slice p16 m16 c16) w16 hO16.toV (by rw [hsf.2]; have := HCT.out; omega) (hsf.1 HTX.out) (HMAX.out.keep (bt (bt HB9.out HB15.out) hb16))
        rw [prog_strip, HS2.out] at hps16
        simp only [nodeV] at hps16
        have HB16 := hidden (bt (bt HB9.out HB15.out) hb16)
        clear hst15 hO16 hb16 hsf n0 n1 n2 n3 n4
        go_wp2_with fail
        refine hps16.mono ?_
        rintro e w17 ⟨rfl, hb17⟩
        have HB17 := hidden (bt HB16.out hb17)
        clear hps16 hb17
        go_wp2_with fail
        go_ret
        exact ⟨rfl, HB17.out⟩

end Go.Proofs.YtlbaaiglebpjiaaGreatDoor

