/-
  The walk of SyntaxPlaces (written by gen_ie.py).
-/
import Derived.Test.YtlbaaiglebpjiaaGreatDoorKd
import Derived.Test.YtlbaaiglebpjiaaGreatDoorAw
import Derived.Deep.RegionHeld3
import Derived.Deep.DrawnRows
import Derived.BigQuiet
import Derived.Deep.QuietTactic
import Derived.IntWalk
namespace Go.Proofs.YtlbaaiglebpjiaaGreatDoor
open Go.RowKit Go.Shelf Go.Lib
attribute [local go_sem ↓] Go.wp_at_zero Go.wp_at_succ

/-- Six variables of the call. -/
structure Six (w : World) (b0 b1 b2 b3 b4 b5 : Nat) (t b y m x c : Tree) (k0 k1 k2 k3 k4 k5 : Value) : Prop where
  n0 : NodeAt w b0 0 t k0
  n1 : NodeAt w b1 0 b k1
  n2 : NodeAt w b2 0 y k2
  n3 : NodeAt w b3 0 m k3
  n4 : NodeAt w b4 0 x k4
  n5 : NodeAt w b5 0 c k5
theorem Six.later {w w' : World} {b0 b1 b2 b3 b4 b5 : Nat} {t b y m x c : Tree} {k0 k1 k2 k3 k4 k5 : Value} (h : Six w b0 b1 b2 b3 b4 b5 t b y m x c k0 k1 k2 k3 k4 k5) (hb : Below w.heap.size w w') : Six w' b0 b1 b2 b3 b4 b5 t b y m x c k0 k1 k2 k3 k4 k5 :=
  ⟨h.n0.later hb, h.n1.later hb, h.n2.later hb, h.n3.later hb, h.n4.later hb, h.n5.later hb⟩

theorem Six.cells {w w0 : World} {b0 b1 b2 b3 b4 b5 : Nat} {t b y m x c : Tree} {k0 k1 k2 k3 k4 k5 : Value} (h : Six w b0 b1 b2 b3 b4 b5 t b y m x c k0 k1 k2 k3 k4 k5) (hb : Below w0.heap.size w0 w) :
    w.cell? ⟨b0, 0, none⟩ = some (.int .i64 t.kind) ∧ w.cell? ⟨b0, 1, none⟩ = some (.string t.text) ∧ w.cell? ⟨b0, 2, none⟩ = some (.int .i64 t.at_) ∧ w.cell? ⟨b0, 3, none⟩ = some (.int .i64 t.end_) ∧ w.cell? ⟨b0, 4, none⟩ = some (k0) ∧ w.cell? ⟨b1, 0, none⟩ = some (.int .i64 b.kind) ∧ w.cell? ⟨b1, 1, none⟩ = some (.string b.text) ∧ w.cell? ⟨b1, 2, none⟩ = some (.int .i64 b.at_) ∧ w.cell? ⟨b1, 3, none⟩ = some (.int .i64 b.end_) ∧ w.cell? ⟨b1, 4, none⟩ = some (k1) ∧ w.cell? ⟨b2, 0, none⟩ = some (.int .i64 y.kind) ∧ w.cell? ⟨b2, 1, none⟩ = some (.string y.text) ∧ w.cell? ⟨b2, 2, none⟩ = some (.int .i64 y.at_) ∧ w.cell? ⟨b2, 3, none⟩ = some (.int .i64 y.end_) ∧ w.cell? ⟨b2, 4, none⟩ = some (k2) ∧ w.cell? ⟨b3, 0, none⟩ = some (.int .i64 m.kind) ∧ w.cell? ⟨b3, 1, none⟩ = some (.string m.text) ∧ w.cell? ⟨b3, 2, none⟩ = some (.int .i64 m.at_) ∧ w.cell? ⟨b3, 3, none⟩ = some (.int .i64 m.end_) ∧ w.cell? ⟨b3, 4, none⟩ = some (k3) ∧ w.cell? ⟨b4, 0, none⟩ = some (.int .i64 x.kind) ∧ w.cell? ⟨b4, 1, none⟩ = some (.string x.text) ∧ w.cell? ⟨b4, 2, none⟩ = some (.int .i64 x.at_) ∧ w.cell? ⟨b4, 3, none⟩ = some (.int .i64 x.end_) ∧ w.cell? ⟨b4, 4, none⟩ = some (k4) ∧ w.cell? ⟨b5, 0, none⟩ = some (.int .i64 c.kind) ∧ w.cell? ⟨b5, 1, none⟩ = some (.string c.text) ∧ w.cell? ⟨b5, 2, none⟩ = some (.int .i64 c.at_) ∧ w.cell? ⟨b5, 3, none⟩ = some (.int .i64 c.end_) ∧ w.cell? ⟨b5, 4, none⟩ = some (k5) ∧ Hid (Below w0.heap.size w0 w) := by
  obtain ⟨h0, h1, h2, h3, h4, h5⟩ := h
  obtain ⟨a00, a01, a02, a03, a04⟩ := h0.cells0
  obtain ⟨a10, a11, a12, a13, a14⟩ := h1.cells0
  obtain ⟨a20, a21, a22, a23, a24⟩ := h2.cells0
  obtain ⟨a30, a31, a32, a33, a34⟩ := h3.cells0
  obtain ⟨a40, a41, a42, a43, a44⟩ := h4.cells0
  obtain ⟨a50, a51, a52, a53, a54⟩ := h5.cells0
  exact ⟨a00, a01, a02, a03, a04, a10, a11, a12, a13, a14, a20, a21, a22, a23, a24, a30, a31, a32, a33, a34, a40, a41, a42, a43, a44, a50, a51, a52, a53, a54, hb⟩

theorem pathN_some {t : Tree} {z : Int} (h : hasP t z = true) : ∃ n : Nat, z = n ∧ t.pathOf n = some (pathT t z) ∧ n < t.count := by
  unfold hasP pathN at h
  by_cases h0 : z < 0
  · rw [if_pos h0] at h; cases h
  · rw [if_neg h0] at h
    obtain ⟨n, rfl⟩ : ∃ n : Nat, z = n := ⟨z.toNat, by omega⟩
    rw [show ((n : Int)).toNat = n by omega] at h
    obtain ⟨q, hq⟩ := Option.isSome_iff_exists.1 h
    refine ⟨n, rfl, ?_, ?_⟩
    · unfold pathT pathN
      rw [if_neg h0, show ((n : Int)).toNat = n by omega, hq]; rfl
    · rcases Nat.lt_or_ge n t.count with h1 | h1
      · exact h1
      · rw [Tree.pathOf_none t h1] at hq; cases hq

theorem pathN_at {t : Tree} {n : Nat} (h : n < t.count) : ∃ y, t.get (Tree.ints (pathT t (n : Int))) = some y := by
  obtain ⟨q, hq⟩ := Tree.pathOf_has t h
  have e : pathT t (n : Int) = q := by unfold pathT pathN; rw [if_neg (by omega), show ((n : Int)).toNat = n by omega, hq]; rfl
  rw [e]
  exact (Tree.pathOf_get t hq).1

set_option maxRecDepth 100000 in
set_option maxHeartbeats 25600000 in
theorem places_walk (t b : Tree) (kt kb : Value) (z : Int) (hz : z ≤ 9223372036854775807) (W : World) (hk : KidsV W kt t.kids) (hkb : KidsV W kb b.kids) (hct : t.count ≤ 1048576) (hcb : b.count ≤ 1048576) (hmax : MaxAt W) :
    Calls Tryz.prog 8 #[nodeV t kt, .int .i64 z, nodeV b kb] W fun e w' => e = .returned (.bool true) ∧ Below W.heap.size W w' := by
  have haw := fun w (h : Below W.heap.size W w) => awake_any w (hmax.keep h)
  have hsa : ∀ w, KidsV w kt t.kids → Calls Tryz.prog 12 #[nodeV t kt, .int .i64 100] w fun e w' => e = .returned (.bool (smallB 100 t)) ∧ Below w.heap.size w w' := fun w h => refSmall_any 100 (by decide) t kt w h (by omega)
  have hsb : ∀ w, KidsV w kb b.kids → Calls Tryz.prog 12 #[nodeV b kb, .int .i64 100] w fun e w' => e = .returned (.bool (smallB 100 b)) ∧ Below w.heap.size w w' := fun w h => refSmall_any 100 (by decide) b kb w h (by omega)
  have hpt := fun (z : Int) (hz : z ≤ 9223372036854775807) w (h : KidsV w kt t.kids) => pathU t kt z hz w h (by omega)
  have hgn := fun (l : List Int) (hl : l.length ≤ 4611686018427387904) pv w (h : KidsV w kt t.kids) (h2 : IntsV w pv l) => getU t kt l pv w h h2 hl
  have hrn := fun (l : List Int) (hl : l.length ≤ 4611686018427387904) pv w (h : KidsV w kt t.kids) (h2 : IntsV w pv l) (h3 : KidsV w kb b.kids) => replU t b kt kb l pv w h h2 h3 hl (by omega) (by omega)
  have hcn := fun w (h : KidsV w kt t.kids) => count_any t kt w h (by omega)
  have hcb2 := fun w (h : KidsV w kb b.kids) => count_any b kb w h (by omega)
  have HK := hidden hk
  have HKB := hidden hkb
  have HCT := hidden hct
  have HCB := hidden hcb
  obtain ⟨p, cap, g, o, rfl, _, _⟩ := hk.open
  obtain ⟨bp, bcap, bg, bo, rfl, _, _⟩ := hkb.open
  unfold PathU at hpt
  unfold GetU at hgn
  unfold ReplU at hrn
  simp only [nodeV] at hsa hsb hgn hrn hpt hcn hcb2 ⊢
  have hbA : Below W.heap.size W ((W.alloc (.cells #[.int .i64 t.kind, .string t.text, .int .i64 t.at_, .int .i64 t.end_, .slice p t.kids.length cap] 24)).alloc (.cells #[.int .i64 b.kind, .string b.text, .int .i64 b.at_, .int .i64 b.end_, .slice bp b.kids.length bcap] 24)) := (below_alloc _ _).alloc (by simp) _
  have hboxa := (boxAlloc W t (.slice p t.kids.length cap)).later (below_alloc _ (.cells #[.int .i64 b.kind, .string b.text, .int .i64 b.at_, .int .i64 b.end_, .slice bp b.kids.length bcap] 24))
  have hboxb := boxAlloc (W.alloc (.cells #[.int .i64 t.kind, .string t.text, .int .i64 t.at_, .int .i64 t.end_, .slice p t.kids.length cap] 24)) b (.slice bp b.kids.length bcap)
  rw [World.size_alloc] at hboxb
  have HBA := hidden hbA
  have HXA := hidden hboxa
  have HXB := hidden hboxb
  clear hk hkb hct hcb hbA hboxa hboxb
  go_enter Tryz.func8, Tryz.ntmps8
  go_wp2_with fail
  (with_reducible refine (haw _ HBA.out).mono ?_)
  rintro e w1 ⟨rfl, hb1⟩
  have HB1 := hidden (bt HBA.out hb1)
  have HXA1 := hidden (HXA.out.later hb1)
  have HXB1 := hidden (HXB.out.later hb1)
  obtain ⟨n0, n1, n2, n3, n4⟩ := HXA1.out.cells0
  clear haw hb1 HBA HXA HXB
  have hsa1 := hsa w1 (HK.out.later HB1.out)
  obtain ⟨s1, hs1⟩ : ∃ s1, smallB 100 t = s1 := ⟨_, rfl⟩
  rw [hs1] at hsa1
  have HS1 := hidden hs1
  clear hsa hs1
  cases s1 with
  | false =>
    go_wp2_with fail
    (with_reducible refine hsa1.mono ?_)
    rintro e w2 ⟨rfl, hb2⟩
    have HB2 := hidden (bt HB1.out hb2)
    clear hsa1 hsb hpt hgn hrn hcn hcb2 hb2 n0 n1 n2 n3 n4
    go_wp2_with fail
    go_ret
    exact ⟨rfl, HB2.out⟩
  | true =>
    go_wp2_with fail
    (with_reducible refine hsa1.mono ?_)
    rintro e w2 ⟨rfl, hb2⟩
    have HB2 := hidden (bt HB1.out hb2)
    have HXA2 := hidden (HXA1.out.later hb2)
    have HXB2 := hidden (HXB1.out.later hb2)
    clear hsa1 hb2 n0 n1 n2 n3 n4 HXA1 HXB1 HB1
    obtain ⟨m0, m1, m2, m3, m4⟩ := HXB2.out.cells0
    have hsb2 := hsb w2 (HKB.out.later HB2.out)
    obtain ⟨s2, hs2⟩ : ∃ s2, smallB 100 b = s2 := ⟨_, rfl⟩
    rw [hs2] at hsb2
    have HS2 := hidden hs2
    clear hsb hs2
    cases s2 with
    | false =>
      go_wp2_with fail
      (with_reducible refine hsb2.mono ?_)
      rintro e w3 ⟨rfl, hb3⟩
      have HB3 := hidden (bt HB2.out hb3)
      clear hsb2 hpt hgn hrn hcn hcb2 hb3 m0 m1 m2 m3 m4
      go_wp2_with fail
      go_ret
      exact ⟨rfl, HB3.out⟩
    | true =>
      go_wp2_with fail
      (with_reducible refine hsb2.mono ?_)
      rintro e w3 ⟨rfl, hb3⟩
      have HB3 := hidden (bt HB2.out hb3)
      have HXA3 := hidden (HXA2.out.later hb3)
      have HXB3 := hidden (HXB2.out.later hb3)
      clear hsb2 hb3 m0 m1 m2 m3 m4 HXA2 HXB2 HB2
      obtain ⟨n0, n1, n2, n3, n4⟩ := HXA3.out.cells0
      have hpt3 := hpt z hz w3 (HK.out.later HB3.out)
      obtain ⟨hp1, hhp⟩ : ∃ hp1, hasP t z = hp1 := ⟨_, rfl⟩
      rw [hhp] at hpt3
      cases hp1 with
      | false =>
        go_wp2_with fail
        (with_reducible refine hpt3.mono ?_)
        rintro e w4 ⟨p4, m4, c4, rfl, hi4, hb4⟩
        have HB4 := hidden (bt HB3.out hb4)
        clear hpt3 hpt hgn hrn hcn hcb2 hb4 hi4 hhp n0 n1 n2 n3 n4
        go_wp2_with fail
        go_ret
        exact ⟨rfl, HB4.out⟩
      | true =>
        obtain ⟨nz, hnz, hpo, hnl⟩ := pathN_some hhp
        obtain ⟨⟨y, hy⟩, hnn⟩ := Tree.pathOf_get t hpo
        have hql := path_len' t hpo
        have hll := Tree.ints_len (pathT t z)
        generalize pathT t z = q at *
        obtain ⟨l, hl⟩ : ∃ l, Tree.ints q = l := ⟨_, rfl⟩
        rw [hl] at hy hll hpt3
        have HY := hidden hy
        have HLL : Hid (l.length ≤ 100) := by show _ ≤ _; have := small_lt HS1.out; omega
        clear hhp hnz hpo hql hll hl hnl hnn
        go_wp2_with fail
        (with_reducible refine hpt3.mono ?_)
        rintro e w4 ⟨p4, m4, c4, rfl, hi4, hb4⟩
        have HI4 := hidden hi4
        have HB4 := hidden (bt HB3.out hb4)
        have HXA4 := hidden (HXA3.out.later hb4)
        have HXB4 := hidden (HXB3.out.later hb4)
        clear hpt3 hi4 hb4 n0 n1 n2 n3 n4 HXA3 HXB3
        obtain ⟨n0, n1, n2, n3, n4⟩ := HXA4.out.cells0
        have hge4 := hgn l (by have := HLL.out; omega) _ w4 (HK.out.later HB4.out) HI4.out
        have egy : getT t l = y := by unfold getT; rw [HY.out]; rfl
        have ehy : hasT t l = true := by unfold hasT; rw [HY.out]; rfl
        rw [egy, ehy] at hge4
        clear egy ehy
        go_wp2_with fail
        (with_reducible refine hge4.mono ?_)
        rintro e w5 ⟨p5, m5, c5, rfl, hk5, hb5⟩
        obtain ⟨w6, hw6⟩ : ∃ w6, w6 = w5.alloc (.cells #[.int .i64 y.kind, .string y.text, .int .i64 y.at_, .int .i64 y.end_, .slice p5 m5 c5] 24) := ⟨_, rfl⟩
        have hb56 : Below w5.heap.size w5 w6 := by rw [hw6]; exact below_alloc _ _
        have HY6 : Hid (NodeAt w6 w5.heap.size 0 y (.slice p5 m5 c5)) := by show NodeAt _ _ _ _ _; rw [hw6]; exact boxAlloc _ _ _
        have HK6 := hidden (hk5.later (bt hb5 hb56))
        have HB46 := hidden (bt hb5 hb56)
        have HXA6 := hidden (HXA4.out.later (bt hb5 hb56))
        have HXB6 := hidden (HXB4.out.later (bt hb5 hb56))
        have HW6 := hidden hw6
        obtain ⟨⟨a0, a1, a2, a3, a4⟩, ha5, ha6⟩ := boxCells HXA4.out hb5
        obtain ⟨⟨b0, b1, b2, b3, b4⟩, hb5', hb6'⟩ := boxCells HXB4.out hb5
        clear hge4 hk5 hb5 hb56 hw6 n0 n1 n2 n3 n4 HXA4 HXB4
        have hrn6 := hrn l (by have := HLL.out; omega) _ w6 (HK.out.later (bt HB4.out HB46.out)) (HI4.out.later HB46.out) (HKB.out.later (bt HB4.out HB46.out))
        have erm : repT2 t l b = t.replace (l.map Int.toNat) b := by unfold repT2; rw [HY.out]; rfl
        have eem : errT t l = 0 := by unfold errT; rw [HY.out]; rfl
        rw [erm, eem] at hrn6
        have HRC := hidden (Tree.replace_count b HY.out)
        have HRG := hidden (Tree.get_replace b HY.out)
        have HRB := hidden (Tree.replace_back b HY.out)
        have HRS : Hid (∀ k q, Tree.Parts l q k → (t.replace (l.map Int.toNat) b).get q = t.get q) := fun k q h => Tree.get_beside b HY.out h
        generalize t.replace (l.map Int.toNat) b = rm at *
        clear hrn erm eem
        go_wp2_with fail
        rw [← HW6.out]
        (with_reducible refine hrn6.mono ?_)
        rintro e w7 ⟨p7, m7, c7, rfl, hk7, hb7⟩
        obtain ⟨w8, hw8⟩ : ∃ w8, w8 = w7.alloc (.cells #[.int .i64 rm.kind, .string rm.text, .int .i64 rm.at_, .int .i64 rm.end_, .slice p7 m7 c7] 24) := ⟨_, rfl⟩
        have hb78 : Below w7.heap.size w7 w8 := by rw [hw8]; exact below_alloc _ _
        have HM8 : Hid (NodeAt w8 w7.heap.size 0 rm (.slice p7 m7 c7)) := by show NodeAt _ _ _ _ _; rw [hw8]; exact boxAlloc _ _ _
        have HKM := hidden (hk7.later hb78)
        have HB68 := hidden (bt hb7 hb78)
        have HB48 := hidden (bt HB46.out (bt hb7 hb78))
        have HXA8 := hidden (HXA6.out.later (bt hb7 hb78))
        have HXB8 := hidden (HXB6.out.later (bt hb7 hb78))
        have HW8 := hidden hw8
        clear hrn6 hk7 hb7 hb78 hw8 a0 a1 a2 a3 a4 ha5 ha6 b0 b1 b2 b3 b4 hb5' hb6' HXA6 HXB6
        have hgm8 := getU rm (.slice p7 m7 c7) l _ w8 HKM.out (HI4.out.later HB48.out) (by have := HLL.out; omega)
        have egm : getT rm l = b := by unfold getT; rw [HRG.out]; rfl
        have ehm : hasT rm l = true := by unfold hasT; rw [HRG.out]; rfl
        unfold GetU at hgm8
        rw [egm, ehm] at hgm8
        simp only [nodeV] at hgm8
        clear egm ehm
        go_wp2_with fail
        rw [← HW8.out]
        (with_reducible refine hgm8.mono ?_)
        rintro e w9 ⟨p9, m9, c9, rfl, hk9, hb9⟩
        obtain ⟨wa, hwa⟩ : ∃ wa, wa = w9.alloc (.cells #[.int .i64 b.kind, .string b.text, .int .i64 b.at_, .int .i64 b.end_, .slice p9 m9 c9] 24) := ⟨_, rfl⟩
        have hb9a : Below w9.heap.size w9 wa := by rw [hwa]; exact below_alloc _ _
        have HXX : Hid (NodeAt wa w9.heap.size 0 b (.slice p9 m9 c9)) := by show NodeAt _ _ _ _ _; rw [hwa]; exact boxAlloc _ _ _
        have HKX := hidden (hk9.later (bt hb9 hb9a))
        have HB8a := hidden (bt hb9 hb9a)
        have HXMa := hidden (HM8.out.later (bt hb9 hb9a))
        have HXYa := hidden (HY6.out.later (bt HB68.out (bt hb9 hb9a)))
        have HXAa := hidden (HXA8.out.later (bt hb9 hb9a))
        have HXBa := hidden (HXB8.out.later (bt hb9 hb9a))
        have HKYa := hidden (HK6.out.later (bt HB68.out (bt hb9 hb9a)))
        have HKMa := hidden (HKM.out.later (bt hb9 hb9a))
        have HB4a := hidden (bt HB48.out (bt hb9 hb9a))
        have HWA := hidden hwa
        obtain ⟨⟨n0, n1, n2, n3, n4⟩, hn5, hn6⟩ := boxCells HM8.out hb9
        obtain ⟨⟨m0, m1, m2, m3, m4'⟩, hm5, hm6⟩ := boxCells (HY6.out.later HB68.out) hb9
        clear hgm8 hk9 hb9 hb9a hwa HM8 HXA8 HXB8 HY6
        have hrm := replU rm y (.slice p7 m7 c7) (.slice p5 m5 c5) l _ wa HKMa.out (HI4.out.later HB4a.out) HKYa.out (by have := HLL.out; omega) (by have := HRC.out; have := HCT.out; have := HCB.out; omega) (by have := HRC.out; have := HCT.out; have := HCB.out; have := Tree.numberOf_lt HY.out; omega)
        have erm : repT2 rm l y = t := by unfold repT2; rw [HRG.out]; exact HRB.out
        have eem : errT rm l = 0 := by unfold errT; rw [HRG.out]; rfl
        unfold ReplU at hrm
        rw [erm, eem] at hrm
        simp only [nodeV] at hrm
        clear erm eem
        go_wp2_with fail
        rw [← HWA.out]
        (with_reducible refine hrm.mono ?_)
        rintro e wb ⟨pb, mb, cb, rfl, hkk, hbb⟩
        obtain ⟨wh, hwc⟩ : ∃ wh, wh = wb.alloc (.cells #[.int .i64 t.kind, .string t.text, .int .i64 t.at_, .int .i64 t.end_, .slice pb mb cb] 24) := ⟨_, rfl⟩
        have hbbc : Below wb.heap.size wb wh := by rw [hwc]; exact below_alloc _ _
        have HXC : Hid (NodeAt wh wb.heap.size 0 t (.slice pb mb cb)) := by show NodeAt _ _ _ _ _; rw [hwc]; exact boxAlloc _ _ _
        have hac := bt hbb hbbc
        have HSIX := hidden (show Six wh W.heap.size (W.heap.size + 1) w5.heap.size w7.heap.size w9.heap.size wb.heap.size t b y rm b t _ _ _ _ _ _ from ⟨HXAa.out.later hac, HXBa.out.later hac, HXYa.out.later hac, HXMa.out.later hac, HXX.out.later hac, HXC.out⟩)
        have HBC := hidden (bt HB4.out (bt HB4a.out hac))
        have hkC := hkk.later hbbc
        have hkT := HK.out.later HBC.out
        have hkB := HKB.out.later HBC.out
        have hkY := HKYa.out.later hac
        have hkM := HKMa.out.later hac
        have hkX := HKX.out.later hac
        have HKM2 := hidden hkM
        have HI2 := hidden (HI4.out.later (bt HB4a.out hac))
        have hxb := fun w (h : Below wh.heap.size wh w) => refExact_tree b b _ _ w (hkX.later h) (hkB.later h) (by have := HCB.out; omega)
        have hxt := fun w (h : Below wh.heap.size wh w) => refExact_tree t t _ _ w (hkC.later h) (hkT.later h) (by have := HCT.out; omega)
        rw [exa_self] at hxb hxt
        have hcm := fun w (h : Below wh.heap.size wh w) => count_any rm _ w (hkM.later h) (by have := HRC.out; have := HCT.out; have := HCB.out; omega)
        have hct := fun w (h : Below wh.heap.size wh w) => hcn w (hkT.later h)
        have hcy := fun w (h : Below wh.heap.size wh w) => count_any y _ w (hkY.later h) (by have := HCT.out; have := Tree.numberOf_lt HY.out; omega)
        have hcc := fun w (h : Below wh.heap.size wh w) => hcb2 w (hkB.later h)
        simp only [nodeV] at hxb hxt hcm hcy
        have hyl : y.count ≤ t.count := by have := Tree.numberOf_lt HY.out; omega
        have ht1 : t.count ≤ 100 := small_lt HS1.out
        have hb1 : b.count ≤ 100 := small_lt HS2.out
        have e1 : IntKind.i64.wrap ((t.count : Int) - (y.count : Int)) = (t.count : Int) - (y.count : Int) := IntWalk.i64_in _ (by omega)
        have e2 : IntKind.i64.wrap ((t.count : Int) - (y.count : Int) + (b.count : Int)) = (t.count : Int) - (y.count : Int) + (b.count : Int) := IntWalk.i64_in _ (by omega)
        have e3 : ((rm.count : Int) != (t.count : Int) - (y.count : Int) + (b.count : Int)) = false := by have := HRC.out; simp; omega
        have HCC := hidden (And.intro ht1 (And.intro hb1 hyl))
        have hcn2 := fun w (h : Below wh.heap.size wh w) => hcn w (hkT.later h)
        have HWH := hidden hwc
        clear hrm hkk hbb hbbc hwc hac n0 n1 n2 n3 n4 m0 m1 m2 m3 m4' hkC hkB hkY hkM hkX hcb2 hcn hyl ht1 hb1 HXC
        go_wp2_with fail
        rw [← HWH.out]
        go_cut [103] (fun s103 wx => s103 = .bool false ∧ Hid (Below wh.heap.size wh wx))
        case first =>
          go_region_held3 (fun w' => w'.cell? ⟨W.heap.size, 0, none⟩ = some (.int .i64 t.kind) ∧ w'.cell? ⟨W.heap.size, 1, none⟩ = some (.string t.text) ∧ w'.cell? ⟨W.heap.size, 2, none⟩ = some (.int .i64 t.at_) ∧ w'.cell? ⟨W.heap.size, 3, none⟩ = some (.int .i64 t.end_) ∧ w'.cell? ⟨W.heap.size, 4, none⟩ = some (.slice p t.kids.length cap) ∧ w'.cell? ⟨W.heap.size + 1, 0, none⟩ = some (.int .i64 b.kind) ∧ w'.cell? ⟨W.heap.size + 1, 1, none⟩ = some (.string b.text) ∧ w'.cell? ⟨W.heap.size + 1, 2, none⟩ = some (.int .i64 b.at_) ∧ w'.cell? ⟨W.heap.size + 1, 3, none⟩ = some (.int .i64 b.end_) ∧ w'.cell? ⟨W.heap.size + 1, 4, none⟩ = some (.slice bp b.kids.length bcap) ∧ w'.cell? ⟨w5.heap.size, 0, none⟩ = some (.int .i64 y.kind) ∧ w'.cell? ⟨w5.heap.size, 1, none⟩ = some (.string y.text) ∧ w'.cell? ⟨w5.heap.size, 2, none⟩ = some (.int .i64 y.at_) ∧ w'.cell? ⟨w5.heap.size, 3, none⟩ = some (.int .i64 y.end_) ∧ w'.cell? ⟨w5.heap.size, 4, none⟩ = some (.slice p5 m5 c5) ∧ w'.cell? ⟨w7.heap.size, 0, none⟩ = some (.int .i64 rm.kind) ∧ w'.cell? ⟨w7.heap.size, 1, none⟩ = some (.string rm.text) ∧ w'.cell? ⟨w7.heap.size, 2, none⟩ = some (.int .i64 rm.at_) ∧ w'.cell? ⟨w7.heap.size, 3, none⟩ = some (.int .i64 rm.end_) ∧ w'.cell? ⟨w7.heap.size, 4, none⟩ = some (.slice p7 m7 c7) ∧ w'.cell? ⟨w9.heap.size, 0, none⟩ = some (.int .i64 b.kind) ∧ w'.cell? ⟨w9.heap.size, 1, none⟩ = some (.string b.text) ∧ w'.cell? ⟨w9.heap.size, 2, none⟩ = some (.int .i64 b.at_) ∧ w'.cell? ⟨w9.heap.size, 3, none⟩ = some (.int .i64 b.end_) ∧ w'.cell? ⟨w9.heap.size, 4, none⟩ = some (.slice p9 m9 c9) ∧ w'.cell? ⟨wb.heap.size, 0, none⟩ = some (.int .i64 t.kind) ∧ w'.cell? ⟨wb.heap.size, 1, none⟩ = some (.string t.text) ∧ w'.cell? ⟨wb.heap.size, 2, none⟩ = some (.int .i64 t.at_) ∧ w'.cell? ⟨wb.heap.size, 3, none⟩ = some (.int .i64 t.end_) ∧ w'.cell? ⟨wb.heap.size, 4, none⟩ = some (.slice pb mb cb) ∧ Hid (Below wh.heap.size wh w'))
            (first | (with_reducible assumption) | (exact (HSIX.out.later (by first | (with_reducible exact Below.refl _ _) | (with_reducible exact (Below.refl _ _).drew) | (with_reducible exact HBk.out))).cells (by first | (with_reducible exact Below.refl _ _) | (with_reducible exact (Below.refl _ _).drew) | (with_reducible exact HBk.out))))
            (first | (go_at_call 27; (with_reducible refine (hxb _ (by first | (with_reducible exact Below.refl _ _) | (with_reducible exact (Below.refl _ _).drew) | (with_reducible exact HBk.out))).mono ?_); rintro e wk ⟨rfl, hbk⟩; have HBk : Hid (Below wh.heap.size wh wk) := (by first | exact bt (Below.refl _ _).drew hbk | exact bt HBk.out hbk)) | (go_at_call 27; (with_reducible refine (hxt _ (by first | (with_reducible exact Below.refl _ _) | (with_reducible exact (Below.refl _ _).drew) | (with_reducible exact HBk.out))).mono ?_); rintro e wk ⟨rfl, hbk⟩; have HBk : Hid (Below wh.heap.size wh wk) := (by first | exact bt (Below.refl _ _).drew hbk | exact bt HBk.out hbk)) | (go_at_call 23; (with_reducible refine (hcm _ (by first | (with_reducible exact Below.refl _ _) | (with_reducible exact (Below.refl _ _).drew) | (with_reducible exact HBk.out))).mono ?_); rintro e wk ⟨rfl, hbk⟩; have HBk : Hid (Below wh.heap.size wh wk) := (by first | exact bt (Below.refl _ _).drew hbk | exact bt HBk.out hbk)) | (go_at_call 23; (with_reducible refine (hct _ (by first | (with_reducible exact Below.refl _ _) | (with_reducible exact (Below.refl _ _).drew) | (with_reducible exact HBk.out))).mono ?_); rintro e wk ⟨rfl, hbk⟩; have HBk : Hid (Below wh.heap.size wh wk) := (by first | exact bt (Below.refl _ _).drew hbk | exact bt HBk.out hbk)) | (go_at_call 23; (with_reducible refine (hcy _ (by first | (with_reducible exact Below.refl _ _) | (with_reducible exact (Below.refl _ _).drew) | (with_reducible exact HBk.out))).mono ?_); rintro e wk ⟨rfl, hbk⟩; have HBk : Hid (Below wh.heap.size wh wk) := (by first | exact bt (Below.refl _ _).drew hbk | exact bt HBk.out hbk)) | (go_at_call 23; (with_reducible refine (hcc _ (by first | (with_reducible exact Below.refl _ _) | (with_reducible exact (Below.refl _ _).drew) | (with_reducible exact HBk.out))).mono ?_); rintro e wk ⟨rfl, hbk⟩; have HBk : Hid (Below wh.heap.size wh wk) := (by first | exact bt (Below.refl _ _).drew hbk | exact bt HBk.out hbk)))
          all_goals
            go_wp2_with fail
            go_meet
            exact ⟨rfl, HBk⟩
        case rest =>
          obtain ⟨rfl, hcutB⟩ := hcut
          have HBW := hidden (bt HBC.out hcutB.out)
          have HS6 := hidden (HSIX.out.later hcutB.out)
          have HKT2 := hidden (HK.out.later HBW.out)
          have HKM3 := hidden (HKM2.out.later hcutB.out)
          have HI3 := hidden (HI2.out.later hcutB.out)
          have hcn3 := hcn2 wc hcutB.out
          clear hxb hxt hcm hct hcy hcc hcn2 e1 e2 e3 hcutB
          obtain ⟨n0, n1, n2, n3, n4⟩ := HS6.out.n0.cells0
          go_wp2_with fail
          (with_reducible refine hcn3.mono ?_)
          rintro e wi ⟨rfl, hbi⟩
          have HBI := hidden hbi
          clear hcn3 hbi n0 n1 n2 n3 n4
          go_wp2_with fail
          go_loopw [106] (fun i wr => ∃ k : Nat, k ≤ t.count ∧ i = .int .i64 k ∧ Hid (Below wc.heap.size wc wr)) (fun i _ => t.count - (intOf i).toNat)
          case atStart => exact ⟨0, Nat.zero_le _, rfl, HBI.out⟩
          case round =>
            obtain ⟨k, hkc, rfl, hh⟩ := hrel
            by_cases hlt : k < t.count
            · have hltz : (k : Int) < (t.count : Int) := by omega
              have hkm : k ≤ 1048576 := by have := HCT.out; omega
              have HR := hidden hh.out
              clear hh
              obtain ⟨n0, n1, n2, n3, n4⟩ := (HS6.out.n0.later HR.out).cells0
              have hpt2 := hpt (k : Int) (by have := HCT.out; omega) wr (HKT2.out.later HR.out)
              obtain ⟨yq, hyq⟩ := pathN_at hlt
              have hql : (Tree.ints (pathT t (k : Int))).length ≤ 4194304 := by rw [Tree.ints_len]; have := pathT_len t (k : Int); have := HCT.out; omega
              generalize Tree.ints (pathT t (k : Int)) = lq at *
              generalize hasP t (k : Int) = hpk at *
              have HYQ := hidden hyq
              clear hpt hyq
              go_wp2_with fail
              (with_reducible refine hpt2.mono ?_)
              rintro e wj ⟨pj, mj, cj, rfl, hij, hbj⟩
              have HBJ := hidden (bt HR.out hbj)
              have hi3 := HI3.out.later HBJ.out
              have HIJ := hidden hij
              have HIP := hidden hi3
              obtain ⟨jp, jc, jg, jo, hje, hj1, hj2⟩ := hij
              injection hje with hj3 hj4 hj5
              subst hj3 hj4 hj5
              obtain ⟨ip, ic, ig, io, hie, hi1, hi2⟩ := hi3
              injection hie with hi4 hi5 hi6
              subst hi4 hi5 hi6
              have HJ1 := hidden hj1
              have HJ2 := hidden hj2
              have HI1 := hidden hi1
              have HI22 := hidden hi2
              have hll : l.length ≤ 4194304 := by have := HLL.out; omega
              clear hpt2 hbj n0 n1 n2 n3 n4 hj1 hj2 hi1 hi2
              go_wp2_with fail
              obtain ⟨wo, hwo⟩ : ∃ wo, wo = wj := ⟨_, rfl⟩
              subst hwo
              go_loopw [20] (fun i wr2 => ∃ kk : Nat, kk ≤ l.length ∧ i = .int .i64 kk ∧ Hid (kk ≤ lq.length ∧ l.take kk = lq.take kk ∧ Below wo.heap.size wo wr2)) (fun i _ => l.length - (intOf i).toNat)
              case atStart => exact ⟨0, Nat.zero_le _, rfl, Nat.zero_le _, by rw [List.take_zero, List.take_zero], Below.refl _ _⟩
              case round =>
                obtain ⟨kk, hkk, rfl, hh2⟩ := hrel
                obtain ⟨hkq, htk, hB2⟩ := hh2.out
                have HTK := hidden htk
                have HB2 := hidden hB2
                clear hh2 htk hB2
                by_cases h1 : kk < l.length
                · obtain ⟨a, ha⟩ : ∃ a, l[kk]? = some a := ⟨_, List.getElem?_eq_getElem h1⟩
                  obtain ⟨rfl, hig⟩ := HI1.out (fun h => by rw [h] at h1; exact absurd h1 (Nat.not_lt_zero _))
                  have ca := cell_later (HI22.out kk a ha) HB2.out
                  have d1 : decide (kk < l.length) = true := decide_eq_true h1
                  have h1z : (kk : Int) < (l.length : Int) := by omega
                  by_cases h2 : kk < lq.length
                  · obtain ⟨b', hb'⟩ : ∃ b', lq[kk]? = some b' := ⟨_, List.getElem?_eq_getElem h2⟩
                    obtain ⟨rfl, hjg⟩ := HJ1.out (fun h => by rw [h] at h2; exact absurd h2 (Nat.not_lt_zero _))
                    have cb' := cell_later (HJ2.out kk b' hb') HB2.out
                    have d2 : decide (kk < lq.length) = true := decide_eq_true h2
                    have h2z : (kk : Int) < (lq.length : Int) := by omega
                    by_cases h3 : a = b'
                    · subst h3
                      have d3 : (a == a) = true := by simp
                      have HN : Hid (l.take (kk + 1) = lq.take (kk + 1)) := by show _ = _; rw [List.take_add_one, List.take_add_one, HTK.out, ha, hb']
                      clear ha hb'
                      go_wp2_with fail
                      go_quiet (fail)
                      go_wp2_with fail
                      go_roundw
                      case rel => exact ⟨kk + 1, by omega, by go_num, by omega, HN.out, by first | exact below_drewN HB2.out _ | exact below_drewN (below_drewN HB2.out _) _⟩
                      case measure => simp [intOf]; omega
                    · have d3 : (a == b') = false := by simp; exact h3
                      have HPA : Hid (Tree.Parts l lq kk) := ⟨HTK.out, a, b', ha, hb', h3⟩
                      have n1' : ((kk : Int) == (l.length : Int)) = false := by simp; omega
                      have n2' : ((kk : Int) == (lq.length : Int)) = false := by simp; omega
                      have n1n : (kk == l.length) = false := by simp; omega
                      have n2n : (kk == lq.length) = false := by simp; omega
                      obtain ⟨n0, n1, n2, n3, n4⟩ := (HS6.out.n0.later (bt HBJ.out HB2.out)).cells0
                      clear ha hb'
                      go_wp2_with fail
                      go_quiet (fail)
                      go_wp2_with fail
                      have hBq := below_drewN (bt HBJ.out HB2.out) nq
                      have hgq := hgn lq (by omega) _ (wr.drewN nq) (HKT2.out.later hBq) (HIJ.out.later (below_drewN HB2.out nq))
                      have egq : hasT t lq = true := by unfold hasT; rw [HYQ.out]; rfl
                      rw [egq] at hgq
                      have HGQ : Hid (getT rm lq = getT t lq ∧ hasT rm lq = true) := by
                        have h := HRS.out kk lq HPA.out
                        unfold getT hasT
                        rw [h, HYQ.out]
                        exact ⟨rfl, rfl⟩
                      have hgcount : (getT t lq).count ≤ 4194304 := by
                        have h : getT t lq = yq := by unfold getT; rw [HYQ.out]; rfl
                        rw [h]
                        have := Tree.numberOf_lt HYQ.out; have := HCT.out; omega
                      generalize getT t lq = gq at *
                      have HBQ := hidden hBq
                      clear egq hBq n0 n1 n2 n3 n4 d1 d2 d3 n1' n2' n1n n2n
                      (with_reducible refine hgq.mono ?_)
                      rintro e wk ⟨pk, mk, ck, rfl, hkk2, hbk⟩
                      obtain ⟨wl, hwl⟩ : ∃ wl, wl = wk.alloc (.cells #[.int .i64 gq.kind, .string gq.text, .int .i64 gq.at_, .int .i64 gq.end_, .slice pk mk ck] 24) := ⟨_, rfl⟩
                      have hbkl : Below wk.heap.size wk wl := by rw [hwl]; exact below_alloc _ _
                      have HXL : Hid (NodeAt wl wk.heap.size 0 gq (.slice pk mk ck)) := by show NodeAt _ _ _ _ _; rw [hwl]; exact boxAlloc _ _ _
                      have HBL := hidden (bt HBQ.out (bt hbk hbkl))
                      have HBQL := hidden (bt hbk hbkl)
                      have HKL := hidden (hkk2.later (bt hbk hbkl))
                      obtain ⟨⟨n0, n1, n2, n3, n4⟩, hn7, hn8⟩ := boxCells HS6.out.n3 (bt HBQ.out hbk)
                      have HWL := hidden hwl
                      clear hgq hkk2 hbk hbkl hwl
                      go_wp2_with fail
                      rw [← HWL.out]
                      have hgm := getU rm _ lq _ wl (HKM3.out.later HBL.out) (HIJ.out.later (bt (below_drewN HB2.out nq) HBQL.out)) (by omega)
                      unfold GetU at hgm
                      rw [HGQ.out.1, HGQ.out.2] at hgm
                      simp only [nodeV] at hgm
                      (with_reducible refine hgm.mono ?_)
                      rintro e wm ⟨pm, mm, cm, rfl, hkm2, hbm⟩
                      obtain ⟨wn, hwn⟩ : ∃ wn, wn = wm.alloc (.cells #[.int .i64 gq.kind, .string gq.text, .int .i64 gq.at_, .int .i64 gq.end_, .slice pm mm cm] 24) := ⟨_, rfl⟩
                      have hbmn : Below wm.heap.size wm wn := by rw [hwn]; exact below_alloc _ _
                      have HBN := hidden (bt HBL.out (bt hbm hbmn))
                      have hxq := refExact_tree gq gq _ _ wn (HKL.out.later (bt hbm hbmn)) (hkm2.later (bt hbm hbmn)) hgcount
                      rw [exa_self] at hxq
                      simp only [nodeV] at hxq
                      obtain ⟨⟨m0, m1, m2, m3, m4'⟩, hm7, hm8⟩ := boxCells HXL.out hbm
                      have HWN := hidden hwn
                      clear hgm hkm2 hbm hbmn hwn n0 n1 n2 n3 n4 hn7 hn8 hgcount
                      go_wp2_with fail
                      rw [← HWN.out]
                      (with_reducible refine hxq.mono ?_)
                      rintro e wo2 ⟨rfl, hbo⟩
                      have HBO := hidden (bt HBN.out hbo)
                      clear hxq hbo m0 m1 m2 m3 m4' hm7 hm8
                      go_wp2_with fail
                      go_roundw
                      case rel => exact ⟨k + 1, by omega, by go_num, HBO.out⟩
                      case measure => simp [intOf]; omega
                  · have d2 : decide (kk < lq.length) = false := decide_eq_false h2
                    have n1' : ((kk : Int) == (l.length : Int)) = false := by simp; omega
                    have n1n : (kk == l.length) = false := by simp; omega
                    obtain rfl : kk = lq.length := by omega
                    go_wp2_with fail
                    go_quiet (fail)
                    go_wp2_with fail
                    go_roundw
                    case rel => exact ⟨k + 1, by omega, by go_num, by first | exact bt HBJ.out (below_drewN HB2.out _)⟩
                    case measure => simp [intOf]; omega
                · have d1 : decide (kk < l.length) = false := decide_eq_false h1
                  obtain rfl : kk = l.length := by omega
                  go_wp2_with fail
                  go_quiet (fail)
                  go_wp2_with fail
                  go_roundw
                  case rel => exact ⟨k + 1, by omega, by go_num, by first | exact bt HBJ.out (below_drewN HB2.out _)⟩
                  case measure => simp [intOf]; omega
            · obtain rfl : k = t.count := by omega
              have hge : ¬ ((t.count : Int) < (t.count : Int)) := by omega
              have HF := hidden (bt HBW.out hh.out)
              clear hh
              go_wp2_with fail
              go_ret
              exact ⟨rfl, HF.out⟩

end Go.Proofs.YtlbaaiglebpjiaaGreatDoor

