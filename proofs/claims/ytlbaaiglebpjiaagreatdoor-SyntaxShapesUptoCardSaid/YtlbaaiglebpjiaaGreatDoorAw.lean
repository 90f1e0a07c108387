import Derived.Test.YtlbaaiglebpjiaaGreatDoorJh
import Derived.Test.YtlbaaiglebpjiaaGreatDoorQb
import Derived.Deep.DeepCutAuto
import Derived.Deep.RegionHeld3
import Derived.Deep.DrawnRows
namespace Go.Proofs.YtlbaaiglebpjiaaGreatDoor
open Go.RowKit Go.Shelf Go.Lib
attribute [local go_sem ↓] Go.wp_at_zero Go.wp_at_succ

/-- What the statement 'm, e := Replace(..)' leaves. -/
def AwFin (w5 : World) (T : Nat) (q : Option Addr) (c : Nat) (wx : World) : Prop :=
  Below w5.heap.size w5 wx ∧ NodeOwn wx T repT (.slice q 2 c) ∧ KidsV wx (.slice q 2 c) repT.kids

theorem awFin_after {w5 w6 : World} {q : Option Addr} {c : Nat} {F : Nat → Prop} (hb : Below w5.heap.size w5 w6) (hO : KidsO w6 (.slice q 2 c) repT.kids F) :
    AwFin w5 w6.heap.size q c (w6.alloc (.cells #[.int .i64 2, .string ⟨#[]⟩, .int .i64 0, .int .i64 0, .slice q 2 c] 24)) := by
  refine ⟨hb.alloc hb.size _, ⟨⟨?_, ?_, ?_, ?_, ?_⟩, fun j _ => ?_⟩, hO.toV.later (below_alloc _ _)⟩ <;> simp [go_sem, repT, Tree.kind, Tree.text, Tree.at_, Tree.end_]

theorem awFin_before {w5 W w6 : World} {q : Option Addr} {c blk : Nat} (hb : Below w5.heap.size w5 w6) (hb6 : Below W.heap.size W w6) (h5 : w5.heap.size ≤ blk) (hlt : blk < W.heap.size) (hz : NodeOwn W blk zeroT (.slice none 0 0))
    (hO : KidsO w6 (.slice q 2 c) repT.kids (fun k => W.heap.size ≤ k ∧ k < w6.heap.size)) :
    AwFin w5 blk q c (putNode w6 blk 2 ⟨#[]⟩ 0 0 (.slice q 2 c)) := by
  refine ⟨put_below hb _ _ _ _ _ _ h5, (hz.of_block (hb6.block _ hlt)).put (y := repT), (hO.keep (fun k hk => put_other _ _ _ _ _ _ _ _ (by omega))).toV⟩

theorem ownNew (w : World) (b : Nat) (hb : b = w.heap.size) : NodeOwn (w.alloc (.cells #[.int .i64 0, .string ⟨#[]⟩, .int .i64 0, .int .i64 0, .slice none 0 0] 24)) b zeroT (.slice none 0 0) := by
  subst hb
  refine ⟨⟨?_, ?_, ?_, ?_, ?_⟩, fun j _ => ?_⟩ <;> simp [go_sem, zeroT, Tree.kind, Tree.text, Tree.at_, Tree.end_]
theorem NodeOwn.later' {w w' : World} {b : Nat} {x : Tree} {kv : Value} (h : NodeOwn w b x kv) (hb : Below w.heap.size w w') : NodeOwn w' b x kv := h.of_block (hb.block _ h.1.lt)
theorem NodeOwn.drew {w : World} {b : Nat} {x : Tree} {kv : Value} (h : NodeOwn w b x kv) : NodeOwn w.drew b x kv := h.of_block rfl

theorem awKeep {w w' w0 : World} {V T X : Nat} {a0 a1 a2 a3 a4 b0 b1 b2 b3 b4 x1 : Value}
    (h : w.cell? ⟨V, 0, none⟩ = some a0 ∧ w.cell? ⟨V, 1, none⟩ = some a1 ∧ w.cell? ⟨V, 2, none⟩ = some a2 ∧ w.cell? ⟨V, 3, none⟩ = some a3 ∧ w.cell? ⟨V, 4, none⟩ = some a4 ∧ w.cell? ⟨X, 1, none⟩ = some x1 ∧
      w.cell? ⟨T, 0, none⟩ = some b0 ∧ w.cell? ⟨T, 1, none⟩ = some b1 ∧ w.cell? ⟨T, 2, none⟩ = some b2 ∧ w.cell? ⟨T, 3, none⟩ = some b3 ∧ w.cell? ⟨T, 4, none⟩ = some b4 ∧ Hid (Below w0.heap.size w0 w)) (hb : Below w.heap.size w w') :
    w'.cell? ⟨V, 0, none⟩ = some a0 ∧ w'.cell? ⟨V, 1, none⟩ = some a1 ∧ w'.cell? ⟨V, 2, none⟩ = some a2 ∧ w'.cell? ⟨V, 3, none⟩ = some a3 ∧ w'.cell? ⟨V, 4, none⟩ = some a4 ∧ w'.cell? ⟨X, 1, none⟩ = some x1 ∧
      w'.cell? ⟨T, 0, none⟩ = some b0 ∧ w'.cell? ⟨T, 1, none⟩ = some b1 ∧ w'.cell? ⟨T, 2, none⟩ = some b2 ∧ w'.cell? ⟨T, 3, none⟩ = some b3 ∧ w'.cell? ⟨T, 4, none⟩ = some b4 ∧ Hid (Below w0.heap.size w0 w') := by
  obtain ⟨h0, h1, h2, h3, h4, h5, h6, h7, h8, h9, h10, h11⟩ := h
  exact ⟨cell_later h0 hb, cell_later h1 hb, cell_later h2 hb, cell_later h3 hb, cell_later h4 hb, cell_later h5 hb, cell_later h6 hb, cell_later h7 hb, cell_later h8 hb, cell_later h9 hb, cell_later h10 hb, bt h11.out hb⟩

theorem IntsV.getD {W : World} {n : Nat} {c : Nat} {p : Option Addr} {l : List Int} (h : IntsV W (.slice p n c) l) (hne : l ≠ []) : ∃ g o, p = some ⟨g, o, none⟩ ∧ n = l.length ∧ ∀ j, j < l.length → W.cell? ⟨g, o + j, none⟩ = some (.int .i64 (l.getD j 0)) := by
  obtain ⟨p', cap, g, o, e, h1, h2⟩ := h
  injection e with e1 e2 e3
  subst e1 e2 e3
  refine ⟨g, o, (h1 hne).1, rfl, fun j hj => ?_⟩
  rw [List.getD_eq_getElem?_getD, List.getElem?_eq_getElem hj]
  exact h2 j _ (List.getElem?_eq_getElem hj)

theorem ex_eqI {W : World} {p q : Option Addr} {n m c d : Nat} (h1 : IntsV W (.slice p n c) [1, 0, 0, 0]) (h2 : IntsV W (.slice q m d) [1, 0, 0, 0]) :
    Calls Tryz.prog 44 #[.slice p n c, .slice q m d] W fun e W' => e = .returned (.bool true) ∧ Below W.heap.size W W' := by
  obtain ⟨g1, o1, rfl, rfl, k1⟩ := IntsV.getD h1 (by simp)
  obtain ⟨g2, o2, rfl, rfl, k2⟩ := IntsV.getD h2 (by simp)
  refine (Tryz.slices_Equal_int g1 o1 4 c g2 o2 4 d [1, 0, 0, 0] [1, 0, 0, 0] W (by decide) (by decide) (by decide) (by decide) k1 k2).mono ?_
  rintro e w' ⟨rfl, k, rfl⟩
  exact ⟨rfl, below_drewN (Below.refl _ _) k⟩

theorem strs1 (W : World) : Strs (W.alloc (.cells #[.string ⟨#[51]⟩] 9)) (.slice (some ⟨W.heap.size, 0, none⟩) 1 1) [⟨#[51]⟩] := Strs.lit W [⟨#[51]⟩]

theorem ex_eqS {W : World} {v u : Value} (h1 : Strs W v [⟨#[51]⟩]) (h2 : Strs W u [⟨#[51]⟩]) :
    Calls Tryz.prog 45 #[v, u] W fun e W' => e = .returned (.bool true) ∧ Below W.heap.size W W' := by
  refine (equal_any h1 h2 (by decide) (by decide)).mono ?_
  rintro e w' ⟨rfl, k, rfl⟩
  exact ⟨rfl, below_drewN (Below.refl _ _) k⟩


set_option maxRecDepth 100000 in
set_option maxHeartbeats 12800000 in
theorem awake_any (w : World) (hmax : MaxAt w) :
    Calls Tryz.prog 11 #[] w fun e w' => e = .returned (.bool true) ∧ Below w.heap.size w w' := by
  have hex := example_any w
  have HMAX := hidden hmax
  clear hmax
  go_enter Tryz.func11, Tryz.ntmps11
  go_wp2_with fail
  (with_reducible refine hex.mono ?_)
  rintro e w1 ⟨p, c, rfl, hk1, hB1⟩
  clear hex
  obtain ⟨n0, n1, n2, n3, n4⟩ := node_alloc w1 2 0 0 ⟨#[]⟩ (.slice p 2 c) 24
  have hb2 : Below w1.heap.size w1 (w1.alloc (.cells #[.int .i64 2, .string ⟨#[]⟩, .int .i64 0, .int .i64 0, .slice p 2 c] 24)) := below_alloc _ _
  have hlt2 : w1.heap.size < (w1.alloc (.cells #[.int .i64 2, .string ⟨#[]⟩, .int .i64 0, .int .i64 0, .slice p 2 c] 24)).heap.size := by simp
  have HBW := hidden hB1
  clear hB1
  go_wp2_with fail
  generalize w1.alloc (.cells #[.int .i64 2, .string ⟨#[]⟩, .int .i64 0, .int .i64 0, .slice p 2 c] 24) = w2 at *
  have hpa := ex_path (hk1.later hb2)
  (with_reducible refine hpa.mono ?_)
  rintro e w3 ⟨v, rfl, hown, hb3⟩
  clear hpa
  have m0 := cell_later n0 hb3
  have m1 := cell_later n1 hb3
  have m2 := cell_later n2 hb3
  have m3 := cell_later n3 hb3
  have m4 := cell_later n4 hb3
  have hb13 := bt hb2 hb3
  have hlt3 : w1.heap.size < w3.heap.size := Nat.lt_of_lt_of_le hlt2 hb3.size
  have hne3 : w1.heap.size ≠ w3.heap.size := Nat.ne_of_lt hlt3
  have hints : IntsV w3 v (Tree.ints [1, 0, 0, 0]) := IntsV.of_row (q := [1, 0, 0, 0]) hown
  obtain ⟨g, pc, rfl, _, hg⟩ := hown.form (by decide)
  have HINTS := hidden hints
  clear hints
  have hge := ex_get (hk1.later (bt hb13 (below_alloc w3 (.cells #[.int .i64 1, .int .i64 0, .int .i64 0, .int .i64 0] 3)))) (ints4 w3 3)
  have HOWN := hidden hown
  have HB13 := hidden hb13
  clear n0 n1 n2 n3 n4 hown hb2 hb3 hb13 hlt2
  go_wp2_with fail
  (with_reducible refine hge.mono ?_)
  rintro e w4 ⟨q4, c4, rfl, hb4⟩
  have hb34 := bt (below_alloc w3 (.cells #[.int .i64 1, .int .i64 0, .int .i64 0, .int .i64 0] 3)) hb4
  clear hge hb4
  replace m0 := cell_later m0 hb34
  replace m1 := cell_later m1 hb34
  replace m2 := cell_later m2 hb34
  replace m3 := cell_later m3 hb34
  replace m4 := cell_later m4 hb34
  have hlt4 : w1.heap.size < w4.heap.size := Nat.lt_of_lt_of_le hlt3 hb34.size
  have hne4 : w1.heap.size ≠ w4.heap.size := Nat.ne_of_lt hlt4
  have hlt5 : w1.heap.size < w4.heap.size + 1 := by omega
  have hne5 : w1.heap.size ≠ w4.heap.size + 1 := by omega
  obtain ⟨u0, u1, u2, u3, u4⟩ := node_alloc w4 35 0 0 ⟨#[115]⟩ (.slice q4 0 c4) 24
  obtain ⟨A4, hA4⟩ : ∃ A4, A4 = w4.alloc (.cells #[.int .i64 35, .string ⟨#[115]⟩, .int .i64 0, .int .i64 0, .slice q4 0 c4] 24) := ⟨_, rfl⟩
  have hbA : Below w3.heap.size w3 A4 := by rw [hA4]; exact bt hb34 (below_alloc _ _)
  have hnu := ex_number (hk1.later (bt (bt HB13.out hbA) (below_alloc A4 (.cells #[.int .i64 1, .int .i64 0, .int .i64 0, .int .i64 0] 3)))) (ints4 A4 3)
  rw [← hA4] at u0 u1 u2 u3 u4
  have HA4 := hidden hA4
  have hbA4 : Below w4.heap.size w4 A4 := by rw [hA4]; exact below_alloc _ _
  have HM := hidden (And.intro (cell_later m0 hbA4) (And.intro (cell_later m1 hbA4) (And.intro (cell_later m2 hbA4) (And.intro (cell_later m3 hbA4) (cell_later m4 hbA4)))))
  have HBA := hidden hbA
  clear hA4 hb34 hbA hbA4
  go_wp2_with fail
  have hs4 : A4.heap.size = w4.heap.size + 1 := by rw [HA4.out, World.size_alloc]
  have hnu2 := hnu
  rw [hs4, HA4.out] at hnu2
  (with_reducible refine hnu2.mono ?_)
  rintro e w5 ⟨rfl, hb5⟩
  rw [← HA4.out] at hb5
  have hb45 := bt (below_alloc A4 (.cells #[.int .i64 1, .int .i64 0, .int .i64 0, .int .i64 0] 3)) hb5
  have hb35 := hidden (bt HBA.out hb45)
  clear hnu hnu2 hb5 m0 m1 m2 m3 m4
  have hk5 := hk1.later (bt HB13.out hb35.out)
  have hbox : w5.cell? ⟨w1.heap.size, 0, none⟩ = some (.int .i64 2) ∧ w5.cell? ⟨w1.heap.size, 1, none⟩ = some (.string ⟨#[]⟩) ∧ w5.cell? ⟨w1.heap.size, 2, none⟩ = some (.int .i64 0) ∧ w5.cell? ⟨w1.heap.size, 3, none⟩ = some (.int .i64 0) ∧ w5.cell? ⟨w1.heap.size, 4, none⟩ = some (.slice p 2 c) ∧ Hid (Below w5.heap.size w5 w5) := by
    obtain ⟨b0, b1, b2, b3, b4⟩ := HM.out
    exact ⟨cell_later b0 hb45, cell_later b1 hb45, cell_later b2 hb45, cell_later b3 hb45, cell_later b4 hb45, Below.refl _ _⟩
  have hu1 := hidden (cell_later u1 hb45)
  have hlt6 : w1.heap.size < w5.heap.size := World.block_lt_of_cell? w5 _ hbox.1
  clear u0 u1 u2 u3 u4 hb45 hlt3 hne3 hlt4 hne4 hlt5 hne5
  have hl := fun k s W => leaf_any k s W
  have hre := fun (blk : Nat) (W : World) (h0 : W.cell? ⟨blk, 0, none⟩ = some (.int .i64 0)) (h1 : W.cell? ⟨blk, 1, none⟩ = some (.int .i64 0)) (hb : Below w5.heap.size w5 W) => ex_replace (hk5.later hb) (ints_at h0 h1)
  dsimp only [exV] at hre
  have HBOX := hidden hbox
  obtain ⟨n0, n1, n2, n3, n4, _⟩ := hbox
  have hne6 : w1.heap.size ≠ w5.heap.size := Nat.ne_of_lt hlt6
  have hne7 : w1.heap.size ≠ w5.heap.size + 1 := by omega
  have hne8 : w1.heap.size ≠ w5.heap.size + 1 + 1 := by omega
  have hlt7 : w1.heap.size < w5.heap.size + 1 := by omega
  have hlt8 : w1.heap.size < w5.heap.size + 1 + 1 := by omega
  have hlt9 : w1.heap.size < w5.heap.size + 1 + 1 + 1 := by omega
  have hq0 : w5.heap.size < w5.heap.size + 1 + 1 := by omega
  have hq1 : w5.heap.size < w5.heap.size + 1 + 1 + 1 := by omega
  have hq2 : w5.heap.size + 1 < w5.heap.size + 1 + 1 + 1 := by omega
  clear HM
  go_upto_region 5 with fail
  go_cut [8, 9] from 28 (fun s8 s9 wx => ∃ T8 q6 c6, s8 = .pointer (some ⟨T8, 0, none⟩) ∧ s9 = .int .i64 0 ∧ Hid (AwFin w5 T8 q6 c6 wx))
  case first =>
    go_region_held3 (fun w' => w'.cell? ⟨w1.heap.size, 0, none⟩ = some (.int .i64 2) ∧ w'.cell? ⟨w1.heap.size, 1, none⟩ = some (.string ⟨#[]⟩) ∧ w'.cell? ⟨w1.heap.size, 2, none⟩ = some (.int .i64 0) ∧ w'.cell? ⟨w1.heap.size, 3, none⟩ = some (.int .i64 0) ∧ w'.cell? ⟨w1.heap.size, 4, none⟩ = some (.slice p 2 c) ∧ Hid (Below w5.heap.size w5 w'))
      (first | (with_reducible assumption) | (exact boxKeep HBOX.out (by repeat (first | (with_reducible exact Below.refl _ _) | (with_reducible exact HB6.out) | refine Below.drew ?_ | refine Below.setCell ?_ (by first | (with_reducible assumption) | (simp; done) | (simp; omega)) _ | refine Below.alloc ?_ (by first | exact Nat.le_refl _ | (with_reducible assumption) | (simp; done) | (simp; omega)) _))))
      (first | (go_at_call 43; (with_reducible refine (hl _ _ _).mono ?_); rintro e wl ⟨rfl, rfl⟩) | (go_at_call 36; (with_reducible refine Calls.mono (hre _ _ ?h0 ?h1 ?hb) ?_); (case h0 => simp [go_sem]); (case h1 => simp [go_sem]); (case hb => repeat (first | (with_reducible exact Below.refl _ _) | refine Below.drew ?_ | refine Below.alloc ?_ (by first | exact Nat.le_refl _ | (simp; done) | (simp; omega)) _)); rintro e w6 ⟨q6, c6, rfl, hO6, hb6⟩; have zc := fun (blk j : Nat) (h : blk < _) => hb6.cell (p := ⟨blk, j, none⟩) h; have zf := fun (blk j : Nat) (h : blk < _) => hb6.frozen (p := ⟨blk, j, none⟩) h; have HB6 : Hid (Below w5.heap.size w5 w6) := (by refine bt ?_ hb6; repeat (first | (with_reducible exact Below.refl _ _) | refine Below.drew ?_ | refine Below.alloc ?_ (by first | exact Nat.le_refl _ | (simp; done) | (simp; omega)) _)); have hs6 := HB6.out.size; have HO6 := hidden hO6; have HBB6 := hidden hb6; clear hO6 hb6))
    all_goals
      go_wp2_with fail
      go_meet
      refine ⟨_, q6, c6, rfl, rfl, ?_⟩
      first
        | (with_reducible exact hidden (awFin_after HB6.out HO6.out))
        | (with_reducible exact hidden (awFin_before HB6.out HBB6.out (by first | exact Nat.le_refl _ | omega) (by first | (simp; done) | (simp; omega)) (by first | (with_reducible exact ownNew _ _ (by simp)) | (with_reducible exact (ownNew _ _ (by simp)).later' (below_alloc _ _)) | (with_reducible exact ((ownNew _ _ (by simp)).later' (below_alloc _ _)).later' (below_alloc _ _)) | (with_reducible exact NodeOwn.drew (ownNew _ _ (by simp))) | (with_reducible exact NodeOwn.drew ((ownNew _ _ (by simp)).later' (below_alloc _ _))) | (with_reducible exact NodeOwn.drew (((ownNew _ _ (by simp)).later' (below_alloc _ _)).later' (below_alloc _ _)))) HO6.out))
  case rest =>
    obtain ⟨T8, q6, c6, rfl, rfl, hfin⟩ := hcut
    obtain ⟨hb5c, hT8, hk8⟩ := hfin.out
    clear hfin hl hre
    have hkc := hk5.later hb5c
    have hic := HINTS.out.later (bt hb35.out hb5c)
    have hmxc : MaxAt wc := HMAX.out.keep (bt (bt HBW.out HB13.out) (bt hb35.out hb5c))
    have hpr := fun W (hb : Below wc.heap.size wc W) => ex_prog (hkc.later hb) (hmxc.keep hb)
    have hxp := fun W (hb : Below wc.heap.size wc W) => ex_expr (hkc.later hb) (hmxc.keep hb)
    clear hmxc
    have hct := fun W (hb : Below wc.heap.size wc W) => ex_count (hkc.later hb)
    have hlv := fun W (hb : Below wc.heap.size wc W) => ex_levels (hkc.later hb)
    have hst := fun W (hb : Below wc.heap.size wc W) => ex_strip (hkc.later hb)
    have htx := fun W (hb : Below wc.heap.size wc W) => ex_texts (hk8.later hb)
    have hne := fun W (hb : Below wc.heap.size wc W) => ex_equal (hk8.later hb) (hkc.later hb)
    have heq2 := fun W q c' (h : KidsV W (.slice q 2 c') exT.kids) (hb : Below wc.heap.size wc W) => ex_equal2 h (hkc.later hb)
    have heq := fun W (t : TypeId) (hb : Below wc.heap.size wc W) => ex_eqI (hic.later (bt hb (below_alloc W (.cells #[.int .i64 1, .int .i64 0, .int .i64 0, .int .i64 0] t)))) (ints4 W t)
    dsimp only [exV] at hpr hxp hct hlv hst htx hne heq2 heq
    have HS := hidden (awKeep ⟨cell_later n0 hb5c, cell_later n1 hb5c, cell_later n2 hb5c, cell_later n3 hb5c, cell_later n4 hb5c, cell_later hu1.out hb5c, hT8.1.c0, by have := hT8.1.c1; rwa [Nat.zero_add] at this, by have := hT8.1.c2; rwa [Nat.zero_add] at this, by have := hT8.1.c3; rwa [Nat.zero_add] at this, by have := hT8.1.c4; rwa [Nat.zero_add] at this, (Below.refl wc.heap.size wc : Hid (Below wc.heap.size wc wc))⟩ (Below.refl _ _))
    have HBW0 := hidden (bt (bt (bt HBW.out HB13.out) hb35.out) hb5c)
    clear n0 n1 n2 n3 n4 hu1 hT8 hk8 hkc hic hk5 hk1 hb5c hlt6 hne6 hne7 hne8 hlt7 hlt8 hlt9 hq0 hq1 hq2 HBOX hs4
    simp only [repT, Tree.kind, Tree.text, Tree.at_, Tree.end_] at HS
    go_wp2_with fail
    go_region_held3 (fun w' => w'.cell? ⟨w1.heap.size, 0, none⟩ = some (.int .i64 2) ∧ w'.cell? ⟨w1.heap.size, 1, none⟩ = some (.string ⟨#[]⟩) ∧ w'.cell? ⟨w1.heap.size, 2, none⟩ = some (.int .i64 0) ∧ w'.cell? ⟨w1.heap.size, 3, none⟩ = some (.int .i64 0) ∧ w'.cell? ⟨w1.heap.size, 4, none⟩ = some (.slice p 2 c) ∧ w'.cell? ⟨w4.heap.size, 1, none⟩ = some (.string ⟨#[115]⟩) ∧ w'.cell? ⟨T8, 0, none⟩ = some (.int .i64 2) ∧ w'.cell? ⟨T8, 1, none⟩ = some (.string ⟨#[]⟩) ∧ w'.cell? ⟨T8, 2, none⟩ = some (.int .i64 0) ∧ w'.cell? ⟨T8, 3, none⟩ = some (.int .i64 0) ∧ w'.cell? ⟨T8, 4, none⟩ = some (.slice q6 2 c6) ∧ Hid (Below wc.heap.size wc w'))
      (first | (with_reducible assumption) | (exact awKeep HS.out (by (repeat (first | (with_reducible exact Below.refl _ _) | (with_reducible exact Hid.out (by with_reducible assumption)) | refine Below.drew ?_ | refine Below.alloc ?_ (by first | (with_reducible exact Nat.le_refl _) | (with_reducible assumption) | (simp; done) | (simp; omega)) _)))))
      (first | (go_at_call 13; (with_reducible refine (hpr _ (by (repeat (first | (with_reducible exact Below.refl _ _) | (with_reducible exact Hid.out (by with_reducible assumption)) | refine Below.drew ?_ | refine Below.alloc ?_ (by first | (with_reducible exact Nat.le_refl _) | (with_reducible assumption) | (simp; done) | (simp; omega)) _)))).mono ?_); rintro e wk ⟨rfl, hbk⟩; have HBk : Hid (Below wc.heap.size wc wk) := (by refine bt ?_ hbk; (repeat (first | (with_reducible exact Below.refl _ _) | (with_reducible exact Hid.out (by with_reducible assumption)) | refine Below.drew ?_ | refine Below.alloc ?_ (by first | (with_reducible exact Nat.le_refl _) | (with_reducible assumption) | (simp; done) | (simp; omega)) _))); have hszk := HBk.out.size) | (go_at_call 15; (with_reducible refine (hxp _ (by (repeat (first | (with_reducible exact Below.refl _ _) | (with_reducible exact Hid.out (by with_reducible assumption)) | refine Below.drew ?_ | refine Below.alloc ?_ (by first | (with_reducible exact Nat.le_refl _) | (with_reducible assumption) | (simp; done) | (simp; omega)) _)))).mono ?_); rintro e wk ⟨rfl, hbk⟩; have HBk : Hid (Below wc.heap.size wc wk) := (by refine bt ?_ hbk; (repeat (first | (with_reducible exact Below.refl _ _) | (with_reducible exact Hid.out (by with_reducible assumption)) | refine Below.drew ?_ | refine Below.alloc ?_ (by first | (with_reducible exact Nat.le_refl _) | (with_reducible assumption) | (simp; done) | (simp; omega)) _))); have hszk := HBk.out.size) | (go_at_call 23; (with_reducible refine (hct _ (by (repeat (first | (with_reducible exact Below.refl _ _) | (with_reducible exact Hid.out (by with_reducible assumption)) | refine Below.drew ?_ | refine Below.alloc ?_ (by first | (with_reducible exact Nat.le_refl _) | (with_reducible assumption) | (simp; done) | (simp; omega)) _)))).mono ?_); rintro e wk ⟨rfl, hbk⟩; have HBk : Hid (Below wc.heap.size wc wk) := (by refine bt ?_ hbk; (repeat (first | (with_reducible exact Below.refl _ _) | (with_reducible exact Hid.out (by with_reducible assumption)) | refine Below.drew ?_ | refine Below.alloc ?_ (by first | (with_reducible exact Nat.le_refl _) | (with_reducible assumption) | (simp; done) | (simp; omega)) _))); have hszk := HBk.out.size) | (go_at_call 25; (with_reducible refine (hlv _ (by (repeat (first | (with_reducible exact Below.refl _ _) | (with_reducible exact Hid.out (by with_reducible assumption)) | refine Below.drew ?_ | refine Below.alloc ?_ (by first | (with_reducible exact Nat.le_refl _) | (with_reducible assumption) | (simp; done) | (simp; omega)) _)))).mono ?_); rintro e wk ⟨rfl, hbk⟩; have HBk : Hid (Below wc.heap.size wc wk) := (by refine bt ?_ hbk; (repeat (first | (with_reducible exact Below.refl _ _) | (with_reducible exact Hid.out (by with_reducible assumption)) | refine Below.drew ?_ | refine Below.alloc ?_ (by first | (with_reducible exact Nat.le_refl _) | (with_reducible assumption) | (simp; done) | (simp; omega)) _))); have hszk := HBk.out.size) | (go_at_call 44; (with_reducible refine (heq _ _ (by (repeat (first | (with_reducible exact Below.refl _ _) | (with_reducible exact Hid.out (by with_reducible assumption)) | refine Below.drew ?_ | refine Below.alloc ?_ (by first | (with_reducible exact Nat.le_refl _) | (with_reducible assumption) | (simp; done) | (simp; omega)) _)))).mono ?_); rintro e wk ⟨rfl, hbk⟩; have HBk : Hid (Below wc.heap.size wc wk) := (by refine bt ?_ hbk; (repeat (first | (with_reducible exact Below.refl _ _) | (with_reducible exact Hid.out (by with_reducible assumption)) | refine Below.drew ?_ | refine Below.alloc ?_ (by first | (with_reducible exact Nat.le_refl _) | (with_reducible assumption) | (simp; done) | (simp; omega)) _))); have hszk := HBk.out.size) | (go_at_call 29; (with_reducible refine (hne _ (by (repeat (first | (with_reducible exact Below.refl _ _) | (with_reducible exact Hid.out (by with_reducible assumption)) | refine Below.drew ?_ | refine Below.alloc ?_ (by first | (with_reducible exact Nat.le_refl _) | (with_reducible assumption) | (simp; done) | (simp; omega)) _)))).mono ?_); rintro e wk ⟨rfl, hbk⟩; have HBk : Hid (Below wc.heap.size wc wk) := (by refine bt ?_ hbk; (repeat (first | (with_reducible exact Below.refl _ _) | (with_reducible exact Hid.out (by with_reducible assumption)) | refine Below.drew ?_ | refine Below.alloc ?_ (by first | (with_reducible exact Nat.le_refl _) | (with_reducible assumption) | (simp; done) | (simp; omega)) _))); have hszk := HBk.out.size) | (go_at_call 31; (with_reducible refine (hst _ (by (repeat (first | (with_reducible exact Below.refl _ _) | (with_reducible exact Hid.out (by with_reducible assumption)) | refine Below.drew ?_ | refine Below.alloc ?_ (by first | (with_reducible exact Nat.le_refl _) | (with_reducible assumption) | (simp; done) | (simp; omega)) _)))).mono ?_); rintro e wk ⟨qs, cs, rfl, hks, hbk⟩; have HBk : Hid (Below wc.heap.size wc wk) := (by refine bt ?_ hbk; (repeat (first | (with_reducible exact Below.refl _ _) | (with_reducible exact Hid.out (by with_reducible assumption)) | refine Below.drew ?_ | refine Below.alloc ?_ (by first | (with_reducible exact Nat.le_refl _) | (with_reducible assumption) | (simp; done) | (simp; omega)) _))); have hszk := HBk.out.size; have HKS := hidden hks) | (go_at_call 29; (with_reducible refine (heq2 _ qs cs HKS.out (by (repeat (first | (with_reducible exact Below.refl _ _) | (with_reducible exact Hid.out (by with_reducible assumption)) | refine Below.drew ?_ | refine Below.alloc ?_ (by first | (with_reducible exact Nat.le_refl _) | (with_reducible assumption) | (simp; done) | (simp; omega)) _)))).mono ?_); rintro e wk ⟨rfl, hbk⟩; have HBk : Hid (Below wc.heap.size wc wk) := (by refine bt ?_ hbk; (repeat (first | (with_reducible exact Below.refl _ _) | (with_reducible exact Hid.out (by with_reducible assumption)) | refine Below.drew ?_ | refine Below.alloc ?_ (by first | (with_reducible exact Nat.le_refl _) | (with_reducible assumption) | (simp; done) | (simp; omega)) _))); have hszk := HBk.out.size) | (go_at_call 34; (with_reducible refine (htx _ (by (repeat (first | (with_reducible exact Below.refl _ _) | (with_reducible exact Hid.out (by with_reducible assumption)) | refine Below.drew ?_ | refine Below.alloc ?_ (by first | (with_reducible exact Nat.le_refl _) | (with_reducible assumption) | (simp; done) | (simp; omega)) _)))).mono ?_); rintro e wk ⟨tv, rfl, hts, hbk⟩; have HBk : Hid (Below wc.heap.size wc wk) := (by refine bt ?_ hbk; (repeat (first | (with_reducible exact Below.refl _ _) | (with_reducible exact Hid.out (by with_reducible assumption)) | refine Below.drew ?_ | refine Below.alloc ?_ (by first | (with_reducible exact Nat.le_refl _) | (with_reducible assumption) | (simp; done) | (simp; omega)) _))); have hszk := HBk.out.size; have HTS := hidden hts; have HBT := hidden hbk) | (go_at_call 45; (first | (with_reducible refine (ex_eqS (HTS.out.below (below_alloc _ _)) (strs1 _)).mono ?_) | (with_reducible refine (ex_eqS HTS.out ((strs1 _).below HBT.out)).mono ?_)); rintro e wk ⟨rfl, hbk⟩; have HBk : Hid (Below wc.heap.size wc wk) := (by refine bt ?_ hbk; (repeat (first | (with_reducible exact Below.refl _ _) | (with_reducible exact Hid.out (by with_reducible assumption)) | refine Below.drew ?_ | refine Below.alloc ?_ (by first | (with_reducible exact Nat.le_refl _) | (with_reducible assumption) | (simp; done) | (simp; omega)) _))); have hszk := HBk.out.size))
    all_goals
      have HF := hidden (bt HBW0.out HBk.out)
      clear hpr hxp hct hlv hst htx hne heq2 heq
      go_wp2_with fail
      go_ret
      exact ⟨rfl, HF.out⟩

end Go.Proofs.YtlbaaiglebpjiaaGreatDoor
