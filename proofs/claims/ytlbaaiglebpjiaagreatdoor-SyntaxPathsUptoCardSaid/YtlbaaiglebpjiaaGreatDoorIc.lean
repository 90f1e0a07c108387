/-
  The walk of SyntaxPaths.
-/
import Derived.Test.YtlbaaiglebpjiaaGreatDoorKb
import Derived.Test.YtlbaaiglebpjiaaGreatDoorAw
import Derived.Test.YtlbaaiglebpjiaaGreatDoorYu
import Derived.Deep.RegionHeld3
import Derived.Deep.DrawnRows
namespace Go.Proofs.YtlbaaiglebpjiaaGreatDoor
open Go.RowKit Go.Shelf Go.Lib
attribute [local go_sem ↓] Go.wp_at_zero Go.wp_at_succ

/-- Three variables, and what else is known. -/
def Held3 (w : World) (V V2 V3 : Nat) (t x y : Tree) (kt kx ky : Value) (w0 : World) : Prop := NodeAt w V 0 t kt ∧ NodeAt w V2 0 x kx ∧ NodeAt w V3 0 y ky ∧ Below w0.heap.size w0 w
theorem Held3.later {w w' w0 : World} {V V2 V3 : Nat} {t x y : Tree} {kt kx ky : Value} (h : Held3 w V V2 V3 t x y kt kx ky w0) (hb : Below w.heap.size w w') : Held3 w' V V2 V3 t x y kt kx ky w0 := ⟨h.1.later hb, h.2.1.later hb, h.2.2.1.later hb, bt h.2.2.2 hb⟩
theorem Held3.cells {w w0 : World} {V V2 V3 : Nat} {t x y : Tree} {kt kx ky : Value} (h : Held3 w V V2 V3 t x y kt kx ky w0) :
    w.cell? ⟨V, 0, none⟩ = some (.int .i64 t.kind) ∧ w.cell? ⟨V, 1, none⟩ = some (.string t.text) ∧ w.cell? ⟨V, 2, none⟩ = some (.int .i64 t.at_) ∧ w.cell? ⟨V, 3, none⟩ = some (.int .i64 t.end_) ∧ w.cell? ⟨V, 4, none⟩ = some kt ∧
    w.cell? ⟨V2, 0, none⟩ = some (.int .i64 x.kind) ∧ w.cell? ⟨V2, 1, none⟩ = some (.string x.text) ∧ w.cell? ⟨V2, 2, none⟩ = some (.int .i64 x.at_) ∧ w.cell? ⟨V2, 3, none⟩ = some (.int .i64 x.end_) ∧ w.cell? ⟨V2, 4, none⟩ = some kx ∧
    w.cell? ⟨V3, 0, none⟩ = some (.int .i64 y.kind) ∧ w.cell? ⟨V3, 1, none⟩ = some (.string y.text) ∧ w.cell? ⟨V3, 2, none⟩ = some (.int .i64 y.at_) ∧ w.cell? ⟨V3, 3, none⟩ = some (.int .i64 y.end_) ∧ w.cell? ⟨V3, 4, none⟩ = some ky ∧ Hid (Below w0.heap.size w0 w) := by
  obtain ⟨h1, h2, h3, h4⟩ := h
  obtain ⟨a0, a1, a2, a3, a4⟩ := h1.cells0
  obtain ⟨b0, b1, b2, b3, b4⟩ := h2.cells0
  obtain ⟨c0, c1, c2, c3, c4⟩ := h3.cells0
  exact ⟨a0, a1, a2, a3, a4, b0, b1, b2, b3, b4, c0, c1, c2, c3, c4, h4⟩

set_option maxRecDepth 100000 in
set_option maxHeartbeats 12800000 in
theorem paths_walk (t : Tree) (kv : Value) (l : List Int) (pv : Value) (z : Int) (hz : z ≤ 9223372036854775807) (W : World) (hk : KidsV W kv t.kids) (hp : IntsV W pv l) (hct : t.count ≤ 1048576) (hcl : l.length ≤ 1048576) (hmax : MaxAt W) :
    Calls Tryz.prog 4 #[nodeV t kv, pv, .int .i64 z] W fun e w' => e = .returned (.bool true) ∧ Below W.heap.size W w' := by
  have haw := fun w (h : Below W.heap.size W w) => awake_any w (hmax.keep h)
  have hsm : ∀ w, KidsV w kv t.kids → Calls Tryz.prog 12 #[nodeV t kv, .int .i64 100] w fun e w' => e = .returned (.bool (smallB 100 t)) ∧ Below w.heap.size w w' := fun w h => refSmall_any 100 (by decide) t kv w h (by omega)
  have hge := fun w (h : KidsV w kv t.kids) (h2 : IntsV w pv l) => getU t kv l pv w h h2 (by omega)
  have hrg := fun w (h : KidsV w kv t.kids) (h2 : IntsV w pv l) => refGetU t kv l pv w h h2 (by omega)
  have hpt := fun w (h : KidsV w kv t.kids) => pathU t kv z hz w h (by omega)
  have hrp := fun w (h : KidsV w kv t.kids) => refPathU t kv z w h (by omega)
  have hnu := fun w (h : KidsV w kv t.kids) (h2 : IntsV w pv l) => numU t kv l pv w h h2 (by omega) (by omega)
  have hrn := fun (hc : t.count ≤ 100000) (hl : l.length ≤ 100000) w (h : KidsV w kv t.kids) (h2 : IntsV w pv l) => refNumU t kv l pv w h h2 hc hl
  have hcn := fun w (h : KidsV w kv t.kids) => count_any t kv w h (by omega)
  have hrc := fun w (h : KidsV w kv t.kids) => refCount_any t kv w h (by omega)
  have hlv := fun w (h : KidsV w kv t.kids) => levels_any t kv w h (by omega)
  have hrl := fun w (h : KidsV w kv t.kids) => refLevels_any t kv w h (by omega)
  have hgc : (getT t l).count ≤ 4194304 := by
    unfold getT
    cases hg : t.get l with
    | none => show zeroT.count ≤ _; decide
    | some y => show y.count ≤ _; have := Tree.numberOf_lt hg; omega
  have hxa : ∀ (k1 k2 : Value) w, KidsV w k1 (getT t l).kids → KidsV w k2 (getT t l).kids → Calls Tryz.prog 27 #[nodeV (getT t l) k1, nodeV (getT t l) k2] w fun e w' => e = .returned (.bool true) ∧ Below w.heap.size w w' := fun k1 k2 w h1 h2 => by
    have := refExact_tree (getT t l) (getT t l) k1 k2 w h1 h2 hgc
    rw [exa_self] at this; exact this
  have hpl := pathT_len t z
  have hii := fun (hl : (Tree.ints (pathT t z)).length ≤ 100000) (v u : Value) w (h1 : IntsV w v (Tree.ints (pathT t z))) (h2 : IntsV w u (Tree.ints (pathT t z))) => by
    have := refInts_row h1.row h2.row hl hl
    rw [decide_eq_true rfl] at this; exact this
  have hil := Tree.ints_len (pathT t z)
  unfold GetU at hge hrg
  unfold PathU at hpt hrp
  unfold NumU at hnu hrn
  generalize getT t l = gx at *
  generalize hasT t l = gok at *
  generalize Tree.ints (pathT t z) = pq at *
  generalize pathT t z = pqn at *
  generalize hasP t z = pok at *
  generalize numT t l = nn at *
  obtain ⟨p, cap, g, o, rfl, _, _⟩ := hk.open
  have hp0 := hp
  obtain ⟨pp, pcap, pg, po, rfl, _, _⟩ := hp0
  have HK := hidden hk
  have HP := hidden hp
  have HCT := hidden hct
  have HPL : Hid (pq.length ≤ t.count) := by show _ ≤ _; omega
  simp only [nodeV] at hsm hge hrg hpt hrp hnu hrn hcn hrc hlv hrl hxa ⊢
  have hbA := below_alloc W (.cells #[.int .i64 t.kind, .string t.text, .int .i64 t.at_, .int .i64 t.end_, .slice p t.kids.length cap] 24)
  have hbox := boxAlloc W t (.slice p t.kids.length cap)
  have HBA := hidden hbA
  have HBOX := hidden hbox
  clear hk hp hbA hbox hgc hpl hil hct
  go_enter Tryz.func4, Tryz.ntmps4
  go_wp2_with fail
  (with_reducible refine (haw _ HBA.out).mono ?_)
  rintro e w1 ⟨rfl, hb1⟩
  have HB1 := hidden (bt HBA.out hb1)
  have HX1 := hidden (HBOX.out.later hb1)
  obtain ⟨n0, n1, n2, n3, n4⟩ := HX1.out.cells0
  clear haw hb1 HBA HBOX
  have hsm1 := hsm w1 (HK.out.later HB1.out)
  obtain ⟨sb, hsb⟩ : ∃ sb, smallB 100 t = sb := ⟨_, rfl⟩
  rw [hsb] at hsm1
  have HSB := hidden hsb
  clear hsm hsb
  cases sb with
  | false =>
    go_wp2_with fail
    (with_reducible refine hsm1.mono ?_)
    rintro e w2 ⟨rfl, hb2⟩
    have HB2 := hidden (bt HB1.out hb2)
    clear hsm1 hge hrg hpt hrp hnu hrn hcn hrc hlv hrl hxa hii hb2 n0 n1 n2 n3 n4
    go_wp2_with fail
    go_ret
    exact ⟨rfl, HB2.out⟩
  | true =>
    have hc100 := small_lt HSB.out
    by_cases hl100 : 100 < l.length
    · have hlz : (100 : Int) < (l.length : Int) := by omega
      go_wp2_with fail
      (with_reducible refine hsm1.mono ?_)
      rintro e w2 ⟨rfl, hb2⟩
      have HB2 := hidden (bt HB1.out hb2)
      clear hsm1 hge hrg hpt hrp hnu hrn hcn hrc hlv hrl hxa hii hb2 n0 n1 n2 n3 n4
      go_wp2_with fail
      go_ret
      exact ⟨rfl, HB2.out⟩
    · have hlz : ¬ ((100 : Int) < (l.length : Int)) := by omega
      have hrn := fun w h h2 => hrn (by omega) (by omega) w h h2
      have hii := fun v u w h1 h2 => hii (by have := HPL.out; omega) v u w h1 h2
      clear hc100 hl100 hcl
      go_wp2_with fail
      (with_reducible refine hsm1.mono ?_)
      rintro e w2 ⟨rfl, hb2⟩
      have HB2 := hidden (bt HB1.out hb2)
      have HX2 := hidden (HX1.out.later hb2)
      clear hsm1 hb2 n0 n1 n2 n3 n4 HX1
      obtain ⟨n0, n1, n2, n3, n4⟩ := HX2.out.cells0
      have hge2 := hge w2 (HK.out.later HB2.out) (HP.out.later HB2.out)
      clear hge
      go_wp2_with fail
      (with_reducible refine hge2.mono ?_)
      rintro e w3 ⟨p3, m3, c3, rfl, hk3, hb3⟩
      obtain ⟨w4, hw4⟩ : ∃ w4, w4 = w3.alloc (.cells #[.int .i64 gx.kind, .string gx.text, .int .i64 gx.at_, .int .i64 gx.end_, .slice p3 m3 c3] 24) := ⟨_, rfl⟩
      have hb34 : Below w3.heap.size w3 w4 := by rw [hw4]; exact below_alloc _ _
      have HX3 : Hid (NodeAt w4 w3.heap.size 0 gx (.slice p3 m3 c3)) := by show NodeAt _ _ _ _ _; rw [hw4]; exact boxAlloc _ _ _
      have HK3 := hidden (hk3.later (bt hb3 hb34))
      have HB4 := hidden (bt HB2.out (bt hb3 hb34))
      have HX4 := hidden (HX2.out.later (bt hb3 hb34))
      have HW4 := hidden hw4
      obtain ⟨⟨n0', n1', n2', n3', n4'⟩, hlt3, hne3⟩ := boxCells HX2.out hb3
      clear hge2 hk3 hb3 hb34 n0 n1 n2 n3 n4 hw4 HX2
      have hrg4 := hrg w4 (HK.out.later HB4.out) (HP.out.later HB4.out)
      clear hrg
      go_wp2_with fail
      rw [← HW4.out]
      (with_reducible refine hrg4.mono ?_)
      rintro e w5 ⟨p5, m5, c5, rfl, hk5, hb5⟩
      clear n0' n1' n2' n3' n4' hlt3 hne3
      obtain ⟨w6, hw6⟩ : ∃ w6, w6 = w5.alloc (.cells #[.int .i64 gx.kind, .string gx.text, .int .i64 gx.at_, .int .i64 gx.end_, .slice p5 m5 c5] 24) := ⟨_, rfl⟩
      have hb56 : Below w5.heap.size w5 w6 := by rw [hw6]; exact below_alloc _ _
      have HX5 : Hid (NodeAt w6 w5.heap.size 0 gx (.slice p5 m5 c5)) := by show NodeAt _ _ _ _ _; rw [hw6]; exact boxAlloc _ _ _
      have HK5 := hidden (hk5.later (bt hb5 hb56))
      have HB6 := hidden (bt HB4.out (bt hb5 hb56))
      have HX6 := hidden (HX4.out.later (bt hb5 hb56))
      have HX36 := hidden (HX3.out.later (bt hb5 hb56))
      have HK36 := hidden (HK3.out.later (bt hb5 hb56))
      have HW6 := hidden hw6
      obtain ⟨⟨n0', n1', n2', n3', n4'⟩, hlt5, hne5⟩ := boxCells HX4.out hb5
      clear hrg4 hk5 hb5 hb56 hw6 HX4 HX3 HK3
      have hpt6 := hpt w6 (HK.out.later HB6.out)
      clear hpt
      go_wp2_with fail
      rw [← HW6.out]
      (with_reducible refine hpt6.mono ?_)
      rintro e w7 ⟨p7, m7, c7, rfl, hi7, hb7⟩
      clear n0' n1' n2' n3' n4' hlt5 hne5
      have HB7 := hidden hb7
      have HI7 := hidden hi7
      have HX7 := hidden (HX6.out.later hb7)
      clear hpt6 hi7 hb7
      obtain ⟨n0, n1, n2, n3, n4⟩ := HX7.out.cells0
      have hrp7 := hrp w7 (HK.out.later (bt HB6.out HB7.out))
      clear hrp
      go_wp2_with fail
      (with_reducible refine hrp7.mono ?_)
      rintro e w8 ⟨p8, m8, c8, rfl, hi8, hb8⟩
      have HB8 := hidden (bt HB7.out hb8)
      have HI8 := hidden hi8
      have HI78 := hidden (HI7.out.later hb8)
      have HX8 := hidden (HX7.out.later hb8)
      clear hrp7 hi8 hb8 n0 n1 n2 n3 n4 HB7 HI7 HX7
      obtain ⟨n0, n1, n2, n3, n4⟩ := HX8.out.cells0
      have hnu8 := hnu w8 (HK.out.later (bt HB6.out HB8.out)) (HP.out.later (bt HB6.out HB8.out))
      clear hnu
      go_wp2_with fail
      (with_reducible refine hnu8.mono ?_)
      rintro e w9 ⟨rfl, hb9⟩
      have HB9 := hidden (bt HB8.out hb9)
      have HB89 := hidden hb9
      have HX9 := hidden (HX8.out.later hb9)
      clear hnu8 hb9 n0 n1 n2 n3 n4 HX8
      obtain ⟨n0, n1, n2, n3, n4⟩ := HX9.out.cells0
      have hrn9 := hrn w9 (HK.out.later (bt HB6.out HB9.out)) (HP.out.later (bt HB6.out HB9.out))
      clear hrn
      go_wp2_with fail
      (with_reducible refine hrn9.mono ?_)
      rintro e wc ⟨rfl, hbc⟩
      have HBC := hidden (bt HB9.out hbc)
      have HH := hidden (show Held3 wc W.heap.size w3.heap.size w5.heap.size t gx gx _ _ _ wc from ⟨HX9.out.later hbc, HX36.out.later HBC.out, HX5.out.later HBC.out, Below.refl _ _⟩)
      have hkc := HK.out.later (bt HB6.out HBC.out)
      have hk3c := HK36.out.later HBC.out
      have hk5c := HK5.out.later HBC.out
      have hi7c := HI78.out.later (bt HB89.out hbc)
      have hi8c := HI8.out.later (bt HB89.out hbc)
      have hcn := fun w (h : Below wc.heap.size wc w) => hcn w (hkc.later h)
      have hrc := fun w (h : Below wc.heap.size wc w) => hrc w (hkc.later h)
      have hlv := fun w (h : Below wc.heap.size wc w) => hlv w (hkc.later h)
      have hrl := fun w (h : Below wc.heap.size wc w) => hrl w (hkc.later h)
      have hxa := fun w (h : Below wc.heap.size wc w) => hxa _ _ w (hk3c.later h) (hk5c.later h)
      have hii := fun w (h : Below wc.heap.size wc w) => hii _ _ w (hi7c.later h) (hi8c.later h)
      have e1 : ((t.count : Int) == (t.count : Int)) = true := by simp
      have e2 : ((t.levels : Int) == (t.levels : Int)) = true := by simp
      have e3 : ((nn : Int) == (nn : Int)) = true := by simp
      have e4 : (gok == gok) = true := by simp
      have e5 : (pok == pok) = true := by simp
      clear hrn9 hbc n0 n1 n2 n3 n4 hkc hk3c hk5c hi7c hi8c
      have HBF := hidden (bt HB6.out HBC.out)
      go_wp2_with fail
      go_region_held3 (fun w' => w'.cell? ⟨W.heap.size, 0, none⟩ = some (.int .i64 t.kind) ∧ w'.cell? ⟨W.heap.size, 1, none⟩ = some (.string t.text) ∧ w'.cell? ⟨W.heap.size, 2, none⟩ = some (.int .i64 t.at_) ∧ w'.cell? ⟨W.heap.size, 3, none⟩ = some (.int .i64 t.end_) ∧ w'.cell? ⟨W.heap.size, 4, none⟩ = some (.slice p t.kids.length cap) ∧ w'.cell? ⟨w3.heap.size, 0, none⟩ = some (.int .i64 gx.kind) ∧ w'.cell? ⟨w3.heap.size, 1, none⟩ = some (.string gx.text) ∧ w'.cell? ⟨w3.heap.size, 2, none⟩ = some (.int .i64 gx.at_) ∧ w'.cell? ⟨w3.heap.size, 3, none⟩ = some (.int .i64 gx.end_) ∧ w'.cell? ⟨w3.heap.size, 4, none⟩ = some (.slice p3 m3 c3) ∧ w'.cell? ⟨w5.heap.size, 0, none⟩ = some (.int .i64 gx.kind) ∧ w'.cell? ⟨w5.heap.size, 1, none⟩ = some (.string gx.text) ∧ w'.cell? ⟨w5.heap.size, 2, none⟩ = some (.int .i64 gx.at_) ∧ w'.cell? ⟨w5.heap.size, 3, none⟩ = some (.int .i64 gx.end_) ∧ w'.cell? ⟨w5.heap.size, 4, none⟩ = some (.slice p5 m5 c5) ∧ Hid (Below wc.heap.size wc w'))
        (first | (with_reducible assumption) | (exact (HH.out.later (by first | (with_reducible exact (Below.refl _ _).drew) | (with_reducible exact HBk.out))).cells))
        (first | (go_at_call 23; (with_reducible refine (hcn _ (by first | (with_reducible exact (Below.refl _ _).drew) | (with_reducible exact HBk.out))).mono ?_); rintro e wk ⟨rfl, hbk⟩; have HBk : Hid (Below wc.heap.size wc wk) := (by first | exact bt (Below.refl _ _).drew hbk | exact bt HBk.out hbk)) | (go_at_call 24; (with_reducible refine (hrc _ (by first | (with_reducible exact (Below.refl _ _).drew) | (with_reducible exact HBk.out))).mono ?_); rintro e wk ⟨rfl, hbk⟩; have HBk : Hid (Below wc.heap.size wc wk) := (by first | exact bt (Below.refl _ _).drew hbk | exact bt HBk.out hbk)) | (go_at_call 25; (with_reducible refine (hlv _ (by with_reducible exact HBk.out)).mono ?_); rintro e wk ⟨rfl, hbk⟩; have HBk : Hid (Below wc.heap.size wc wk) := bt HBk.out hbk) | (go_at_call 26; (with_reducible refine (hrl _ (by with_reducible exact HBk.out)).mono ?_); rintro e wk ⟨rfl, hbk⟩; have HBk : Hid (Below wc.heap.size wc wk) := bt HBk.out hbk) | (go_at_call 27; (with_reducible refine (hxa _ (by with_reducible exact HBk.out)).mono ?_); rintro e wk ⟨rfl, hbk⟩; have HBk : Hid (Below wc.heap.size wc wk) := bt HBk.out hbk) | (go_at_call 28; (with_reducible refine (hii _ (by with_reducible exact HBk.out)).mono ?_); rintro e wk ⟨rfl, qn, rfl⟩; have HBk := hidden (below_drewN HBk.out qn)))
      all_goals
        have HF := hidden (bt HBF.out HBk.out)
        clear hcn hrc hlv hrl hxa hii
        go_wp2_with fail
        go_ret
        exact ⟨rfl, HF.out⟩

end Go.Proofs.YtlbaaiglebpjiaaGreatDoor
