/-
  The walk of SyntaxTrees.
-/
import Derived.Test.YtlbaaiglebpjiaaGreatDoorKa
import Derived.Test.YtlbaaiglebpjiaaGreatDoorAw
import Derived.Test.YtlbaaiglebpjiaaGreatDoorYu
import Derived.Test.YtlbaaiglebpjiaaGreatDoorJj
import Derived.Test.YtlbaaiglebpjiaaGreatDoorYx
import Derived.Deep.RegionHeld3
import Derived.Deep.DrawnRows
namespace Go.Proofs.YtlbaaiglebpjiaaGreatDoor
open Go.RowKit Go.Shelf Go.Lib
attribute [local go_sem ↓] Go.wp_at_zero Go.wp_at_succ

theorem StrRow.of_own {w : World} {B : Nat} {e : TypeId} {v : Value} {xs : List ByteArray} (h : w.ownsRow B e 1 v xs.length (xs.map Value.string)) : StrRow w v xs := by
  rcases h.2 with ⟨rfl, h0⟩ | ⟨g, cap, cur, rfl, h2, h3⟩
  · have : xs = [] := List.length_eq_zero_iff.1 h0
    subst this
    exact ⟨none, 0, rfl, fun i hi => absurd hi (Nat.not_lt_zero i)⟩
  · refine ⟨some ⟨g, 0, none⟩, cap, rfl, fun i hi => ⟨g, 0, rfl, ?_⟩⟩
    have hx : xs[i]? = some xs[i] := List.getElem?_eq_getElem hi
    have := h.cells (g := g) rfl i (.string xs[i]) (by rw [List.getElem?_map, hx]; rfl)
    have hadd : (⟨g, 0, none⟩ : Addr).add i = ⟨g, i, none⟩ := by unfold Addr.add; split <;> simp_all
    rw [hadd] at this
    rw [Nat.zero_add, this, List.getD_eq_getElem?_getD, hx]; rfl

theorem StrRow.later {w w' : World} {v : Value} {xs : List ByteArray} (h : StrRow w v xs) (hb : Below w.heap.size w w') : StrRow w' v xs := by
  obtain ⟨p, cap, e, h2⟩ := h
  refine ⟨p, cap, e, fun i hi => ?_⟩
  obtain ⟨b, o, e1, e2⟩ := h2 i hi
  exact ⟨b, o, e1, cell_later e2 hb⟩

theorem eqv_refl (a : Tree) : a.eqv a = true := by
  refine Tree.induct (P := fun a => a.eqv a = true) (fun a ih => ?_) a
  rw [eqv_eq]
  have h : ∀ ts : List Tree, (∀ x ∈ ts, x.eqv x = true) → Tree.eqvL ts ts = true := by
    intro ts
    induction ts with
    | nil => intro _; exact eqvL_nil
    | cons t ts ih2 => intro h; rw [eqvL_cons, h t List.mem_cons_self, ih2 (fun x hx => h x (List.mem_cons_of_mem _ hx))]; rfl
  rw [h a.kids ih]
  simp

theorem small_count {m : Nat} {t : Tree} (h : smallB m t = true) : t.count ≤ m := by
  unfold smallB at h
  rw [Bool.and_eq_true] at h
  exact of_decide_eq_true h.1

/-- Two variables, and what else is known. -/
theorem twoKeep {w w' w0 : World} {V V2 : Nat} {a0 a1 a2 a3 a4 b0 b1 b2 b3 b4 : Value}
    (h : w.cell? ⟨V, 0, none⟩ = some a0 ∧ w.cell? ⟨V, 1, none⟩ = some a1 ∧ w.cell? ⟨V, 2, none⟩ = some a2 ∧ w.cell? ⟨V, 3, none⟩ = some a3 ∧ w.cell? ⟨V, 4, none⟩ = some a4 ∧
      w.cell? ⟨V2, 0, none⟩ = some b0 ∧ w.cell? ⟨V2, 1, none⟩ = some b1 ∧ w.cell? ⟨V2, 2, none⟩ = some b2 ∧ w.cell? ⟨V2, 3, none⟩ = some b3 ∧ w.cell? ⟨V2, 4, none⟩ = some b4 ∧ Hid (Below w0.heap.size w0 w)) (hb : Below w.heap.size w w') :
    w'.cell? ⟨V, 0, none⟩ = some a0 ∧ w'.cell? ⟨V, 1, none⟩ = some a1 ∧ w'.cell? ⟨V, 2, none⟩ = some a2 ∧ w'.cell? ⟨V, 3, none⟩ = some a3 ∧ w'.cell? ⟨V, 4, none⟩ = some a4 ∧
      w'.cell? ⟨V2, 0, none⟩ = some b0 ∧ w'.cell? ⟨V2, 1, none⟩ = some b1 ∧ w'.cell? ⟨V2, 2, none⟩ = some b2 ∧ w'.cell? ⟨V2, 3, none⟩ = some b3 ∧ w'.cell? ⟨V2, 4, none⟩ = some b4 ∧ Hid (Below w0.heap.size w0 w') := by
  obtain ⟨h0, h1, h2, h3, h4, h5, h6, h7, h8, h9, h10⟩ := h
  exact ⟨cell_later h0 hb, cell_later h1 hb, cell_later h2 hb, cell_later h3 hb, cell_later h4 hb, cell_later h5 hb, cell_later h6 hb, cell_later h7 hb, cell_later h8 hb, cell_later h9 hb, bt h10.out hb⟩

set_option maxRecDepth 100000 in
set_option maxHeartbeats 12800000 in
theorem trees_walk (a b : Tree) (ka kb : Value) (kd : Int) (W : World) (hka : KidsV W ka a.kids) (hkb : KidsV W kb b.kids) (hca : a.count ≤ 1048576) (hcb : b.count ≤ 1048576) (hmax : MaxAt W) :
    Calls Tryz.prog 5 #[nodeV a ka, nodeV b kb, .int .i64 kd] W fun e w' => e = .returned (.bool true) ∧ Below W.heap.size W w' := by
  have haw := fun w (h : Below W.heap.size W w) => awake_any w (hmax.keep h)
  have hsa : ∀ w, KidsV w ka a.kids → Calls Tryz.prog 12 #[nodeV a ka, .int .i64 100] w fun e w' => e = .returned (.bool (smallB 100 a)) ∧ Below w.heap.size w w' := fun w h => refSmall_any 100 (by decide) a ka w h (by omega)
  have hsb : ∀ w, KidsV w kb b.kids → Calls Tryz.prog 12 #[nodeV b kb, .int .i64 100] w fun e w' => e = .returned (.bool (smallB 100 b)) ∧ Below w.heap.size w w' := fun w h => refSmall_any 100 (by decide) b kb w h (by omega)
  have heq := fun w (h1 : KidsV w ka a.kids) (h2 : KidsV w kb b.kids) => equal_tree a b ka kb w h1 h2 (by omega)
  have hre := fun w (h1 : KidsV w ka a.kids) (h2 : KidsV w kb b.kids) => refEqual_tree a b ka kb w h1 h2 (by omega)
  have hee : ∀ w, KidsV w ka a.kids → Calls Tryz.prog 29 #[nodeV a ka, nodeV a ka] w fun e w' => e = .returned (.bool true) ∧ Below w.heap.size w w' := fun w h => by
    have := equal_tree a a ka ka w h h (by omega)
    rw [eqv_refl] at this; exact this
  have hst := fun w (h : KidsV w ka a.kids) => strip_any a ka w h (by omega)
  have hrs := fun w (h : KidsV w ka a.kids) => refStrip_any a ka w h (by omega)
  have htx := fun w (h : KidsV w ka a.kids) => texts_any a ka kd w h (by omega)
  have hrt := fun w (h : KidsV w ka a.kids) => refTexts_any kd a ka w h (by omega)
  have hxa : a.strip.count ≤ 4194304 → ∀ (k1 k2 : Value) w, KidsV w k1 a.strip.kids → KidsV w k2 a.strip.kids → Calls Tryz.prog 27 #[nodeV a.strip k1, nodeV a.strip k2] w fun e w' => e = .returned (.bool true) ∧ Below w.heap.size w w' := fun hc k1 k2 w h1 h2 => by
    have := refExact_tree a.strip a.strip k1 k2 w h1 h2 hc
    rw [exa_self] at this; exact this
  have hcs : a.strip.count = a.count := by
    have h : ∀ t : Tree, t.strip.count = t.count := fun t => by
      refine Tree.induct (P := fun t => t.strip.count = t.count) (fun t ih => ?_) t
      rw [Tree.count_eq, Tree.count_eq t, strip_kids]
      have h2 : ∀ ts : List Tree, (∀ x ∈ ts, x.strip.count = x.count) → Tree.countL (ts.map Tree.strip) = Tree.countL ts := by
        intro ts
        induction ts with
        | nil => intro _; rfl
        | cons x ts ih2 => intro hx; rw [List.map_cons, Tree.countL_cons, Tree.countL_cons, hx x List.mem_cons_self, ih2 (fun y hy => hx y (List.mem_cons_of_mem _ hy))]
      rw [h2 t.kids ih]
    exact h a
  have hxa := hxa (by omega)
  have htl : (a.texts kd).length ≤ a.count := txts_len kd a.nodes
  have hss := fun (v u : Value) w (h1 : StrRow w v (a.texts kd)) (h2 : StrRow w u (a.texts kd)) (hl : (a.texts kd).length ≤ 100000) => by
    have := refStrings_row h1 h2 hl hl
    rw [decide_eq_true rfl] at this; exact this
  have htr : a.texts kd = txts kd a.nodes := rfl
  rw [← htr] at hrt
  clear hcs htr
  obtain ⟨p, cap, g, o, rfl, _, _⟩ := hka.open
  obtain ⟨bp, bcap, bg, bo, rfl, _, _⟩ := hkb.open
  have HKA := hidden hka
  have HKB := hidden hkb
  have HCA := hidden hca
  generalize a.texts kd = xs at *
  generalize a.eqv b = r at *
  generalize a.strip = sa at *
  simp only [nodeV] at hsa hsb heq hre hee hst hrs htx hrt hxa ⊢
  have HTL := hidden htl
  clear hka hkb hca hcb htl
  have hbA : Below W.heap.size W ((W.alloc (.cells #[.int .i64 a.kind, .string a.text, .int .i64 a.at_, .int .i64 a.end_, .slice p a.kids.length cap] 24)).alloc (.cells #[.int .i64 b.kind, .string b.text, .int .i64 b.at_, .int .i64 b.end_, .slice bp b.kids.length bcap] 24)) := (below_alloc _ _).alloc (by simp) _
  have hboxa := (boxAlloc W a (.slice p a.kids.length cap)).later (below_alloc _ (.cells #[.int .i64 b.kind, .string b.text, .int .i64 b.at_, .int .i64 b.end_, .slice bp b.kids.length bcap] 24))
  have hboxb := boxAlloc (W.alloc (.cells #[.int .i64 a.kind, .string a.text, .int .i64 a.at_, .int .i64 a.end_, .slice p a.kids.length cap] 24)) b (.slice bp b.kids.length bcap)
  rw [World.size_alloc] at hboxb
  have HBA := hidden hbA
  have HXA := hidden hboxa
  have HXB := hidden hboxb
  clear hbA hboxa hboxb
  go_enter Tryz.func5, Tryz.ntmps5
  go_wp2_with fail
  (with_reducible refine (haw _ HBA.out).mono ?_)
  rintro e w1 ⟨rfl, hb1⟩
  have HB1 := hidden (bt HBA.out hb1)
  have HXA1 := hidden (HXA.out.later hb1)
  have HXB1 := hidden (HXB.out.later hb1)
  obtain ⟨n0, n1, n2, n3, n4⟩ := HXA1.out.cells0
  clear haw hb1 HBA HXA HXB
  have hsa1 := hsa w1 (HKA.out.later HB1.out)
  obtain ⟨s1, hs1⟩ : ∃ s1, smallB 100 a = s1 := ⟨_, rfl⟩
  rw [hs1] at hsa1
  have HS1 := hidden hs1
  clear hsa hs1
  cases s1 with
  | false =>
    go_wp2_with fail
    (with_reducible refine hsa1.mono ?_)
    rintro e w2 ⟨rfl, hb2⟩
    have HB2 := hidden (bt HB1.out hb2)
    clear hsa1 hsb heq hre hee hst hrs htx hrt hxa hss hb2 n0 n1 n2 n3 n4
    go_wp2_with fail
    go_ret
    exact ⟨rfl, HB2.out⟩
  | true =>
    go_wp2_with fail
    (with_reducible refine hsa1.mono ?_)
    rintro e w2 ⟨rfl, hb2⟩
    have HB2 := hidden (bt HB1.out hb2)
    have HXA2 := hidden (HXA1.out.later hb2)
    have HXB2 := hidden (HXB1.out.later hb2)
    clear hsa1 hb2 n0 n1 n2 n3 n4 HXA1 HXB1 HB1
    obtain ⟨m0, m1, m2, m3, m4⟩ := HXB2.out.cells0
    have hsb2 := hsb w2 (HKB.out.later HB2.out)
    obtain ⟨s2, hs2⟩ : ∃ s2, smallB 100 b = s2 := ⟨_, rfl⟩
    rw [hs2] at hsb2
    clear hsb hs2
    cases s2 with
    | false =>
      go_wp2_with fail
      (with_reducible refine hsb2.mono ?_)
      rintro e w3 ⟨rfl, hb3⟩
      have HB3 := hidden (bt HB2.out hb3)
      clear hsb2 heq hre hee hst hrs htx hrt hxa hss hb3 m0 m1 m2 m3 m4
      go_wp2_with fail
      go_ret
      exact ⟨rfl, HB3.out⟩
    | true =>
      go_wp2_with fail
      (with_reducible refine hsb2.mono ?_)
      rintro e w3 ⟨rfl, hb3⟩
      have HB3 := hidden (bt HB2.out hb3)
      have HXA3 := hidden (HXA2.out.later hb3)
      have HXB3 := hidden (HXB2.out.later hb3)
      clear hsb2 hb3 m0 m1 m2 m3 m4 HXA2 HXB2 HB2
      have hcl : xs.length ≤ 100000 := by have := small_count HS1.out; have := HTL.out; omega
      have hss := fun v u w h1 h2 => hss v u w h1 h2 hcl
      have hkA := HKA.out.later HB3.out
      have hkB := HKB.out.later HB3.out
      have heq := fun w (h : Below w3.heap.size w3 w) => heq w (hkA.later h) (hkB.later h)
      have hre := fun w (h : Below w3.heap.size w3 w) => hre w (hkA.later h) (hkB.later h)
      have hee := fun w (h : Below w3.heap.size w3 w) => hee w (hkA.later h)
      have hst := fun w (h : Below w3.heap.size w3 w) => hst w (hkA.later h)
      have hrs := fun w (h : Below w3.heap.size w3 w) => hrs w (hkA.later h)
      have htx := fun w (h : Below w3.heap.size w3 w) => htx w (hkA.later h)
      have hrt := fun w (h : Below w3.heap.size w3 w) => hrt w (hkA.later h)
      have HS : Hid (_ ∧ _ ∧ _ ∧ _ ∧ _ ∧ _ ∧ _ ∧ _ ∧ _ ∧ _ ∧ Hid (Below w3.heap.size w3 w3)) := ⟨HXA3.out.cells0.1, HXA3.out.cells0.2.1, HXA3.out.cells0.2.2.1, HXA3.out.cells0.2.2.2.1, HXA3.out.cells0.2.2.2.2, HXB3.out.cells0.1, HXB3.out.cells0.2.1, HXB3.out.cells0.2.2.1, HXB3.out.cells0.2.2.2.1, HXB3.out.cells0.2.2.2.2, Below.refl _ _⟩
      have hrr : (r == r) = true := by simp
      clear hkA hkB hcl
      go_wp2_with fail
      go_region_held3 (fun w' => w'.cell? ⟨W.heap.size, 0, none⟩ = some (.int .i64 a.kind) ∧ w'.cell? ⟨W.heap.size, 1, none⟩ = some (.string a.text) ∧ w'.cell? ⟨W.heap.size, 2, none⟩ = some (.int .i64 a.at_) ∧ w'.cell? ⟨W.heap.size, 3, none⟩ = some (.int .i64 a.end_) ∧ w'.cell? ⟨W.heap.size, 4, none⟩ = some (.slice p a.kids.length cap) ∧ w'.cell? ⟨W.heap.size + 1, 0, none⟩ = some (.int .i64 b.kind) ∧ w'.cell? ⟨W.heap.size + 1, 1, none⟩ = some (.string b.text) ∧ w'.cell? ⟨W.heap.size + 1, 2, none⟩ = some (.int .i64 b.at_) ∧ w'.cell? ⟨W.heap.size + 1, 3, none⟩ = some (.int .i64 b.end_) ∧ w'.cell? ⟨W.heap.size + 1, 4, none⟩ = some (.slice bp b.kids.length bcap) ∧ Hid (Below w3.heap.size w3 w'))
        (first | (with_reducible assumption) | (exact twoKeep HS.out (by first | (with_reducible exact (Below.refl _ _).drew) | (with_reducible exact HBk.out))))
        (first | (go_at_call 29; (with_reducible refine (heq _ (by first | (with_reducible exact (Below.refl _ _).drew) | (with_reducible exact HBk.out))).mono ?_); rintro e wk ⟨rfl, hbk⟩; have HBk : Hid (Below w3.heap.size w3 wk) := (by first | exact bt (Below.refl _ _).drew hbk | exact bt HBk.out hbk)) | (go_at_call 30; (with_reducible refine (hre _ (by first | (with_reducible exact (Below.refl _ _).drew) | (with_reducible exact HBk.out))).mono ?_); rintro e wk ⟨rfl, hbk⟩; have HBk : Hid (Below w3.heap.size w3 wk) := (by first | exact bt (Below.refl _ _).drew hbk | exact bt HBk.out hbk)) | (go_at_call 29; (with_reducible refine (hee _ (by with_reducible exact HBk.out)).mono ?_); rintro e wk ⟨rfl, hbk⟩; have HBk : Hid (Below w3.heap.size w3 wk) := bt HBk.out hbk) | (go_at_call 31; (with_reducible refine (hst _ (by with_reducible exact HBk.out)).mono ?_); rintro e wk ⟨p4, n4', c4, rfl, hO, hbk⟩; have HK1 := hidden hO.toV; have HBk : Hid (Below w3.heap.size w3 wk) := bt HBk.out hbk; have HBB := hidden hbk; clear hO hbk) | (go_at_call 32; (with_reducible refine (hrs _ (by with_reducible exact HBk.out)).mono ?_); rintro e wk ⟨p5, n5', c5, rfl, hO, hbk⟩; have HK2 := hidden hO.toV; have HBk : Hid (Below w3.heap.size w3 wk) := bt HBk.out hbk; have HBB := hidden hbk; clear hO hbk) | (go_at_call 27; (with_reducible refine (hxa _ _ _ (by first | (with_reducible exact HK1.out) | (with_reducible exact HK1.out.later HBB.out)) (by first | (with_reducible exact HK2.out) | (with_reducible exact HK2.out.later HBB.out))).mono ?_); rintro e wk ⟨rfl, hbk⟩; have HBk : Hid (Below w3.heap.size w3 wk) := bt HBk.out hbk; clear hbk) | (go_at_call 34; (with_reducible refine (htx _ (by with_reducible exact HBk.out)).mono ?_); rintro e wk ⟨v6, rfl, hO, hbk⟩; have HT1 := hidden (StrRow.of_own hO); have HBk : Hid (Below w3.heap.size w3 wk) := bt HBk.out hbk; have HBB := hidden hbk; clear hO hbk) | (go_at_call 35; (with_reducible refine (hrt _ (by with_reducible exact HBk.out)).mono ?_); rintro e wk ⟨g7, c7, rfl, hh⟩; have HT2 := hidden (StrRow.of_own hh.out.1); have HBB := hidden hh.out.2; have HBk : Hid (Below w3.heap.size w3 wk) := bt HBk.out HBB.out; clear hh) | (go_at_call 33; (with_reducible refine (hss _ _ _ (by first | (with_reducible exact HT1.out) | (with_reducible exact HT1.out.later HBB.out)) (by first | (with_reducible exact HT2.out) | (with_reducible exact HT2.out.later HBB.out))).mono ?_); rintro e wk ⟨rfl, qn, rfl⟩; have HBk := hidden (below_drewN HBk.out qn)))
      all_goals
        have HF := hidden (bt HB3.out HBk.out)
        clear heq hre hee hst hrs htx hrt hxa hss
        go_wp2_with fail
        go_ret
        exact ⟨rfl, HF.out⟩

end Go.Proofs.YtlbaaiglebpjiaaGreatDoor
