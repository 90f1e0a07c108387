import Derived.Test.YtlbaaiglebpjiaaGreatDoorYk
import Derived.Test.YtlbaaiglebpjiaaGreatDoorYi
/-
  Replace.
-/


namespace Go.Proofs.YtlbaaiglebpjiaaGreatDoor
open Go.RowKit Go.Shelf Go.Lib

theorem Reach.inF {W : World} {G O : Nat} {t : Tree} {F : Nat → Prop} {p : List Nat} {G' O' : Nat} {y : Tree} (h : Reach W G O t F p G' O' y) (hp : p ≠ []) : F G' := by
  have key : ∀ {G O : Nat} {t : Tree} {F : Nat → Prop} {p : List Nat} {G' O' : Nat} {y : Tree}, Reach W G O t F p G' O' y → G' = G ∨ F G' := by
    intro G O t F p G' O' y h
    induction h with
    | here G O t F h => exact .inl rfl
    | step G O t F i x p G' O' y g c ks Fs h0 hz0 hG hg hcap ha hz hk hF hd hx hr ih =>
      right
      rcases ih with h | h
      · rw [h]; exact hg
      · exact (hF i _ (List.getElem?_eq_some_iff.1 hx).1 h).1
  cases h with
  | here G O t F h => exact absurd rfl hp
  | step _ _ _ _ i x p _ _ _ g c ks Fs h0 hz0 hG hg hcap ha hz hk hF hd hx hr =>
    rcases key hr with h | h
    · rw [h]; exact hg
    · exact (hF i _ (List.getElem?_eq_some_iff.1 hx).1 h).1

theorem Loc.keep {W W' : World} {G O : Nat} {t : Tree} {F : Nat → Prop} (h : Loc W G O t F) (hb : Below W.heap.size W W') (hF : ∀ k, F k → k < W.heap.size) : Loc W' G O t F := by
  obtain ⟨p, c, h1, h2, h3, h4⟩ := h
  exact ⟨p, c, h1.of_block (hb.block _ h1.lt), fun j hj => (World.frozen?_of_block (a := ⟨G, O + j, none⟩) (hb.block _ h1.lt)).trans (h2 j hj), h3.keep (fun k hk => hb.block k (hF k hk)), h4⟩

theorem Reach.keep {W W' : World} {G O : Nat} {t : Tree} {F : Nat → Prop} {p : List Nat} {G' O' : Nat} {y : Tree} (h : Reach W G O t F p G' O' y) (hb : Below W.heap.size W W') (hF : ∀ k, F k → k < W.heap.size) : Reach W' G O t F p G' O' y := by
  induction h with
  | here G O t F h => exact Reach.here G O t F (h.keep hb hF)
  | step G O t F i x p G' O' y g c ks Fs h0 hz0 hG hg hcap ha hz hk hF2 hd hx hr ih =>
    have hgl := hF g hg
    exact Reach.step G O t F i x p G' O' y g c ks Fs (h0.of_block (hb.block _ h0.lt)) (fun j hj => (World.frozen?_of_block (a := ⟨G, O + j, none⟩) (hb.block _ h0.lt)).trans (hz0 j hj)) hG hg hcap
      (fun j t' ht => (ha j t' ht).of_block (hb.block _ hgl)) (fun j t' ht o ho => (World.frozen?_of_block (a := ⟨g, j * 5 + o, none⟩) (hb.block _ hgl)).trans (hz j t' ht o ho))
      (fun j t' ht => (hk j t' ht).keep (fun k hk' => hb.block k (hF k (hF2 j k (List.getElem?_eq_some_iff.1 ht).1 hk').1))) hF2 hd hx (ih (fun k hk' => hF k (hF2 i k (List.getElem?_eq_some_iff.1 hx).1 hk').1))

/-- The three variables of Replace. -/
abbrev repWorld (w : World) (n b : Tree) (kn kb : Value) : World :=
  ((w.alloc (.cells #[.int .i64 n.kind, .string n.text, .int .i64 n.at_, .int .i64 n.end_, kn] 24)).alloc (.cells #[.int .i64 b.kind, .string b.text, .int .i64 b.at_, .int .i64 b.end_, kb] 24)).alloc (.cells #[.int .i64 0, .string ⟨#[]⟩, .int .i64 0, .int .i64 0, .slice none 0 0] 24)

theorem rep_boxes {w W : World} {n b : Tree} {kn kb : Value} (h : Below (repWorld w n b kn kb).heap.size (repWorld w n b kn kb) W) :
    NodeOwn W w.heap.size n kn ∧ NodeOwn W (w.heap.size + 1) b kb ∧ NodeOwn W (w.heap.size + 1 + 1) zeroT (.slice none 0 0) ∧ w.heap.size + 1 + 1 < W.heap.size ∧ Below w.heap.size w W := by
  have hz : (repWorld w n b kn kb).heap.size = w.heap.size + 3 := by simp [repWorld]
  have hB : Below w.heap.size w (repWorld w n b kn kb) := (((Below.refl _ _).alloc (Nat.le_refl _) _).alloc (by simp) _).alloc (by simp; omega) _
  have hs := h.size
  have h1 : NodeOwn (repWorld w n b kn kb) w.heap.size n kn := ⟨⟨by simp [repWorld, go_sem], by simp [repWorld, go_sem], by simp [repWorld, go_sem], by simp [repWorld, go_sem], by simp [repWorld, go_sem]⟩, fun j _ => by simp [repWorld, go_sem]⟩
  have h2 : NodeOwn (repWorld w n b kn kb) (w.heap.size + 1) b kb := ⟨⟨by simp [repWorld, go_sem], by simp [repWorld, go_sem], by simp [repWorld, go_sem], by simp [repWorld, go_sem], by simp [repWorld, go_sem]⟩, fun j _ => by simp [repWorld, go_sem]⟩
  have h3 : NodeOwn (repWorld w n b kn kb) (w.heap.size + 1 + 1) zeroT (.slice none 0 0) := ⟨⟨by simp [repWorld, go_sem, zeroT, Tree.kind], by simp [repWorld, go_sem, zeroT, Tree.text], by simp [repWorld, go_sem, zeroT, Tree.at_], by simp [repWorld, go_sem, zeroT, Tree.end_], by simp [repWorld, go_sem]⟩, fun j _ => by simp [repWorld, go_sem]⟩
  exact ⟨h1.of_block (h.block _ (by omega)), h2.of_block (h.block _ (by omega)), h3.of_block (h.block _ (by omega)), by omega, hB.trans (h.mono (by omega))⟩

set_option maxRecDepth 100000 in
set_option maxHeartbeats 12800000 in
theorem replace_none (n b : Tree) (kn kb : Value) (l : List Int) (pv : Value) (w : World) (hk : KidsV w kn n.kids) (hp : IntsV w pv l) (hkb : KidsV w kb b.kids) (hlb : l.length ≤ 4611686018427387904) (hg0 : n.get l = none) :
    Calls Tryz.prog 36 #[nodeV n kn, pv, nodeV b kb] w fun e w' => e = .returned (.tuple #[nodeV zeroT (.slice none 0 0), .int .i64 7]) ∧ Below w.heap.size w w' := by
  have hg := fun W (hb : Below w.heap.size w W) => get_any n kn l pv W (hk.later hb) (hp.later hb) hlb _ hg0
  obtain ⟨np, ncap, ng, no_, rfl, _, _⟩ := hk.open
  obtain ⟨bp, bcap, bg, bo, rfl, _, _⟩ := hkb.open
  obtain ⟨pp, pcap, pg, po, rfl, _, _⟩ := hp
  simp only [nodeV, Option.isSome_none] at hg ⊢
  clear hk hkb hg0
  go_enter Tryz.func36, Tryz.ntmps36
  go_wp2_with (go_at_call 17; (with_reducible refine (hg _ (by repeat (first | exact Below.refl _ _ | refine Below.setCell ?_ (by first | exact Nat.le_refl _ | (simp; done) | (simp; omega)) _ | refine Below.alloc ?_ (by first | exact Nat.le_refl _ | (simp; done) | (simp; omega)) _))).mono ?_); rintro e W3 ⟨x, q, c, rfl, h1, h2, h3, h4⟩; obtain ⟨_, _, hR, hlt, hB⟩ := rep_boxes h4; have r0 := hR.1.c0; have r1 := hR.1.c1; have r2 := hR.1.c2; have r3 := hR.1.c3; have r4 := hR.1.c4; have y0 := hR.2 0 (by omega); have y1 := hR.2 1 (by omega); have y2 := hR.2 2 (by omega); have y3 := hR.2 3 (by omega); have y4 := hR.2 4 (by omega); simp only [Nat.zero_add] at r1 r2 r3 r4; have HB := hidden hB; clear h1 h2 h3 h4 hB)
  refine bodyPost_ret (v := .tuple #[.agg #[.int .i64 0, .string ⟨#[]⟩, .int .i64 0, .int .i64 0, .slice none 0 0], .int .i64 7]) (by simp [results, Tryz.results36, go_sem, r0, r1, r2, r3, r4, hlt]) rfl ⟨rfl, ?_⟩
  have := HB.out.size
  repeat (first | exact HB.out | refine Below.setCell ?_ (by first | (simp; done) | (simp; omega)) _ | refine Below.alloc ?_ (by first | omega | (simp [World.setCell]; omega)) _)

end Go.Proofs.YtlbaaiglebpjiaaGreatDoor
/-
  Replace, where the path leads to a node.
-/

namespace Go.Proofs.YtlbaaiglebpjiaaGreatDoor
open Go.RowKit Go.Shelf Go.Lib

theorem map_toNat_take {l : List Int} {k m : Nat} (h : l[k]? = some ((m : Nat) : Int)) : (l.take (k + 1)).map Int.toNat = (l.take k).map Int.toNat ++ [m] := by
  rw [List.take_add_one, h, List.map_append]
  rfl

set_option maxRecDepth 100000 in
set_option maxHeartbeats 25600000 in
theorem replace_some (n b : Tree) (kn kb : Value) (l : List Int) (pv : Value) (w : World) (hk : KidsV w kn n.kids) (hp : IntsV w pv l) (hkb : KidsV w kb b.kids) (hlb : l.length ≤ 4611686018427387904) (hcn : n.count ≤ 4194304) (hcb : b.count ≤ 4194304)
    (y : Tree) (hg0 : n.get l = some y) :
    Calls Tryz.prog 36 #[nodeV n kn, pv, nodeV b kb] w fun e w' => Below w.heap.size w w' ∧ ∃ p m c, e = .returned (.tuple #[nodeV (n.replace (l.map Int.toNat) b) (.slice p m c), .int .i64 0]) ∧
      KidsO w' (.slice p m c) (n.replace (l.map Int.toNat) b).kids (fun k => w.heap.size ≤ k ∧ k < w'.heap.size) := by
  have hg := fun W (hb : Below w.heap.size w W) => get_any n kn l pv W (hk.later hb) (hp.later hb) hlb _ hg0
  have hdn := fun W (hb : Below w.heap.size w W) => duplicate_any n kn W (hk.later hb) hcn
  have hdb := fun W (hb : Below w.heap.size w W) => duplicate_any b kb W (hkb.later hb) hcb
  obtain ⟨np, ncap, ng, no_, rfl, _, _⟩ := hk.open
  obtain ⟨bp, bcap, bg, bo, rfl, _, _⟩ := hkb.open
  obtain ⟨pp, pcap, pg, po, rfl, hip, hic⟩ := hp
  have HIP := hidden hip
  have HIC := hidden hic
  have HG0 := hidden hg0
  simp only [nodeV, Option.isSome_some] at hg hdn hdb ⊢
  clear hk hkb hg0 hip hic
  go_enter Tryz.func36, Tryz.ntmps36
  go_wp2_with fail
  (with_reducible refine (hg _ (by repeat (first | exact Below.refl _ _ | refine Below.setCell ?_ (by first | exact Nat.le_refl _ | (simp; done) | (simp; omega)) _ | refine Below.alloc ?_ (by first | exact Nat.le_refl _ | (simp; done) | (simp; omega)) _))).mono ?_)
  rintro e W3 ⟨x, q, c, rfl, h1, h2, h3, h4⟩
  have hb34 : ∀ o, Below W3.heap.size W3 (W3.alloc o) := fun o => (Below.refl _ _).alloc (Nat.le_refl _) _
  have hR2 : Below (repWorld w n b (.slice np n.kids.length ncap) (.slice bp b.kids.length bcap)).heap.size (repWorld w n b (.slice np n.kids.length ncap) (.slice bp b.kids.length bcap)) W3 := h4
  have hBx : ∀ o, NodeOwn (W3.alloc o) w.heap.size n (.slice np n.kids.length ncap) ∧ Below w.heap.size w (W3.alloc o) := fun o => by
    obtain ⟨a1, _, _, _, a5⟩ := rep_boxes (bt hR2 (hb34 o))
    exact ⟨a1, a5⟩
  obtain ⟨hbn, _⟩ := rep_boxes hR2
  obtain ⟨c0, c1, c2, c3, c4⟩ := hbn.1
  simp only [Nat.zero_add] at c1 c2 c3 c4
  have hlt3 : w.heap.size < W3.heap.size := World.block_lt_of_cell? W3 _ c0
  have hne3 : w.heap.size ≠ W3.heap.size := Nat.ne_of_lt hlt3
  have HR2 := hidden hR2
  clear h1 h2 h3 h4 hg hbn hR2
  go_wp2_with fail
  (with_reducible refine (hdn _ (hBx _).2).mono ?_)
  rintro e W5 ⟨p5, n5, c5, rfl, hO5, hB5⟩
  have hW5 : Below W3.heap.size W3 W5 := bt (hb34 _) hB5
  have HR5 := hidden (bt HR2.out hW5)
  clear c0 c1 c2 c3 c4 hBx hdn
  go_wp2_with fail
  obtain rfl : n5 = n.kids.length := by
    obtain ⟨_, _, hv⟩ := hO5.form
    injection hv
  obtain ⟨B3, hB3⟩ : ∃ B3, (W3.alloc (.cells #[.int .i64 x.kind, .string x.text, .int .i64 x.at_, .int .i64 x.end_, .slice q x.kids.length c] 24)).heap.size = B3 := ⟨_, rfl⟩
  rw [hB3] at hO5
  have hlt3' : w.heap.size + 1 + 1 < B3 := by
    have := (rep_boxes HR2.out).2.2.2.1
    rw [← hB3, World.size_alloc]; omega
  obtain ⟨W6, hW6⟩ : ∃ W6, W6 = W5.alloc (.cells #[.int .i64 n.kind, .string n.text, .int .i64 n.at_, .int .i64 n.end_, .slice p5 n.kids.length c5] 24) := ⟨_, rfl⟩
  have hb56 : Below W5.heap.size W5 W6 := by rw [hW6]; exact (Below.refl _ _).alloc (Nat.le_refl _) _
  have hs6 : W6.heap.size = W5.heap.size + 1 := by rw [hW6, World.size_alloc]
  have hB35 : B3 ≤ W5.heap.size := by rw [← hB3]; exact hB5.size
  have HL : Hid (Loc W6 W5.heap.size 0 n (fun k => B3 ≤ k ∧ k < W5.heap.size)) := by
    refine ⟨p5, c5, ⟨by rw [hW6]; simp [go_sem], by rw [hW6]; simp [go_sem], by rw [hW6]; simp [go_sem], by rw [hW6]; simp [go_sem], by rw [hW6]; simp [go_sem]⟩, fun j _ => by rw [hW6]; simp [go_sem], hO5.keep (fun k hk => hb56.block k hk.2), fun h => Nat.lt_irrefl _ h.2⟩
  have HR6 := hidden (bt HR5.out hb56)
  rw [← hW6]
  clear hW6 hO5 hB5 hW5 HR2 HR5 hB3 hlt3 hne3 hb34
  go_loopw [11, 27] (fun pl i wr => ∃ k : Nat, k ≤ l.length ∧ i = .int .i64 k ∧ ∃ G O z, pl = .pointer (some ⟨G, O, none⟩) ∧ Hid (wr = W6 ∧ Reach W6 W5.heap.size 0 n (fun k => B3 ≤ k ∧ k < W5.heap.size) ((l.take k).map Int.toNat) G O z ∧ z.get (l.drop k) = some y)) (fun _ i _ => l.length - (intOf i).toNat)
  case atStart => exact ⟨0, Nat.zero_le _, rfl, W5.heap.size, 0, n, rfl, rfl, by rw [List.take_zero]; exact Reach.here _ _ _ _ HL.out, by rw [List.drop_zero]; exact HG0.out⟩
  case round =>
    obtain ⟨k, hk, rfl, G, O, z, rfl, hh⟩ := hrel
    obtain ⟨hwr, hre, hgz⟩ := hh.out
    subst hwr
    clear hh
    by_cases hlt : k < l.length
    · obtain ⟨v, hv⟩ : ∃ v, l[k]? = some v := ⟨_, List.getElem?_eq_getElem hlt⟩
      obtain ⟨rfl, hpg⟩ := HIP.out (fun h => by rw [h] at hlt; exact absurd hlt (Nat.not_lt_zero _))
      have ci : wr.cell? ⟨pg, po + k, none⟩ = some (.int .i64 v) := ((rep_boxes HR6.out).2.2.2.2.cell (p := ⟨pg, po + k, none⟩) hpg).trans (HIC.out k v hv)
      rw [drop_step hv] at hgz
      obtain ⟨m, x', rfl, hx', hgx'⟩ := Tree.get_split hgz
      obtain ⟨g, cc, hnd, hre2⟩ := hre.snoc hx'
      have c4 := hnd.c4
      have hml : m < z.kids.length := (List.getElem?_eq_some_iff.1 hx').1
      have hltz : (k : Int) < (l.length : Int) := by omega
      have hmz : (m : Int) < (z.kids.length : Int) := by omega
      have HS : Hid (Reach wr W5.heap.size 0 n (fun k => B3 ≤ k ∧ k < W5.heap.size) ((l.take (k + 1)).map Int.toNat) g (m * 5) x' ∧ x'.get (l.drop (k + 1)) = some y) := by
        refine ⟨?_, hgx'⟩
        rw [map_toNat_take hv]; exact hre2
      clear hv hgz hgx' hnd hre hre2 hx'
      go_wp2_with fail
      go_roundw
      case rel => exact ⟨k + 1, by omega, by go_num, g, m * 5, x', rfl, (by first | rfl | trivial), HS.out.1, HS.out.2⟩
      case measure => simp [intOf]; omega
    · obtain rfl : k = l.length := by omega
      rw [List.take_length] at hre
      rw [List.drop_length, Tree.get] at hgz
      obtain rfl := Option.some.inj hgz
      have hb6 := rep_boxes HR6.out
      obtain ⟨c0, c1, c2, c3, c4⟩ := hb6.2.1.1
      simp only [Nat.zero_add] at c1 c2 c3 c4
      have hB6w := hb6.2.2.2.2
      have HRE := hidden hre
      clear hre hgz hb6
      go_wp2_with fail
      (with_reducible refine (hdb _ hB6w).mono ?_)
      rintro e W7 ⟨p7, n7, c7, rfl, hO7, hB7⟩
      obtain rfl : n7 = b.kids.length := by
        obtain ⟨_, _, hv⟩ := hO7.form
        injection hv
      have hre7 := HRE.out.keep hB7 (fun k hk => by rw [hs6]; omega)
      obtain ⟨l1, l2, l3⟩ := hre7.put b p7 c7 _ hO7 (fun k hk hk2 => by have := hk.1; rw [hs6] at this; omega) (fun h => by have := h.1; rw [hs6] at this; omega)
      obtain ⟨F', hloc⟩ := hre7.loc
      obtain ⟨lp, lc, d, dz, _, _⟩ := hloc
      have hb7 := rep_boxes (bt HR6.out hB7)
      obtain ⟨r0, r1, r2, r3, r4⟩ := hb7.2.2.1.1
      have rz := hb7.2.2.1.2
      obtain ⟨tp, tc, ht, tz, _, _⟩ := HL.out.keep hB7 (fun k hk => by rw [hs6]; omega)
      obtain ⟨t0, t1, t2, t3, t4⟩ := ht
      have y0 := rz 0 (by omega)
      have y1 := rz 1 (by omega)
      have y2 := rz 2 (by omega)
      have y3 := rz 3 (by omega)
      have y4 := rz 4 (by omega)
      simp only [Nat.zero_add] at r1 r2 r3 r4 t1 t2 t3 t4
      have hs7 := hB7.size
      have hTR : W5.heap.size ≠ w.heap.size + 1 + 1 := by omega
      have hRT : w.heap.size + 1 + 1 ≠ W5.heap.size := by omega
      have HB7 := hidden (bt hB6w hB7)
      have HO7 := hidden hO7
      have HL1 := hidden l1
      by_cases hl0 : l = []
      · subst hl0
        have hre0 : Reach wr W5.heap.size 0 n (fun k => B3 ≤ k ∧ k < W5.heap.size) [] G O z := HRE.out
        cases hre0
        have z0 := tz 0 (by omega)
        have z1 := tz 1 (by omega)
        have z2 := tz 2 (by omega)
        have z3 := tz 3 (by omega)
        have z4 := tz 4 (by omega)
        clear hre7 l1 l2 l3 dz rz tz hb7 hB7 hO7 d hdb HRE hB6w
        go_wp2_with fail
        refine bodyPost_ret (v := .tuple #[.agg #[.int .i64 b.kind, .string b.text, .int .i64 b.at_, .int .i64 b.end_, .slice p7 b.kids.length c7], .int .i64 0]) (by simp [results, Tryz.results36, go_sem, r0, r1, r2, r3, r4]) rfl ⟨?_, p7, b.kids.length, c7, ?_, ?_⟩
        · have hb := HB7.out
          have hbs := hb.size
          repeat (first | (with_reducible exact hb) | refine Below.setCell ?_ (by first | (simp; done) | (simp; omega) | (show _ ≤ _; omega)) _)
        · rw [List.map_nil, Tree.replace]
        · rw [List.map_nil, Tree.replace]
          refine (HO7.out.keep (fun k hk => ?_)).mono (fun k hk => ⟨by omega, by simpa [World.setCell] using hk.2⟩)
          have hk1 := hk.1
          have hkR : k ≠ w.heap.size + 1 + 1 := by omega
          have hkT : k ≠ W5.heap.size := by omega
          rw [Below.heap_setCell _ _ _ _ hkR, Below.heap_setCell _ _ _ _ hkR, Below.heap_setCell _ _ _ _ hkR, Below.heap_setCell _ _ _ _ hkR, Below.heap_setCell _ _ _ _ hkR, Below.heap_setCell _ _ _ _ hkT, Below.heap_setCell _ _ _ _ hkT, Below.heap_setCell _ _ _ _ hkT, Below.heap_setCell _ _ _ _ hkT, Below.heap_setCell _ _ _ _ hkT]
      · have hGF := HRE.out.inF (by simpa using hl0)
        have hGT : G ≠ W5.heap.size := by omega
        have hTG : W5.heap.size ≠ G := by omega
        have hGR : G ≠ w.heap.size + 1 + 1 := by omega
        have hRG : w.heap.size + 1 + 1 ≠ G := by omega
        obtain ⟨d0, d1, d2, d3, d4⟩ := d
        have z0 := dz 0 (by omega)
        have z1 := dz 1 (by omega)
        have z2 := dz 2 (by omega)
        have z3 := dz 3 (by omega)
        have z4 := dz 4 (by omega)
        simp only [Nat.add_zero] at z0
        clear hre7 l1 l2 l3 dz rz tz hb7 hB7 hO7 hdb HRE hB6w
        go_wp2_with fail
        obtain ⟨ap, ac, hnd, _, hKO, _⟩ := HL1.out
        obtain ⟨rep, hrep⟩ : ∃ rep, n.replace (l.map Int.toNat) b = rep := ⟨_, rfl⟩
        rw [hrep] at hnd hKO ⊢
        have hTb : ∀ j, (putAt W7 G O b.kind b.text b.at_ b.end_ (.slice p7 b.kids.length c7)).cell? ⟨W5.heap.size, j, none⟩ = W7.cell? ⟨W5.heap.size, j, none⟩ := fun j => World.cell?_of_block (a := ⟨_, j, none⟩) (putAt_other _ _ _ _ _ _ _ _ _ hTG)
        obtain ⟨q0, q1, q2, q3, q4⟩ := hnd
        simp only [Nat.zero_add] at q1 q2 q3 q4
        rw [hTb] at q0 q1 q2 q3 q4
        rw [t0] at q0
        rw [t1] at q1
        rw [t2] at q2
        rw [t3] at q3
        rw [t4] at q4
        have e4 := Option.some.inj q4
        have e0 : n.kind = rep.kind := by simpa using q0
        have e1 : n.text = rep.text := by simpa using q1
        have e2 : n.at_ = rep.at_ := by simpa using q2
        have e3 : n.end_ = rep.end_ := by simpa using q3
        refine bodyPost_ret (v := .tuple #[.agg #[.int .i64 n.kind, .string n.text, .int .i64 n.at_, .int .i64 n.end_, .slice tp n.kids.length tc], .int .i64 0]) (by simp [results, Tryz.results36, go_sem, r0, r1, r2, r3, r4]) rfl ⟨?_, tp, n.kids.length, tc, ?_, ?_⟩
        · have hb := HB7.out
          have hbs := hb.size
          repeat (first | (with_reducible exact hb) | refine Below.setCell ?_ (by first | (simp; done) | (simp; omega) | (show _ ≤ _; omega)) _)
        · rw [e0, e1, e2, e3]
        · rw [e4]
          refine (hKO.keep (fun k hk => ?_)).mono (fun k hk => ⟨?_, ?_⟩)
          · have hk1 : B3 ≤ k := by
              rcases hk with h | h
              · exact h.1
              · have := h.1; omega
            have hkR : k ≠ w.heap.size + 1 + 1 := by omega
            rw [Below.heap_setCell _ _ _ _ hkR, Below.heap_setCell _ _ _ _ hkR, Below.heap_setCell _ _ _ _ hkR, Below.heap_setCell _ _ _ _ hkR, Below.heap_setCell _ _ _ _ hkR]
          · rcases hk with h | h
            · have := h.1; omega
            · have := h.1; omega
          · have hz : ∀ (w : World) (a : Addr) (v : Value), (w.setCell a v).heap.size = w.heap.size := fun w a v => by simp [World.setCell]
            simp only [hz]
            rcases hk with h | h
            · have := h.2; omega
            · exact h.2

end Go.Proofs.YtlbaaiglebpjiaaGreatDoor
