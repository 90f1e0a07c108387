/-
  The reference: Replace.
-/
import Derived.Test.YtlbaaiglebpjiaaGreatDoorUg
import Derived.Test.YtlbaaiglebpjiaaGreatDoorJg
import Derived.Deep.RegionHeld3
import Derived.Deep.DrawnRows
import Derived.Deep.DeepCutAuto
import Derived.BigQuiet
import Derived.Deep.QuietTactic
namespace Go.Proofs.YtlbaaiglebpjiaaGreatDoor
open Go.RowKit Go.Shelf Go.Lib
attribute [local go_sem ↓] Go.wp_at_zero Go.wp_at_succ

/-- What Replace of the reference answers. -/
def ReplRet (F : Nat → Prop) (w : World) (t b : Tree) (l : List Int) (e : Ending) (w' : World) : Prop :=
  Below w.heap.size w w' ∧ ((∃ y p n c, t.get l = some y ∧ e = .returned (.tuple #[nodeV (t.replace (l.map Int.toNat) b) (.slice p n c), .int .i64 0]) ∧ KidsS w' (fun k => F k ∨ w.heap.size ≤ k) (.slice p n c) (t.replace (l.map Int.toNat) b).kids) ∨
    (t.get l = none ∧ e = .returned (.tuple #[nodeV zeroT (.slice none 0 0), .int .i64 7])))

def CapOk (v : Value) : Prop := ∀ p n c, v = .slice p n c → n ≤ c

/-- The three variables of the call. -/
def repW (w : World) (t b : Tree) (kt kb : Value) : World :=
  ((w.alloc (.cells #[.int .i64 t.kind, .string t.text, .int .i64 t.at_, .int .i64 t.end_, kt] 24)).alloc (.cells #[.int .i64 b.kind, .string b.text, .int .i64 b.at_, .int .i64 b.end_, kb] 24)).alloc (.cells #[.int .i64 0, .string ⟨#[]⟩, .int .i64 0, .int .i64 0, .slice none 0 0] 24)

theorem repW_parts (w : World) (t b : Tree) (kt kb : Value) : NodeOwn (repW w t b kt kb) w.heap.size t kt ∧ NodeOwn (repW w t b kt kb) (w.heap.size + 1) b kb ∧ NodeOwn (repW w t b kt kb) (w.heap.size + 1 + 1) zeroT (.slice none 0 0) ∧ (repW w t b kt kb).heap.size = w.heap.size + 3 ∧ Below w.heap.size w (repW w t b kt kb) := by
  refine ⟨⟨⟨?_, ?_, ?_, ?_, ?_⟩, fun j _ => ?_⟩, ⟨⟨?_, ?_, ?_, ?_, ?_⟩, fun j _ => ?_⟩, ⟨⟨?_, ?_, ?_, ?_, ?_⟩, fun j _ => ?_⟩, ?_, ((below_alloc w _).alloc (by simp) _).alloc (by simp; omega) _⟩ <;> simp [repW, go_sem, zeroT, Tree.kind, Tree.text, Tree.at_, Tree.end_]

theorem NodeOwn.cells0 {w : World} {b : Nat} {t : Tree} {kv : Value} (h : NodeOwn w b t kv) : (w.cell? ⟨b, 0, none⟩ = some (.int .i64 t.kind) ∧ w.cell? ⟨b, 1, none⟩ = some (.string t.text) ∧ w.cell? ⟨b, 2, none⟩ = some (.int .i64 t.at_) ∧ w.cell? ⟨b, 3, none⟩ = some (.int .i64 t.end_) ∧ w.cell? ⟨b, 4, none⟩ = some kv) ∧
    w.frozen? ⟨b, 0, none⟩ = false ∧ w.frozen? ⟨b, 1, none⟩ = false ∧ w.frozen? ⟨b, 2, none⟩ = false ∧ w.frozen? ⟨b, 3, none⟩ = false ∧ w.frozen? ⟨b, 4, none⟩ = false :=
  ⟨h.1.cells0, h.2 0 (by omega), h.2 1 (by omega), h.2 2 (by omega), h.2 3 (by omega), h.2 4 (by omega)⟩

/-- What 'kid, e := Replace(..)' leaves. -/
def RepFin (F : Nat → Prop) (w5 : World) (T : Nat) (y : Tree) (p : Option Addr) (n c : Nat) (wx : World) : Prop :=
  Below w5.heap.size w5 wx ∧ w5.heap.size ≤ T ∧ NodeOwn wx T y (.slice p n c) ∧ KidsS wx (fun k => F k ∨ (w5.heap.size ≤ k ∧ k ≠ T ∧ k < wx.heap.size)) (.slice p n c) y.kids

theorem KidsS.lt {w : World} {F : Nat → Prop} {v : Value} {ts : List Tree} (h : KidsS w F v ts) : KidsS w (fun b => F b ∧ b < w.heap.size) v ts := by
  induction h with
  | mk p cap ts g o ks hcap hp ha hk ih =>
    refine KidsS.mk p cap ts g o ks hcap (fun h => ⟨(hp h).1, (hp h).2, ?_⟩) ha ih
    cases ts with
    | nil => exact absurd rfl h
    | cons t ts => exact (ha 0 t rfl).lt

theorem NodeOwn.lat {w w' : World} {b : Nat} {x : Tree} {kv : Value} (h : NodeOwn w b x kv) (hb : Below w.heap.size w w') : NodeOwn w' b x kv := h.of_block (hb.block _ h.1.lt)
theorem own_nil (w : World) (e : TypeId) : (w.alloc (.cells #[] e)).ownsRow w.heap.size e 5 (.slice (some ⟨w.heap.size, 0, none⟩) 0 0) 0 [] :=
  ⟨rfl, Or.inr ⟨w.heap.size, 0, #[], rfl, Nat.le_refl _, World.alloc_heap_new w (.cells #[] e), Nat.le_refl _, Nat.zero_le _, rfl, rfl⟩⟩

theorem ownNew' (w : World) (b : Nat) (hb : w.heap.size = b) : NodeOwn (w.alloc (.cells #[.int .i64 0, .string ⟨#[]⟩, .int .i64 0, .int .i64 0, .slice none 0 0] 24)) b zeroT (.slice none 0 0) := by
  subst hb
  refine ⟨⟨?_, ?_, ?_, ?_, ?_⟩, fun j _ => ?_⟩ <;> simp [go_sem, zeroT, Tree.kind, Tree.text, Tree.at_, Tree.end_]
theorem NodeOwn.drew' {w : World} {b : Nat} {x : Tree} {kv : Value} (h : NodeOwn w b x kv) : NodeOwn w.drew b x kv := h.of_block rfl

theorem repFin_after {F : Nat → Prop} {w5 w6 : World} {y : Tree} {p : Option Addr} {n c B : Nat} (hb : Below w5.heap.size w5 w6) (hB : w5.heap.size ≤ B) (hO : KidsS w6 (fun k => F k ∨ B ≤ k) (.slice p n c) y.kids) :
    RepFin F w5 w6.heap.size y p n c (w6.alloc (.cells #[.int .i64 y.kind, .string y.text, .int .i64 y.at_, .int .i64 y.end_, .slice p n c] 24)) := by
  refine ⟨hb.alloc hb.size _, hb.size, ⟨⟨?_, ?_, ?_, ?_, ?_⟩, fun j _ => ?_⟩, (hO.lt.later (fun b h => h.2) (below_alloc _ _)).mono (fun k h => ?_)⟩
  rotate_left 6
  · rcases h.1 with h1 | h1
    · exact .inl h1
    · exact .inr ⟨by omega, by have := h.2; omega, by have := h.2; simp; omega⟩
  all_goals simp [go_sem]

theorem repFin_before {F : Nat → Prop} {w5 W w6 : World} {y : Tree} {p : Option Addr} {n c blk : Nat} (hb : Below w5.heap.size w5 w6) (hb6 : Below W.heap.size W w6) (h5 : w5.heap.size ≤ blk) (hlt : blk < W.heap.size) (hz : NodeOwn W blk zeroT (.slice none 0 0))
    (hF : ∀ k, F k → k < w5.heap.size) (hO : KidsS w6 (fun k => F k ∨ W.heap.size ≤ k) (.slice p n c) y.kids) :
    RepFin F w5 blk y p n c (putNode w6 blk y.kind y.text y.at_ y.end_ (.slice p n c)) := by
  refine ⟨put_below hb _ _ _ _ _ _ h5, h5, (hz.of_block (hb6.block _ hlt)).put, (hO.lt.keep (fun k hk => put_other _ _ _ _ _ _ _ _ ?_)).mono (fun k h => ?_)⟩
  · rcases hk.1 with h1 | h1
    · have := hF k h1; omega
    · omega
  · rcases h.1 with h1 | h1
    · exact .inl h1
    · exact .inr ⟨by omega, by omega, by rw [put_size]; exact h.2⟩

theorem repKeep {w w' w0 : World} {V pg po g o V2 : Nat} {v0 v1 v2 v3 v4 v5 v6 v7 v8 v9 v10 v11 : Value}
    (h : w.cell? ⟨V, 4, none⟩ = some v0 ∧ w.cell? ⟨pg, po, none⟩ = some v1 ∧ w.cell? ⟨g, o, none⟩ = some v2 ∧ w.cell? ⟨g, o + 1, none⟩ = some v3 ∧ w.cell? ⟨g, o + 2, none⟩ = some v4 ∧ w.cell? ⟨g, o + 3, none⟩ = some v5 ∧ w.cell? ⟨g, o + 4, none⟩ = some v6 ∧
      w.cell? ⟨V2, 0, none⟩ = some v7 ∧ w.cell? ⟨V2, 1, none⟩ = some v8 ∧ w.cell? ⟨V2, 2, none⟩ = some v9 ∧ w.cell? ⟨V2, 3, none⟩ = some v10 ∧ w.cell? ⟨V2, 4, none⟩ = some v11 ∧ Hid (Below w0.heap.size w0 w)) (hb : Below w.heap.size w w') :
    w'.cell? ⟨V, 4, none⟩ = some v0 ∧ w'.cell? ⟨pg, po, none⟩ = some v1 ∧ w'.cell? ⟨g, o, none⟩ = some v2 ∧ w'.cell? ⟨g, o + 1, none⟩ = some v3 ∧ w'.cell? ⟨g, o + 2, none⟩ = some v4 ∧ w'.cell? ⟨g, o + 3, none⟩ = some v5 ∧ w'.cell? ⟨g, o + 4, none⟩ = some v6 ∧
      w'.cell? ⟨V2, 0, none⟩ = some v7 ∧ w'.cell? ⟨V2, 1, none⟩ = some v8 ∧ w'.cell? ⟨V2, 2, none⟩ = some v9 ∧ w'.cell? ⟨V2, 3, none⟩ = some v10 ∧ w'.cell? ⟨V2, 4, none⟩ = some v11 ∧ Hid (Below w0.heap.size w0 w') := by
  obtain ⟨h0, h1, h2, h3, h4, h5, h6, h7, h8, h9, h10, h11, h12⟩ := h
  exact ⟨cell_later h0 hb, cell_later h1 hb, cell_later h2 hb, cell_later h3 hb, cell_later h4 hb, cell_later h5 hb, cell_later h6 hb, cell_later h7 hb, cell_later h8 hb, cell_later h9 hb, cell_later h10 hb, cell_later h11 hb, bt h12.out hb⟩

/-- The end of Replace: one node of the new row is written over, then the result. -/
theorem repl_end {F : Nat → Prop} {w w6 wc : World} {sA g7 c7 m n6 c6 : Nat} {B : Nat} {e : TypeId} {p6 : Option Addr} {L : List (Tree × Value)} {t y : Tree} {kt : Value} {T8 : Nat} (hF : ∀ k, F k → k < w.heap.size) (hB6 : Below w.heap.size w w6) (hWC : Below w.heap.size w wc) (hsA : w.heap.size + 3 ≤ sA) (hsC : sA ≤ wc.heap.size)
    (hrow : w6.ownsRow B e 5 (.slice (some ⟨g7, 0, none⟩) L.length c7) L.length (forestC L)) (hm : m < L.length) (hg7 : wc.heap.size ≤ g7)
    (hkeep : ∀ k, k < wc.heap.size → k ≠ w.heap.size → w6.heap[k]? = wc.heap[k]?) (hL : ∀ (i : Nat) x, L[i]? = some x → KidsS w F x.2 x.1.kids)
    (hy : KidsS wc (fun k => F k ∨ (sA ≤ k ∧ k ≠ T8 ∧ k < wc.heap.size)) (.slice p6 n6 c6) y.kids) :
    Below w.heap.size w ((putNode (putAt w6 g7 (m * 5) y.kind y.text y.at_ y.end_ (.slice p6 n6 c6)) (w.heap.size + 1 + 1) t.kind t.text t.at_ t.end_ kt).drew) ∧
    KidsS ((putNode (putAt w6 g7 (m * 5) y.kind y.text y.at_ y.end_ (.slice p6 n6 c6)) (w.heap.size + 1 + 1) t.kind t.text t.at_ t.end_ kt).drew) (fun k => F k ∨ w.heap.size ≤ k) (.slice (some ⟨g7, 0, none⟩) L.length c7) ((L.map (·.1)).set m y) := by
  obtain ⟨wa, hwa⟩ : ∃ wa, wa = putAt w6 g7 (m * 5) y.kind y.text y.at_ y.end_ (.slice p6 n6 c6) := ⟨_, rfl⟩
  have hBa : Below w.heap.size w wa := by
    have hge : w.heap.size ≤ g7 := by omega
    rw [hwa]
    exact ((((hB6.setCell (p := ⟨g7, m * 5, none⟩) hge _).setCell (p := ⟨g7, m * 5 + 1, none⟩) hge _).setCell (p := ⟨g7, m * 5 + 2, none⟩) hge _).setCell (p := ⟨g7, m * 5 + 3, none⟩) hge _).setCell (p := ⟨g7, m * 5 + 4, none⟩) hge _
  have hwb : ∀ k, k ≠ g7 → wa.heap[k]? = w6.heap[k]? := fun k hk => by rw [hwa]; exact putAt_other _ _ _ _ _ _ _ _ _ hk
  obtain ⟨wb, hwb2⟩ : ∃ wb, wb = putNode wa (w.heap.size + 1 + 1) t.kind t.text t.at_ t.end_ kt := ⟨_, rfl⟩
  have hBb : Below w.heap.size w wb := by rw [hwb2]; exact put_below hBa _ _ _ _ _ _ (by omega)
  have hwc : ∀ k, k ≠ w.heap.size + 1 + 1 → wb.heap[k]? = wa.heap[k]? := fun k hk => by rw [hwb2]; exact put_other _ _ _ _ _ _ _ _ hk
  have hBf : Below w.heap.size w wb.drew := hBb.drew
  have hdr : ∀ k : Nat, wb.drew.heap[k]? = wb.heap[k]? := fun k => rfl
  rw [← hwa, ← hwb2]
  refine ⟨hBf, row_put (B := B) (e := e) (ky := .slice p6 n6 c6) hrow hm (fun k hk => ?_) (.inr (by omega)) (fun i x hx _ => ?_) ?_⟩
  · subst hk
    rw [hdr, hwc _ (by omega), hwa]
  · exact ((hL i x hx).keep (fun k hk => hBf.block k (hF k hk))).mono (fun k hk => .inl hk)
  · refine (hy.keep (fun k hk => ?_)).mono (fun k hk => ?_)
    · rcases hk with hk | ⟨hk1, _, hk2⟩
      · exact (hBf.block k (hF k hk)).trans (hWC.block k (hF k hk)).symm
      · rw [hdr, hwc _ (by omega), hwb _ (by omega)]
        exact hkeep k hk2 (by omega)
    · rcases hk with hk | ⟨hk1, _, hk2⟩
      · exact .inl hk
      · exact .inr (by omega)

set_option maxRecDepth 100000 in
set_option maxHeartbeats 12800000 in
theorem refReplace_any (F : Nat → Prop) (b : Tree) (kb : Value) : ∀ (l : List Int) (t : Tree) (kv pv : Value) (w : World), (∀ k, F k → k < w.heap.size) → KidsS w F kv t.kids → KidsS w F kb b.kids → IntsV w pv l → CapOk pv → t.count ≤ 4194304 → l.length ≤ 4194304 →
    Calls Tryz.prog 37 #[nodeV t kv, pv, nodeV b kb] w (ReplRet F w t b l) := by
  intro l
  induction l with
  | nil =>
    intro t kv pv w hF hk hkb hp _ hct _
    obtain ⟨p, cap, g, o, rfl, _, _⟩ := hk.open
    have HKB := hidden hkb
    have HF := hidden hF
    obtain ⟨bp, bcap, bg, bo, rfl, _, _⟩ := hkb.open
    clear hF
    obtain ⟨pp, pcap, pg, po, rfl, _, _⟩ := hp
    simp only [nodeV, List.length_nil]
    clear hk hkb
    obtain ⟨P1, P2, P3, P4, P5⟩ := repW_parts w t b (.slice p t.kids.length cap) (.slice bp b.kids.length bcap)
    go_enter Tryz.func37, Tryz.ntmps37
    go_wp2_with fail
    refine bodyPost_ret (v := .tuple #[.agg #[.int .i64 b.kind, .string b.text, .int .i64 b.at_, .int .i64 b.end_, .slice bp b.kids.length bcap], .int .i64 0]) (by simp [results, Tryz.results37, go_sem]) rfl ⟨?_, .inl ⟨t, bp, b.kids.length, bcap, rfl, ?_, ?_⟩⟩
    · repeat (first | (with_reducible exact Below.refl _ _) | refine Below.setCell ?_ (by first | (simp; done) | (simp; omega)) _ | refine Below.alloc ?_ (by first | exact Nat.le_refl _ | (simp; done) | (simp; omega)) _)
    · rw [List.map_nil, Tree.replace]; rfl
    · rw [List.map_nil, Tree.replace]
      refine (HKB.out.later HF.out ?_).mono (fun k h => .inl h)
      repeat (first | (with_reducible exact Below.refl _ _) | refine Below.setCell ?_ (by first | (simp; done) | (simp; omega)) _ | refine Below.alloc ?_ (by first | exact Nat.le_refl _ | (simp; done) | (simp; omega)) _)
  | cons z l ih =>
    intro t kv pv w hF hk hkb hp hcp hct hll
    have hcc := hcp
    obtain ⟨p, cap, g, o, rfl, hcapk, hpp, L, hLt, hat⟩ := hk.open
    obtain ⟨bp, bcap, bg, bo, rfl, _, _, _⟩ := hkb.open
    have HF := hidden hF
    have HLT := hidden hLt
    clear hF hLt
    obtain ⟨pp, pcap, pg, po, rfl, hip, hic⟩ := hp
    obtain ⟨rfl, hpg⟩ := hip (by simp)
    have hcap := hcc _ _ _ rfl
    have HK := hidden hk
    have HKB := hidden hkb
    have HPP := hidden hpp
    have HAT := hidden hat
    have HIC := hidden hic
    have HC := hidden (Tree.count_eq t)
    have HCT := hidden hct
    rw [List.length_cons] at hcap hll
    have hlen : (z :: l).length = l.length + 1 := rfl
    have hz := hic 0 z rfl
    rw [Nat.add_zero] at hz
    simp only [nodeV, hlen]
    clear hk hkb hpp hat hic hip hcp hcc hlen hct
    obtain ⟨P1, P2, P3, P4, P5⟩ := repW_parts w t b (.slice p t.kids.length cap) (.slice bp b.kids.length bcap)
    obtain ⟨A, hA⟩ : ∃ A, A = repW w t b (.slice p t.kids.length cap) (.slice bp b.kids.length bcap) := ⟨_, rfl⟩
    rw [← hA] at P1 P2 P3 P4 P5
    have hzA := (P5.cell (p := ⟨pg, po, none⟩) hpg).trans hz
    obtain ⟨⟨a0, a1, a2, a3, a4⟩, fa0, fa1, fa2, fa3, fa4⟩ := P1.cells0
    obtain ⟨⟨r0, r1, r2, r3, r4⟩, fr0, fr1, fr2, fr3, fr4⟩ := P3.cells0
    have HA := hidden hA
    have HP1 := hidden P1
    have HP2 := hidden P2
    have HP3 := hidden P3
    have HP4 := hidden P4
    have HP5 := hidden P5
    unfold repW at hA
    have HA2 := hidden hA
    clear P1 P2 P3 P4 P5 hA hz
    have hl0 : (((l.length : Int) + 1) == 0) = false := by simp; omega
    by_cases hneg : z < 0
    · have HG := hidden (Tree.get_neg (t := t) hneg l)
      have HZ : Hid (∀ w', Below w.heap.size w w' → ReplRet F w t b (z :: l) (.returned (.tuple #[nodeV zeroT (.slice none 0 0), .int .i64 7])) w') := fun w' hb => ⟨hb, .inr ⟨HG.out, rfl⟩⟩
      have d0 : decide (z < 0) = true := decide_eq_true hneg
      go_enter Tryz.func37, Tryz.ntmps37
      go_wp2_with fail
      rw [← HA2.out]
      go_quiet (fail)
      go_wp2_with fail
      refine bodyPost_ret (v := .tuple #[.agg #[.int .i64 0, .string ⟨#[]⟩, .int .i64 0, .int .i64 0, .slice none 0 0], .int .i64 7]) (by simp [results, Tryz.results37, go_sem, r0, r1, r2, r3, r4]) rfl (HZ.out _ ?_)
      exact put_below (below_drewN HP5.out _) _ _ _ _ _ _ (by omega)
    · obtain ⟨m, rfl⟩ : ∃ m : Nat, z = m := ⟨z.toNat, by omega⟩
      have d0 : decide ((m : Int) < 0) = false := decide_eq_false hneg
      by_cases hbig : t.kids.length ≤ m
      · have HG := hidden (Tree.get_big hbig l)
        have HZ : Hid (∀ w', Below w.heap.size w w' → ReplRet F w t b ((m : Int) :: l) (.returned (.tuple #[nodeV zeroT (.slice none 0 0), .int .i64 7])) w') := fun w' hb => ⟨hb, .inr ⟨HG.out, rfl⟩⟩
        have d1 : decide (t.kids.length ≤ m) = true := decide_eq_true hbig
        go_enter Tryz.func37, Tryz.ntmps37
        go_wp2_with fail
        rw [← HA2.out]
        go_quiet (fail)
        go_wp2_with fail
        refine bodyPost_ret (v := .tuple #[.agg #[.int .i64 0, .string ⟨#[]⟩, .int .i64 0, .int .i64 0, .slice none 0 0], .int .i64 7]) (by simp [results, Tryz.results37, go_sem, r0, r1, r2, r3, r4]) rfl (HZ.out _ ?_)
        exact put_below (below_drewN HP5.out _) _ _ _ _ _ _ (by omega)
      · have d1 : decide (t.kids.length ≤ m) = false := decide_eq_false hbig
        obtain ⟨x, hx⟩ : ∃ x, t.kids[m]? = some x := ⟨_, List.getElem?_eq_getElem (by omega)⟩
        obtain ⟨rfl, hgF⟩ := HPP.out (fun h => by rw [h] at hx; simp at hx)
        have hg := HF.out g hgF
        obtain ⟨xl, hxl⟩ : ∃ xl, L[m]? = some xl := ⟨_, List.getElem?_eq_getElem (by rw [← List.length_map (·.1), HLT.out]; omega)⟩
        obtain ⟨hn, hkv⟩ := HAT.out m xl hxl
        have hxx : xl.1 = x := by
          have h := HLT.out
          have h2 : (L.map (·.1))[m]? = some xl.1 := by rw [List.getElem?_map, hxl]; rfl
          rw [h, hx] at h2
          exact (Option.some.inj h2).symm
        rw [hxx] at hn hkv
        generalize xl.2 = kv' at hn hkv
        obtain ⟨p2, cap2, _, _, rfl, _, _, _⟩ := hkv.open
        have HKX := hidden hkv
        obtain ⟨c0, c1, c2, c3, c4⟩ := hn.of_block (HP5.out.block g hg)
        have hmz : (m : Int) < (t.kids.length : Int) := by omega
        have hm0 : (0 : Int) ≤ (m : Int) := by omega
        have hcx : x.count ≤ 4194304 := by have := Tree.count_kid hx; have := HC.out; have := HCT.out; omega
        obtain ⟨q0, q1, q2, q3, q4⟩ := HP2.out.1.cells0
        have HX := hidden hx
        have HGET := hidden (Tree.get_cons hx l)
        have hcz : ((l.length : Int) + 1) ≤ (pcap : Int) := by omega
        have h1z : (1 : Int) ≤ (l.length : Int) + 1 := by omega
        have h1n : 1 ≤ l.length + 1 := by omega
        have h1c : (1 : Int) ≤ (pcap : Int) := by omega
        clear hx hxl hxx hn hkv
        by_cases hp1 : pcap = 1
        · obtain rfl : l = [] := List.length_eq_zero_iff.1 (by omega)
          subst hp1
          simp only [List.length_nil, Nat.zero_add]
          go_enter Tryz.func37, Tryz.ntmps37
          go_wp2_with fail
          rw [← HA2.out]
          go_quiet (fail)
          go_wp2_with fail
          obtain ⟨A1, hA1⟩ : ∃ A1, A1 = A.drewN nq := ⟨_, rfl⟩
          have hb1 : Below A.heap.size A A1 := by rw [hA1]; exact below_drewN (Below.refl _ _) _
          have HA1 := hidden hb1
          rw [← hA1]
          replace c0 := cell_later c0 hb1
          replace c1 := cell_later c1 hb1
          replace c2 := cell_later c2 hb1
          replace c3 := cell_later c3 hb1
          replace c4 := cell_later c4 hb1
          replace q0 := cell_later q0 hb1
          replace q1 := cell_later q1 hb1
          replace q2 := cell_later q2 hb1
          replace q3 := cell_later q3 hb1
          replace q4 := cell_later q4 hb1
          replace a4 := cell_later a4 hb1
          replace hzA := cell_later hzA hb1
          have HS := hidden (show _ ∧ _ ∧ _ ∧ _ ∧ _ ∧ _ ∧ _ ∧ _ ∧ _ ∧ _ ∧ _ ∧ _ ∧ Hid (Below A1.heap.size A1 A1) from ⟨a4, hzA, c0, c1, c2, c3, c4, q0, q1, q2, q3, q4, Below.refl _ _⟩)
          clear hA1 hb1
          have hrec : ∃ (y : Tree) (ec : Int), ((ec = 7 ∧ x.get [] = none) ∨ (ec = 0 ∧ y = x.replace (([] : List Int).map Int.toNat) b ∧ ∃ y0, x.get [] = some y0)) ∧ ∀ W, Below A1.heap.size A1 W → Calls Tryz.prog 37 #[.agg #[.int .i64 x.kind, .string x.text, .int .i64 x.at_, .int .i64 x.end_, .slice p2 x.kids.length cap2], .slice (some ⟨pg, po, none⟩) 0 0, .agg #[.int .i64 b.kind, .string b.text, .int .i64 b.at_, .int .i64 b.end_, .slice bp b.kids.length bcap]] W fun e w' =>
              ∃ p n c, e = .returned (.tuple #[.agg #[.int .i64 y.kind, .string y.text, .int .i64 y.at_, .int .i64 y.end_, .slice p n c], .int .i64 ec]) ∧ KidsS w' (fun k => F k ∨ W.heap.size ≤ k) (.slice p n c) y.kids ∧ Below W.heap.size W w' := by
            have hcall := fun W (hb : Below A1.heap.size A1 W) => ih x (.slice p2 x.kids.length cap2) (.slice (some ⟨pg, po, none⟩) 0 0) W (fun k hk => Nat.lt_of_lt_of_le (HF.out k hk) (Nat.le_trans (bt HP5.out HA1.out).size hb.size)) (HKX.out.later HF.out (bt (bt HP5.out HA1.out) hb)) (HKB.out.later HF.out (bt (bt HP5.out HA1.out) hb)) ⟨some ⟨pg, po, none⟩, 0, pg, po, rfl, fun h => absurd rfl h, fun i z h => by simp at h⟩ (fun p n c e => by cases e; omega) hcx (by omega)
            cases hr : x.get [] with
            | none =>
              refine ⟨zeroT, 7, .inl ⟨rfl, rfl⟩, fun W hb => (hcall W hb).mono ?_⟩
              rintro e w' ⟨h1, (⟨y0, _, _, _, h2, _⟩ | ⟨_, rfl⟩)⟩
              · rw [hr] at h2; cases h2
              · exact ⟨none, 0, 0, rfl, KidsS.mk none 0 [] 0 0 (fun _ => .nilFunc) (Nat.le_refl _) (fun h => absurd rfl h) (fun i t h => by simp at h) (fun i t h => by simp at h), h1⟩
            | some y0 =>
              refine ⟨_, 0, .inr ⟨rfl, rfl, y0, rfl⟩, fun W hb => (hcall W hb).mono ?_⟩
              rintro e w' ⟨h1, (⟨_, p, n, c, _, rfl, h3⟩ | ⟨h2, _⟩)⟩
              · exact ⟨p, n, c, rfl, h3, h1⟩
              · rw [hr] at h2; cases h2
          obtain ⟨y, ec, hcase, hrec⟩ := hrec
          have HCASE := hidden hcase
          have HFA : Hid (∀ k, F k → k < A1.heap.size) := fun k hk => Nat.lt_of_lt_of_le (HF.out k hk) (bt HP5.out HA1.out).size
          clear hcase ih
          go_cut [8, 9] (fun s8 s9 wx => ∃ T8 p6 n6 c6, s8 = .pointer (some ⟨T8, 0, none⟩) ∧ s9 = .int .i64 ec ∧ Hid (RepFin F A1 T8 y p6 n6 c6 wx))
          case first =>
            go_region_held3 (fun w' => w'.cell? ⟨w.heap.size, 4, none⟩ = some (.slice (some ⟨g, o, none⟩) t.kids.length cap) ∧ w'.cell? ⟨pg, po, none⟩ = some (.int .i64 m) ∧ w'.cell? ⟨g, o + m * 5, none⟩ = some (.int .i64 x.kind) ∧ w'.cell? ⟨g, o + m * 5 + 1, none⟩ = some (.string x.text) ∧ w'.cell? ⟨g, o + m * 5 + 2, none⟩ = some (.int .i64 x.at_) ∧ w'.cell? ⟨g, o + m * 5 + 3, none⟩ = some (.int .i64 x.end_) ∧ w'.cell? ⟨g, o + m * 5 + 4, none⟩ = some (.slice p2 x.kids.length cap2) ∧ w'.cell? ⟨w.heap.size + 1, 0, none⟩ = some (.int .i64 b.kind) ∧ w'.cell? ⟨w.heap.size + 1, 1, none⟩ = some (.string b.text) ∧ w'.cell? ⟨w.heap.size + 1, 2, none⟩ = some (.int .i64 b.at_) ∧ w'.cell? ⟨w.heap.size + 1, 3, none⟩ = some (.int .i64 b.end_) ∧ w'.cell? ⟨w.heap.size + 1, 4, none⟩ = some (.slice bp b.kids.length bcap) ∧ Hid (Below A1.heap.size A1 w'))
              (first | (with_reducible assumption) | (exact repKeep HS.out (by repeat (first | (with_reducible exact Below.refl _ _) | (with_reducible exact HB6.out) | refine Below.drew ?_ | refine Below.setCell ?_ (by first | (with_reducible assumption) | (simp; done) | (simp; omega)) _ | refine Below.alloc ?_ (by first | exact Nat.le_refl _ | (with_reducible assumption) | (simp; done) | (simp; omega)) _))))
              (first | (go_at_call 37; (with_reducible refine (hrec _ (by repeat (first | (with_reducible exact Below.refl _ _) | refine Below.drew ?_ | refine Below.alloc ?_ (by first | exact Nat.le_refl _ | (simp; done)) _))).mono ?_); rintro e w6 ⟨p6, n6, c6, rfl, hO6, hb6⟩; have zc := fun (blk j : Nat) (h : blk < _) => hb6.cell (p := ⟨blk, j, none⟩) h; have zf := fun (blk j : Nat) (h : blk < _) => hb6.frozen (p := ⟨blk, j, none⟩) h; have HB6 : Hid (Below A1.heap.size A1 w6) := (by refine bt ?_ hb6; repeat (first | (with_reducible exact Below.refl _ _) | refine Below.drew ?_ | refine Below.alloc ?_ (by first | exact Nat.le_refl _ | (simp; done)) _)); have hs6 := HB6.out.size; have HO6 := hidden hO6; have HBB6 := hidden hb6; clear hO6 hb6))
            all_goals
              go_wp2_with fail
              go_meet
              refine ⟨_, p6, n6, c6, rfl, rfl, ?_⟩
              first
                | (with_reducible exact hidden (repFin_after HB6.out (by simp) HO6.out))
                | (with_reducible exact hidden (repFin_before HB6.out HBB6.out (Nat.le_refl _) (by simp) (NodeOwn.drew' (ownNew' _ _ rfl)) HFA.out HO6.out))
                | (with_reducible exact hidden (repFin_before HB6.out HBB6.out (Nat.le_refl _) (by simp) (ownNew' _ _ rfl) HFA.out HO6.out))
          case rest =>
            obtain ⟨T8, p6, n6, c6, rfl, rfl, hfin⟩ := hcut
            obtain ⟨hbc, hT8, hN8, hK8⟩ := hfin.out
            have HBC := hidden (bt HA1.out hbc)
            have HWC := hidden (bt HP5.out HBC.out)
            have HN8 := hidden hN8
            have HK8 := hidden hK8
            have HT8 := hidden hT8
            have hsA : w.heap.size + 3 ≤ A1.heap.size := by have := HA1.out.size; have := HP4.out; omega
            have hsC : A1.heap.size ≤ wc.heap.size := hbc.size
            have hO1 := HP1.out.lat HBC.out
            have hO3 := HP3.out.lat HBC.out
            obtain ⟨⟨a0, a1, a2, a3, a4⟩, fa0, fa1, fa2, fa3, fa4⟩ := hO1.cells0
            obtain ⟨⟨r0, r1, r2, r3, r4⟩, fr0, fr1, fr2, fr3, fr4⟩ := hO3.cells0
            have hz6 := cell_later hzA hbc
            have HSC := hidden (And.intro hsA hsC)
            clear hfin hbc hT8 hN8 hK8 hrec c0 c1 c2 c3 c4 q0 q1 q2 q3 q4 hzA hO1 hO3 hsA hsC HS
            rcases HCASE.out with ⟨rfl, hnone⟩ | ⟨rfl, hy, y0, hsome⟩
            · have HZ : Hid (∀ w', Below w.heap.size w w' → ReplRet F w t b ((m : Int) :: []) (.returned (.tuple #[nodeV zeroT (.slice none 0 0), .int .i64 7])) w') := fun w' hb => ⟨hb, .inr ⟨by rw [HGET.out]; exact hnone, rfl⟩⟩
              clear hnone
              go_wp2_with fail
              refine bodyPost_ret (v := .tuple #[.agg #[.int .i64 0, .string ⟨#[]⟩, .int .i64 0, .int .i64 0, .slice none 0 0], .int .i64 7]) (by simp [results, Tryz.results37, go_sem, r0, r1, r2, r3, r4]) rfl (HZ.out _ ?_)
              exact put_below HWC.out _ _ _ _ _ _ (by omega)
            · have HFIN : Hid (∀ w' kk, Below w.heap.size w w' → KidsS w' (fun k => F k ∨ w.heap.size ≤ k) (.slice (some ⟨kk, 0, none⟩) t.kids.length kk) (t.kids.set m y) → True) := fun _ _ _ _ => trivial
              have HREP : Hid (t.get ((m : Int) :: []) = some y0 ∧ t.replace (((m : Int) :: []).map Int.toNat) b = .mk t.kind t.text t.at_ t.end_ (t.kids.set m y)) := by
                refine ⟨by rw [HGET.out]; exact hsome, ?_⟩
                rw [List.map_cons, show ((m : Int)).toNat = m by omega, Tree.replace, HX.out, hy]
              have hLl : L.length = t.kids.length := by rw [← HLT.out, List.length_map]
              have hnews : ∀ (j : Nat) u, (forestC L)[j]? = some u → (wc.alloc (.cells #[] 24)).cell? ((⟨g, o, none⟩ : Addr).add j) = some u := fun j u hu => by
                rw [Go.WideShapes.add_plain]
                exact ((bt HWC.out (below_alloc wc _)).cell (p := ⟨g, o + j, none⟩) hg).trans (forestC_cells (fun i x hx => (HAT.out i x hx).1) j u hu)
              have hone : ∀ u ∈ forestC L, u.oneCell' = true := forestC_one (fun x hx => by
                obtain ⟨i, hi⟩ := List.getElem?_of_mem hx
                obtain ⟨_, _, _, _, e, _⟩ := (HAT.out i x hi).2.open
                rw [e]; rfl)
              have hfl : (forestC L).length = t.kids.length * 5 := by rw [forestC_len, hLl]
              have hkl : t.kids.length ≤ 4194304 := by have := Tree.length_le_countL t.kids; have := HC.out; have := HCT.out; omega
              have hwlt : w.heap.size < wc.heap.size := by have := HSC.out; omega
              have HNEWS := hidden hnews
              have HONE := hidden hone
              have HFL := hidden hfl
              have HLL := hidden hLl
              have HA4 := hidden a4
              obtain ⟨i0, hi, hz0, hz1, hz2⟩ := info_parts infoNode
              clear hy hsome hnews hone hfl hLl HFIN
              go_wp2_with (at_builtin; go_loud (refine wpList_append_own_at _ rfl (.tmp 46) (.tmp 48) 22 rfl wc.heap.size 24 i0 (.agg #[.int .i64 0, .string ⟨#[]⟩, .int .i64 0, .int .i64 0, .slice none 0 0]) 5 64 Tryz.underlying22 hi hz0 hz1 hz2 rfl (by decide) _ _ _ rfl (own_nil wc 24) ⟨g, o, none⟩ t.kids.length cap (forestC L) rfl HFL.out HNEWS.out HONE.out (by unfold maxLen; omega) (by omega) (by simp) ?_); intro v5 w5 hown5 hgrow5 hnn5 hat5; obtain ⟨g7, c7, rfl, hg7⟩ := rowForm hown5 (fun e => by have := (hnn5.1 e).1; cases this); have hbk5 := (hgrow5.block w.heap.size (by simp; omega) (fun e => by have h : w.heap.size = wc.heap.size := Option.some.inj e; omega)).trans ((below_alloc wc (.cells #[] 24)).block w.heap.size hwlt); have e4 := (World.cell?_of_block (a := ⟨w.heap.size, 4, none⟩) hbk5).trans a4; have ef4 := (World.frozen?_of_block (a := ⟨w.heap.size, 4, none⟩) hbk5).trans fa4; have H5 := hidden (And.intro hown5 hgrow5); clear hown5 hgrow5 hnn5 hat5 hbk5)
              obtain ⟨w6, hw6⟩ : ∃ w6, w6 = w5.setCell ⟨w.heap.size, 4, none⟩ (.slice (some ⟨g7, 0, none⟩) t.kids.length c7) := ⟨_, rfl⟩
              have hg7' := H5.out.1.lt g7 rfl
              have hkeep : ∀ k, k < wc.heap.size → k ≠ w.heap.size → w6.heap[k]? = wc.heap[k]? := fun k hk hne => by
                rw [hw6, Below.heap_setCell _ _ _ _ hne]
                exact (H5.out.2.block k (by simp; omega) (fun e => by have h : k = wc.heap.size := Option.some.inj e; omega)).trans ((below_alloc wc (.cells #[] 24)).block k hk)
              have hsz6 : w6.heap.size = w5.heap.size := by rw [hw6]; simp [World.setCell]
              have hrow : w6.ownsRow wc.heap.size 24 5 (.slice (some ⟨g7, 0, none⟩) L.length c7) L.length (forestC L) := by
                have h := H5.out.1
                rw [Nat.zero_add, List.nil_append, ← HLL.out] at h
                refine own_keep h (fun k hk => ?_)
                have hkk : g7 = k := Option.some.inj hk
                rw [hw6]
                exact Below.heap_setCell _ _ _ _ (by show k ≠ w.heap.size; omega)
              have hbox6 : w6.cell? ⟨w.heap.size, 0, none⟩ = some (.int .i64 t.kind) ∧ w6.cell? ⟨w.heap.size, 1, none⟩ = some (.string t.text) ∧ w6.cell? ⟨w.heap.size, 2, none⟩ = some (.int .i64 t.at_) ∧ w6.cell? ⟨w.heap.size, 3, none⟩ = some (.int .i64 t.end_) ∧ w6.cell? ⟨w.heap.size, 4, none⟩ = some (.slice (some ⟨g7, 0, none⟩) t.kids.length c7) := by
                have hbb := (H5.out.2.block w.heap.size (by simp; omega) (fun e => by have h : w.heap.size = wc.heap.size := Option.some.inj e; omega)).trans ((below_alloc wc (.cells #[] 24)).block w.heap.size hwlt)
                have ee : ∀ j, w5.cell? ⟨w.heap.size, j, none⟩ = wc.cell? ⟨w.heap.size, j, none⟩ := fun j => World.cell?_of_block (a := ⟨w.heap.size, j, none⟩) hbb
                rw [hw6]
                refine ⟨by simp [go_sem, ee, a0], by simp [go_sem, ee, a1], by simp [go_sem, ee, a2], by simp [go_sem, ee, a3], by simp [go_sem, ee, a4]⟩
              have hB6 : Below w.heap.size w w6 := by
                rw [hw6]
                exact ((HWC.out.alloc HWC.out.size _).grown H5.out.2 (by simp; omega) (fun k hk => by have h : wc.heap.size = k := Option.some.inj hk; omega)).setCell (Nat.le_refl _) _
              have hpz : w6.cell? ⟨pg, po, none⟩ = some (.int .i64 m) := (World.cell?_of_block (a := ⟨pg, po, none⟩) (hkeep pg (by omega) (by omega))).trans hz6
              have hT8b : T8 < wc.heap.size := HN8.out.1.lt
              have hn8 : NodeOwn w6 T8 y (.slice p6 n6 c6) := HN8.out.of_block (hkeep T8 hT8b (by have := HT8.out; have := HSC.out; omega))
              have ho3 : NodeOwn w6 (w.heap.size + 1 + 1) zeroT (.slice none 0 0) := (HP3.out.lat HBC.out).of_block (hkeep _ (by have := HSC.out; omega) (by omega))
              obtain ⟨⟨xm, hxm⟩⟩ : Nonempty (∃ x, L[m]? = some x) := ⟨⟨_, List.getElem?_eq_getElem (by have := HLL.out; omega)⟩⟩
              obtain ⟨⟨z0, z1, z2, z3, z4⟩, zf⟩ := ownsRow_nodeAt hrow hxm
              have f0 := zf 0 (by omega)
              have f1 := zf 1 (by omega)
              have f2 := zf 2 (by omega)
              have f3 := zf 3 (by omega)
              have f4 := zf 4 (by omega)
              rw [Nat.add_zero] at f0
              have HROW := hidden hrow
              have HK6 := hidden hkeep
              have HB6 := hidden hB6
              rw [← hw6]
              clear a0 a1 a2 a3 a4 fa0 fa1 fa2 fa3 fa4 r0 r1 r2 r3 r4 fr0 fr1 fr2 fr3 fr4 hz6 e4 ef4 hw6 hkeep hrow hB6 zf hxm
              obtain ⟨b0, b1, b2, b3, b4⟩ := hbox6
              obtain ⟨⟨t0, t1, t2, t3, t4⟩, _⟩ := hn8.cells0
              obtain ⟨⟨r0, r1, r2, r3, r4⟩, fr0, fr1, fr2, fr3, fr4⟩ := ho3.cells0
              have HG7 := hidden hg7'
              have hm7 : g7 ≠ w.heap.size := by omega
              have hm8 : w.heap.size ≠ g7 := by omega
              have hm9 : g7 ≠ w.heap.size + 1 + 1 := by have := HSC.out; omega
              have hm10 : w.heap.size + 1 + 1 ≠ g7 := by have := HSC.out; omega
              clear hn8 ho3
              have HEND := hidden (repl_end (t := t) (kt := .slice (some ⟨g7, 0, none⟩) t.kids.length c7) HF.out HB6.out HWC.out HSC.out.1 HSC.out.2 HROW.out (m := m) (by have := HLL.out; omega) HG7.out.1 HK6.out (fun i x hx => (HAT.out i x hx).2) HK8.out)
              go_region
              all_goals
                go_wp2_with fail
                refine bodyPost_ret (v := .tuple #[.agg #[.int .i64 t.kind, .string t.text, .int .i64 t.at_, .int .i64 t.end_, .slice (some ⟨g7, 0, none⟩) t.kids.length c7], .int .i64 0]) (by simp [results, Tryz.results37, go_sem, r0, r1, r2, r3, r4]) rfl ?_
                refine ⟨HEND.out.1, .inl ⟨y0, some ⟨g7, 0, none⟩, t.kids.length, c7, HREP.out.1, ?_, ?_⟩⟩
                · rw [HREP.out.2]; rfl
                · rw [HREP.out.2]
                  have h := HEND.out.2
                  rw [HLT.out, HLL.out] at h; exact h
        · go_enter Tryz.func37, Tryz.ntmps37
          go_wp2_with fail
          rw [← HA2.out]
          go_quiet (fail)
          go_wp2_with fail
          obtain ⟨A1, hA1⟩ : ∃ A1, A1 = A.drewN nq := ⟨_, rfl⟩
          have hb1 : Below A.heap.size A A1 := by rw [hA1]; exact below_drewN (Below.refl _ _) _
          have HA1 := hidden hb1
          rw [← hA1]
          replace c0 := cell_later c0 hb1
          replace c1 := cell_later c1 hb1
          replace c2 := cell_later c2 hb1
          replace c3 := cell_later c3 hb1
          replace c4 := cell_later c4 hb1
          replace q0 := cell_later q0 hb1
          replace q1 := cell_later q1 hb1
          replace q2 := cell_later q2 hb1
          replace q3 := cell_later q3 hb1
          replace q4 := cell_later q4 hb1
          replace a4 := cell_later a4 hb1
          replace hzA := cell_later hzA hb1
          have HS := hidden (show _ ∧ _ ∧ _ ∧ _ ∧ _ ∧ _ ∧ _ ∧ _ ∧ _ ∧ _ ∧ _ ∧ _ ∧ Hid (Below A1.heap.size A1 A1) from ⟨a4, hzA, c0, c1, c2, c3, c4, q0, q1, q2, q3, q4, Below.refl _ _⟩)
          clear hA1 hb1
          have hrec : ∃ (y : Tree) (ec : Int), ((ec = 7 ∧ x.get l = none) ∨ (ec = 0 ∧ y = x.replace (l.map Int.toNat) b ∧ ∃ y0, x.get l = some y0)) ∧ ∀ W, Below A1.heap.size A1 W → Calls Tryz.prog 37 #[.agg #[.int .i64 x.kind, .string x.text, .int .i64 x.at_, .int .i64 x.end_, .slice p2 x.kids.length cap2], .slice (some ⟨pg, po + 1, none⟩) l.length (pcap - 1), .agg #[.int .i64 b.kind, .string b.text, .int .i64 b.at_, .int .i64 b.end_, .slice bp b.kids.length bcap]] W fun e w' =>
              ∃ p n c, e = .returned (.tuple #[.agg #[.int .i64 y.kind, .string y.text, .int .i64 y.at_, .int .i64 y.end_, .slice p n c], .int .i64 ec]) ∧ KidsS w' (fun k => F k ∨ W.heap.size ≤ k) (.slice p n c) y.kids ∧ Below W.heap.size W w' := by
            have hcall := fun W (hb : Below A1.heap.size A1 W) => ih x (.slice p2 x.kids.length cap2) (.slice (some ⟨pg, po + 1, none⟩) l.length (pcap - 1)) W (fun k hk => Nat.lt_of_lt_of_le (HF.out k hk) (Nat.le_trans (bt HP5.out HA1.out).size hb.size)) (HKX.out.later HF.out (bt (bt HP5.out HA1.out) hb)) (HKB.out.later HF.out (bt (bt HP5.out HA1.out) hb)) ⟨_, _, pg, po + 1, rfl, fun _ => ⟨rfl, Nat.lt_of_lt_of_le hpg (Nat.le_trans (bt HP5.out HA1.out).size hb.size)⟩, fun i z hz => by have h := HIC.out (i + 1) z (by simpa using hz); rw [← Nat.add_assoc, Nat.add_right_comm] at h; exact ((bt (bt HP5.out HA1.out) hb).cell (p := ⟨pg, po + 1 + i, none⟩) hpg).trans h⟩ (fun p n c e => by cases e; omega) hcx (by omega)
            cases hr : x.get l with
            | none =>
              refine ⟨zeroT, 7, .inl ⟨rfl, rfl⟩, fun W hb => (hcall W hb).mono ?_⟩
              rintro e w' ⟨h1, (⟨y0, _, _, _, h2, _⟩ | ⟨_, rfl⟩)⟩
              · rw [hr] at h2; cases h2
              · exact ⟨none, 0, 0, rfl, KidsS.mk none 0 [] 0 0 (fun _ => .nilFunc) (Nat.le_refl _) (fun h => absurd rfl h) (fun i t h => by simp at h) (fun i t h => by simp at h), h1⟩
            | some y0 =>
              refine ⟨_, 0, .inr ⟨rfl, rfl, y0, rfl⟩, fun W hb => (hcall W hb).mono ?_⟩
              rintro e w' ⟨h1, (⟨_, p, n, c, _, rfl, h3⟩ | ⟨h2, _⟩)⟩
              · exact ⟨p, n, c, rfl, h3, h1⟩
              · rw [hr] at h2; cases h2
          obtain ⟨y, ec, hcase, hrec⟩ := hrec
          have HCASE := hidden hcase
          have HFA : Hid (∀ k, F k → k < A1.heap.size) := fun k hk => Nat.lt_of_lt_of_le (HF.out k hk) (bt HP5.out HA1.out).size
          clear hcase ih
          go_cut [8, 9] (fun s8 s9 wx => ∃ T8 p6 n6 c6, s8 = .pointer (some ⟨T8, 0, none⟩) ∧ s9 = .int .i64 ec ∧ Hid (RepFin F A1 T8 y p6 n6 c6 wx))
          case first =>
            go_region_held3 (fun w' => w'.cell? ⟨w.heap.size, 4, none⟩ = some (.slice (some ⟨g, o, none⟩) t.kids.length cap) ∧ w'.cell? ⟨pg, po, none⟩ = some (.int .i64 m) ∧ w'.cell? ⟨g, o + m * 5, none⟩ = some (.int .i64 x.kind) ∧ w'.cell? ⟨g, o + m * 5 + 1, none⟩ = some (.string x.text) ∧ w'.cell? ⟨g, o + m * 5 + 2, none⟩ = some (.int .i64 x.at_) ∧ w'.cell? ⟨g, o + m * 5 + 3, none⟩ = some (.int .i64 x.end_) ∧ w'.cell? ⟨g, o + m * 5 + 4, none⟩ = some (.slice p2 x.kids.length cap2) ∧ w'.cell? ⟨w.heap.size + 1, 0, none⟩ = some (.int .i64 b.kind) ∧ w'.cell? ⟨w.heap.size + 1, 1, none⟩ = some (.string b.text) ∧ w'.cell? ⟨w.heap.size + 1, 2, none⟩ = some (.int .i64 b.at_) ∧ w'.cell? ⟨w.heap.size + 1, 3, none⟩ = some (.int .i64 b.end_) ∧ w'.cell? ⟨w.heap.size + 1, 4, none⟩ = some (.slice bp b.kids.length bcap) ∧ Hid (Below A1.heap.size A1 w'))
              (first | (with_reducible assumption) | (exact repKeep HS.out (by repeat (first | (with_reducible exact Below.refl _ _) | (with_reducible exact HB6.out) | refine Below.drew ?_ | refine Below.setCell ?_ (by first | (with_reducible assumption) | (simp; done) | (simp; omega)) _ | refine Below.alloc ?_ (by first | exact Nat.le_refl _ | (with_reducible assumption) | (simp; done) | (simp; omega)) _))))
              (first | (go_at_call 37; (with_reducible refine (hrec _ (by repeat (first | (with_reducible exact Below.refl _ _) | refine Below.drew ?_ | refine Below.alloc ?_ (by first | exact Nat.le_refl _ | (simp; done)) _))).mono ?_); rintro e w6 ⟨p6, n6, c6, rfl, hO6, hb6⟩; have zc := fun (blk j : Nat) (h : blk < _) => hb6.cell (p := ⟨blk, j, none⟩) h; have zf := fun (blk j : Nat) (h : blk < _) => hb6.frozen (p := ⟨blk, j, none⟩) h; have HB6 : Hid (Below A1.heap.size A1 w6) := (by refine bt ?_ hb6; repeat (first | (with_reducible exact Below.refl _ _) | refine Below.drew ?_ | refine Below.alloc ?_ (by first | exact Nat.le_refl _ | (simp; done)) _)); have hs6 := HB6.out.size; have HO6 := hidden hO6; have HBB6 := hidden hb6; clear hO6 hb6))
            all_goals
              go_wp2_with fail
              go_meet
              refine ⟨_, p6, n6, c6, rfl, rfl, ?_⟩
              first
                | (with_reducible exact hidden (repFin_after HB6.out (by simp) HO6.out))
                | (with_reducible exact hidden (repFin_before HB6.out HBB6.out (Nat.le_refl _) (by simp) (NodeOwn.drew' (ownNew' _ _ rfl)) HFA.out HO6.out))
                | (with_reducible exact hidden (repFin_before HB6.out HBB6.out (Nat.le_refl _) (by simp) (ownNew' _ _ rfl) HFA.out HO6.out))
          case rest =>
            obtain ⟨T8, p6, n6, c6, rfl, rfl, hfin⟩ := hcut
            obtain ⟨hbc, hT8, hN8, hK8⟩ := hfin.out
            have HBC := hidden (bt HA1.out hbc)
            have HWC := hidden (bt HP5.out HBC.out)
            have HN8 := hidden hN8
            have HK8 := hidden hK8
            have HT8 := hidden hT8
            have hsA : w.heap.size + 3 ≤ A1.heap.size := by have := HA1.out.size; have := HP4.out; omega
            have hsC : A1.heap.size ≤ wc.heap.size := hbc.size
            have hO1 := HP1.out.lat HBC.out
            have hO3 := HP3.out.lat HBC.out
            obtain ⟨⟨a0, a1, a2, a3, a4⟩, fa0, fa1, fa2, fa3, fa4⟩ := hO1.cells0
            obtain ⟨⟨r0, r1, r2, r3, r4⟩, fr0, fr1, fr2, fr3, fr4⟩ := hO3.cells0
            have hz6 := cell_later hzA hbc
            have HSC := hidden (And.intro hsA hsC)
            clear hfin hbc hT8 hN8 hK8 hrec c0 c1 c2 c3 c4 q0 q1 q2 q3 q4 hzA hO1 hO3 hsA hsC HS
            rcases HCASE.out with ⟨rfl, hnone⟩ | ⟨rfl, hy, y0, hsome⟩
            · have HZ : Hid (∀ w', Below w.heap.size w w' → ReplRet F w t b ((m : Int) :: l) (.returned (.tuple #[nodeV zeroT (.slice none 0 0), .int .i64 7])) w') := fun w' hb => ⟨hb, .inr ⟨by rw [HGET.out]; exact hnone, rfl⟩⟩
              clear hnone
              go_wp2_with fail
              refine bodyPost_ret (v := .tuple #[.agg #[.int .i64 0, .string ⟨#[]⟩, .int .i64 0, .int .i64 0, .slice none 0 0], .int .i64 7]) (by simp [results, Tryz.results37, go_sem, r0, r1, r2, r3, r4]) rfl (HZ.out _ ?_)
              exact put_below HWC.out _ _ _ _ _ _ (by omega)
            · have HFIN : Hid (∀ w' kk, Below w.heap.size w w' → KidsS w' (fun k => F k ∨ w.heap.size ≤ k) (.slice (some ⟨kk, 0, none⟩) t.kids.length kk) (t.kids.set m y) → True) := fun _ _ _ _ => trivial
              have HREP : Hid (t.get ((m : Int) :: l) = some y0 ∧ t.replace (((m : Int) :: l).map Int.toNat) b = .mk t.kind t.text t.at_ t.end_ (t.kids.set m y)) := by
                refine ⟨by rw [HGET.out]; exact hsome, ?_⟩
                rw [List.map_cons, show ((m : Int)).toNat = m by omega, Tree.replace, HX.out, hy]
              have hLl : L.length = t.kids.length := by rw [← HLT.out, List.length_map]
              have hnews : ∀ (j : Nat) u, (forestC L)[j]? = some u → (wc.alloc (.cells #[] 24)).cell? ((⟨g, o, none⟩ : Addr).add j) = some u := fun j u hu => by
                rw [Go.WideShapes.add_plain]
                exact ((bt HWC.out (below_alloc wc _)).cell (p := ⟨g, o + j, none⟩) hg).trans (forestC_cells (fun i x hx => (HAT.out i x hx).1) j u hu)
              have hone : ∀ u ∈ forestC L, u.oneCell' = true := forestC_one (fun x hx => by
                obtain ⟨i, hi⟩ := List.getElem?_of_mem hx
                obtain ⟨_, _, _, _, e, _⟩ := (HAT.out i x hi).2.open
                rw [e]; rfl)
              have hfl : (forestC L).length = t.kids.length * 5 := by rw [forestC_len, hLl]
              have hkl : t.kids.length ≤ 4194304 := by have := Tree.length_le_countL t.kids; have := HC.out; have := HCT.out; omega
              have hwlt : w.heap.size < wc.heap.size := by have := HSC.out; omega
              have HNEWS := hidden hnews
              have HONE := hidden hone
              have HFL := hidden hfl
              have HLL := hidden hLl
              have HA4 := hidden a4
              obtain ⟨i0, hi, hz0, hz1, hz2⟩ := info_parts infoNode
              clear hy hsome hnews hone hfl hLl HFIN
              go_wp2_with (at_builtin; go_loud (refine wpList_append_own_at _ rfl (.tmp 46) (.tmp 48) 22 rfl wc.heap.size 24 i0 (.agg #[.int .i64 0, .string ⟨#[]⟩, .int .i64 0, .int .i64 0, .slice none 0 0]) 5 64 Tryz.underlying22 hi hz0 hz1 hz2 rfl (by decide) _ _ _ rfl (own_nil wc 24) ⟨g, o, none⟩ t.kids.length cap (forestC L) rfl HFL.out HNEWS.out HONE.out (by unfold maxLen; omega) (by omega) (by simp) ?_); intro v5 w5 hown5 hgrow5 hnn5 hat5; obtain ⟨g7, c7, rfl, hg7⟩ := rowForm hown5 (fun e => by have := (hnn5.1 e).1; cases this); have hbk5 := (hgrow5.block w.heap.size (by simp; omega) (fun e => by have h : w.heap.size = wc.heap.size := Option.some.inj e; omega)).trans ((below_alloc wc (.cells #[] 24)).block w.heap.size hwlt); have e4 := (World.cell?_of_block (a := ⟨w.heap.size, 4, none⟩) hbk5).trans a4; have ef4 := (World.frozen?_of_block (a := ⟨w.heap.size, 4, none⟩) hbk5).trans fa4; have H5 := hidden (And.intro hown5 hgrow5); clear hown5 hgrow5 hnn5 hat5 hbk5)
              obtain ⟨w6, hw6⟩ : ∃ w6, w6 = w5.setCell ⟨w.heap.size, 4, none⟩ (.slice (some ⟨g7, 0, none⟩) t.kids.length c7) := ⟨_, rfl⟩
              have hg7' := H5.out.1.lt g7 rfl
              have hkeep : ∀ k, k < wc.heap.size → k ≠ w.heap.size → w6.heap[k]? = wc.heap[k]? := fun k hk hne => by
                rw [hw6, Below.heap_setCell _ _ _ _ hne]
                exact (H5.out.2.block k (by simp; omega) (fun e => by have h : k = wc.heap.size := Option.some.inj e; omega)).trans ((below_alloc wc (.cells #[] 24)).block k hk)
              have hsz6 : w6.heap.size = w5.heap.size := by rw [hw6]; simp [World.setCell]
              have hrow : w6.ownsRow wc.heap.size 24 5 (.slice (some ⟨g7, 0, none⟩) L.length c7) L.length (forestC L) := by
                have h := H5.out.1
                rw [Nat.zero_add, List.nil_append, ← HLL.out] at h
                refine own_keep h (fun k hk => ?_)
                have hkk : g7 = k := Option.some.inj hk
                rw [hw6]
                exact Below.heap_setCell _ _ _ _ (by show k ≠ w.heap.size; omega)
              have hbox6 : w6.cell? ⟨w.heap.size, 0, none⟩ = some (.int .i64 t.kind) ∧ w6.cell? ⟨w.heap.size, 1, none⟩ = some (.string t.text) ∧ w6.cell? ⟨w.heap.size, 2, none⟩ = some (.int .i64 t.at_) ∧ w6.cell? ⟨w.heap.size, 3, none⟩ = some (.int .i64 t.end_) ∧ w6.cell? ⟨w.heap.size, 4, none⟩ = some (.slice (some ⟨g7, 0, none⟩) t.kids.length c7) := by
                have hbb := (H5.out.2.block w.heap.size (by simp; omega) (fun e => by have h : w.heap.size = wc.heap.size := Option.some.inj e; omega)).trans ((below_alloc wc (.cells #[] 24)).block w.heap.size hwlt)
                have ee : ∀ j, w5.cell? ⟨w.heap.size, j, none⟩ = wc.cell? ⟨w.heap.size, j, none⟩ := fun j => World.cell?_of_block (a := ⟨w.heap.size, j, none⟩) hbb
                rw [hw6]
                refine ⟨by simp [go_sem, ee, a0], by simp [go_sem, ee, a1], by simp [go_sem, ee, a2], by simp [go_sem, ee, a3], by simp [go_sem, ee, a4]⟩
              have hB6 : Below w.heap.size w w6 := by
                rw [hw6]
                exact ((HWC.out.alloc HWC.out.size _).grown H5.out.2 (by simp; omega) (fun k hk => by have h : wc.heap.size = k := Option.some.inj hk; omega)).setCell (Nat.le_refl _) _
              have hpz : w6.cell? ⟨pg, po, none⟩ = some (.int .i64 m) := (World.cell?_of_block (a := ⟨pg, po, none⟩) (hkeep pg (by omega) (by omega))).trans hz6
              have hT8b : T8 < wc.heap.size := HN8.out.1.lt
              have hn8 : NodeOwn w6 T8 y (.slice p6 n6 c6) := HN8.out.of_block (hkeep T8 hT8b (by have := HT8.out; have := HSC.out; omega))
              have ho3 : NodeOwn w6 (w.heap.size + 1 + 1) zeroT (.slice none 0 0) := (HP3.out.lat HBC.out).of_block (hkeep _ (by have := HSC.out; omega) (by omega))
              obtain ⟨⟨xm, hxm⟩⟩ : Nonempty (∃ x, L[m]? = some x) := ⟨⟨_, List.getElem?_eq_getElem (by have := HLL.out; omega)⟩⟩
              obtain ⟨⟨z0, z1, z2, z3, z4⟩, zf⟩ := ownsRow_nodeAt hrow hxm
              have f0 := zf 0 (by omega)
              have f1 := zf 1 (by omega)
              have f2 := zf 2 (by omega)
              have f3 := zf 3 (by omega)
              have f4 := zf 4 (by omega)
              rw [Nat.add_zero] at f0
              have HROW := hidden hrow
              have HK6 := hidden hkeep
              have HB6 := hidden hB6
              rw [← hw6]
              clear a0 a1 a2 a3 a4 fa0 fa1 fa2 fa3 fa4 r0 r1 r2 r3 r4 fr0 fr1 fr2 fr3 fr4 hz6 e4 ef4 hw6 hkeep hrow hB6 zf hxm
              obtain ⟨b0, b1, b2, b3, b4⟩ := hbox6
              obtain ⟨⟨t0, t1, t2, t3, t4⟩, _⟩ := hn8.cells0
              obtain ⟨⟨r0, r1, r2, r3, r4⟩, fr0, fr1, fr2, fr3, fr4⟩ := ho3.cells0
              have HG7 := hidden hg7'
              have hm7 : g7 ≠ w.heap.size := by omega
              have hm8 : w.heap.size ≠ g7 := by omega
              have hm9 : g7 ≠ w.heap.size + 1 + 1 := by have := HSC.out; omega
              have hm10 : w.heap.size + 1 + 1 ≠ g7 := by have := HSC.out; omega
              clear hn8 ho3
              have HEND := hidden (repl_end (t := t) (kt := .slice (some ⟨g7, 0, none⟩) t.kids.length c7) HF.out HB6.out HWC.out HSC.out.1 HSC.out.2 HROW.out (m := m) (by have := HLL.out; omega) HG7.out.1 HK6.out (fun i x hx => (HAT.out i x hx).2) HK8.out)
              go_region
              all_goals
                go_wp2_with fail
                refine bodyPost_ret (v := .tuple #[.agg #[.int .i64 t.kind, .string t.text, .int .i64 t.at_, .int .i64 t.end_, .slice (some ⟨g7, 0, none⟩) t.kids.length c7], .int .i64 0]) (by simp [results, Tryz.results37, go_sem, r0, r1, r2, r3, r4]) rfl ?_
                refine ⟨HEND.out.1, .inl ⟨y0, some ⟨g7, 0, none⟩, t.kids.length, c7, HREP.out.1, ?_, ?_⟩⟩
                · rw [HREP.out.2]; rfl
                · rw [HREP.out.2]
                  have h := HEND.out.2
                  rw [HLT.out, HLL.out] at h; exact h

end Go.Proofs.YtlbaaiglebpjiaaGreatDoor
