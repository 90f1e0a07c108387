/-
  Path, with its closure.
-/
import Derived.Test.YtlbaaiglebpjiaaGreatDoorJe
import Derived.Deep.AppendLies
namespace Go.Proofs.YtlbaaiglebpjiaaGreatDoor
open Go.RowKit Go.Shelf Go.Lib

def natI (k : Nat) : Value := .int .i64 (k : Int)

/-- What Path's closure works on: the number that is left, the path so far, the closure itself. -/
structure PSt (w0 : World) (bl bp bf B : Nat) (l : Nat) (ps : List Nat) (pv : Value) (W : World) : Prop where
  below : Below w0.heap.size w0 W
  h0 : w0.heap.size ≤ bl ∧ w0.heap.size ≤ bp ∧ w0.heap.size ≤ bf ∧ bl ≠ bp ∧ bl ≠ bf ∧ bp ≠ bf
  h1 : bl < B ∧ bp < B ∧ bf < B ∧ B ≤ W.heap.size
  left : W.cell? ⟨bl, 0, none⟩ = some (.int .i64 (l : Int))
  leftZ : W.frozen? ⟨bl, 0, none⟩ = false
  path : W.cell? ⟨bp, 0, none⟩ = some pv
  pathZ : W.frozen? ⟨bp, 0, none⟩ = false
  own : W.ownsRow B 3 1 pv ps.length (ps.map natI)
  find : W.cell? ⟨bf, 0, none⟩ = some (.func (.func 54) #[] #[.pointer (some ⟨bl, 0, none⟩), .pointer (some ⟨bp, 0, none⟩), .pointer (some ⟨bf, 0, none⟩)])

/-- All from B on but the path's row is as it was. -/
structure KeptX (B : Nat) (pv : Value) (W W' : World) : Prop where
  size : W.heap.size ≤ W'.heap.size
  block : ∀ k, B ≤ k → k < W.heap.size → some k ≠ pv.ownBlock → W'.heap[k]? = W.heap[k]?

/-- The path's row is the old one or a new one. -/
def RowNew (pv pv' : Value) (W : World) : Prop := pv'.ownBlock = pv.ownBlock ∨ ∃ g, W.heap.size ≤ g ∧ pv'.ownBlock = some g

theorem PSt.later {w0 : World} {bl bp bf B l : Nat} {ps : List Nat} {pv : Value} {W W' : World} (h : PSt w0 bl bp bf B l ps pv W) (hb : Below W.heap.size W W') : PSt w0 bl bp bf B l ps pv W' := by
  obtain ⟨a1, a2, ⟨b1, b2, b3, b4⟩, a4, a5, a6, a7, a8, a9⟩ := h
  refine ⟨bt a1 hb, a2, ⟨b1, b2, b3, Nat.le_trans b4 hb.size⟩, (hb.cell (p := ⟨bl, 0, none⟩) (by show bl < _; omega)).trans a4, (hb.frozen (p := ⟨bl, 0, none⟩) (by show bl < _; omega)).trans a5, (hb.cell (p := ⟨bp, 0, none⟩) (by show bp < _; omega)).trans a6, (hb.frozen (p := ⟨bp, 0, none⟩) (by show bp < _; omega)).trans a7, ⟨a8.1, ?_⟩, (hb.cell (p := ⟨bf, 0, none⟩) (by show bf < _; omega)).trans a9⟩
  rcases a8.2 with h | ⟨g, cap, cur, e1, e2, e3, e4⟩
  · exact .inl h
  · exact .inr ⟨g, cap, cur, e1, e2, (hb.block g (Array.getElem?_eq_some_iff.1 e3).1).trans e3, e4⟩

theorem row_shrink {w : World} {B : Nat} {e : TypeId} {p : Option Addr} {n cap : Nat} {xs : List Value} (h : w.ownsRow B e 1 (.slice p n cap) n xs) {k : Nat} (hk : k ≤ n) : w.ownsRow B e 1 (.slice p k cap) k (xs.take k) := by
  obtain ⟨h0, h1⟩ := h
  have hl : (xs.take k).length = k * 1 := by rw [List.length_take]; omega
  refine ⟨hl, ?_⟩
  rcases h1 with ⟨h2, h3⟩ | ⟨g, cap', cur, e1, e2, e3, e4, e5, e6, e7⟩
  · left
    cases h2
    have : k = 0 := by omega
    subst this
    exact ⟨rfl, rfl⟩
  · right
    cases e1
    refine ⟨g, cap, cur, rfl, e2, e3, by omega, e5, e6, ?_⟩
    rw [← e7, List.take_take]
    congr 1
    omega

theorem pathL_step {ts : List Tree} {k n : Nat} {x : Tree} (h : ts[k]? = some x) : Tree.pathL (ts.drop k) k n = if n < x.count then (x.pathOf n).map (k :: ·) else Tree.pathL (ts.drop (k + 1)) (k + 1) (n - x.count) := by
  rw [drop_step h, Tree.pathL]

theorem pathOf_succ (t : Tree) (n : Nat) : t.pathOf (n + 1) = Tree.pathL t.kids 0 n := by cases t; rw [Tree.pathOf]; rfl
theorem pathOf_zero (t : Tree) : t.pathOf 0 = some [] := by cases t; rw [Tree.pathOf]

theorem KeptX.refl (B : Nat) (pv : Value) (W : World) : KeptX B pv W W := ⟨Nat.le_refl _, fun _ _ _ _ => rfl⟩
theorem KeptX.of_below {B : Nat} {pv : Value} {W W' : World} (h : Below W.heap.size W W') : KeptX B pv W W' := ⟨h.size, fun k _ h2 _ => h.block k h2⟩
theorem KeptX.trans {B : Nat} {pv pv' : Value} {a b c : World} (h : KeptX B pv a b) (r : RowNew pv pv' a) (k : KeptX B pv' b c) : KeptX B pv a c := by
  refine ⟨Nat.le_trans h.size k.size, fun i h1 h2 h3 => (k.block i h1 (Nat.lt_of_lt_of_le h2 h.size) (fun e => ?_)).trans (h.block i h1 h2 h3)⟩
  rcases r with r | ⟨g, hg, r⟩
  · exact h3 (e.trans r)
  · rw [r] at e; have := Option.some.inj e; omega
theorem RowNew.refl (pv : Value) (W : World) : RowNew pv pv W := .inl rfl
theorem RowNew.trans {pv pv' pv'' : Value} {a b : World} (h : RowNew pv pv' a) (k : RowNew pv' pv'' b) (hz : a.heap.size ≤ b.heap.size) : RowNew pv pv'' a := by
  rcases k with k | ⟨g, hg, k⟩
  · rcases h with h | ⟨g, hg, h⟩
    · exact .inl (k.trans h)
    · exact .inr ⟨g, hg, k.trans h⟩
  · exact .inr ⟨g, by omega, k⟩
theorem KeptX.cell {B : Nat} {pv : Value} {a b : World} (h : KeptX B pv a b) {p : Addr} (h1 : B ≤ p.block) (h2 : p.block < a.heap.size) (h3 : some p.block ≠ pv.ownBlock) : b.cell? p = a.cell? p := World.cell?_of_block (h.block _ h1 h2 h3)

theorem PSt.row {w0 : World} {bl bp bf B l : Nat} {ps : List Nat} {pv : Value} {W : World} (h : PSt w0 bl bp bf B l ps pv W) : ∀ k, pv.ownBlock = some k → B ≤ k ∧ k < W.heap.size := h.own.lt

theorem PSt.setLeft {w0 : World} {bl bp bf B l : Nat} {ps : List Nat} {pv : Value} {W : World} (h : PSt w0 bl bp bf B l ps pv W) (l' : Nat) :
    PSt w0 bl bp bf B l' ps pv (W.setCell ⟨bl, 0, none⟩ (.int .i64 (l' : Int))) ∧ KeptX B pv W (W.setCell ⟨bl, 0, none⟩ (.int .i64 (l' : Int))) := by
  obtain ⟨a1, ⟨c1, c2, c3, c4, c5, c6⟩, ⟨b1, b2, b3, b4⟩, a4, a5, a6, a7, a8, a9⟩ := h
  have ho : ∀ k, k ≠ bl → (W.setCell ⟨bl, 0, none⟩ (.int .i64 (l' : Int))).heap[k]? = W.heap[k]? := fun k hk => Below.heap_setCell _ _ _ _ hk
  refine ⟨⟨a1.setCell c1 _, ⟨c1, c2, c3, c4, c5, c6⟩, ⟨b1, b2, b3, by simpa [World.setCell] using b4⟩, by simp [go_sem, a4], by simp [go_sem, a5], (World.cell?_of_block (a := ⟨bp, 0, none⟩) (ho bp (Ne.symm c4))).trans a6, (World.frozen?_of_block (a := ⟨bp, 0, none⟩) (ho bp (Ne.symm c4))).trans a7, ownsRow_setCell_below a8 b1 _, (World.cell?_of_block (a := ⟨bf, 0, none⟩) (ho bf (Ne.symm c5))).trans a9⟩, by simp [World.setCell], fun k h1 h2 _ => ho k (by omega)⟩

theorem PSt.append {w0 : World} {bl bp bf B l : Nat} {ps : List Nat} {pv pv2 : Value} {W w5 : World} {k : Nat} (h : PSt w0 bl bp bf B l ps pv W) (ho : w5.ownsRow B 3 1 pv2 (ps.length + 1) (ps.map natI ++ [natI k]))
    (hg : W.grownBy w5 pv.ownBlock) (hn : pv2.ownBlock = pv.ownBlock ∨ pv2.ownBlock = some W.heap.size) :
    PSt w0 bl bp bf B l (ps ++ [k]) pv2 (w5.setCell ⟨bp, 0, none⟩ pv2) ∧ KeptX B pv W (w5.setCell ⟨bp, 0, none⟩ pv2) ∧ RowNew pv pv2 W := by
  have hrow := h.row
  obtain ⟨a1, ⟨c1, c2, c3, c4, c5, c6⟩, ⟨b1, b2, b3, b4⟩, a4, a5, a6, a7, a8, a9⟩ := h
  have hz := hg.size
  have hlow : ∀ b, b < B → w5.heap[b]? = W.heap[b]? := fun b hb => hg.block b (by omega) (fun e => by have := (hrow b e.symm).1; omega)
  have hs : ∀ b, b ≠ bp → (w5.setCell ⟨bp, 0, none⟩ pv2).heap[b]? = w5.heap[b]? := fun b hb => Below.heap_setCell _ _ _ _ hb
  have q6 : w5.cell? ⟨bp, 0, none⟩ = some pv := (World.cell?_of_block (a := ⟨bp, 0, none⟩) (hlow bp b2)).trans a6
  have q7 : w5.frozen? ⟨bp, 0, none⟩ = false := (World.frozen?_of_block (a := ⟨bp, 0, none⟩) (hlow bp b2)).trans a7
  refine ⟨⟨((a1.grown hg (by omega) (fun k hk => by have := (hrow k hk).1; omega)).setCell c2 _), ⟨c1, c2, c3, c4, c5, c6⟩, ⟨b1, b2, b3, by simp [World.setCell]; omega⟩, ?_, ?_, by simp [go_sem, q6], by simp [go_sem, q7], ?_, ?_⟩, ⟨by simp [World.setCell]; omega, fun i h1 h2 h3 => ?_⟩, ?_⟩
  · exact (World.cell?_of_block (a := ⟨bl, 0, none⟩) ((hs bl c4).trans (hlow bl b1))).trans a4
  · exact (World.frozen?_of_block (a := ⟨bl, 0, none⟩) ((hs bl c4).trans (hlow bl b1))).trans a5
  · rw [List.length_append, List.length_singleton, List.map_append]
    exact ownsRow_setCell_below ho b2 _
  · exact (World.cell?_of_block (a := ⟨bf, 0, none⟩) ((hs bf (Ne.symm c6)).trans (hlow bf b3))).trans a9
  · exact (hs i (by omega)).trans (hg.block i h2 h3)
  · rcases hn with hn | hn
    · exact .inl hn
    · exact .inr ⟨_, Nat.le_refl _, hn⟩

theorem PSt.cut {w0 : World} {bl bp bf B l : Nat} {ps : List Nat} {k : Nat} {p : Option Addr} {n cap : Nat} {W : World} (h : PSt w0 bl bp bf B l (ps ++ [k]) (.slice p n cap) W) :
    n = ps.length + 1 ∧ PSt w0 bl bp bf B l ps (.slice p ps.length cap) (W.setCell ⟨bp, 0, none⟩ (.slice p ps.length cap)) ∧ KeptX B (.slice p n cap) W (W.setCell ⟨bp, 0, none⟩ (.slice p ps.length cap)) ∧ RowNew (.slice p n cap) (.slice p ps.length cap) W := by
  obtain ⟨a1, ⟨c1, c2, c3, c4, c5, c6⟩, ⟨b1, b2, b3, b4⟩, a4, a5, a6, a7, a8, a9⟩ := h
  have hn : n = (ps ++ [k]).length := by
    rcases a8.2 with ⟨h1, h2⟩ | ⟨g, cap', cur, h1, _⟩
    · rw [List.length_append, List.length_singleton] at h2; omega
    · cases h1; rfl
  have hn' : n = ps.length + 1 := by rw [hn, List.length_append, List.length_singleton]
  rw [← hn] at a8
  have hs : ∀ b, b ≠ bp → (W.setCell ⟨bp, 0, none⟩ (.slice p ps.length cap)).heap[b]? = W.heap[b]? := fun b hb => Below.heap_setCell _ _ _ _ hb
  have ha := row_shrink a8 (k := ps.length) (by omega)
  rw [List.map_append, List.take_append_of_le_length (by simp), List.take_of_length_le (by simp)] at ha
  refine ⟨hn', ⟨a1.setCell c2 _, ⟨c1, c2, c3, c4, c5, c6⟩, ⟨b1, b2, b3, by simpa [World.setCell] using b4⟩, (World.cell?_of_block (a := ⟨bl, 0, none⟩) (hs bl c4)).trans a4, (World.frozen?_of_block (a := ⟨bl, 0, none⟩) (hs bl c4)).trans a5, by simp [go_sem, a6], by simp [go_sem, a7], ownsRow_setCell_below ha b2 _, (World.cell?_of_block (a := ⟨bf, 0, none⟩) (hs bf (Ne.symm c6))).trans a9⟩, ⟨by simp [World.setCell], fun i h1 h2 _ => hs i (by omega)⟩, .inl ?_⟩
  cases p <;> rfl

theorem one_new (w : World) (o : Obj) (x : Value) (t : TypeId) : ∀ j u, [x][j]? = some u → ((w.alloc o).alloc (.cells #[x] t)).cell? ((⟨w.heap.size + 1, 0, none⟩ : Addr).add j) = some u := by
  intro j u hj
  rcases j with _ | j
  · simp at hj; subst hj; simp [Addr.add]
  · simp at hj
theorem one_oneCell (k : Nat) : ∀ u ∈ [natI k], u.oneCell' = true := by
  intro u hu
  rw [List.mem_singleton.1 hu]; rfl

theorem infoInt : (Tryz.prog.info? 3).map (fun i => (i.zero, i.size, i.bytes)) = some (some (.int .i64 0), 1, 8) := by kernel_rfl

set_option maxRecDepth 100000 in
set_option maxHeartbeats 12800000 in
theorem find_any {w0 : World} {bl bp bf B : Nat} (t : Tree) : ∀ (kv : Value) (l : Nat) (ps : List Nat) (pv : Value) (W : World), PSt w0 bl bp bf B l ps pv W → KidsV w0 kv t.kids → l ≤ 9223372036854775807 → ps.length + t.levels ≤ 8388608 →
    t.count ≤ 4194304 → Calls Tryz.prog 54 #[nodeV t kv, .pointer (some ⟨bl, 0, none⟩), .pointer (some ⟨bp, 0, none⟩), .pointer (some ⟨bf, 0, none⟩)] W fun e W' => ∃ pv', KeptX B pv W W' ∧ RowNew pv pv' W ∧
      ((l < t.count ∧ ∃ q, t.pathOf l = some q ∧ e = .returned (.bool true) ∧ PSt w0 bl bp bf B 0 (ps ++ q) pv' W') ∨ (t.count ≤ l ∧ e = .returned (.bool false) ∧ PSt w0 bl bp bf B (l - t.count) ps pv' W')) := by
  refine Tree.induct (P := fun t => ∀ (kv : Value) (l : Nat) (ps : List Nat) (pv : Value) (W : World), PSt w0 bl bp bf B l ps pv W → KidsV w0 kv t.kids → l ≤ 9223372036854775807 → ps.length + t.levels ≤ 8388608 →
    t.count ≤ 4194304 → Calls Tryz.prog 54 #[nodeV t kv, .pointer (some ⟨bl, 0, none⟩), .pointer (some ⟨bp, 0, none⟩), .pointer (some ⟨bf, 0, none⟩)] W fun e W' => ∃ pv', KeptX B pv W W' ∧ RowNew pv pv' W ∧
      ((l < t.count ∧ ∃ q, t.pathOf l = some q ∧ e = .returned (.bool true) ∧ PSt w0 bl bp bf B 0 (ps ++ q) pv' W') ∨ (t.count ≤ l ∧ e = .returned (.bool false) ∧ PSt w0 bl bp bf B (l - t.count) ps pv' W'))) (fun t ih => ?_) t
  intro kv l ps pv W hS hk hl hps hct
  obtain ⟨i0, hi, hz0, hz1, hz2⟩ := info_parts infoInt
  have e53 := enters_of Tryz.func54 (by kernel_rfl) rfl
  obtain ⟨p, cap, g, o, rfl, hpp, hat⟩ := hk.open
  have HAT := hidden hat
  have HPP := hidden hpp
  have hlev := Tree.levels_eq t
  have hcnt := Tree.count_eq t
  clear hk hat hpp
  simp only [nodeV]
  have HS := hidden hS
  cases l with
  | zero =>
    have a4 := hS.left
    have z4 := World.block_lt_of_cell? W _ a4
    simp only at z4
    clear hS ih hlev hcnt hct hps hl
    go_enter Tryz.func54, Tryz.ntmps54
    go_wp2_with fail
    go_ret
    have hb : ∀ o, Below W.heap.size W (W.alloc o) := fun o => (Below.refl _ _).alloc (Nat.le_refl _) _
    exact ⟨pv, KeptX.of_below (hb _), RowNew.refl _ _, .inl ⟨Tree.count_pos t, [], pathOf_zero t, rfl, by rw [List.append_nil]; exact HS.out.later (hb _)⟩⟩
  | succ l =>
    have a4 := hS.left
    have a5 := hS.leftZ
    have z4 := World.block_lt_of_cell? W _ a4
    simp only at z4
    have hne : (((l : Int) + 1) == 0) = false := by rw [beq_eq_false_iff_ne]; omega
    rw [show ((l + 1 : Nat) : Int) = (l : Int) + 1 by omega] at a4
    have hlk : t.kids.length ≤ 4194304 := by have := Tree.length_le_countL t.kids; omega
    have hwr : IntKind.i64.wrap ((l : Int) + 1 - 1) = (l : Int) := by rw [IntWalk.i64_in _ (by omega)]; omega
    obtain ⟨S1, K1⟩ := hS.setLeft l
    have hz1' : (W.setCell ⟨bl, 0, none⟩ (.int .i64 (l : Int))).heap.size = W.heap.size := by simp [World.setCell]
    have hrow := hS.row
    have HSL := hidden (show (∃ h : True, True) from ⟨trivial, trivial⟩)
    have HX : Hid (t.levels = Tree.levelsL t.kids + 1 ∧ t.count = Tree.countL t.kids + 1 ∧ t.count ≤ 4194304) := ⟨hlev, hcnt, hct⟩
    have HPS := hidden hps
    clear hS hlev hcnt hct hps
    go_enter Tryz.func54, Tryz.ntmps54
    go_wp2_with fail
    obtain ⟨W1, hW1⟩ : ∃ x, x = (W.setCell ⟨bl, 0, none⟩ (.int .i64 (l : Int))).alloc (.cells #[.int .i64 t.kind, .string t.text, .int .i64 t.at_, .int .i64 t.end_, .slice p t.kids.length cap] 24) := ⟨_, rfl⟩
    have hb1 : ∀ o, Below (W.setCell ⟨bl, 0, none⟩ (.int .i64 (l : Int))).heap.size (W.setCell ⟨bl, 0, none⟩ (.int .i64 (l : Int))) ((W.setCell ⟨bl, 0, none⟩ (.int .i64 (l : Int))).alloc o) := fun o => (Below.refl _ _).alloc (Nat.le_refl _) _
    have S2 : PSt w0 bl bp bf B l ps pv W1 := by rw [hW1]; exact S1.later (hb1 _)
    have K2 : KeptX B pv W W1 := by rw [hW1]; exact K1.trans (RowNew.refl _ _) (KeptX.of_below (hb1 _))
    have n4 : W1.cell? ⟨W.heap.size, 4, none⟩ = some (.slice p t.kids.length cap) := by
      rw [hW1, ← hz1']; simp [go_sem]
    have hz2' : W1.heap.size = W.heap.size + 1 := by rw [hW1, World.size_alloc, hz1']
    have hBW : B ≤ W.heap.size := HS.out.h1.2.2.2
    rw [← hW1]
    clear hW1 S1 K1 hb1 hz1'
    have HK2 := hidden K2
    clear K2
    go_loopw [15] (fun i wr => ∃ k : Nat, k ≤ t.kids.length ∧ i = .int .i64 k ∧ Hid (∃ lk pvk, l = lk + Tree.countL (t.kids.take k) ∧ Tree.pathL t.kids 0 l = Tree.pathL (t.kids.drop k) k lk ∧ PSt w0 bl bp bf B lk ps pvk wr ∧ KeptX B pv W1 wr ∧ RowNew pv pvk W1)) (fun i _ => t.kids.length - (intOf i).toNat)
    case atStart => exact ⟨0, Nat.zero_le _, rfl, l, pv, by rw [List.take_zero, Tree.countL_nil, Nat.add_zero], by rw [List.drop_zero], S2, KeptX.refl _ _ _, RowNew.refl _ _⟩
    case round =>
      obtain ⟨k, hk, rfl, hh⟩ := hrel
      obtain ⟨lk, pvk, hlk2, hpa, SK, KK, RK⟩ := hh.out
      have HPA := hidden hpa
      clear S2 hh hpa
      have KW : KeptX B pv W wr := HK2.out.trans (RowNew.refl _ _) KK
      have RW : RowNew pv pvk W := (RowNew.refl pv W).trans RK HK2.out.size
      have HLK := hidden hlk2
      have hbox : wr.cell? ⟨W.heap.size, 4, none⟩ = some (.slice p t.kids.length cap) := (KK.cell (p := ⟨W.heap.size, 4, none⟩) hBW (by show W.heap.size < _; omega) (fun e => by have := (hrow _ e.symm).2; simp at this)).trans n4
      by_cases hlt : k < t.kids.length
      · have hx : t.kids[k]? = some t.kids[k] := List.getElem?_eq_getElem hlt
        generalize t.kids[k] = x at hx
        obtain ⟨rfl, hg⟩ := HPP.out (fun h => by rw [h] at hlt; exact absurd hlt (Nat.not_lt_zero _))
        obtain ⟨kv', hn, hkv⟩ := HAT.out k x hx
        obtain ⟨p2, cap2, _, _, rfl, _, _⟩ := hkv.open
        obtain ⟨c0, c1, c2, c3, c4⟩ := hn.of_block (SK.below.block g hg)
        have hltz : (k : Int) < (t.kids.length : Int) := by omega
        have hpath := SK.path
        obtain ⟨pa, pn, pc, rfl⟩ : ∃ pa pn pc, pvk = .slice pa pn pc := by
          rcases SK.own.2 with ⟨h, _⟩ | ⟨g', cap', cur, h, _⟩
          · exact ⟨_, _, _, h⟩
          · exact ⟨_, _, _, h⟩
        have hownk := SK.own
        have hpl : ps.length ≤ 8388608 := by have := HPS.out; omega
        have hzB : B ≤ wr.heap.size := SK.h1.2.2.2
        have hnp : bp ≠ wr.heap.size := by have := SK.h1.2.1; omega
        have hnp2 : bp < wr.heap.size := by have := SK.h1.2.1; omega
        have happ : ∀ g5 cap5 w5, w5.ownsRow B 3 1 (.slice (some ⟨g5, 0, none⟩) (ps.length + 1) cap5) (ps.length + 1) (ps.map natI ++ [natI k]) →
            ((wr.alloc (.cells #[.int .i64 x.kind, .string x.text, .int .i64 x.at_, .int .i64 x.end_, .slice p2 x.kids.length cap2] 24)).alloc (.cells #[.int .i64 k] 3)).grownBy w5 (Value.slice pa pn pc).ownBlock →
            ((Value.slice pa pn pc).ownBlock = some g5 ∨ g5 = wr.heap.size + 2) →
            w5.cell? ⟨bp, 0, none⟩ = some (.slice pa pn pc) ∧ w5.frozen? ⟨bp, 0, none⟩ = false ∧ NodeAt (w5.setCell ⟨bp, 0, none⟩ (.slice (some ⟨g5, 0, none⟩) (ps.length + 1) cap5)) wr.heap.size 0 x (.slice p2 x.kids.length cap2) ∧
            (w5.setCell ⟨bp, 0, none⟩ (.slice (some ⟨g5, 0, none⟩) (ps.length + 1) cap5)).cell? ⟨bf, 0, none⟩ = some (.func (.func 54) #[] #[.pointer (some ⟨bl, 0, none⟩), .pointer (some ⟨bp, 0, none⟩), .pointer (some ⟨bf, 0, none⟩)]) ∧
            Hid (PSt w0 bl bp bf B lk (ps ++ [k]) (.slice (some ⟨g5, 0, none⟩) (ps.length + 1) cap5) (w5.setCell ⟨bp, 0, none⟩ (.slice (some ⟨g5, 0, none⟩) (ps.length + 1) cap5)) ∧
              KeptX B (.slice pa pn pc) wr (w5.setCell ⟨bp, 0, none⟩ (.slice (some ⟨g5, 0, none⟩) (ps.length + 1) cap5)) ∧ RowNew (.slice pa pn pc) (.slice (some ⟨g5, 0, none⟩) (ps.length + 1) cap5) wr) := by
          intro g5 cap5 w5 ho hgr hat5
          have hb2 : Below wr.heap.size wr ((wr.alloc (.cells #[.int .i64 x.kind, .string x.text, .int .i64 x.at_, .int .i64 x.end_, .slice p2 x.kids.length cap2] 24)).alloc (.cells #[.int .i64 k] 3)) := ((Below.refl _ _).alloc (Nat.le_refl _) _).alloc (by simp) _
          have SK2 := SK.later hb2
          have hrk := SK.row
          have hz2 : ((wr.alloc (.cells #[.int .i64 x.kind, .string x.text, .int .i64 x.at_, .int .i64 x.end_, .slice p2 x.kids.length cap2] 24)).alloc (.cells #[.int .i64 k] 3)).heap.size = wr.heap.size + 2 := by simp
          obtain ⟨SA, KA, RA⟩ := SK2.append ho hgr (by
            rcases hat5 with h | h
            · exact .inl h.symm
            · right; rw [hz2, ← h]; rfl)
          have hlow : ∀ b, b < B → w5.heap[b]? = wr.heap[b]? := fun b hb => (hgr.block b (by rw [hz2]; omega) (fun e => by have := (hrk b e.symm).1; omega)).trans (hb2.block b (by omega))
          refine ⟨(World.cell?_of_block (a := ⟨bp, 0, none⟩) (hlow bp SK.h1.2.1)).trans SK.path, (World.frozen?_of_block (a := ⟨bp, 0, none⟩) (hlow bp SK.h1.2.1)).trans SK.pathZ, ?_, SA.find, SA, (KeptX.of_below hb2).trans (RowNew.refl _ _) KA, ?_⟩
          · refine NodeAt.of_block (w := (wr.alloc (.cells #[.int .i64 x.kind, .string x.text, .int .i64 x.at_, .int .i64 x.end_, .slice p2 x.kids.length cap2] 24)).alloc (.cells #[.int .i64 k] 3)) ⟨by simp [go_sem], by simp [go_sem], by simp [go_sem], by simp [go_sem], by simp [go_sem]⟩ ?_
            exact KA.block _ hzB (by rw [hz2]; omega) (fun e => by have := (hrk _ e.symm).2; simp at this)
          · rcases hat5 with h | h
            · exact .inl h.symm
            · exact .inr ⟨g5, by omega, rfl⟩
        have hcx : x.count ≤ Tree.countL t.kids := Tree.count_kid hx
        have hpl2 : (ps ++ [k]).length + x.levels ≤ 8388608 := by
          rw [List.length_append, List.length_singleton]
          have h1 := HX.out.1
          have h2 := Tree.levelsL_take hx
          have h3 := Tree.levelsL_append (t.kids.take (k + 1)) (t.kids.drop (k + 1))
          rw [List.take_append_drop] at h3
          have := HPS.out
          omega
        have hcallx := fun pv5 W5 (h : PSt w0 bl bp bf B lk (ps ++ [k]) pv5 W5) => ih x (List.mem_of_getElem? hx) (.slice p2 x.kids.length cap2) lk (ps ++ [k]) pv5 W5 h hkv (by omega) hpl2 (by have := HX.out.2.1; have := HX.out.2.2; omega)
        simp only [nodeV] at hcallx
        have hstep := pathL_step (n := lk) hx
        have HCL : Hid (lk < x.count → l < Tree.countL t.kids) := by intro h; have := Tree.countL_take_lt hx; omega
        have hct2 := Tree.countL_take hx
        have HC : Hid ((∀ q, x.pathOf lk = some q → lk < x.count → Tree.pathL (t.kids.drop k) k lk = some (k :: q)) ∧ (x.count ≤ lk → l = (lk - x.count) + Tree.countL (t.kids.take (k + 1)) ∧ Tree.pathL (t.kids.drop k) k lk = Tree.pathL (t.kids.drop (k + 1)) (k + 1) (lk - x.count))) := by
          refine ⟨fun q hq h => by rw [hstep, if_pos h, hq]; rfl, fun h => ⟨by omega, by rw [hstep, if_neg (by omega)]⟩⟩
        have HSK := hidden (And.intro SK (And.intro KK RK))
        clear hn hkv hcx hpl2 hstep hct2 SK KK RK hx ih hlk2
        go_wp2_with (at_builtin; refine wpList_append_lies _ rfl (.tmp 20) (.tmp 22) 28 rfl B 3 i0 (.int .i64 0) 1 8 Tryz.underlying28 hi hz0 hz1 hz2 rfl (by decide) _ _ _ rfl ((hownk.alloc _).alloc _) ⟨wr.heap.size + 1, 0, none⟩ 1 1 [natI k] rfl rfl (one_new _ _ _ _) (one_oneCell _) (by decide) (by unfold maxLen; omega) (by omega) (by simp; omega) (wr.heap.size + 2) (by simp) ?_; intro g5 cap5 w5 hown5 hgrow5 hat5 hlt5; obtain ⟨r1, r2, r3, r4, HR⟩ := happ g5 cap5 w5 hown5 hgrow5 hat5; have d0 := r3.c0; have d1 := r3.c1; have d2 := r3.c2; have d3 := r3.c3; have d4 := r3.c4; simp only [Nat.zero_add] at d1 d2 d3 d4; clear hown5 hgrow5 hat5 happ)
        have hcall := hcallx _ _ HR.out.1
        have KC := HSK.out.2.1.trans HSK.out.2.2 HR.out.2.1
        have RC := HSK.out.2.2.trans HR.out.2.2 HSK.out.2.1.size
        have hsz := KC.size
        clear hcallx HR r1 r2 r3 r4 d0 d1 d2 d3 d4 hownk c0 c1 c2 c3 c4 hpath
        (with_reducible refine hcall.mono ?_)
        rintro e W3 ⟨pv3, K3, R3, (⟨h1, q, h2, rfl, S3⟩ | ⟨h1, rfl, S3⟩)⟩
        · have HF : Hid (l + 1 < t.count ∧ t.pathOf (l + 1) = some (k :: q)) := by
            refine ⟨?_, ?_⟩
            · have := HX.out.2.1; have := HCL.out h1; omega
            · rw [pathOf_succ, HPA.out]; exact HC.out.1 q h2 h1
          have HS3 := hidden (And.intro S3 (And.intro (KC.trans RC K3) (RC.trans R3 hsz)))
          clear hcall h1 h2 S3 K3 R3 KC RC hsz KW RW
          go_wp2_with fail
          go_ret
          obtain ⟨q1, q2, q3⟩ := HS3.out
          rw [List.append_assoc] at q1
          exact ⟨pv3, HK2.out.trans (RowNew.refl _ _) q2, (RowNew.refl pv W).trans q3 HK2.out.size, .inl ⟨HF.out.1, k :: q, HF.out.2, rfl, q1⟩⟩
        · have hl3 : (ps ++ [k]).length = ps.length + 1 := by rw [List.length_append, List.length_singleton]
          have hf := S3.own.form (by rw [hl3]; omega)
          rw [hl3] at hf
          obtain ⟨g3, c3, rfl, _, _⟩ := hf
          have hc3 : ps.length + 1 ≤ c3 := by
            rcases S3.own.2 with ⟨h, _⟩ | ⟨g', cap', cur, h, _, _, h4, _⟩
            · cases h
            · injection h with _ _ hcc; rw [hcc, ← hl3]; exact h4
          obtain ⟨_, S4, K4, R4⟩ := S3.cut
          have p3 := S3.path
          have z3 := S3.pathZ
          have K5 := (KC.trans RC K3).trans (RC.trans R3 hsz) K4
          have R5 := (RC.trans R3 hsz).trans R4 (KC.trans RC K3).size
          have HS4 := hidden (And.intro S4 (And.intro K5 R5))
          have HC2 := hidden (HC.out.2 h1)
          have hpl3 : ((ps.length : Int) + 1 - 1) = (ps.length : Int) := by omega
          clear hcall h1 S3 K3 R3 KC RC hsz KW RW S4 K4 R4 K5 R5 hl3
          go_wp2_with fail
          go_roundw
          case rel => exact ⟨k + 1, by omega, by go_num, lk - x.count, _, HC2.out.1, HPA.out.trans HC2.out.2, HS4.out.1, HS4.out.2.1, HS4.out.2.2⟩
          case measure => simp [intOf]; omega
      · obtain rfl : k = t.kids.length := by omega
        rw [List.take_length] at hlk2
        have HF : Hid (t.count ≤ l + 1 ∧ l + 1 - t.count = lk) := by have := HX.out.2.1; exact ⟨by omega, by omega⟩
        have HSK := hidden SK
        clear SK KK hlk2
        go_wp2_with fail
        go_ret
        exact ⟨pvk, KW, RW, .inr ⟨HF.out.1, rfl, by rw [HF.out.2]; exact HSK.out⟩⟩

end Go.Proofs.YtlbaaiglebpjiaaGreatDoor
