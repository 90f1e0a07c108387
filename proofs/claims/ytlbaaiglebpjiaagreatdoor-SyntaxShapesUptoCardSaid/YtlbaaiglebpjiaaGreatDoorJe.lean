import Derived.Test.YtlbaaiglebpjiaaGreatDoorYb
import Derived.Test.YtlbaaiglebpjiaaGreatDoorJc
import Derived.Laws.AppendOwn
import Derived.Shelf.GgClosure.Gives
import Derived.Maps.AppendAt
/-
  A row of trees that a loop builds: one's own row, and below each element a tree of one's own.
-/



namespace Go.Proofs.YtlbaaiglebpjiaaGreatDoor
open Go.RowKit Go.Shelf Go.Lib

/-- The cells of nodes with their lists of kids. -/
def forestC (l : List (Tree × Value)) : List Value := l.flatMap fun x => nodeC x.1 x.2

theorem nodeC_len (t : Tree) (kv : Value) : (nodeC t kv).length = 5 := rfl
theorem nodeC_one (t : Tree) (p : Option Addr) (n c : Nat) : ∀ u ∈ nodeC t (.slice p n c), u.oneCell' = true := by
  intro u hu
  simp only [nodeC, List.mem_cons, List.not_mem_nil, or_false] at hu
  rcases hu with rfl | rfl | rfl | rfl | rfl <;> rfl
theorem forestC_snoc (l : List (Tree × Value)) (x : Tree × Value) : forestC (l ++ [x]) = forestC l ++ nodeC x.1 x.2 := by unfold forestC; simp

theorem forestC_get : ∀ (l : List (Tree × Value)) (i : Nat) (x : Tree × Value) (j : Nat), l[i]? = some x → j < 5 → (forestC l)[i * 5 + j]? = (nodeC x.1 x.2)[j]?
  | [], i, x, j, h, _ => by simp at h
  | y :: l, 0, x, j, h, hj => by
    simp at h; subst h
    show ((nodeC y.1 y.2) ++ forestC l)[0 * 5 + j]? = _
    rw [Nat.zero_mul, Nat.zero_add, List.getElem?_append_left (by simpa [nodeC] using hj)]
  | y :: l, i + 1, x, j, h, hj => by
    have ih := forestC_get l i x j (by simpa using h) hj
    show ((nodeC y.1 y.2) ++ forestC l)[(i + 1) * 5 + j]? = _
    rw [List.getElem?_append_right (by simp [nodeC]; omega), ← ih]
    congr 1
    simp [nodeC]; omega

theorem ownsRow_nodeAt {w : World} {B : Nat} {e : TypeId} {g cap n : Nat} {l : List (Tree × Value)} (h : w.ownsRow B e 5 (.slice (some ⟨g, 0, none⟩) n cap) n (forestC l)) {i : Nat} {x : Tree × Value} (hx : l[i]? = some x) :
    NodeAt w g (i * 5) x.1 x.2 ∧ ∀ j, j < 5 → w.frozen? ⟨g, i * 5 + j, none⟩ = false := by
  have hc := h.cells (g := g) rfl
  have hh := fun j hj u hu => hc (i * 5 + j) u ((forestC_get l i x j hx hj).trans hu)
  have e : ∀ n, ((⟨g, 0, none⟩ : Addr).add n) = ⟨g, n, none⟩ := fun n => by simp [Addr.add]; omega
  simp only [e] at hh
  refine ⟨⟨hh 0 (by omega) _ rfl, hh 1 (by omega) _ rfl, hh 2 (by omega) _ rfl, hh 3 (by omega) _ rfl, hh 4 (by omega) _ rfl⟩, fun j _ => ?_⟩
  rcases h.2 with ⟨h0, _⟩ | ⟨g', cap', cur, h1, h2, h3, _⟩
  · cases h0
  · have hg : g = g' := by simpa [Value.ownBlock] using congrArg (fun v => v.ownBlock) h1
    subst hg
    unfold World.frozen?
    simp [h3]

/-- What a loop that copies trees has built. -/
def Forest (w : World) (B : Nat) (e : TypeId) (out : Value) (l : List (Tree × Value)) : Prop :=
  w.ownsRow B e 5 out l.length (forestC l) ∧ ∃ Fs : Nat → Nat → Prop, (∀ i x, l[i]? = some x → KidsO w x.2 x.1.kids (Fs i)) ∧
    (∀ i b, i < l.length → Fs i b → B ≤ b ∧ b < w.heap.size ∧ some b ≠ out.ownBlock) ∧ ∀ i j b, i < l.length → j < l.length → Fs i b → Fs j b → i = j

theorem Forest.nil (w : World) (B : Nat) (e : TypeId) : Forest w B e (.slice none 0 0) [] :=
  ⟨World.ownsRow_nil w B e 5, fun _ _ => False, fun i x h => by simp at h, fun i b h => absurd h (Nat.not_lt_zero _), fun i j b h => absurd h (Nat.not_lt_zero _)⟩

theorem Forest.lt {w : World} {B : Nat} {e : TypeId} {out : Value} {l : List (Tree × Value)} (h : Forest w B e out l) : ∀ k, out.ownBlock = some k → B ≤ k ∧ k < w.heap.size := h.1.lt

/-- What lies stays. -/
theorem Forest.keep {w w' : World} {B : Nat} {e : TypeId} {out : Value} {l : List (Tree × Value)} (h : Forest w B e out l) (hb : ∀ b, B ≤ b → b < w.heap.size → w'.heap[b]? = w.heap[b]?) (hz : w.heap.size ≤ w'.heap.size) : Forest w' B e out l := by
  obtain ⟨⟨h0, h1⟩, Fs, h2, h3, h4⟩ := h
  refine ⟨⟨h0, ?_⟩, Fs, fun i x hx => (h2 i x hx).keep (fun b hb' => ?_), fun i b hi hb' => ?_, h4⟩
  · rcases h1 with h1 | ⟨g, cap, cur, e1, e2, e3, e4⟩
    · exact .inl h1
    · exact .inr ⟨g, cap, cur, e1, e2, (hb g e2 (Array.getElem?_eq_some_iff.1 e3).1).trans e3, e4⟩
  · obtain ⟨a1, a2, _⟩ := h3 i b (List.getElem?_eq_some_iff.1 hx).1 hb'
    exact hb b a1 a2
  · obtain ⟨a1, a2, a3⟩ := h3 i b hi hb'
    exact ⟨a1, by omega, a3⟩

/-- One more tree. -/
theorem Forest.step {w w1 w2 w3 : World} {B : Nat} {e : TypeId} {out out' : Value} {l : List (Tree × Value)} {t : Tree} {kv : Value} (h : Forest w B e out l) (hBw : B ≤ w.heap.size) (h1 : Below w.heap.size w w1)
    (hk : KidsO w1 kv t.kids fun b => w.heap.size ≤ b ∧ b < w1.heap.size) (h2 : Below w1.heap.size w1 w2)
    (ho : w3.ownsRow B e 5 out' (l.length + 1) (forestC l ++ nodeC t kv)) (hg : w2.grownBy w3 out.ownBlock) (hn : out'.ownBlock = out.ownBlock ∨ out'.ownBlock = some w2.heap.size) : Forest w3 B e out' (l ++ [(t, kv)]) := by
  obtain ⟨h00, Fs, f2, f3, f4⟩ := h
  have hlt := h00.lt
  have z1 := h1.size
  have z2 := h2.size
  have z3 := hg.size
  have hlen : (l ++ [(t, kv)]).length = l.length + 1 := by simp
  have old : ∀ b, B ≤ b → b < w.heap.size → some b ≠ out.ownBlock → w3.heap[b]? = w.heap[b]? := fun b b1 b2 b3 =>
    (hg.block b (by omega) b3).trans ((h2.block b (by omega)).trans (h1.block b b2))
  refine ⟨by rw [hlen, forestC_snoc]; exact ho, fun i b => if i < l.length then Fs i b else w.heap.size ≤ b ∧ b < w1.heap.size, ?_, ?_, ?_⟩
  · intro i x hx
    rcases Nat.lt_or_ge i l.length with hi | hi
    · rw [List.getElem?_append_left hi] at hx
      simp only [hi, if_true]
      refine (f2 i x hx).keep fun b hb => ?_
      obtain ⟨a1, a2, a3⟩ := f3 i b hi hb
      exact old b a1 a2 a3
    · have hi' : ¬ i < l.length := by omega
      rw [List.getElem?_append_right hi] at hx
      have hx0 : x = (t, kv) := by
        have : i - l.length = 0 := by have := (List.getElem?_eq_some_iff.1 hx).1; simp at this; omega
        rw [this] at hx
        simpa using hx.symm
      subst hx0
      simp only [hi', if_false]
      refine hk.keep fun b hb => ?_
      refine (hg.block b (by omega) (fun e => ?_)).trans (h2.block b hb.2)
      have := (hlt b e.symm).2
      omega
  · intro i b hi hb
    rcases Nat.lt_or_ge i l.length with hi' | hi'
    · simp only [hi', if_true] at hb
      obtain ⟨a1, a2, a3⟩ := f3 i b hi' hb
      refine ⟨a1, by omega, ?_⟩
      rcases hn with hn | hn
      · rw [hn]; exact a3
      · rw [hn]; intro e; simp at e; omega
    · simp only [show ¬ i < l.length by omega, if_false] at hb
      refine ⟨by omega, by omega, ?_⟩
      rcases hn with hn | hn
      · rw [hn]; intro e; have := (hlt b e.symm).2; omega
      · rw [hn]; intro e; simp at e; omega
  · intro i j b hi hj bi bj
    rw [hlen] at hi hj
    rcases Nat.lt_or_ge i l.length with hi' | hi' <;> rcases Nat.lt_or_ge j l.length with hj' | hj'
    · simp only [hi', hj', if_true] at bi bj; exact f4 i j b hi' hj' bi bj
    · simp only [hi', if_true] at bi
      simp only [show ¬ j < l.length by omega, if_false] at bj
      have := (f3 i b hi' bi).2.1; omega
    · simp only [hj', if_true] at bj
      simp only [show ¬ i < l.length by omega, if_false] at bi
      have := (f3 j b hj' bj).2.1; omega
    · omega

/-- What the loop has built is a slice of trees. -/
theorem Forest.kidsO {w : World} {B : Nat} {e : TypeId} {out : Value} {l : List (Tree × Value)} (h : Forest w B e out l) : KidsO w out (l.map (·.1)) fun b => B ≤ b ∧ b < w.heap.size := by
  obtain ⟨h00, Fs, f2, f3, f4⟩ := h
  rcases h00.2 with ⟨rfl, h0⟩ | ⟨g, cap, cur, rfl, e2, e3, e4⟩
  · rw [List.length_eq_zero_iff.1 h0]
    exact KidsO.nil w none 0 _
  · have hl : (l.map (·.1)).length = l.length := by simp
    have hm : ∀ i t, (l.map (·.1))[i]? = some t → ∃ kv, l[i]? = some (t, kv) := fun i t ht => by
      rw [List.getElem?_map] at ht
      cases hx : l[i]? with
      | none => rw [hx] at ht; cases ht
      | some x => rw [hx] at ht; obtain ⟨a, b⟩ := x; cases ht; exact ⟨b, hx⟩
    have := KidsO.mk (w := w) (some ⟨g, 0, none⟩) cap (l.map (·.1)) (fun b => B ≤ b ∧ b < w.heap.size) g (fun i => (l.getD i (.mk 0 ⟨#[]⟩ 0 0 [], .nilFunc)).2) Fs (by rw [List.length_map]; exact e4.1) (fun _ => ⟨rfl, e2, (Array.getElem?_eq_some_iff.1 e3).1⟩)
      (fun i t ht => ?_) (fun i t ht j hj => ?_) (fun i t ht => ?_) (fun i b hi hb => ?_) (fun i j b hi hj => f4 i j b (by omega) (by omega))
    · rwa [hl] at this
    · obtain ⟨kv, hx⟩ := hm i t ht
      rw [List.getD_eq_getElem?_getD, hx]
      exact (ownsRow_nodeAt h00 hx).1
    · obtain ⟨kv, hx⟩ := hm i t ht
      exact (ownsRow_nodeAt h00 hx).2 j hj
    · obtain ⟨kv, hx⟩ := hm i t ht
      rw [List.getD_eq_getElem?_getD, hx]
      exact f2 i _ hx
    · obtain ⟨a1, a2, a3⟩ := f3 i b (by omega) hb
      exact ⟨⟨a1, a2⟩, fun e => a3 (by rw [e]; rfl)⟩

end Go.Proofs.YtlbaaiglebpjiaaGreatDoor
/-
  each, Count, Levels.
-/


namespace Go.Proofs.YtlbaaiglebpjiaaGreatDoor
open Go.RowKit Go.Shelf Go.Lib

/-- Blocks from K on that lay are as they were. -/
structure Kept (K : Nat) (w w' : World) : Prop where
  size : w.heap.size ≤ w'.heap.size
  block : ∀ k, K ≤ k → k < w.heap.size → w'.heap[k]? = w.heap[k]?

theorem Kept.refl (K : Nat) (w : World) : Kept K w w := ⟨Nat.le_refl _, fun _ _ _ => rfl⟩
theorem Kept.trans {K : Nat} {a b c : World} (h : Kept K a b) (k : Kept K b c) : Kept K a c :=
  ⟨Nat.le_trans h.size k.size, fun i h1 h2 => (k.block i h1 (Nat.lt_of_lt_of_le h2 h.size)).trans (h.block i h1 h2)⟩
theorem Kept.of_below {K : Nat} {a b : World} (h : Below a.heap.size a b) : Kept K a b := ⟨h.size, fun i _ h2 => h.block i h2⟩
theorem Kept.mono {K K' : Nat} {a b : World} (h : Kept K a b) (hK : K ≤ K') : Kept K' a b := ⟨h.size, fun i h1 h2 => h.block i (Nat.le_trans hK h1) h2⟩
theorem Kept.cell {K : Nat} {a b : World} (h : Kept K a b) {p : Addr} (h1 : K ≤ p.block) (h2 : p.block < a.heap.size) : b.cell? p = a.cell? p := World.cell?_of_block (h.block _ h1 h2)

theorem nodes_prefix {pre L : List Tree} {t : Tree} (h : (pre ++ t.nodes) <+: L) : (pre ++ [t]) <+: L := by
  refine List.IsPrefix.trans ⟨Tree.nodesL t.kids, ?_⟩ h
  rw [Tree.nodes_eq, List.append_assoc]; rfl

theorem nodes_step {pre L : List Tree} {t x : Tree} {k : Nat} (h : (pre ++ t.nodes) <+: L) (hx : t.kids[k]? = some x) : ((pre ++ t :: Tree.nodesL (t.kids.take k)) ++ x.nodes) <+: L := by
  refine List.IsPrefix.trans ⟨Tree.nodesL (t.kids.drop (k + 1)), ?_⟩ h
  rw [Tree.nodes_eq t, List.append_assoc, List.append_assoc]
  congr 1
  rw [List.cons_append, ← List.append_assoc, ← Tree.nodesL_take hx, ← Tree.nodesL_append, List.take_append_drop]

theorem nodes_more {pre : List Tree} {t x : Tree} {k : Nat} (hx : t.kids[k]? = some x) : (pre ++ t :: Tree.nodesL (t.kids.take k)) ++ x.nodes = pre ++ t :: Tree.nodesL (t.kids.take (k + 1)) := by
  rw [Tree.nodesL_take hx, List.append_assoc]; rfl

theorem nodes_len {pre L : List Tree} {t : Tree} (h : (pre ++ t.nodes) <+: L) : t.kids.length ≤ L.length := by
  have h1 := h.length_le
  rw [List.length_append, Tree.nodes_eq, List.length_cons] at h1
  have h2 := Tree.length_le_countL t.kids
  unfold Tree.countL at h2
  omega

theorem nodes_all {pre : List Tree} {t : Tree} : pre ++ t :: Tree.nodesL (t.kids.take t.kids.length) = pre ++ t.nodes := by
  rw [List.take_length, Tree.nodes_eq]

set_option maxRecDepth 100000 in
set_option maxHeartbeats 3200000 in
theorem each_any {gf : Nat} {lb : Array Value} (eg : ∀ args w, (callFunc gf args).run Tryz.prog w = .ok (.enter gf args) w) {K : Nat} {w0 : World} {L : List Tree} (hL : L.length ≤ 4611686018427387904) {J : List Tree → World → Prop}
    (hJ : ∀ s W, J s W → Below w0.heap.size w0 W ∧ K ≤ W.heap.size) (hA : ∀ s W W', J s W → Below W.heap.size W W' → J s W')
    (hv : ∀ s x kv W, J s W → KidsV w0 kv x.kids → (s ++ [x]) <+: L → Calls Tryz.prog gf (#[nodeV x kv] ++ lb) W fun e W' => (∃ v, e = .returned v) ∧ J (s ++ [x]) W' ∧ Kept K W W') (t : Tree) :
    ∀ kv pre W, J pre W → KidsV w0 kv t.kids → (pre ++ t.nodes) <+: L →
      Calls Tryz.prog 56 #[nodeV t kv, .func (.func gf) #[] lb] W fun e W' => (∃ v, e = .returned v) ∧ J (pre ++ t.nodes) W' ∧ Kept K W W' := by
  refine Tree.induct (P := fun t => ∀ kv pre W, J pre W → KidsV w0 kv t.kids → (pre ++ t.nodes) <+: L →
      Calls Tryz.prog 56 #[nodeV t kv, .func (.func gf) #[] lb] W fun e W' => (∃ v, e = .returned v) ∧ J (pre ++ t.nodes) W' ∧ Kept K W W') (fun t ih => ?_) t
  intro kv pre W hj hk hp
  have hvis := fun W1 (h : J pre W1) => hv pre t kv W1 h hk (nodes_prefix hp)
  obtain ⟨p, cap, g, o, rfl, hpp, hat⟩ := hk.open
  have HK := hidden hk
  have HP := hidden hp
  have HAT := hidden hat
  have HPP := hidden hpp
  have hKW := (hJ _ _ hj).2
  have hlb : t.kids.length ≤ 4611686018427387904 := Nat.le_trans (nodes_len hp) hL
  have hbox : ∀ W2, Kept K (W.alloc (.cells #[.int .i64 t.kind, .string t.text, .int .i64 t.at_, .int .i64 t.end_, .slice p t.kids.length cap] 24)) W2 → W2.cell? ⟨W.heap.size, 4, none⟩ = some (.slice p t.kids.length cap) := by
    intro W2 h
    rw [h.cell (p := ⟨W.heap.size, 4, none⟩) hKW (by simp)]
    simp [go_sem]
  have hb1 : ∀ o, J pre (W.alloc o) := fun o => hA _ _ _ hj ((Below.refl _ _).alloc (Nat.le_refl _) _)
  clear hk hp hat hpp hv
  simp only [nodeV] at hvis ⊢
  go_enter Tryz.func56, Tryz.ntmps56
  go_wp2_with (go_at_fn gf; (with_reducible refine (hvis _ (hb1 _)).mono ?_); rintro e W2 ⟨⟨v, rfl⟩, hj2, hk2⟩; have hbx := hbox _ hk2)
  have hk3 : Kept K W W2 := (Kept.of_below ((Below.refl _ _).alloc (Nat.le_refl _) _)).trans hk2
  clear hk2 hbox hvis hb1 hj
  go_loopw [12] (fun i wr => ∃ k : Nat, k ≤ t.kids.length ∧ i = .int .i64 k ∧ Hid (J (pre ++ t :: Tree.nodesL (t.kids.take k)) wr ∧ Kept K W wr)) (fun i _ => t.kids.length - (intOf i).toNat)
  case atStart => exact ⟨0, Nat.zero_le _, rfl, by rw [List.take_zero, Tree.nodesL]; exact hj2, hk3⟩
  case round =>
    obtain ⟨k, hk, rfl, hh⟩ := hrel
    clear hj2 hk3
    by_cases hlt : k < t.kids.length
    · have hx : t.kids[k]? = some t.kids[k] := List.getElem?_eq_getElem hlt
      generalize t.kids[k] = x at hx
      obtain ⟨rfl, hg⟩ := HPP.out (fun h => by rw [h] at hlt; exact absurd hlt (Nat.not_lt_zero _))
      obtain ⟨kv', hn, hkv⟩ := HAT.out k x hx
      obtain ⟨p2, cap2, _, _, rfl, _, _⟩ := hkv.open
      have hn2 := hn.of_block ((hJ _ _ hh.out.1).1.block g hg)
      have c0 := hn2.c0
      have c1 := hn2.c1
      have c2 := hn2.c2
      have c3 := hn2.c3
      have c4 := hn2.c4
      have hltz : (k : Int) < (t.kids.length : Int) := by omega
      have hrec : ∀ W', Below wr.heap.size wr W' → Calls Tryz.prog 56 #[.agg #[.int .i64 x.kind, .string x.text, .int .i64 x.at_, .int .i64 x.end_, .slice p2 x.kids.length cap2], .func (.func gf) #[] lb] W' fun e W' => (∃ v, e = .returned v) ∧ J (pre ++ t :: Tree.nodesL (t.kids.take (k + 1))) W' ∧ Kept K wr W' := by
        intro W' hb
        refine (ih x (List.mem_of_getElem? hx) _ _ W' (hA _ _ _ hh.out.1 hb) hkv (nodes_step HP.out hx)).mono ?_
        rintro e W3 ⟨h1, h2, h3⟩
        rw [nodes_more hx] at h2
        exact ⟨h1, h2, (Kept.of_below hb).trans h3⟩
      clear hn hn2 hkv hx ih
      go_wp2_with (go_at_call 56; (with_reducible refine (hrec _ (by repeat (first | exact Below.refl _ _ | refine Below.setCell ?_ (by first | exact Nat.le_refl _ | (simp; done) | (simp; omega)) _ | refine Below.alloc ?_ (by first | exact Nat.le_refl _ | (simp; done) | (simp; omega)) _))).mono ?_); rintro e W3 ⟨⟨v, rfl⟩, hj3, hk3⟩)
      go_roundw
      case rel => exact ⟨k + 1, by omega, by go_num, hj3, hh.out.2.trans hk3⟩
      case measure => simp [intOf]; omega
    · obtain rfl : k = t.kids.length := by omega
      go_wp2_with fail
      go_end0
      exact ⟨⟨_, rfl⟩, by rw [← nodes_all]; exact hh.out.1, hh.out.2⟩

set_option maxRecDepth 100000 in
set_option maxHeartbeats 3200000 in
/-- The closure of Count. -/
theorem countOne_any (x : Tree) (kv : Value) (b n : Nat) (hn : n < 4611686018427387904) (w : World) (hc : w.cell? ⟨b, 0, none⟩ = some (.int .i64 n)) (hf : w.frozen? ⟨b, 0, none⟩ = false) :
    Calls Tryz.prog 57 #[nodeV x kv, .pointer (some ⟨b, 0, none⟩)] w fun e w' => (∃ v, e = .returned v) ∧ w'.cell? ⟨b, 0, none⟩ = some (.int .i64 ((n + 1 : Nat) : Int)) ∧ w'.frozen? ⟨b, 0, none⟩ = false ∧ Below b w w' ∧ Kept (b + 1) w w' := by
  have hb : b < w.heap.size := World.block_lt_of_cell? w _ hc
  have hne : b ≠ w.heap.size := by omega
  simp only [nodeV]
  go_enter Tryz.func57, Tryz.ntmps57
  go_wp2_with fail
  go_end0
  refine ⟨⟨_, rfl⟩, by simp [go_sem, hc, hb], by simp [go_sem, hf, hb], ?_, ⟨by simp [World.setCell], fun k h1 h2 => ?_⟩⟩
  · repeat (first | exact Below.refl _ _ | refine Below.setCell ?_ (by first | exact Nat.le_refl _ | (simp; done) | (simp; omega)) _ | refine Below.alloc ?_ (by simp [World.setCell]; omega) _)
  rw [Below.heap_alloc _ _ _ (by simpa [World.setCell] using h2), Below.heap_setCell _ _ _ _ (by show k ≠ b; omega)]

/-- What Count's loop keeps. -/
def CountJ (w0 : World) (b : Nat) (s : List Tree) (W : World) : Prop := Below w0.heap.size w0 W ∧ b + 1 ≤ W.heap.size ∧ w0.heap.size ≤ b ∧ W.cell? ⟨b, 0, none⟩ = some (.int .i64 s.length) ∧ W.frozen? ⟨b, 0, none⟩ = false

theorem CountJ.mk {w0 : World} {b : Nat} {s : List Tree} {W : World} (h1 : Below w0.heap.size w0 W) (h2 : b + 1 ≤ W.heap.size) (h3 : w0.heap.size ≤ b) (h4 : W.cell? ⟨b, 0, none⟩ = some (.int .i64 s.length)) (h5 : W.frozen? ⟨b, 0, none⟩ = false) : CountJ w0 b s W := ⟨h1, h2, h3, h4, h5⟩
theorem CountJ.later {w0 : World} {b : Nat} {s : List Tree} {W W' : World} (h : CountJ w0 b s W) (hb : Below W.heap.size W W') : CountJ w0 b s W' := by
  obtain ⟨h1, h2, h3, h4, h5⟩ := h
  exact ⟨bt h1 hb, Nat.le_trans h2 hb.size, h3, (hb.cell (p := ⟨b, 0, none⟩) h2).trans h4, (hb.frozen (p := ⟨b, 0, none⟩) h2).trans h5⟩

set_option maxRecDepth 100000 in
set_option maxHeartbeats 3200000 in
theorem count_any (t : Tree) (kv : Value) (w : World) (hk : KidsV w kv t.kids) (ht : t.count ≤ 4611686018427387904) :
    Calls Tryz.prog 23 #[nodeV t kv] w fun e w' => e = .returned (.int .i64 t.count) ∧ Below w.heap.size w w' := by
  have hmf : ∀ (fn : Fn) (first cap : Array Value) (w : World), (Instr.makeFunc fn first cap).run Tryz.prog w = .ok (.func fn first cap) w := fun _ _ _ _ => rfl
  have eg := enters_of Tryz.func57 (by kernel_rfl) rfl
  have hE : ∀ b W, CountJ w b [] W → Calls Tryz.prog 56 #[nodeV t kv, .func (.func 57) #[] #[.pointer (some ⟨b, 0, none⟩)]] W fun e W' => (∃ v, e = .returned v) ∧ CountJ w b t.nodes W' := by
    intro b W hj
    refine (each_any (gf := 57) eg (K := b + 1) (w0 := w) (L := t.nodes) (by unfold Tree.count at ht; exact ht) (J := CountJ w b) (fun s W h => ⟨h.1, h.2.1⟩) (fun s W W' h hb => h.later hb) ?_ t kv [] W hj hk (by rw [List.nil_append]; exact List.prefix_refl _)).mono ?_
    · rintro s x kv' W1 ⟨h1, h2, h3, h4, h5⟩ _ hpre
      have hl := hpre.length_le
      rw [List.length_append, List.length_singleton] at hl
      have hl2 : s.length < 4611686018427387904 := by unfold Tree.count at ht; omega
      refine (countOne_any x kv' b s.length hl2 W1 h4 h5).mono ?_
      rintro e W2 ⟨a1, a2, a3, a4, a5⟩
      exact ⟨a1, ⟨h1.trans (a4.mono h3), Nat.le_trans h2 a5.size, h3, by rw [List.length_append, List.length_singleton]; exact a2, a3⟩, a5⟩
    · rintro e W2 ⟨a1, a2, _⟩
      rw [List.nil_append] at a2
      exact ⟨a1, a2⟩
  clear eg
  have HL : Hid ((t.nodes.length : Int) = (t.count : Int)) := rfl
  simp only [nodeV] at hE ⊢
  go_enter Tryz.func23, Tryz.ntmps23
  go_wp2_with (go_at_call 56; (with_reducible refine (hE (w.heap.size + 1) _ (CountJ.mk (by repeat (first | exact Below.refl _ _ | refine Below.setCell ?_ (by first | exact Nat.le_refl _ | (simp; done) | (simp; omega)) _ | refine Below.alloc ?_ (by first | exact Nat.le_refl _ | (simp; done) | (simp; omega)) _)) (by simp) (by simp) (by simp [go_sem]) (by simp [go_sem]))).mono ?_); rintro e W2 ⟨⟨v, rfl⟩, hB, hz1, hz2, hc, hf⟩)
  go_ret
  exact ⟨by first | rfl | (rw [HL.out]; rfl) | (rw [← HL.out]; rfl), hB⟩

set_option maxRecDepth 100000 in
set_option maxHeartbeats 3200000 in
theorem levels_any (t : Tree) : ∀ (kv : Value) (w : World), KidsV w kv t.kids → t.count ≤ 4611686018427387904 →
    Calls Tryz.prog 25 #[nodeV t kv] w fun e w' => e = .returned (.int .i64 t.levels) ∧ Below w.heap.size w w' := by
  refine Tree.induct (P := fun t => ∀ (kv : Value) (w : World), KidsV w kv t.kids → t.count ≤ 4611686018427387904 →
    Calls Tryz.prog 25 #[nodeV t kv] w fun e w' => e = .returned (.int .i64 t.levels) ∧ Below w.heap.size w w') (fun t ih => ?_) t
  intro kv w hk hle
  obtain ⟨p, cap, g, o, rfl, hpp, hat⟩ := hk.open
  have HAT := hidden hat
  have HPP := hidden hpp
  have HE := hidden (Tree.levels_eq t)
  have HL : Hid (Tree.levelsL t.kids < 4611686018427387904 ∧ Tree.countL t.kids < 4611686018427387904) := by have := Tree.levels_eq t; have := Tree.levels_le_count t; have := Tree.count_eq t; exact ⟨by omega, by omega⟩
  have hlb : t.kids.length < 4611686018427387904 := Nat.lt_of_le_of_lt (Tree.length_le_countL _) HL.out.2
  clear hk hat hpp hle
  generalize t.levels = lv at *
  simp only [nodeV]
  go_enter Tryz.func25, Tryz.ntmps25
  go_wp2_with fail
  have hB0 : Below w.heap.size w (w.alloc (.cells #[.int .i64 t.kind, .string t.text, .int .i64 t.at_, .int .i64 t.end_, .slice p t.kids.length cap] 24)) := (Below.refl _ _).alloc (Nat.le_refl _) _
  go_loopw [3, 9] (fun m i wr => ∃ k : Nat, k ≤ t.kids.length ∧ i = .int .i64 k ∧ ∃ lk : Nat, m = .int .i64 lk ∧ Hid (lk = Tree.levelsL (t.kids.take k) ∧ Below w.heap.size w wr)) (fun _ i _ => t.kids.length - (intOf i).toNat)
  case atStart => exact ⟨0, Nat.zero_le _, rfl, 0, rfl, by rw [List.take_zero, Tree.levelsL], hB0⟩
  case round =>
    obtain ⟨k, hk, rfl, lk, rfl, hh⟩ := hrel
    clear hB0
    by_cases hlt : k < t.kids.length
    · have hx : t.kids[k]? = some t.kids[k] := List.getElem?_eq_getElem hlt
      generalize t.kids[k] = x at hx
      obtain ⟨rfl, hg⟩ := HPP.out (fun h => by rw [h] at hlt; exact absurd hlt (Nat.not_lt_zero _))
      obtain ⟨kv', hn, hkv⟩ := HAT.out k x hx
      obtain ⟨p2, cap2, _, _, rfl, _, _⟩ := hkv.open
      have hB := hh.out.2
      have hn2 := hn.of_block (hB.block g hg)
      have c0 := hn2.c0
      have c1 := hn2.c1
      have c2 := hn2.c2
      have c3 := hn2.c3
      have c4 := hn2.c4
      have hltz : (k : Int) < (t.kids.length : Int) := by omega
      have hkv2 := hkv.later hB
      have hmx := Tree.levelsL_take hx
      have hbd : Tree.levelsL (t.kids.take (k + 1)) ≤ Tree.levelsL t.kids := by
        have := Tree.levelsL_append (t.kids.take (k + 1)) (t.kids.drop (k + 1))
        rw [List.take_append_drop] at this; omega
      have hlx : x.count ≤ 4611686018427387904 := by have := HL.out.2; have := Tree.count_kid hx; omega
      have hrec : ∀ W', Below wr.heap.size wr W' → Calls Tryz.prog 25 #[.agg #[.int .i64 x.kind, .string x.text, .int .i64 x.at_, .int .i64 x.end_, .slice p2 x.kids.length cap2]] W' fun e w' => e = .returned (.int .i64 x.levels) ∧ Below W'.heap.size W' w' :=
        fun W' hb => ih x (List.mem_of_getElem? hx) _ W' (hkv2.later hb) hlx
      have HM : Hid (max lk x.levels = Tree.levelsL (t.kids.take (k + 1))) := by show _ = _; rw [hmx, hh.out.1]
      have hmi : ((max lk x.levels : Nat) : Int) = max (lk : Int) (x.levels : Int) := by omega
      have HMI := hidden hmi
      have HB := hidden hB
      clear hn hn2 hkv hkv2 hx ih hmx hbd hlx hB hmi
      generalize x.levels = lx at *
      go_wp2_with (go_at_call 25; (with_reducible refine (hrec _ (by repeat (first | exact Below.refl _ _ | refine Below.setCell ?_ (by first | exact Nat.le_refl _ | (simp; done) | (simp; omega)) _ | refine Below.alloc ?_ (by first | exact Nat.le_refl _ | (simp; done) | (simp; omega)) _))).mono ?_); rintro e W3 ⟨rfl, hb3⟩)
      go_roundw
      case rel => exact ⟨k + 1, by omega, by go_num, max lk lx, by rw [HMI.out], HM.out, bt HB.out ((Below.mono (by repeat (first | exact Below.refl _ _ | refine Below.setCell ?_ (by first | exact Nat.le_refl _ | (simp; done) | (simp; omega)) _ | refine Below.alloc ?_ (by first | exact Nat.le_refl _ | (simp; done) | (simp; omega)) _)) (Nat.le_refl _)).trans (hb3.mono (by simp)))⟩
      case measure => simp [intOf]; omega
    · obtain rfl : k = t.kids.length := by omega
      have hlk : lk + 1 = lv := by have := HE.out; have := hh.out.1; rw [List.take_length] at this; omega
      have HLK := hidden hlk
      have hlb : lk < 4611686018427387904 := by have := HL.out.1; have := hh.out.1; rw [List.take_length] at this; omega
      clear hlk
      go_wp2_with fail
      go_ret
      exact ⟨by rw [← HLK.out]; go_num, hh.out.2⟩

end Go.Proofs.YtlbaaiglebpjiaaGreatDoor
/-
  changed, with its two closures; Strip, duplicate.
-/


namespace Go.Proofs.YtlbaaiglebpjiaaGreatDoor
open Go.RowKit Go.Shelf Go.Lib

namespace Tree
mutual
def mapT (f : Tree → Tree) : Tree → Tree
  | .mk k s a e ts => f (.mk k s a e (mapL f ts))
def mapL (f : Tree → Tree) : List Tree → List Tree
  | [] => []
  | t :: ts => mapT f t :: mapL f ts
end
theorem mapL_eq (f : Tree → Tree) (ts : List Tree) : mapL f ts = ts.map (mapT f) := by
  induction ts with
  | nil => rw [mapL]; rfl
  | cons t ts ih => rw [mapL, ih]; rfl
theorem mapT_eq (f : Tree → Tree) (t : Tree) : mapT f t = f (.mk t.kind t.text t.at_ t.end_ (mapL f t.kids)) := by cases t; rw [mapT]; rfl
theorem mapL_take {f : Tree → Tree} {ts : List Tree} {k : Nat} {x : Tree} (h : ts[k]? = some x) : mapL f (ts.take (k + 1)) = mapL f (ts.take k) ++ [mapT f x] := by
  rw [mapL_eq, mapL_eq, List.take_add_one, h, List.map_append]; rfl
theorem mapT_kids {f : Tree → Tree} (hf : ∀ x, (f x).kids = x.kids) (t : Tree) : (mapT f t).kids = mapL f t.kids := by rw [mapT_eq, hf]; rfl
theorem mapT_id (t : Tree) : mapT (fun x => x) t = t := by
  refine induct (P := fun t => mapT (fun x => x) t = t) (fun t ih => ?_) t
  rw [mapT_eq, mapL_eq]
  have : t.kids.map (mapT fun x => x) = t.kids := by
    conv => rhs; rw [← List.map_id t.kids]
    exact List.map_congr_left fun x hx => ih x hx
  rw [this, ← eta]
/-- A node without places. -/
def bare (t : Tree) : Tree := .mk t.kind t.text 0 0 t.kids
theorem bare_kids (t : Tree) : (bare t).kids = t.kids := rfl
theorem mapT_bare (t : Tree) : mapT bare t = strip t := by
  refine induct (P := fun t => mapT bare t = strip t) (fun t ih => ?_) t
  rw [mapT_eq, mapL_eq]
  obtain ⟨k, s, a, e, ts⟩ := t
  rw [strip, stripL_eq]
  show Tree.mk k s 0 0 (ts.map (mapT bare)) = _
  congr 1
  exact List.map_congr_left fun x hx => ih x hx
end Tree

theorem infoNode : (Tryz.prog.info? 24).map (fun i => (i.zero, i.size, i.bytes)) = some (some (.agg #[.int .i64 0, .string ⟨#[]⟩, .int .i64 0, .int .i64 0, .slice none 0 0]), 5, 64) := by kernel_rfl

theorem nodeC_new (w : World) (k a e : Int) (s : ByteArray) (kv : Value) (t : TypeId) : ∀ j u, [Value.int .i64 k, .string s, .int .i64 a, .int .i64 e, kv][j]? = some u → (w.alloc (.cells #[.int .i64 k, .string s, .int .i64 a, .int .i64 e, kv] t)).cell? ((⟨w.heap.size, 0, none⟩ : Addr).add j) = some u := by
  intro j u hj
  rcases j with _ | _ | _ | _ | _ | j
  · simp at hj; subst hj; simp [Addr.add]
  · simp at hj; subst hj; simp [Addr.add]
  · simp at hj; subst hj; simp [Addr.add]
  · simp at hj; subst hj; simp [Addr.add]
  · simp at hj; subst hj; simp [Addr.add]
  · simp at hj

/-- A node lies in a variable of its own. -/
def NodeOwn (w : World) (b : Nat) (t : Tree) (kv : Value) : Prop := NodeAt w b 0 t kv ∧ ∀ j, j < 5 → w.frozen? ⟨b, j, none⟩ = false

theorem NodeOwn.of_block {w w' : World} {b : Nat} {t : Tree} {kv : Value} (h : NodeOwn w b t kv) (hb : w'.heap[b]? = w.heap[b]?) : NodeOwn w' b t kv :=
  ⟨h.1.of_block hb, fun j hj => by rw [World.frozen?_of_block (a := ⟨b, j, none⟩) hb]; exact h.2 j hj⟩

/-- What is asked of a change of one node. -/
def Changes (P : Program) (gf : Nat) (f : Tree → Tree) : Prop :=
  ∀ (x : Tree) (kv : Value) (b : Nat) (W : World), NodeOwn W b x kv → Calls P gf #[.pointer (some ⟨b, 0, none⟩)] W fun e W' => (∃ v, e = .returned v) ∧ NodeOwn W' b (f x) kv ∧ Below b W W' ∧ Kept (b + 1) W W'

set_option maxRecDepth 100000 in
set_option maxHeartbeats 1600000 in
theorem strip1_changes : Changes Tryz.prog 59 Tree.bare := by
  rintro x kv b W ⟨⟨c0, c1, c2, c3, c4⟩, hz⟩
  have z2 := hz 2 (by omega)
  have z3 := hz 3 (by omega)
  have hb : b < W.heap.size := World.block_lt_of_cell? W _ c0
  have HZ := hidden hz
  clear hz
  simp only [Nat.zero_add] at c1 c2 c3 c4
  go_enter Tryz.func59, Tryz.ntmps59
  go_wp2_with fail
  go_end0
  refine ⟨⟨_, rfl⟩, ⟨⟨by simp [go_sem, c0, Tree.bare, Tree.kind], by simp [go_sem, c1, Tree.bare, Tree.text], by simp [go_sem, c2, Tree.bare, Tree.at_], by simp [go_sem, c3, Tree.bare, Tree.end_], by simp [go_sem, c4]⟩, fun j hj => ?_⟩, ?_, ⟨by simp [World.setCell], fun k h1 h2 => ?_⟩⟩
  · have := HZ.out j hj
    simp [go_sem, this]
  · repeat (first | exact Below.refl _ _ | refine Below.setCell ?_ (by first | exact Nat.le_refl _ | (simp; done)) _)
  · rw [Below.heap_setCell _ _ _ _ (by show k ≠ b; omega), Below.heap_setCell _ _ _ _ (by show k ≠ b; omega)]

set_option maxRecDepth 100000 in
theorem duplicate1_changes : Changes Tryz.prog 72 fun x => x := by
  rintro x kv b W hn
  go_enter Tryz.func72, Tryz.ntmps72
  go_wp2_with fail
  go_end0
  exact ⟨⟨_, rfl⟩, hn, Below.refl _ _, Kept.refl _ _⟩

set_option maxRecDepth 100000 in
set_option maxHeartbeats 6400000 in
theorem changed_any {gf : Nat} (eg : ∀ args w, (callFunc gf args).run Tryz.prog w = .ok (.enter gf args) w) {f : Tree → Tree} (hf : ∀ x, (f x).kids = x.kids) (hv : Changes Tryz.prog gf f) (t : Tree) :
    ∀ (kv : Value) (w : World), KidsV w kv t.kids → t.count ≤ 4194304 →
      Calls Tryz.prog 58 #[nodeV t kv, .func (.func gf) #[] #[]] w fun e w' => ∃ p n c, e = .returned (nodeV (Tree.mapT f t) (.slice p n c)) ∧
        KidsO w' (.slice p n c) (Tree.mapT f t).kids (fun b => w.heap.size ≤ b ∧ b < w'.heap.size) ∧ Below w.heap.size w w' := by
  refine Tree.induct (P := fun t => ∀ (kv : Value) (w : World), KidsV w kv t.kids → t.count ≤ 4194304 →
      Calls Tryz.prog 58 #[nodeV t kv, .func (.func gf) #[] #[]] w fun e w' => ∃ p n c, e = .returned (nodeV (Tree.mapT f t) (.slice p n c)) ∧
        KidsO w' (.slice p n c) (Tree.mapT f t).kids (fun b => w.heap.size ≤ b ∧ b < w'.heap.size) ∧ Below w.heap.size w w') (fun t ih => ?_) t
  intro kv w hk hct
  obtain ⟨i0, hi, hz0, hz1, hz2⟩ := info_parts infoNode
  obtain ⟨p, cap, g, o, rfl, hpp, hat⟩ := hk.open
  have HAT := hidden hat
  have HPP := hidden hpp
  have HC : Hid (Tree.countL t.kids < 4194304) := by have := Tree.count_eq t; show _ < _; omega
  have hlen : t.kids.length < 4194304 := Nat.lt_of_le_of_lt (Tree.length_le_countL _) HC.out
  clear hk hat hpp hct
  simp only [nodeV]
  go_enter Tryz.func58, Tryz.ntmps58
  go_wp2_with fail
  obtain ⟨w2, hw2⟩ : ∃ w2, w2 = (w.alloc (.cells #[.int .i64 t.kind, .string t.text, .int .i64 t.at_, .int .i64 t.end_, .slice p t.kids.length cap] 24)).alloc (.cells #[.int .i64 0, .string ⟨#[]⟩, .int .i64 0, .int .i64 0, .slice none 0 0] 24) := ⟨_, rfl⟩
  have hs2 : w2.heap.size = w.heap.size + 2 := by rw [hw2]; simp
  have hB2 : Below w.heap.size w w2 := by rw [hw2]; exact ((Below.refl _ _).alloc (Nat.le_refl _) _).alloc (by simp) _
  have ha : NodeOwn w2 w.heap.size t (.slice p t.kids.length cap) := by
    refine ⟨⟨by simp [hw2, go_sem], by simp [hw2, go_sem], by simp [hw2, go_sem], by simp [hw2, go_sem], by simp [hw2, go_sem]⟩, fun j hj => ?_⟩
    simp [hw2, go_sem]
  have hr : NodeOwn w2 (w.heap.size + 1) (.mk 0 ⟨#[]⟩ 0 0 []) (.slice none 0 0) := by
    refine ⟨⟨by simp [hw2, go_sem, Tree.kind], by simp [hw2, go_sem, Tree.text], by simp [hw2, go_sem, Tree.at_], by simp [hw2, go_sem, Tree.end_], by simp [hw2, go_sem]⟩, fun j hj => ?_⟩
    simp [hw2, go_sem]
  rw [← hw2]
  clear hw2
  have HS2 := hidden hs2
  clear hs2
  go_loopw [5, 11] (fun out i wr => ∃ k : Nat, k ≤ t.kids.length ∧ i = .int .i64 k ∧ Hid (∃ l, Forest wr (w.heap.size + 2) 24 out l ∧ l.map (·.1) = Tree.mapL f (t.kids.take k) ∧ l.length = k ∧ Below (w.heap.size + 2) w2 wr)) (fun _ i _ => t.kids.length - (intOf i).toNat)
  case atStart => exact ⟨0, Nat.zero_le _, rfl, [], Forest.nil _ _ _, by rw [List.take_zero, Tree.mapL]; rfl, rfl, Below.refl _ _⟩
  case round =>
    obtain ⟨k, hk, rfl, hh⟩ := hrel
    by_cases hlt : k < t.kids.length
    · have hx : t.kids[k]? = some t.kids[k] := List.getElem?_eq_getElem hlt
      generalize t.kids[k] = x at hx
      obtain ⟨rfl, hg⟩ := HPP.out (fun h => by rw [h] at hlt; exact absurd hlt (Nat.not_lt_zero _))
      obtain ⟨kv', hn, hkv⟩ := HAT.out k x hx
      obtain ⟨p2, cap2, _, _, rfl, _, _⟩ := hkv.open
      obtain ⟨l, hF, hl1, hl2, hB⟩ := hh.out
      have hzr : w.heap.size + 2 ≤ wr.heap.size := by have := hB.size; have := HS2.out; omega
      have hBw : Below w.heap.size w wr := hB2.trans (hB.mono (by omega))
      have hn2 := hn.of_block (hBw.block g hg)
      have c0 := hn2.c0
      have c1 := hn2.c1
      have c2 := hn2.c2
      have c3 := hn2.c3
      have c4 := hn2.c4
      have hltz : (k : Int) < (t.kids.length : Int) := by omega
      have hkv2 := hkv.later hBw
      have hcx : x.count ≤ 4194304 := by have := Tree.count_kid hx; have := HC.out; omega
      obtain ⟨y, hy⟩ : ∃ y, Tree.mapT f x = y := ⟨_, rfl⟩
      have hrec : ∀ W', Below wr.heap.size wr W' → Calls Tryz.prog 58 #[.agg #[.int .i64 x.kind, .string x.text, .int .i64 x.at_, .int .i64 x.end_, .slice p2 x.kids.length cap2], .func (.func gf) #[] #[]] W' fun e w3 =>
          ∃ p n c, e = .returned (.agg #[.int .i64 y.kind, .string y.text, .int .i64 y.at_, .int .i64 y.end_, .slice p n c]) ∧ w3.ownsRow (w.heap.size + 2) 24 5 u5 k (forestC l) ∧ Below wr.heap.size wr w3 ∧
            Hid (∀ w5 out', w5.ownsRow (w.heap.size + 2) 24 5 out' (k + 1) (forestC l ++ nodeC y (.slice p n c)) → (w3.alloc (.cells #[.int .i64 y.kind, .string y.text, .int .i64 y.at_, .int .i64 y.end_, .slice p n c] 24)).grownBy w5 u5.ownBlock →
              (out'.ownBlock = u5.ownBlock ∨ out'.ownBlock = some (w3.heap.size + 1)) → Forest w5 (w.heap.size + 2) 24 out' (l ++ [(y, .slice p n c)]) ∧ Below (w.heap.size + 2) w2 w5) := by
        intro W' hb
        refine (ih x (List.mem_of_getElem? hx) _ W' (hkv2.later hb) hcx).mono ?_
        rintro e w3 ⟨p, n, c, rfl, hO, hb3⟩
        rw [hy] at hO ⊢
        have hF' : Forest W' (w.heap.size + 2) 24 u5 l := hF.keep (fun b _ h2 => hb.block b h2) hb.size
        have hF3 : Forest w3 (w.heap.size + 2) 24 u5 l := hF'.keep (fun b _ h2 => hb3.block b h2) hb3.size
        refine ⟨p, n, c, rfl, by rw [← hl2]; exact hF3.1, bt hb hb3, fun w5 out' ho hg hn => ⟨?_, ?_⟩⟩
        · refine Forest.step hF' (by have := hb.size; omega) hb3 hO ((Below.refl _ _).alloc (Nat.le_refl _) (.cells #[.int .i64 y.kind, .string y.text, .int .i64 y.at_, .int .i64 y.end_, .slice p n c] 24)) (by rw [hl2]; exact ho) hg ?_
          rw [World.size_alloc]
          exact hn
        · have h1 := hb.size
          have h2 := hb3.size
          refine Below.grown (((hB.trans (hb.mono hzr)).trans (hb3.mono (by omega))).alloc (by omega) _) hg (by simp; omega) (fun b hb => (hF.lt b hb).1)
      have HY : Hid ((l.map (·.1)) ++ [y] = Tree.mapL f (t.kids.take (k + 1))) := by show _ = _; rw [Tree.mapL_take hx, hl1, hy]
      have HL2 := hidden hl2
      clear hn hn2 hkv hkv2 hx ih hcx hy hF hl1 hl2 hB hBw hh hB2 ha hr
      go_wp2_with (first | (go_at_call 58; go_loud (with_reducible refine (hrec _ (by repeat (first | exact Below.refl _ _ | refine Below.setCell ?_ (by first | exact Nat.le_refl _ | (simp; done) | (simp; omega)) _ | refine Below.alloc ?_ (by first | exact Nat.le_refl _ | (simp; done) | (simp; omega)) _))).mono ?_); rintro e w3 ⟨p3, n3, c3, rfl, hown3, hb3, HN3⟩) | (at_builtin; go_loud (refine wpList_append_own_at _ rfl (.tmp 15) (.tmp 19) 22 rfl (w.heap.size + 2) 24 i0 (.agg #[.int .i64 0, .string ⟨#[]⟩, .int .i64 0, .int .i64 0, .slice none 0 0]) 5 64 Tryz.underlying22 hi hz0 hz1 hz2 rfl (by decide) _ _ _ rfl (hown3.alloc _) ⟨w3.heap.size, 0, none⟩ 1 1 (nodeC y (.slice p3 n3 c3)) rfl rfl (nodeC_new _ _ _ _ _ _ _) (nodeC_one _ _ _ _) (by unfold maxLen; omega) (by omega) (by have := hb3.size; simp; omega) ?_); intro v' w5 hown5 hgrow5 _ hat5))
      obtain ⟨hF5, hB5⟩ := HN3.out w5 v' hown5 hgrow5 (by have h := hat5; rw [World.size_alloc] at h; exact h)
      have HF5 := hidden hF5
      have HB5 := hidden hB5
      clear hown3 hb3 hown5 hgrow5 hat5 hF5 hB5
      go_wp2_with fail
      go_roundw
      case rel => exact ⟨k + 1, by omega, by go_num, _, HF5.out, by rw [List.map_append]; exact HY.out, by simp [HL2.out], HB5.out⟩
      case measure => simp [intOf]; omega
    · obtain rfl : k = t.kids.length := by omega
      obtain ⟨l, hF, hl1, hl2, hB⟩ := hh.out
      rw [List.take_length] at hl1
      obtain ⟨ko, hko⟩ : ∃ p n c, u5 = .slice p n c := by
        obtain ⟨p, c, _, _, _, h, _⟩ := hF.kidsO.open
        exact ⟨p, _, c, h⟩
      obtain ⟨n0, c0', rfl⟩ := hko
      have hO := hF.kidsO
      rw [hl1] at hO
      have hn1 : NodeOwn wr w.heap.size t (.slice p t.kids.length cap) := ha.of_block (hB.block _ (by omega))
      have hn2 : NodeOwn wr (w.heap.size + 1) (.mk 0 ⟨#[]⟩ 0 0 []) (.slice none 0 0) := hr.of_block (hB.block _ (by omega))
      have hzr : w.heap.size + 2 ≤ wr.heap.size := by have := hB.size; have := HS2.out; omega
      have hBw : Below w.heap.size w wr := hB2.trans (hB.mono (by omega))
      obtain ⟨⟨a0, a1, a2, a3, a4⟩, az⟩ := hn1
      obtain ⟨t0, ht0⟩ : ∃ t0, Tree.mk t.kind t.text t.at_ t.end_ (Tree.mapL f t.kids) = t0 := ⟨_, rfl⟩
      have hset : NodeOwn (wr.setCell ⟨w.heap.size, 4, none⟩ (.slice ko n0 c0')) w.heap.size t0 (.slice ko n0 c0') := by
        subst ht0
        refine ⟨⟨by simp [go_sem, a0, Tree.kind], by simp [go_sem, Nat.zero_add, a1, Tree.text], by simp [go_sem, a2, Tree.at_], by simp [go_sem, a3, Tree.end_], by simp [go_sem, a4]⟩, fun j hj => ?_⟩
        have := az j hj
        simp [go_sem, this]
      have hch := hv t0 (.slice ko n0 c0') w.heap.size _ hset
      have z4 := az 4 (by omega)
      have hfin : ∀ w4, NodeOwn w4 w.heap.size (f t0) (.slice ko n0 c0') → Below w.heap.size (wr.setCell ⟨w.heap.size, 4, none⟩ (.slice ko n0 c0')) w4 → Kept (w.heap.size + 1) (wr.setCell ⟨w.heap.size, 4, none⟩ (.slice ko n0 c0')) w4 →
          NodeOwn w4 (w.heap.size + 1) (.mk 0 ⟨#[]⟩ 0 0 []) (.slice none 0 0) ∧ Below w.heap.size w w4 ∧ KidsO w4 (.slice ko n0 c0') (Tree.mapL f t.kids) (fun b => w.heap.size + 2 ≤ b ∧ b < w4.heap.size) := by
        intro w4 _ q1 q2
        have hq : ∀ b, w.heap.size + 1 ≤ b → b < wr.heap.size → w4.heap[b]? = wr.heap[b]? := fun b h1 h2 => (q2.block b h1 (by simpa [World.setCell] using h2)).trans (Below.heap_setCell _ _ _ _ (by show b ≠ w.heap.size; omega))
        have hsz : wr.heap.size ≤ w4.heap.size := by have := q2.size; simpa [World.setCell] using this
        refine ⟨hn2.of_block (hq _ (Nat.le_refl _) (by omega)), (hBw.setCell (Nat.le_refl _) _).trans q1, ?_⟩
        exact (hO.keep (fun b hb => hq b (by omega) hb.2)).mono (fun b hb => ⟨hb.1, by omega⟩)
      have HO : Hid (Tree.mapT f t = f t0) := by show _ = _; rw [Tree.mapT_eq, ht0]
      have HK : Hid ((f t0).kids = Tree.mapL f t.kids) := by show _ = _; rw [hf, ← ht0]; rfl
      simp only [Nat.zero_add] at a1 a2 a3 a4
      clear hF hl1 hl2 hB hO ha hr hset hh hB2 hn2 ih hv ht0 hBw
      go_wp2_with (go_at_fn gf; (with_reducible refine hch.mono ?_); rintro e w4 ⟨⟨v, rfl⟩, hn4, q1, q2⟩; obtain ⟨r1, r2, r3⟩ := hfin w4 hn4 q1 q2; have d0 := hn4.1.c0; have d1 := hn4.1.c1; have d2 := hn4.1.c2; have d3 := hn4.1.c3; have d4 := hn4.1.c4; have e0 := r1.1.c0; have e1 := r1.1.c1; have e2 := r1.1.c2; have e3 := r1.1.c3; have e4 := r1.1.c4; have y0 := r1.2 0 (by omega); have y1 := r1.2 1 (by omega); have y2 := r1.2 2 (by omega); have y3 := r1.2 3 (by omega); have y4 := r1.2 4 (by omega); simp only [Nat.zero_add] at d1 d2 d3 d4 e1 e2 e3 e4; have R2 := hidden r2; have R3 := hidden r3; clear r1 r2 r3 hn4 q1 q2 hfin)
      refine bodyPost_ret (v := .agg #[.int .i64 (f t0).kind, .string (f t0).text, .int .i64 (f t0).at_, .int .i64 (f t0).end_, .slice ko n0 c0']) (by simp [results, Tryz.results58, go_sem, e0, e1, e2, e3, e4]) rfl ⟨ko, n0, c0', by rw [HO.out], ?_, ?_⟩
      · rw [HO.out, HK.out]
        refine (R3.out.keep (fun b hb => ?_)).mono (fun b hb => ⟨by omega, by simpa [World.setCell] using hb.2⟩)
        repeat rw [Below.heap_setCell _ _ _ _ (by show b ≠ w.heap.size + 1; omega)]
      · repeat (first | exact R2.out | refine Below.setCell ?_ (by first | exact Nat.le_refl _ | (simp; done) | (simp; omega)) _)

set_option maxRecDepth 100000 in
set_option maxHeartbeats 1600000 in
theorem strip_any (t : Tree) (kv : Value) (w : World) (hk : KidsV w kv t.kids) (hc : t.count ≤ 4194304) :
    Calls Tryz.prog 31 #[nodeV t kv] w fun e w' => ∃ p n c, e = .returned (nodeV t.strip (.slice p n c)) ∧ KidsO w' (.slice p n c) t.strip.kids (fun b => w.heap.size ≤ b ∧ b < w'.heap.size) ∧ Below w.heap.size w w' := by
  have eg := enters_of Tryz.func59 (by kernel_rfl) rfl
  have hch : ∀ W', Below w.heap.size w W' → Calls Tryz.prog 58 #[.agg #[.int .i64 t.kind, .string t.text, .int .i64 t.at_, .int .i64 t.end_, kv], .func (.func 59) #[] #[]] W' fun e w' =>
      ∃ p n c, e = .returned (.agg #[.int .i64 t.strip.kind, .string t.strip.text, .int .i64 t.strip.at_, .int .i64 t.strip.end_, .slice p n c]) ∧ KidsO w' (.slice p n c) t.strip.kids (fun b => W'.heap.size ≤ b ∧ b < w'.heap.size) ∧ Below W'.heap.size W' w' := by
    intro W' hb
    have := changed_any eg Tree.bare_kids strip1_changes t kv W' (hk.later hb) hc
    rw [Tree.mapT_bare] at this
    exact this
  clear eg hk
  simp only [nodeV]
  generalize t.strip = y at *
  go_enter Tryz.func31, Tryz.ntmps31
  go_wp2_with (go_at_call 58; (with_reducible refine (hch _ (by repeat (first | exact Below.refl _ _ | refine Below.setCell ?_ (by first | exact Nat.le_refl _ | (simp; done) | (simp; omega)) _ | refine Below.alloc ?_ (by first | exact Nat.le_refl _ | (simp; done) | (simp; omega)) _))).mono ?_); rintro e w3 ⟨p3, n3, c3, rfl, hO3, hb3⟩; have f0 := fun j => hb3.frozen (p := ⟨w.heap.size + 1, j, none⟩) (by simp); have g0 := fun j => hb3.cell (p := ⟨w.heap.size + 1, j, none⟩) (by simp); have HO3 := hidden hO3; have HB3 := hidden hb3; clear hO3 hb3)
  refine bodyPost_ret (v := .agg #[.int .i64 y.kind, .string y.text, .int .i64 y.at_, .int .i64 y.end_, .slice p3 n3 c3]) (by simp [results, Tryz.results31, go_sem, g0]) rfl ⟨p3, n3, c3, rfl, ?_, ?_⟩
  · refine (HO3.out.keep (fun b hb => ?_)).mono (fun b hb => ⟨by have := hb.1; simp at this; omega, by simpa [World.setCell] using hb.2⟩)
    have hb1 := hb.1
    simp at hb1
    repeat rw [Below.heap_setCell _ _ _ _ (by show b ≠ w.heap.size + 1; omega)]
  · have := HB3.out
    repeat (first | exact Below.refl _ _ | refine Below.setCell ?_ (by first | exact Nat.le_refl _ | (simp; done) | (simp; omega)) _)
    refine (((Below.refl _ _).alloc (Nat.le_refl _) _).alloc (by simp) _).trans (this.mono ?_)
    simp
    omega

set_option maxRecDepth 100000 in
set_option maxHeartbeats 1600000 in
theorem duplicate_any (t : Tree) (kv : Value) (w : World) (hk : KidsV w kv t.kids) (hc : t.count ≤ 4194304) :
    Calls Tryz.prog 61 #[nodeV t kv] w fun e w' => ∃ p n c, e = .returned (nodeV t (.slice p n c)) ∧ KidsO w' (.slice p n c) t.kids (fun b => w.heap.size ≤ b ∧ b < w'.heap.size) ∧ Below w.heap.size w w' := by
  have eg := enters_of Tryz.func72 (by kernel_rfl) rfl
  have hch : ∀ W', Below w.heap.size w W' → Calls Tryz.prog 58 #[.agg #[.int .i64 t.kind, .string t.text, .int .i64 t.at_, .int .i64 t.end_, kv], .func (.func 72) #[] #[]] W' fun e w' =>
      ∃ p n c, e = .returned (.agg #[.int .i64 t.kind, .string t.text, .int .i64 t.at_, .int .i64 t.end_, .slice p n c]) ∧ KidsO w' (.slice p n c) t.kids (fun b => W'.heap.size ≤ b ∧ b < w'.heap.size) ∧ Below W'.heap.size W' w' := by
    intro W' hb
    have := changed_any eg (fun _ => rfl) duplicate1_changes t kv W' (hk.later hb) hc
    rw [Tree.mapT_id] at this
    exact this
  clear eg hk
  simp only [nodeV]
  go_enter Tryz.func61, Tryz.ntmps61
  go_wp2_with (go_at_call 58; (with_reducible refine (hch _ (by repeat (first | exact Below.refl _ _ | refine Below.setCell ?_ (by first | exact Nat.le_refl _ | (simp; done) | (simp; omega)) _ | refine Below.alloc ?_ (by first | exact Nat.le_refl _ | (simp; done) | (simp; omega)) _))).mono ?_); rintro e w3 ⟨p3, n3, c3, rfl, hO3, hb3⟩; have f0 := fun j => hb3.frozen (p := ⟨w.heap.size + 1, j, none⟩) (by simp); have g0 := fun j => hb3.cell (p := ⟨w.heap.size + 1, j, none⟩) (by simp); have HO3 := hidden hO3; have HB3 := hidden hb3; clear hO3 hb3)
  refine bodyPost_ret (v := .agg #[.int .i64 t.kind, .string t.text, .int .i64 t.at_, .int .i64 t.end_, .slice p3 n3 c3]) (by simp [results, Tryz.results61, go_sem, g0]) rfl ⟨p3, n3, c3, rfl, ?_, ?_⟩
  · refine (HO3.out.keep (fun b hb => ?_)).mono (fun b hb => ⟨by have := hb.1; simp at this; omega, by simpa [World.setCell] using hb.2⟩)
    have hb1 := hb.1
    simp at hb1
    repeat rw [Below.heap_setCell _ _ _ _ (by show b ≠ w.heap.size + 1; omega)]
  · have := HB3.out
    repeat (first | exact Below.refl _ _ | refine Below.setCell ?_ (by first | exact Nat.le_refl _ | (simp; done) | (simp; omega)) _)
    refine (((Below.refl _ _).alloc (Nat.le_refl _) _).alloc (by simp) _).trans (this.mono ?_)
    simp
    omega

end Go.Proofs.YtlbaaiglebpjiaaGreatDoor
/-
  Get and Number.
-/

namespace Go.Proofs.YtlbaaiglebpjiaaGreatDoor
open Go.RowKit Go.Shelf Go.Lib

/-- A slice that reads as integers. -/
def IntsV (w : World) (v : Value) (l : List Int) : Prop :=
  ∃ p cap g o, v = .slice p l.length cap ∧ (l ≠ [] → p = some ⟨g, o, none⟩ ∧ g < w.heap.size) ∧ ∀ i z, l[i]? = some z → w.cell? ⟨g, o + i, none⟩ = some (.int .i64 z)

theorem IntsV.later {w w' : World} {v : Value} {l : List Int} (h : IntsV w v l) (hb : Below w.heap.size w w') : IntsV w' v l := by
  obtain ⟨p, cap, g, o, h1, h2, h3⟩ := h
  refine ⟨p, cap, g, o, h1, fun h => ⟨(h2 h).1, Nat.lt_of_lt_of_le (h2 h).2 hb.size⟩, fun i z hz => ?_⟩
  have hg := (h2 (fun e => by rw [e] at hz; simp at hz)).2
  exact (hb.cell (p := ⟨g, o + i, none⟩) hg).trans (h3 i z hz)

def zeroT : Tree := .mk 0 ⟨#[]⟩ 0 0 []

/-- A node is stored into a variable. -/
abbrev putNode (w : World) (b : Nat) (k : Int) (s : ByteArray) (a e : Int) (kv : Value) : World :=
  ((((w.setCell ⟨b, 0, none⟩ (.int .i64 k)).setCell ⟨b, 1, none⟩ (.string s)).setCell ⟨b, 2, none⟩ (.int .i64 a)).setCell ⟨b, 3, none⟩ (.int .i64 e)).setCell ⟨b, 4, none⟩ kv

theorem NodeOwn.put {w : World} {b : Nat} {x y : Tree} {kv kv' : Value} (h : NodeOwn w b x kv) : NodeOwn (putNode w b y.kind y.text y.at_ y.end_ kv') b y kv' := by
  obtain ⟨⟨c0, c1, c2, c3, c4⟩, hz⟩ := h
  simp only [Nat.zero_add] at c1 c2 c3 c4
  refine ⟨⟨by simp [putNode, go_sem, c0], by simp [putNode, go_sem, c1], by simp [putNode, go_sem, c2], by simp [putNode, go_sem, c3], by simp [putNode, go_sem, c4]⟩, fun j hj => ?_⟩
  have := hz j hj
  simp [putNode, go_sem, this]

theorem put_other (w : World) (b : Nat) (k : Int) (s : ByteArray) (a e : Int) (kv : Value) (i : Nat) (h : i ≠ b) : (putNode w b k s a e kv).heap[i]? = w.heap[i]? := by
  unfold putNode
  rw [Below.heap_setCell _ _ _ _ h, Below.heap_setCell _ _ _ _ h, Below.heap_setCell _ _ _ _ h, Below.heap_setCell _ _ _ _ h, Below.heap_setCell _ _ _ _ h]

theorem put_size (w : World) (b : Nat) (k : Int) (s : ByteArray) (a e : Int) (kv : Value) : (putNode w b k s a e kv).heap.size = w.heap.size := by simp [putNode, World.setCell]

theorem put_below {B : Nat} {a w : World} (h : Below B a w) (b : Nat) (k : Int) (s : ByteArray) (x e : Int) (kv : Value) (hb : B ≤ b) : Below B a (putNode w b k s x e kv) :=
  ((((h.setCell hb _).setCell hb _).setCell hb _).setCell hb _).setCell hb _

namespace Tree
theorem get_cons {t : Tree} {m : Nat} {x : Tree} (h : t.kids[m]? = some x) (p : List Int) : t.get ((m : Int) :: p) = x.get p := by
  rw [get, if_pos (by omega), show ((m : Int)).toNat = m by omega, h]
theorem get_neg {t : Tree} {z : Int} (h : z < 0) (p : List Int) : t.get (z :: p) = none := by rw [get, if_neg (by omega)]
theorem get_big {t : Tree} {m : Nat} (h : t.kids.length ≤ m) (p : List Int) : t.get ((m : Int) :: p) = none := by
  rw [get, if_pos (by omega), show ((m : Int)).toNat = m by omega, List.getElem?_eq_none h]

/-- The number of the node with a path. -/
def numberOf : Tree → List Int → Nat
  | _, [] => 0
  | t, i :: p => match t.kids[i.toNat]? with
    | some x => countL (t.kids.take i.toNat) + 1 + numberOf x p
    | none => 0
theorem numberOf_cons {t : Tree} {m : Nat} {x : Tree} (h : t.kids[m]? = some x) (p : List Int) : t.numberOf ((m : Int) :: p) = countL (t.kids.take m) + 1 + x.numberOf p := by
  rw [numberOf, show ((m : Int)).toNat = m by omega, h]
theorem get_split {t y : Tree} {z : Int} {p : List Int} (h : t.get (z :: p) = some y) : ∃ m x, z = ((m : Nat) : Int) ∧ t.kids[m]? = some x ∧ x.get p = some y := by
  rcases Int.lt_or_le z 0 with hz | hz
  · rw [get_neg hz] at h; cases h
  · obtain ⟨m, rfl⟩ : ∃ m : Nat, z = m := ⟨z.toNat, by omega⟩
    cases hx : t.kids[m]? with
    | none => rw [get_big (List.getElem?_eq_none_iff.1 hx)] at h; cases h
    | some x => exact ⟨m, x, rfl, hx, by rw [get_cons hx] at h; exact h⟩
theorem numberOf_lt : ∀ {l : List Int} {t y : Tree}, t.get l = some y → t.numberOf l + y.count ≤ t.count
  | [], t, y, h => by simp [get] at h; subst h; simp [numberOf]
  | z :: p, t, y, h => by
    obtain ⟨m, x, rfl, hx, h2⟩ := get_split h
    have := numberOf_lt h2
    rw [numberOf_cons hx, count_eq t]
    have := countL_take_lt hx
    omega
end Tree

theorem drop_step {α : Type} {l : List α} {k : Nat} {z : α} (h : l[k]? = some z) : l.drop k = z :: l.drop (k + 1) := by
  obtain ⟨h1, h2⟩ := List.getElem?_eq_some_iff.1 h
  rw [List.drop_eq_getElem_cons h1, h2]

set_option maxRecDepth 100000 in
set_option maxHeartbeats 6400000 in
theorem get_any (t : Tree) (kv : Value) (l : List Int) (pv : Value) (w : World) (hk : KidsV w kv t.kids) (hp : IntsV w pv l) (hlb : l.length ≤ 4611686018427387904) (r : Option Tree) (hr : t.get l = r) :
    Calls Tryz.prog 17 #[nodeV t kv, pv] w fun e w' => ∃ x p c, e = .returned (.tuple #[nodeV x (.slice p x.kids.length c), .bool r.isSome]) ∧ (∀ y, r = some y → x = y) ∧ (r = none → x = zeroT ∧ p = none ∧ c = 0) ∧ KidsV w (.slice p x.kids.length c) x.kids ∧ Below w.heap.size w w' := by
  obtain ⟨p, cap, g, o, rfl, hpp, hat⟩ := hk.open
  obtain ⟨pp, pcap, pg, po, rfl, hip, hic⟩ := hp
  have HK := hidden hk
  have HIP := hidden hip
  have HIC := hidden hic
  have HR := hidden hr
  clear hk hpp hat hip hic hr
  simp only [nodeV]
  go_enter Tryz.func17, Tryz.ntmps17
  go_wp2_with fail
  obtain ⟨w2, hw2⟩ : ∃ w2, w2 = (w.alloc (.cells #[.int .i64 t.kind, .string t.text, .int .i64 t.at_, .int .i64 t.end_, .slice p t.kids.length cap] 24)).alloc (.cells #[.int .i64 0, .string ⟨#[]⟩, .int .i64 0, .int .i64 0, .slice none 0 0] 24) := ⟨_, rfl⟩
  have hB2 : Below w.heap.size w w2 := by rw [hw2]; exact ((Below.refl _ _).alloc (Nat.le_refl _) _).alloc (by simp) _
  have ha : NodeOwn w2 w.heap.size t (.slice p t.kids.length cap) := by
    refine ⟨⟨by simp [hw2, go_sem], by simp [hw2, go_sem], by simp [hw2, go_sem], by simp [hw2, go_sem], by simp [hw2, go_sem]⟩, fun j hj => ?_⟩
    simp [hw2, go_sem]
  have hr : NodeOwn w2 (w.heap.size + 1) zeroT (.slice none 0 0) := by
    refine ⟨⟨by simp [hw2, go_sem, zeroT, Tree.kind], by simp [hw2, go_sem, zeroT, Tree.text], by simp [hw2, go_sem, zeroT, Tree.at_], by simp [hw2, go_sem, zeroT, Tree.end_], by simp [hw2, go_sem]⟩, fun j hj => ?_⟩
    simp [hw2, go_sem]
  rw [← hw2]
  clear hw2
  go_loopw [10] (fun i wr => ∃ k : Nat, k ≤ l.length ∧ i = .int .i64 k ∧ ∃ x q c, Hid (NodeOwn wr w.heap.size x (.slice q x.kids.length c) ∧ NodeOwn wr (w.heap.size + 1) zeroT (.slice none 0 0) ∧ KidsV w (.slice q x.kids.length c) x.kids ∧ x.get (l.drop k) = r ∧ Below w.heap.size w wr)) (fun i _ => l.length - (intOf i).toNat)
  case atStart => exact ⟨0, Nat.zero_le _, rfl, t, p, cap, ha, hr, HK.out, HR.out, hB2⟩
  case round =>
    obtain ⟨k, hk, rfl, x, q, c, hh⟩ := hrel
    clear ha hr hB2
    obtain ⟨hn, hn0, hkx, hg, hB⟩ := hh.out
    have HN := hidden hn
    have HN0 := hidden hn0
    obtain ⟨⟨c0, c1, c2, c3, c4⟩, cz⟩ := hn
    obtain ⟨⟨e0, e1, e2, e3, e4⟩, ez⟩ := hn0
    have y0 := cz 0 (by omega)
    have y1 := cz 1 (by omega)
    have y2 := cz 2 (by omega)
    have y3 := cz 3 (by omega)
    have y4 := cz 4 (by omega)
    have u0 := ez 0 (by omega)
    have u1 := ez 1 (by omega)
    have u2 := ez 2 (by omega)
    have u3 := ez 3 (by omega)
    have u4 := ez 4 (by omega)
    simp only [Nat.zero_add] at c1 c2 c3 c4 e1 e2 e3 e4
    clear cz ez hh
    by_cases hlt : k < l.length
    · have hz : l[k]? = some l[k] := List.getElem?_eq_getElem hlt
      generalize l[k] = z at hz
      obtain ⟨rfl, hpg⟩ := HIP.out (fun h => by rw [h] at hlt; exact absurd hlt (Nat.not_lt_zero _))
      have ci : wr.cell? ⟨pg, po + k, none⟩ = some (.int .i64 z) := (hB.cell (p := ⟨pg, po + k, none⟩) hpg).trans (HIC.out k z hz)
      have hltz : (k : Int) < (l.length : Int) := by omega
      rw [drop_step hz] at hg
      by_cases hneg : z < 0
      · rw [Tree.get_neg hneg] at hg
        have HG := hidden hg
        have HB := hidden hB
        clear hg hB hz hkx
        go_wp2_with fail
        refine bodyPost_ret (v := .tuple #[.agg #[.int .i64 0, .string ⟨#[]⟩, .int .i64 0, .int .i64 0, .slice none 0 0], .bool false]) (by simp [results, Tryz.results17, go_sem, e0, e1, e2, e3, e4]) rfl ⟨zeroT, none, 0, ?_, ?_, ?_, ?_, ?_⟩
        · rw [← HG.out]; rfl
        · intro y hy; rw [← HG.out] at hy; cases hy
        · intro _; exact ⟨rfl, rfl, rfl⟩
        · exact KidsV.nil _ _ _
        · exact put_below HB.out _ _ _ _ _ _ (by omega)
      · obtain ⟨m, rfl⟩ : ∃ m : Nat, z = m := ⟨z.toNat, by omega⟩
        by_cases hbig : x.kids.length ≤ m
        · rw [Tree.get_big hbig] at hg
          have hbz : (x.kids.length : Int) ≤ (m : Int) := by omega
          have HG := hidden hg
          have HB := hidden hB
          clear hg hB hz hkx
          go_wp2_with fail
          refine bodyPost_ret (v := .tuple #[.agg #[.int .i64 0, .string ⟨#[]⟩, .int .i64 0, .int .i64 0, .slice none 0 0], .bool false]) (by simp [results, Tryz.results17, go_sem, e0, e1, e2, e3, e4]) rfl ⟨zeroT, none, 0, ?_, ?_, ?_, ?_, ?_⟩
          · rw [← HG.out]; rfl
          · intro y hy; rw [← HG.out] at hy; cases hy
          · intro _; exact ⟨rfl, rfl, rfl⟩
          · exact KidsV.nil _ _ _
          · exact put_below HB.out _ _ _ _ _ _ (by omega)
        · have hbz : ¬ ((x.kids.length : Int) ≤ (m : Int)) := by omega
          have hbz2 : (m : Int) < (x.kids.length : Int) := by omega
          have hx' : x.kids[m]? = some x.kids[m] := List.getElem?_eq_getElem (by omega)
          generalize x.kids[m] = x' at hx'
          rw [Tree.get_cons hx'] at hg
          obtain ⟨q', cap', g', o', hq, hqp, hqa⟩ := hkx.open
          obtain ⟨rfl, hg'⟩ : q = some ⟨g', o', none⟩ ∧ g' < w.heap.size := by
            have h1 := hqp (fun h => by rw [h] at hx'; simp at hx')
            have h2 : q = q' := by injection hq
            rw [h2]; exact h1
          obtain ⟨kv', hnx, hkx'⟩ := hqa m x' hx'
          have hnx2 := hnx.of_block (hB.block g' hg')
          obtain ⟨d0, d1, d2, d3, d4⟩ := hnx2
          obtain ⟨p2, cap2, _, _, rfl, _, _⟩ := hkx'.open
          have HG := hidden hg
          have HB := hidden hB
          have HKX := hidden hkx'
          clear hg hB hz hkx hq hqp hqa hnx hkx' hx'
          go_wp2_with fail
          go_roundw
          case rel =>
            refine ⟨k + 1, by omega, by go_num, x', p2, cap2, HN.out.put, HN0.out.of_block (put_other _ _ _ _ _ _ _ _ (by omega)), HKX.out, HG.out, put_below HB.out _ _ _ _ _ _ (Nat.le_refl _)⟩
          case measure => simp [intOf]; omega
    · obtain rfl : k = l.length := by omega
      rw [List.drop_length] at hg
      have HG := hidden hg
      have HB := hidden hB
      have HKX := hidden hkx
      clear hg hB hkx
      go_wp2_with fail
      have hx : some x = r := by rw [← HG.out]; rfl
      refine bodyPost_ret (v := .tuple #[.agg #[.int .i64 x.kind, .string x.text, .int .i64 x.at_, .int .i64 x.end_, .slice q x.kids.length c], .bool true]) (by simp [results, Tryz.results17, go_sem, e0, e1, e2, e3, e4]) rfl ⟨x, q, c, by rw [← hx]; rfl, fun y hy => by rw [← hx] at hy; exact Option.some.inj hy, fun h => (by rw [← hx] at h; cases h), HKX.out, put_below HB.out _ _ _ _ _ _ (by omega)⟩

end Go.Proofs.YtlbaaiglebpjiaaGreatDoor
