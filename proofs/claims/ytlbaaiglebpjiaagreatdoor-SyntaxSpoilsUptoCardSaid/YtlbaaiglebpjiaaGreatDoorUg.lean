/-
  A slice that reads as trees, all of it in blocks of a kind; rows of nodes as they lie. No program stands here.
-/
import Derived.Test.YtlbaaiglebpjiaaGreatDoorJk
import Derived.Test.YtlbaaiglebpjiaaGreatDoorYk
namespace Go.Proofs.YtlbaaiglebpjiaaGreatDoor
open Go.RowKit Go.Shelf Go.Lib

/-- A slice that reads as trees; its blocks are among F. -/
inductive KidsS (w : World) (F : Nat → Prop) : Value → List Tree → Prop
  | mk (p : Option Addr) (cap : Nat) (ts : List Tree) (g o : Nat) (ks : Nat → Value) (hcap : ts.length ≤ cap) (hp : ts ≠ [] → p = some ⟨g, o, none⟩ ∧ F g)
      (ha : ∀ i t, ts[i]? = some t → NodeAt w g (o + i * 5) t (ks i)) (hk : ∀ i t, ts[i]? = some t → KidsS w F (ks i) t.kids) : KidsS w F (.slice p ts.length cap) ts

theorem KidsS.toV {w : World} {F : Nat → Prop} {v : Value} {ts : List Tree} (h : KidsS w F v ts) : KidsV w v ts := by
  induction h with
  | mk p cap ts g o ks hcap hp ha hk ih => exact KidsV.mk p cap ts g o ks hcap (fun h => (hp h).1) ha ih

theorem KidsV.toS {w : World} {v : Value} {ts : List Tree} (h : KidsV w v ts) : KidsS w (fun b => b < w.heap.size) v ts := by
  induction h with
  | mk p cap ts g o ks hcap hp ha hk ih =>
    refine KidsS.mk p cap ts g o ks hcap (fun h => ⟨hp h, ?_⟩) ha ih
    cases ts with
    | nil => exact absurd rfl h
    | cons t ts => exact (ha 0 t rfl).lt

theorem KidsS.mono {w : World} {F F' : Nat → Prop} {v : Value} {ts : List Tree} (h : KidsS w F v ts) (hm : ∀ b, F b → F' b) : KidsS w F' v ts := by
  induction h with
  | mk p cap ts g o ks hcap hp ha hk ih => exact KidsS.mk p cap ts g o ks hcap (fun h => ⟨(hp h).1, hm _ (hp h).2⟩) ha ih

theorem KidsS.keep {w w' : World} {F : Nat → Prop} {v : Value} {ts : List Tree} (h : KidsS w F v ts) (hb : ∀ b, F b → w'.heap[b]? = w.heap[b]?) : KidsS w' F v ts := by
  induction h with
  | mk p cap ts g o ks hcap hp ha hk ih =>
    exact KidsS.mk p cap ts g o ks hcap hp (fun i t ht => (ha i t ht).of_block (hb g (hp (fun h => by rw [h] at ht; simp at ht)).2)) ih

theorem KidsS.later {w w' : World} {F : Nat → Prop} {v : Value} {ts : List Tree} (h : KidsS w F v ts) (hF : ∀ b, F b → b < w.heap.size) (hb : Below w.heap.size w w') : KidsS w' F v ts :=
  h.keep (fun b h => hb.block b (hF b h))

theorem KidsS.open {w : World} {F : Nat → Prop} {v : Value} {ts : List Tree} (h : KidsS w F v ts) : ∃ (p : Option Addr) (cap g o : Nat), v = .slice p ts.length cap ∧ ts.length ≤ cap ∧ (ts ≠ [] → p = some ⟨g, o, none⟩ ∧ F g) ∧
    ∃ L : List (Tree × Value), L.map (·.1) = ts ∧ ∀ (i : Nat) x, L[i]? = some x → NodeAt w g (o + i * 5) x.1 x.2 ∧ KidsS w F x.2 x.1.kids := by
  cases h with
  | mk p cap ts g o ks hcap hp ha hk =>
    refine ⟨p, cap, g, o, rfl, hcap, hp, ts.zipIdx.map (fun y => (y.1, ks y.2)), ?_, fun i x hx => ?_⟩
    · rw [List.map_map]
      have : ((fun x : Tree × Value => x.1) ∘ fun y : Tree × Nat => (y.1, ks y.2)) = Prod.fst := rfl
      rw [this, List.zipIdx_map_fst]
    · rw [List.getElem?_map, List.getElem?_zipIdx] at hx
      cases ht : ts[i]? with
      | none => rw [ht] at hx; cases hx
      | some t =>
        rw [ht] at hx
        simp at hx
        subst hx
        exact ⟨ha i t ht, hk i t ht⟩

theorem forestC_len (L : List (Tree × Value)) : (forestC L).length = L.length * 5 := by
  induction L with
  | nil => rfl
  | cons x L ih => show (nodeC x.1 x.2 ++ forestC L).length = _; rw [List.length_append, ih, nodeC_len, List.length_cons]; omega

theorem NodeAt.cellC {w : World} {g o : Nat} {t : Tree} {kv : Value} (h : NodeAt w g o t kv) {j : Nat} {u : Value} (hu : (nodeC t kv)[j]? = some u) : w.cell? ⟨g, o + j, none⟩ = some u := by
  rcases j with _ | _ | _ | _ | _ | j <;> simp [nodeC] at hu
  · subst hu; exact h.c0
  · subst hu; exact h.c1
  · subst hu; exact h.c2
  · subst hu; exact h.c3
  · subst hu; exact h.c4

/-- A row of nodes lies from a place on. -/
theorem forestC_cells {w : World} {g o : Nat} {L : List (Tree × Value)} (h : ∀ (i : Nat) x, L[i]? = some x → NodeAt w g (o + i * 5) x.1 x.2) : ∀ (j : Nat) u, (forestC L)[j]? = some u → w.cell? ⟨g, o + j, none⟩ = some u := by
  intro j u hu
  have hj : j < L.length * 5 := by have := (List.getElem?_eq_some_iff.1 hu).1; rwa [forestC_len] at this
  have hi : j / 5 < L.length := by omega
  obtain ⟨x, hx⟩ : ∃ x, L[j / 5]? = some x := ⟨_, List.getElem?_eq_getElem hi⟩
  have hr := forestC_get L (j / 5) x (j % 5) hx (Nat.mod_lt _ (by omega))
  have e : j / 5 * 5 + j % 5 = j := by omega
  rw [e, hu] at hr
  have := (h _ x hx).cellC hr.symm
  rw [Nat.add_assoc, e] at this
  exact this

theorem forestC_one {L : List (Tree × Value)} (h : ∀ x ∈ L, x.2.oneCell' = true) : ∀ u ∈ forestC L, u.oneCell' = true := by
  intro u hu
  obtain ⟨x, hx, hux⟩ := List.mem_flatMap.1 hu
  simp only [nodeC, List.mem_cons, List.not_mem_nil, or_false] at hux
  rcases hux with rfl | rfl | rfl | rfl | rfl
  · rfl
  · rfl
  · rfl
  · rfl
  · exact h x hx

/-- A row of one's own in which one node was written over reads as the trees with this one in its place. -/
theorem row_put {w wf : World} {F : Nat → Prop} {B g cap m : Nat} {e : TypeId} {L : List (Tree × Value)} {y : Tree} {ky : Value} (h : w.ownsRow B e 5 (.slice (some ⟨g, 0, none⟩) L.length cap) L.length (forestC L)) (hm : m < L.length)
    (hf : ∀ b, b = g → wf.heap[b]? = (putAt w g (m * 5) y.kind y.text y.at_ y.end_ ky).heap[b]?) (hg : F g)
    (hL : ∀ (i : Nat) x, L[i]? = some x → i ≠ m → KidsS wf F x.2 x.1.kids) (hy : KidsS wf F ky y.kids) :
    KidsS wf F (.slice (some ⟨g, 0, none⟩) L.length cap) ((L.map (·.1)).set m y) := by
  have hcap : L.length ≤ cap := by
    rcases h.2 with ⟨h0, _⟩ | ⟨g', cap', cur, h1, _, _, h4, _⟩
    · cases h0
    · cases h1; exact h4
  have hlen : ((L.map (·.1)).set m y).length = L.length := by simp
  have key := KidsS.mk (w := wf) (F := F) (some ⟨g, 0, none⟩) cap ((L.map (·.1)).set m y) g 0 (fun i => if i = m then ky else (L.getD i (y, ky)).2) (by rw [hlen]; exact hcap) (fun _ => ⟨rfl, hg⟩) ?_ ?_
  · rw [hlen] at key; exact key
  · intro i t ht
    rw [Nat.zero_add]
    rw [List.getElem?_set] at ht
    obtain ⟨xm, hxm⟩ : ∃ x, L[m]? = some x := ⟨_, List.getElem?_eq_getElem hm⟩
    obtain ⟨am, zm⟩ := ownsRow_nodeAt h hxm
    by_cases hi : m = i
    · subst hi
      rw [if_pos rfl, if_pos (by simpa using hm)] at ht
      cases ht
      rw [if_pos rfl]
      exact ((putAt_node am zm).1).of_block (hf g rfl)
    · rw [if_neg hi, List.getElem?_map] at ht
      cases hx : L[i]? with
      | none => rw [hx] at ht; cases ht
      | some x =>
        rw [hx] at ht
        cases ht
        rw [if_neg (fun e => hi e.symm), List.getD_eq_getElem?_getD, hx]
        refine NodeAt.of_block (w := putAt w g (m * 5) y.kind y.text y.at_ y.end_ ky) ?_ (hf g rfl)
        refine (ownsRow_nodeAt h hx).1.of_cells (fun j hj => (putAt_cell w g (m * 5) y.kind y.text y.at_ y.end_ ky (i * 5 + j) ?_).1)
        rcases Nat.lt_or_ge i m with h1 | h1
        · left; omega
        · right; omega
  · intro i t ht
    rw [List.getElem?_set] at ht
    by_cases hi : m = i
    · subst hi
      rw [if_pos rfl, if_pos (by simpa using hm)] at ht
      cases ht
      rw [if_pos rfl]
      exact hy
    · rw [if_neg hi, List.getElem?_map] at ht
      cases hx : L[i]? with
      | none => rw [hx] at ht; cases ht
      | some x =>
        rw [hx] at ht
        cases ht
        rw [if_neg (fun e => hi e.symm), List.getD_eq_getElem?_getD, hx]
        exact hL i x hx (fun e => hi e.symm)

end Go.Proofs.YtlbaaiglebpjiaaGreatDoor
