/-
  How trees lie in memory: as they are read, and as a call of one's own has built them.
-/
import Derived.Test.YtlbaaiglebpjiaaGreatDoorJa
import Derived.Below
import Derived.WalkKit
namespace Go.Proofs.YtlbaaiglebpjiaaGreatDoor
open Go.RowKit

/-- A node as a value. -/
def nodeV (t : Tree) (kv : Value) : Value := .agg #[.int .i64 t.kind, .string t.text, .int .i64 t.at_, .int .i64 t.end_, kv]
def nodeC (t : Tree) (kv : Value) : List Value := [.int .i64 t.kind, .string t.text, .int .i64 t.at_, .int .i64 t.end_, kv]

/-- A node lies at a place. -/
structure NodeAt (w : World) (g o : Nat) (t : Tree) (kv : Value) : Prop where
  c0 : w.cell? ⟨g, o, none⟩ = some (.int .i64 t.kind)
  c1 : w.cell? ⟨g, o + 1, none⟩ = some (.string t.text)
  c2 : w.cell? ⟨g, o + 2, none⟩ = some (.int .i64 t.at_)
  c3 : w.cell? ⟨g, o + 3, none⟩ = some (.int .i64 t.end_)
  c4 : w.cell? ⟨g, o + 4, none⟩ = some kv

theorem NodeAt.of_block {w w' : World} {g o : Nat} {t : Tree} {kv : Value} (h : NodeAt w g o t kv) (hb : w'.heap[g]? = w.heap[g]?) : NodeAt w' g o t kv := by
  have e : ∀ k, w'.cell? ⟨g, k, none⟩ = w.cell? ⟨g, k, none⟩ := fun k => World.cell?_of_block (a := ⟨g, k, none⟩) hb
  exact ⟨by rw [e]; exact h.c0, by rw [e]; exact h.c1, by rw [e]; exact h.c2, by rw [e]; exact h.c3, by rw [e]; exact h.c4⟩

theorem NodeAt.lt {w : World} {g o : Nat} {t : Tree} {kv : Value} (h : NodeAt w g o t kv) : g < w.heap.size := World.block_lt_of_cell? w _ h.c0

/-- A slice that reads as trees. -/
inductive KidsV (w : World) : Value → List Tree → Prop
  | mk (p : Option Addr) (cap : Nat) (ts : List Tree) (g o : Nat) (ks : Nat → Value) (hcap : ts.length ≤ cap) (hp : ts ≠ [] → p = some ⟨g, o, none⟩)
      (ha : ∀ i t, ts[i]? = some t → NodeAt w g (o + i * 5) t (ks i)) (hk : ∀ i t, ts[i]? = some t → KidsV w (ks i) t.kids) : KidsV w (.slice p ts.length cap) ts

theorem KidsV.nil (w : World) (p : Option Addr) (cap : Nat) : KidsV w (.slice p 0 cap) [] :=
  KidsV.mk p cap [] 0 0 (fun _ => .nilFunc) (Nat.zero_le _) (fun h => absurd rfl h) (fun i t h => by simp at h) (fun i t h => by simp at h)

theorem KidsV.open {w : World} {v : Value} {ts : List Tree} (h : KidsV w v ts) : ∃ (p : Option Addr) (cap g o : Nat), v = .slice p ts.length cap ∧ (ts ≠ [] → p = some ⟨g, o, none⟩ ∧ g < w.heap.size) ∧
    ∀ i t, ts[i]? = some t → ∃ kv, NodeAt w g (o + i * 5) t kv ∧ KidsV w kv t.kids := by
  cases h with
  | mk p cap ts g o ks hcap hp ha hk =>
    refine ⟨p, cap, g, o, rfl, fun h => ⟨hp h, ?_⟩, fun i t ht => ⟨ks i, ha i t ht, hk i t ht⟩⟩
    cases ts with
    | nil => exact absurd rfl h
    | cons t ts => exact (ha 0 t rfl).lt

theorem KidsV.cap {w : World} {p : Option Addr} {n c : Nat} {ts : List Tree} (h : KidsV w (.slice p n c) ts) : n ≤ c := by
  cases h with
  | mk _ _ _ g o ks hcap hp ha hk => exact hcap

theorem KidsV.shut {w : World} {ts : List Tree} {p : Option Addr} {cap g o : Nat} (hcap : ts.length ≤ cap) (hp : ts ≠ [] → p = some ⟨g, o, none⟩) (h : ∀ i t, ts[i]? = some t → ∃ kv, NodeAt w g (o + i * 5) t kv ∧ KidsV w kv t.kids) : KidsV w (.slice p ts.length cap) ts := by
  classical
  have h' : ∀ i, ∃ kv, ∀ t, ts[i]? = some t → NodeAt w g (o + i * 5) t kv ∧ KidsV w kv t.kids := fun i => by
    cases ht : ts[i]? with
    | none => exact ⟨.nilFunc, fun t h => by cases h⟩
    | some t =>
      obtain ⟨kv, h1⟩ := h i t ht
      exact ⟨kv, fun t' h2 => by cases h2; exact h1⟩
  exact KidsV.mk p cap ts g o (fun i => Classical.choose (h' i)) hcap hp (fun i t ht => (Classical.choose_spec (h' i) t ht).1) (fun i t ht => (Classical.choose_spec (h' i) t ht).2)

theorem KidsV.later {w w' : World} {v : Value} {ts : List Tree} (h : KidsV w v ts) (hb : Below w.heap.size w w') : KidsV w' v ts := by
  induction h with
  | mk p cap ts g o ks hcap hp ha hk ih => exact KidsV.mk p cap ts g o ks hcap hp (fun i t ht => (ha i t ht).of_block (hb.block g (ha i t ht).lt)) ih

/-- A slice of trees that a call has built: its blocks are among F, none is shared. -/
inductive KidsO (w : World) : Value → List Tree → (Nat → Prop) → Prop
  | mk (p : Option Addr) (cap : Nat) (ts : List Tree) (F : Nat → Prop) (g : Nat) (ks : Nat → Value) (Fs : Nat → Nat → Prop) (hcap : ts.length ≤ cap) (hp : ts ≠ [] → p = some ⟨g, 0, none⟩ ∧ F g)
      (ha : ∀ i t, ts[i]? = some t → NodeAt w g (i * 5) t (ks i)) (hz : ∀ i t, ts[i]? = some t → ∀ j, j < 5 → w.frozen? ⟨g, i * 5 + j, none⟩ = false)
      (hk : ∀ i t, ts[i]? = some t → KidsO w (ks i) t.kids (Fs i)) (hF : ∀ i b, i < ts.length → Fs i b → F b ∧ b ≠ g)
      (hd : ∀ i j b, i < ts.length → j < ts.length → Fs i b → Fs j b → i = j) : KidsO w (.slice p ts.length cap) ts F

theorem KidsO.toV {w : World} {v : Value} {ts : List Tree} {F : Nat → Prop} (h : KidsO w v ts F) : KidsV w v ts := by
  induction h with
  | mk p cap ts F g ks Fs hcap hp ha hz hk hF hd ih => exact KidsV.mk p cap ts g 0 ks hcap (fun h => (hp h).1) (fun i t ht => by rw [Nat.zero_add]; exact ha i t ht) ih

theorem KidsO.mono {w : World} {v : Value} {ts : List Tree} {F F' : Nat → Prop} (h : KidsO w v ts F) (hm : ∀ b, F b → F' b) : KidsO w v ts F' := by
  cases h with
  | mk p cap ts F g ks Fs hcap hp ha hz hk hF hd => exact KidsO.mk p cap ts F' g ks Fs hcap (fun h => ⟨(hp h).1, hm _ (hp h).2⟩) ha hz hk (fun i b hi hb => ⟨hm _ (hF i b hi hb).1, (hF i b hi hb).2⟩) hd

theorem KidsO.keep {w w' : World} {v : Value} {ts : List Tree} {F : Nat → Prop} (h : KidsO w v ts F) (hb : ∀ b, F b → w'.heap[b]? = w.heap[b]?) : KidsO w' v ts F := by
  induction h with
  | mk p cap ts F g ks Fs hcap hp ha hz hk hF hd ih =>
    have hg : ∀ (i : Nat) (t : Tree), ts[i]? = some t → w'.heap[g]? = w.heap[g]? := fun i t ht => hb g (hp (fun h => by rw [h] at ht; simp at ht)).2
    refine KidsO.mk p cap ts F g ks Fs hcap hp (fun i t ht => (ha i t ht).of_block (hg i t ht)) (fun i t ht j hj => ?_) (fun i t ht => ih i t ht (fun b hb' => hb b (hF i b ?_ hb').1)) hF hd
    · rw [World.frozen?_of_block (a := ⟨g, i * 5 + j, none⟩) (hg i t ht)]; exact hz i t ht j hj
    · exact (List.getElem?_eq_some_iff.1 ht).1

theorem KidsO.nil (w : World) (p : Option Addr) (cap : Nat) (F : Nat → Prop) : KidsO w (.slice p 0 cap) [] F :=
  KidsO.mk p cap [] F 0 (fun _ => .nilFunc) (fun _ _ => False) (Nat.zero_le _) (fun h => absurd rfl h) (fun i t h => by simp at h) (fun i t h => by simp at h) (fun i t h => by simp at h) (fun i b h => absurd h (Nat.not_lt_zero _)) (fun i j b h => absurd h (Nat.not_lt_zero _))

theorem KidsO.open {w : World} {v : Value} {ts : List Tree} {F : Nat → Prop} (h : KidsO w v ts F) : ∃ (p : Option Addr) (cap g : Nat) (ks : Nat → Value) (Fs : Nat → Nat → Prop), v = .slice p ts.length cap ∧ (ts ≠ [] → p = some ⟨g, 0, none⟩ ∧ F g) ∧
    (∀ i t, ts[i]? = some t → NodeAt w g (i * 5) t (ks i)) ∧ (∀ i t, ts[i]? = some t → ∀ j, j < 5 → w.frozen? ⟨g, i * 5 + j, none⟩ = false) ∧ (∀ i t, ts[i]? = some t → KidsO w (ks i) t.kids (Fs i)) ∧
    (∀ i b, i < ts.length → Fs i b → F b ∧ b ≠ g) ∧ ∀ i j b, i < ts.length → j < ts.length → Fs i b → Fs j b → i = j := by
  cases h with
  | mk p cap ts F g ks Fs hcap hp ha hz hk hF hd => exact ⟨p, cap, g, ks, Fs, rfl, hp, ha, hz, hk, hF, hd⟩

end Go.Proofs.YtlbaaiglebpjiaaGreatDoor
