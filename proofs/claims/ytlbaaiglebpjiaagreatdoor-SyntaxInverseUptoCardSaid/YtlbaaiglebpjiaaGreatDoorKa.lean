/-
  The variable that holds a parameter.
-/
import Derived.Test.YtlbaaiglebpjiaaGreatDoorJh
import Derived.Test.YtlbaaiglebpjiaaGreatDoorQb
namespace Go.Proofs.YtlbaaiglebpjiaaGreatDoor
open Go.RowKit Go.Shelf Go.Lib

theorem boxAlloc (w : World) (t : Tree) (kv : Value) : NodeAt (w.alloc (.cells #[.int .i64 t.kind, .string t.text, .int .i64 t.at_, .int .i64 t.end_, kv] 24)) w.heap.size 0 t kv := by
  refine ⟨?_, ?_, ?_, ?_, ?_⟩ <;> simp
theorem NodeAt.later {w w' : World} {b o : Nat} {t : Tree} {kv : Value} (h : NodeAt w b o t kv) (hb : Below w.heap.size w w') : NodeAt w' b o t kv := h.of_block (hb.block _ h.lt)
theorem NodeAt.cells0 {w : World} {b : Nat} {t : Tree} {kv : Value} (h : NodeAt w b 0 t kv) : w.cell? ⟨b, 0, none⟩ = some (.int .i64 t.kind) ∧ w.cell? ⟨b, 1, none⟩ = some (.string t.text) ∧ w.cell? ⟨b, 2, none⟩ = some (.int .i64 t.at_) ∧ w.cell? ⟨b, 3, none⟩ = some (.int .i64 t.end_) ∧ w.cell? ⟨b, 4, none⟩ = some kv := by
  obtain ⟨c0, c1, c2, c3, c4⟩ := h
  simp only [Nat.zero_add] at c1 c2 c3 c4
  exact ⟨c0, c1, c2, c3, c4⟩

/-- The cells of a variable, and what else is known. -/
theorem boxHeld {w w' w0 : World} {V : Nat} {x : Tree} {kx : Value} (h : NodeAt w V 0 x kx) (hB : Below w0.heap.size w0 w) (hb : Below w.heap.size w w') : w'.cell? ⟨V, 0, none⟩ = some (.int .i64 x.kind) ∧ w'.cell? ⟨V, 1, none⟩ = some (.string x.text) ∧ w'.cell? ⟨V, 2, none⟩ = some (.int .i64 x.at_) ∧ w'.cell? ⟨V, 3, none⟩ = some (.int .i64 x.end_) ∧ w'.cell? ⟨V, 4, none⟩ = some kx ∧ Hid (Below w0.heap.size w0 w') := by
  obtain ⟨c0, c1, c2, c3, c4⟩ := (h.later hb).cells0
  exact ⟨c0, c1, c2, c3, c4, bt hB hb⟩

theorem boxCells {w w' : World} {V : Nat} {x : Tree} {kx : Value} (h : NodeAt w V 0 x kx) (hb : Below w.heap.size w w') : (w'.cell? ⟨V, 0, none⟩ = some (.int .i64 x.kind) ∧ w'.cell? ⟨V, 1, none⟩ = some (.string x.text) ∧ w'.cell? ⟨V, 2, none⟩ = some (.int .i64 x.at_) ∧ w'.cell? ⟨V, 3, none⟩ = some (.int .i64 x.end_) ∧ w'.cell? ⟨V, 4, none⟩ = some kx) ∧ V < w'.heap.size ∧ V ≠ w'.heap.size :=
  ⟨(h.later hb).cells0, (h.later hb).lt, Nat.ne_of_lt (h.later hb).lt⟩

end Go.Proofs.YtlbaaiglebpjiaaGreatDoor
