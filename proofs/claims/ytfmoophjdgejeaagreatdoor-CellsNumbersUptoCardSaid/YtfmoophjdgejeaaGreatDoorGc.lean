/-
  Parameters that came in: a list of integers; the bound on what was read.
-/
import Derived.Test.YtfmoophjdgejeaaGreatDoorJg
import Derived.Test.YtfmoophjdgejeaaGreatDoorRows
import Derived.ChangeArms
import Derived.DataReads
import Derived.Deep.Slices
import Derived.ChangeSlices
import Derived.OpenShut
namespace Go.Proofs.YtfmoophjdgejeaaGreatDoor
open Go.RowKit Go.ChangeShapes Go.WideShapes
variable {H : Type} {enc : TypeId × Value → H} {W : World}

theorem bulkAll_len : ∀ (l : List (DataW H)), l.length ≤ Rows.uptoBulkAll l
  | [] => Nat.zero_le _
  | d :: l => by
    have h1 : 1 ≤ Rows.uptoBulk d := by
      cases d with
      | lit x => cases x <;> simp [Rows.uptoBulk]
      | nil => simp [Rows.uptoBulk]
      | ptr d => simp [Rows.uptoBulk]
      | slice elems spare => simp [Rows.uptoBulk]
      | agg parts => simp [Rows.uptoBulk]
      | iface t d => simp [Rows.uptoBulk]
      | map entries => simp [Rows.uptoBulk]
      | held h => simp [Rows.uptoBulk]
    have h2 := bulkAll_len l
    rw [List.length_cons, Rows.uptoBulkAll]; omega

theorem cellsInt : Tryz.prog.cellsOf 3 = 1 := by kernel_rfl

set_option maxRecDepth 100000 in
theorem open_intsArg {base : Nat} {v : Value} {d : DataW H} {ps : List MemPlace} (hval : Value.okWide Tryz.prog W .any base 23 v) (h : DataW.Trod enc Tryz.prog W 0 (fun _ => true) true 23 v d ps) :
    ∃ l, IntsV W v l ∧ l.length ≤ Rows.uptoBulk d ∧ ∀ p n c, v = .slice p n c → n ≤ c := by
  obtain ⟨a0, len, cap, rfl⟩ := okWide_slice Tryz.underlying23 hval
  obtain ⟨fuel, hf⟩ := h
  rcases open_ints Tryz.underlying23 Tryz.underlying3 cellsInt hf with ⟨hcs, _⟩ | ⟨a, len', cap', zs, hcs, _, hle, hm, hz, hx, hcell, hwz⟩
  · simp [Value.cells] at hcs
    obtain ⟨rfl, rfl, rfl⟩ := hcs
    exact ⟨[], ⟨none, 0, 0, 0, rfl, fun h => absurd rfl h, fun i z h => by simp at h⟩, Nat.zero_le _, fun p n c h => by cases h; exact Nat.le_refl _⟩
  · simp [Value.cells] at hcs
    obtain ⟨rfl, rfl, rfl⟩ := hcs
    simp only [if_true] at hz
    have hd : d = .slice (lits .i64 (zs.take len)) (lits .i64 (zs.drop len)) := congrArg Prod.fst hx
    obtain ⟨b, o, spot⟩ := a
    have hl : (zs.take len).length = len := by rw [List.length_take]; omega
    refine ⟨zs.take len, ⟨some ⟨b, o, spot⟩, cap, b, o, by rw [hl], fun hne => ?_, fun i z hi => ?_⟩, ?_, fun p n c h => by cases h; exact hle⟩
    · have h0 : 0 < zs.length := by
        rcases Nat.eq_zero_or_pos zs.length with h | h
        · rw [List.length_eq_zero_iff.1 h] at hne; simp at hne
        · exact h
      have hc := hcell 0 h0
      have hsp : spot = none := by simpa [Addr.add] using World.cell?_spot hc
      subst hsp
      exact ⟨rfl, by have := World.block_lt_of_cell? W _ hc; simpa [Addr.add] using this⟩
    · have hi2 : i < len := by have := (List.getElem?_eq_some_iff.1 hi).1; omega
      have hci := hcell i (by omega)
      have hsp : spot = none := by
        have h0 := hcell 0 (by omega)
        simpa [Addr.add] using World.cell?_spot h0
      subst hsp
      rw [add_plain] at hci
      rw [List.getElem?_take, if_pos hi2] at hi
      rw [hci, List.getD_eq_getElem?_getD, hi]; rfl
    · rw [hd, hl, Rows.uptoBulk]
      have h1 := bulkAll_len (H := H) (lits .i64 (zs.take len))
      have h2 : (lits (H := H) .i64 (zs.take len)).length = len := by unfold lits; rw [List.length_map, hl]
      omega

/-- The bound, as the row hands it over. -/
theorem bound_of {l : List (DataW H)} (hk : Rows.uptoSmall H l = true) : Rows.uptoBulkAll l ≤ 1048576 := of_decide_eq_true hk

end Go.Proofs.YtfmoophjdgejeaaGreatDoor
