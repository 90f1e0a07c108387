import Derived.Test.YtfmoophjdgejeaaGreatDoorDa
/-
  Cells and tuples of a valid layout are inverse to each other. No program stands here.
-/
namespace Go.Proofs.YtfmoophjdgejeaaGreatDoor
open Go.RowKit Go.Shelf

theorem within_of_in : ∀ {ss t : List Nat}, InL ss t → withinB ss (natL t) = true
  | [], [], _ => rfl
  | n :: ns, x :: xs, h => by
    have ih := within_of_in h.2
    have h1 := h.1
    show (decide (0 ≤ (x : Int)) && decide ((x : Int) < n) && withinB ns (natL xs)) = true
    rw [ih, decide_eq_true (by omega), decide_eq_true (by omega)]; rfl
  | [], _ :: _, h => h.elim
  | _ :: _, [], h => h.elim

/-- What stands at a place of the cells. -/
theorem cellsFrom_at {ss : List Int} {isS : Bool} {x : Nat × List Nat} : ∀ {l : List Tab} {i c : Nat}, (cellsFrom ss isS l i)[c]? = some x →
    ∃ j t k, x.1 = i + j ∧ l[j]? = some t ∧ strictB t.kind = isS ∧ c = (cellsFrom ss isS (l.take j) i).length + k ∧ k < prodL (lensL ss t.cols) ∧ x.2 = tupN (lensL ss t.cols) k
  | [], i, c, h => by simp [cellsFrom] at h
  | t :: l, i, c, h => by
    rw [cellsFrom] at h
    obtain ⟨A, hA⟩ : ∃ A, A = (if strictB t.kind = isS then (tups (lensL ss t.cols)).map (fun x => (i, x)) else []) := ⟨_, rfl⟩
    rw [← hA] at h
    by_cases hc : c < A.length
    · rw [List.getElem?_append_left hc] at h
      by_cases hs : strictB t.kind = isS
      · rw [if_pos hs] at hA
        subst hA
        rw [List.length_map, tups_len] at hc
        rw [List.getElem?_map, tups_get _ _ hc] at h
        simp only [Option.map_some, Option.some.injEq] at h
        subst h
        exact ⟨0, t, c, rfl, rfl, hs, by simp [cellsFrom], hc, rfl⟩
      · rw [if_neg hs] at hA
        subst hA
        simp at hc
    · rw [List.getElem?_append_right (by omega)] at h
      obtain ⟨j, u, k, h1, h2, h3, h4, h5, h6⟩ := cellsFrom_at h
      refine ⟨j + 1, u, k, by omega, by simpa using h2, h3, ?_, h5, h6⟩
      rw [List.take_succ_cons, cellsFrom, ← hA, List.length_append]
      omega

theorem lens_Pos {ss : List Int} {ts : List Tab} (h : validB ss ts = true) {i : Nat} {t : Tab} (ht : ts[i]? = some t) : Pos (lensL ss t.cols) := fun n hn =>
  (lens_pos (valid_parts h).1 ((valid_parts h).2.2.1 t (List.mem_of_getElem? ht)).1 n hn).1

/-- The cell of a table's tuple. -/
theorem cell_of_tup {ss : List Int} {ts : List Tab} (h : validB ss ts = true) {i : Nat} {t : Tab} (ht : ts[i]? = some t) {k : Nat} (hk : k < prodL (lensL ss t.cols)) :
    cellB ss ts (i : Int) (natL (tupN (lensL ss t.cols) k)) = ((((cellsFrom ss (strictB t.kind) (ts.take i) 0).length + k : Nat) : Int), 0) := by
  have hp := lens_Pos h ht
  unfold cellB
  rw [if_pos h, if_pos (by omega), Int.toNat_natCast, ht]
  simp only []
  rw [if_pos (within_of_in (tup_in hp k)), toNat_natL, horn_tup hp, Nat.mod_eq_of_lt hk, valid_first h ht]
  simp

/-- The cell of what stands at a place. -/
theorem cell_of_at {ss : List Int} {ts : List Tab} {isS : Bool} (h : validB ss ts = true) {c : Nat} {x : Nat × List Nat} (hx : (cellsOf ss ts isS)[c]? = some x) :
    cellB ss ts (x.1 : Int) (natL x.2) = ((c : Int), 0) := by
  unfold cellsOf at hx
  rw [if_pos h] at hx
  obtain ⟨j, t, k, h1, h2, h3, h4, h5, h6⟩ := cellsFrom_at hx
  rw [Nat.zero_add] at h1
  rw [h1, h6, cell_of_tup h h2 h5, h3, ← h4]

theorem at_len {ss : List Int} {ts : List Tab} {isS : Bool} (h : validB ss ts = true) {c : Nat} {x : Nat × List Nat} (hx : (cellsOf ss ts isS)[c]? = some x) : x.2.length ≤ 3 ∧ x.1 < ts.length := by
  unfold cellsOf at hx
  rw [if_pos h] at hx
  obtain ⟨j, t, k, h1, h2, h3, h4, h5, h6⟩ := cellsFrom_at hx
  rw [Nat.zero_add] at h1
  rw [h6, tup_len, lens_len, h1]
  exact ⟨((valid_parts h).2.2.1 t (List.mem_of_getElem? h2)).2.1, (List.getElem?_eq_some_iff.1 h2).1⟩

theorem cellAt_nat {L : List (Nat × List Nat)} {c : Nat} : cellAt L (c : Int) = L[c]? := by
  unfold cellAt
  rw [if_pos (by omega), Int.toNat_natCast]

theorem at_len_cols {ss : List Int} {ts : List Tab} (h : validB ss ts = true) {i : Nat} {t : Tab} (ht : ts[i]? = some t) : (lensL ss t.cols).length ≤ 3 := by
  rw [lens_len]
  exact ((valid_parts h).2.2.1 t (List.mem_of_getElem? ht)).2.1

/-- The tuples of a valid table. -/
theorem tupsOf_valid {ss : List Int} {ts : List Tab} (h : validB ss ts = true) {i : Nat} {t : Tab} (ht : ts[i]? = some t) : tupsOf ss t.cols = tups (lensL ss t.cols) := by
  have hp := valid_parts h
  have h2 := hp.2.2.1 t (List.mem_of_getElem? ht)
  unfold tupsOf
  rw [if_pos ⟨hp.1, h2.1, h2.2.1⟩]

theorem seen_step {ss : List Int} {isS : Bool} {ts : List Tab} {k : Nat} {t : Tab} (h : ts[k]? = some t) :
    (cellsFrom ss isS (ts.take (k + 1)) 0).length = (cellsFrom ss isS (ts.take k) 0).length + if strictB t.kind = isS then prodL (lensL ss t.cols) else 0 := by
  rw [cellsFrom_step h, List.length_append]
  split <;> simp [tups_len]

theorem seen_le {ss : List Int} {ts : List Tab} {isS : Bool} (h : validB ss ts = true) {i : Nat} (hi : i ≤ ts.length) : (cellsFrom ss isS (ts.take i) 0).length ≤ 128 := by
  have h2 := (cellsFrom_prefix (ss := ss) (isS := isS) hi).length_le
  have h3 := (valid_parts h).2.2.2 isS
  omega

theorem cellsOf_le {ss : List Int} {ts : List Tab} {isS : Bool} (h : validB ss ts = true) : (cellsOf ss ts isS).length ≤ 128 := by
  unfold cellsOf
  rw [if_pos h]
  exact (valid_parts h).2.2.2 isS

theorem seen_all {ss : List Int} {ts : List Tab} {isS : Bool} (h : validB ss ts = true) : (cellsFrom ss isS (ts.take ts.length) 0).length = (cellsOf ss ts isS).length := by
  unfold cellsOf
  rw [if_pos h, List.take_length]

end Go.Proofs.YtfmoophjdgejeaaGreatDoor
