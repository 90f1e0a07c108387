/-
  Plain facts on paths and numbers; no program stands here.
-/
import Derived.Test.YtlbaaiglebpjiaaGreatDoorYg
namespace Go.Proofs.YtlbaaiglebpjiaaGreatDoor
namespace Tree

/-- A path as integers. -/
def ints (q : List Nat) : List Int := q.map fun (k : Nat) => (k : Int)
theorem ints_cons (k : Nat) (q : List Nat) : ints (k :: q) = (k : Int) :: ints q := rfl
theorem ints_len (q : List Nat) : (ints q).length = q.length := by unfold ints; simp
theorem ints_toNat (q : List Nat) : (ints q).map Int.toNat = q := by
  unfold ints
  rw [List.map_map]
  conv => rhs; rw [← List.map_id q]
  exact List.map_congr_left (fun k _ => by simp)

theorem pathL_some : ∀ {ts : List Tree} {i n : Nat} {q : List Nat}, pathL ts i n = some q →
    ∃ j x q' n', ts[j]? = some x ∧ q = (i + j) :: q' ∧ x.pathOf n' = some q' ∧ n' < x.count ∧ n = countL (ts.take j) + n'
  | [], i, n, q, h => by rw [pathL] at h; cases h
  | t :: ts, i, n, q, h => by
    rw [pathL] at h
    by_cases hn : n < t.count
    · rw [if_pos hn] at h
      obtain ⟨q', h1, rfl⟩ := Option.map_eq_some_iff.1 h
      exact ⟨0, t, q', n, rfl, rfl, h1, hn, by rw [List.take_zero, countL_nil]; omega⟩
    · rw [if_neg hn] at h
      obtain ⟨j, x, q', n', h1, h2, h3, h4, h5⟩ := pathL_some h
      refine ⟨j + 1, x, q', n', by simpa using h1, by rw [h2]; congr 1; omega, h3, h4, ?_⟩
      rw [List.take_succ_cons, countL_cons]; omega

theorem pathL_at : ∀ {ts : List Tree} {i j n : Nat} {x : Tree}, ts[j]? = some x → n < x.count → pathL ts i (countL (ts.take j) + n) = (x.pathOf n).map ((i + j) :: ·)
  | [], i, j, n, x, h, _ => by simp at h
  | t :: ts, i, 0, n, x, h, hn => by
    simp at h; subst h
    rw [List.take_zero, countL_nil, Nat.zero_add, pathL, if_pos hn]; rfl
  | t :: ts, i, j + 1, n, x, h, hn => by
    have h' : ts[j]? = some x := by simpa using h
    rw [List.take_succ_cons, countL_cons, pathL, if_neg (by omega)]
    have e : t.count + countL (ts.take j) + n - t.count = countL (ts.take j) + n := by omega
    rw [e, pathL_at h' hn, show i + 1 + j = i + (j + 1) by omega]

/-- Which kid a number falls into. -/
theorem number_split : ∀ {ts : List Tree} {n : Nat}, n < countL ts → ∃ j x n', ts[j]? = some x ∧ n' < x.count ∧ n = countL (ts.take j) + n'
  | [], n, h => by rw [countL_nil] at h; omega
  | t :: ts, n, h => by
    by_cases hn : n < t.count
    · exact ⟨0, t, n, rfl, hn, by rw [List.take_zero, countL_nil]; omega⟩
    · rw [countL_cons] at h
      obtain ⟨j, x, n', h1, h2, h3⟩ := number_split (ts := ts) (n := n - t.count) (by omega)
      exact ⟨j + 1, x, n', by simpa using h1, h2, by rw [List.take_succ_cons, countL_cons]; omega⟩

theorem pathOf_has (t : Tree) : ∀ {n : Nat}, n < t.count → ∃ q, t.pathOf n = some q := by
  refine induct (P := fun t => ∀ {n : Nat}, n < t.count → ∃ q, t.pathOf n = some q) (fun t ih => ?_) t
  intro n hn
  cases n with
  | zero => exact ⟨[], pathOf_zero t⟩
  | succ n =>
    rw [count_eq] at hn
    obtain ⟨j, x, n', h1, h2, h3⟩ := number_split (ts := t.kids) (n := n) (by omega)
    obtain ⟨q, hq⟩ := ih x (List.mem_of_getElem? h1) h2
    exact ⟨(0 + j) :: q, by rw [pathOf_succ, h3, pathL_at h1 h2, hq]; rfl⟩

theorem pathOf_none (t : Tree) {n : Nat} (h : t.count ≤ n) : t.pathOf n = none := by
  cases n with
  | zero => have := count_pos t; omega
  | succ n =>
    rw [pathOf_succ]
    cases hq : pathL t.kids 0 n with
    | none => rfl
    | some q =>
      obtain ⟨j, x, q', n', h1, _, _, h4, h5⟩ := pathL_some hq
      have := countL_take_lt h1
      rw [count_eq] at h; omega

/-- The path of a number leads to a node of this number. -/
theorem pathOf_get (t : Tree) : ∀ {n : Nat} {q : List Nat}, t.pathOf n = some q → (∃ y, t.get (ints q) = some y) ∧ t.numberOf (ints q) = n := by
  refine induct (P := fun t => ∀ {n : Nat} {q : List Nat}, t.pathOf n = some q → (∃ y, t.get (ints q) = some y) ∧ t.numberOf (ints q) = n) (fun t ih => ?_) t
  intro n q h
  cases n with
  | zero =>
    rw [pathOf_zero] at h
    cases h
    exact ⟨⟨t, rfl⟩, rfl⟩
  | succ n =>
    rw [pathOf_succ] at h
    obtain ⟨j, x, q', n', h1, rfl, h3, h4, rfl⟩ := pathL_some h
    obtain ⟨⟨y, hy⟩, hn⟩ := ih x (List.mem_of_getElem? h1) h3
    rw [ints_cons, Nat.zero_add]
    exact ⟨⟨y, by rw [get_cons h1]; exact hy⟩, by rw [numberOf_cons h1, hn]; omega⟩

/-- The number of a path leads back to it. -/
theorem numberOf_path : ∀ {l : List Int} {t y : Tree}, t.get l = some y → t.pathOf (t.numberOf l) = some (l.map Int.toNat) ∧ ints (l.map Int.toNat) = l
  | [], t, y, h => ⟨by rw [numberOf, pathOf_zero]; rfl, rfl⟩
  | z :: p, t, y, h => by
    obtain ⟨m, x, rfl, hx, h2⟩ := get_split h
    obtain ⟨h3, h4⟩ := numberOf_path h2
    have h5 := numberOf_lt h2
    have hc := count_pos y
    rw [numberOf_cons hx]
    refine ⟨?_, ?_⟩
    · rw [show countL (t.kids.take m) + 1 + x.numberOf p = (countL (t.kids.take m) + x.numberOf p) + 1 by omega, pathOf_succ, pathL_at hx (by omega), h3]
      simp
    · rw [List.map_cons, ints_cons, h4]; simp

/-- Lists of numbers in the order of words. -/
def lexB : List Nat → List Nat → Bool
  | [], [] => false
  | [], _ :: _ => true
  | _ :: _, [] => false
  | a :: p, b :: q => decide (a < b) || (decide (a = b) && lexB p q)

/-- Numbers increase with paths. -/
theorem pathOf_lex (t : Tree) : ∀ {n m : Nat} {p q : List Nat}, n < m → t.pathOf n = some p → t.pathOf m = some q → lexB p q = true := by
  refine induct (P := fun t => ∀ {n m : Nat} {p q : List Nat}, n < m → t.pathOf n = some p → t.pathOf m = some q → lexB p q = true) (fun t ih => ?_) t
  intro n m p q hnm hp hq
  cases m with
  | zero => omega
  | succ m =>
    rw [pathOf_succ] at hq
    obtain ⟨j, x, q', m', h1, rfl, h3, h4, rfl⟩ := pathL_some hq
    cases n with
    | zero =>
      rw [pathOf_zero] at hp
      cases hp
      rfl
    | succ n =>
      rw [pathOf_succ] at hp
      obtain ⟨i, y, p', n', g1, rfl, g3, g4, rfl⟩ := pathL_some hp
      rw [lexB, Nat.zero_add, Nat.zero_add]
      rcases Nat.lt_trichotomy i j with hij | hij | hij
      · simp [hij]
      · subst hij
        rw [g1] at h1
        cases h1
        have := ih _ (List.mem_of_getElem? g1) (n := n') (m := m') (by omega) g3 h3
        simp [this]
      · exfalso
        have hle : countL (t.kids.take (j + 1)) ≤ countL (t.kids.take i) := by
          have e : t.kids.take (j + 1) = (t.kids.take i).take (j + 1) := by rw [List.take_take]; congr 1; omega
          rw [e]; exact countL_take_le _ _
        rw [countL_take h1] at hle
        omega

end Tree
end Go.Proofs.YtlbaaiglebpjiaaGreatDoor
