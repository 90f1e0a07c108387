/-
  What the functions and the reference answer, in one form each.
-/
import Derived.Test.YtlbaaiglebpjiaaGreatDoorKa
import Derived.Test.YtlbaaiglebpjiaaGreatDoorJk
import Derived.Test.YtlbaaiglebpjiaaGreatDoorYv
namespace Go.Proofs.YtlbaaiglebpjiaaGreatDoor
open Go.RowKit Go.Shelf Go.Lib

def getT (t : Tree) (l : List Int) : Tree := (t.get l).getD zeroT
def hasT (t : Tree) (l : List Int) : Bool := (t.get l).isSome
def pathN (t : Tree) (z : Int) : Option (List Nat) := if z < 0 then none else t.pathOf z.toNat
def pathT (t : Tree) (z : Int) : List Nat := (pathN t z).getD []
def hasP (t : Tree) (z : Int) : Bool := (pathN t z).isSome
def numT (t : Tree) (l : List Int) : Nat := if (t.get l).isSome = true then t.numberOf l else 0

def GetU (t : Tree) (l : List Int) (w : World) (e : Ending) (w' : World) : Prop :=
  ∃ p n c, e = .returned (.tuple #[nodeV (getT t l) (.slice p n c), .bool (hasT t l)]) ∧ KidsV w (.slice p n c) (getT t l).kids ∧ Below w.heap.size w w'
def PathU (t : Tree) (z : Int) (w : World) (e : Ending) (w' : World) : Prop :=
  ∃ p n c, e = .returned (.tuple #[.slice p n c, .bool (hasP t z)]) ∧ IntsV w' (.slice p n c) (Tree.ints (pathT t z)) ∧ Below w.heap.size w w'
def NumU (t : Tree) (l : List Int) (w : World) (e : Ending) (w' : World) : Prop :=
  e = .returned (.tuple #[.int .i64 (numT t l), .bool (hasT t l)]) ∧ Below w.heap.size w w'

theorem getU_of {t : Tree} {l : List Int} {w w' : World} {e : Ending} (h : ∃ x p c, e = .returned (.tuple #[nodeV x (.slice p x.kids.length c), .bool (t.get l).isSome]) ∧ (∀ y, t.get l = some y → x = y) ∧ (t.get l = none → x = zeroT ∧ p = none ∧ c = 0) ∧ KidsV w (.slice p x.kids.length c) x.kids ∧ Below w.heap.size w w') : GetU t l w e w' := by
  obtain ⟨x, p, c, rfl, h1, h2, h3, h4⟩ := h
  have hx : x = getT t l := by
    unfold getT
    cases hg : t.get l with
    | none => exact (h2 hg).1
    | some y => exact h1 y hg
  subst hx
  exact ⟨p, _, c, rfl, h3, h4⟩

theorem getU (t : Tree) (kv : Value) (l : List Int) (pv : Value) (w : World) (hk : KidsV w kv t.kids) (hp : IntsV w pv l) (hlb : l.length ≤ 4611686018427387904) : Calls Tryz.prog 17 #[nodeV t kv, pv] w (GetU t l w) :=
  (get_any t kv l pv w hk hp hlb _ rfl).mono fun _ _ h => getU_of h
theorem refGetU (t : Tree) (kv : Value) (l : List Int) (pv : Value) (w : World) (hk : KidsV w kv t.kids) (hp : IntsV w pv l) (hlb : l.length ≤ 4611686018427387904) : Calls Tryz.prog 18 #[nodeV t kv, pv] w (GetU t l w) :=
  (refGet_any t kv l pv w hk hp hlb _ rfl).mono fun _ _ h => getU_of h

theorem ints_nil (w : World) : IntsV w (.slice none 0 0) (Tree.ints []) := ⟨none, 0, 0, 0, rfl, fun h => absurd rfl h, fun i z h => by simp [Tree.ints] at h⟩

theorem pathU (t : Tree) (kv : Value) (z : Int) (hz : z ≤ 9223372036854775807) (w : World) (hk : KidsV w kv t.kids) (hct : t.count ≤ 4194304) : Calls Tryz.prog 19 #[nodeV t kv, .int .i64 z] w (PathU t z w) := by
  by_cases h0 : z < 0
  · have e1 : pathN t z = none := by unfold pathN; rw [if_pos h0]
    refine (path_neg t kv z h0 w hk).mono ?_
    rintro e w' ⟨rfl, hb⟩
    exact ⟨none, 0, 0, by unfold hasP; rw [e1]; rfl, by unfold pathT; rw [e1]; exact ints_nil _, hb⟩
  · obtain ⟨n, rfl⟩ : ∃ n : Nat, z = n := ⟨z.toNat, by omega⟩
    have e1 : pathN t (n : Int) = t.pathOf n := by unfold pathN; rw [if_neg h0, show ((n : Int)).toNat = n by omega]
    refine (path_any t kv n (by omega) w hk hct).mono ?_
    rintro e w' ⟨hb, (⟨q, v, _, hq, rfl, hown⟩ | ⟨h, rfl⟩)⟩
    · have hi := IntsV.of_row hown
      obtain ⟨p, c, _, _, rfl, _, _⟩ := hi
      have hi := IntsV.of_row hown
      exact ⟨p, _, c, by unfold hasP; rw [e1, hq]; rfl, by unfold pathT; rw [e1, hq]; exact hi, hb⟩
    · have hn := Tree.pathOf_none t h
      exact ⟨none, 0, 0, by unfold hasP; rw [e1, hn]; rfl, by unfold pathT; rw [e1, hn]; exact ints_nil _, hb⟩

theorem refPathU (t : Tree) (kv : Value) (z : Int) (w : World) (hk : KidsV w kv t.kids) (hct : t.count ≤ 4194304) : Calls Tryz.prog 20 #[nodeV t kv, .int .i64 z] w (PathU t z w) := by
  refine (refPath_any t kv z w hk hct).mono ?_
  rintro e w' ⟨hb, (⟨n, q, v, rfl, hq, rfl, hi⟩ | ⟨h, rfl⟩)⟩
  · have e1 : pathN t (n : Int) = some q := by unfold pathN; rw [if_neg (by omega), show ((n : Int)).toNat = n by omega, hq]
    have hi2 := hi
    obtain ⟨p, c, _, _, rfl, _, _⟩ := hi
    exact ⟨p, _, c, by unfold hasP; rw [e1]; rfl, by unfold pathT; rw [e1]; exact hi2, hb⟩
  · have e1 : pathN t z = none := by
      unfold pathN
      rcases h with h | h
      · rw [if_pos h]
      · rw [if_neg (by omega)]; exact Tree.pathOf_none t (by omega)
    exact ⟨none, 0, 0, by unfold hasP; rw [e1]; rfl, by unfold pathT; rw [e1]; exact ints_nil _, hb⟩

theorem numU_of {t : Tree} {l : List Int} {w w' : World} {e : Ending} (h : (∃ y, t.get l = some y ∧ e = .returned (.tuple #[.int .i64 (t.numberOf l), .bool true])) ∨ (t.get l = none ∧ e = .returned (.tuple #[.int .i64 0, .bool false]))) (hb : Below w.heap.size w w') : NumU t l w e w' := by
  refine ⟨?_, hb⟩
  unfold numT hasT
  rcases h with ⟨y, h1, rfl⟩ | ⟨h1, rfl⟩
  · rw [h1]; rfl
  · rw [h1]; rfl

theorem numU (t : Tree) (kv : Value) (l : List Int) (pv : Value) (w : World) (hk : KidsV w kv t.kids) (hp : IntsV w pv l) (hlb : l.length ≤ 4611686018427387904) (hct : t.count ≤ 4194304) : Calls Tryz.prog 21 #[nodeV t kv, pv] w (NumU t l w) :=
  (number_tree t kv l pv w hk hp hlb hct).mono fun _ _ h => numU_of h.1 h.2
theorem refNumU (t : Tree) (kv : Value) (l : List Int) (pv : Value) (w : World) (hk : KidsV w kv t.kids) (hp : IntsV w pv l) (hct : t.count ≤ 100000) (hll : l.length ≤ 100000) : Calls Tryz.prog 22 #[nodeV t kv, pv] w (NumU t l w) :=
  (refNumber_any t kv l pv w hk hp hct hll).mono fun _ _ h => numU_of h.2 h.1

theorem small_lt {m : Nat} {t : Tree} (h : smallB m t = true) : t.count ≤ m := by
  unfold smallB at h
  rw [Bool.and_eq_true] at h
  exact of_decide_eq_true h.1

theorem pathT_len (t : Tree) (z : Int) : (pathT t z).length ≤ t.count := by
  unfold pathT
  cases h : pathN t z with
  | none => exact Nat.zero_le _
  | some q =>
    unfold pathN at h
    by_cases h0 : z < 0
    · rw [if_pos h0] at h; cases h
    · rw [if_neg h0] at h
      have := path_len' t h
      show q.length ≤ _
      omega

end Go.Proofs.YtlbaaiglebpjiaaGreatDoor
