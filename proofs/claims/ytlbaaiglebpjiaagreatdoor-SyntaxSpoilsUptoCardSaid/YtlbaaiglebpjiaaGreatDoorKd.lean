/-
  Plain facts on a tree in which one node was replaced; no program stands here.
-/
import Derived.Test.YtlbaaiglebpjiaaGreatDoorKc
namespace Go.Proofs.YtlbaaiglebpjiaaGreatDoor
namespace Tree

theorem kids_mk (k : Int) (s : ByteArray) (a e : Int) (ts : List Tree) : (Tree.mk k s a e ts).kids = ts := rfl

/-- The path leads to the new node. -/
theorem get_replace : ∀ {l : List Int} {t y : Tree} (b : Tree), t.get l = some y → (t.replace (l.map Int.toNat) b).get l = some b
  | [], t, y, b, h => by rw [List.map_nil, replace]; rfl
  | z :: p, t, y, b, h => by
    obtain ⟨m, x, rfl, hx, h2⟩ := get_split h
    have hm := (List.getElem?_eq_some_iff.1 hx).1
    rw [List.map_cons, show ((m : Int)).toNat = m by omega, replace_cons hx]
    have e : (Tree.mk t.kind t.text t.at_ t.end_ (t.kids.set m (x.replace (p.map Int.toNat) b))).kids[m]? = some (x.replace (p.map Int.toNat) b) := by
      rw [kids_mk, List.getElem?_set_self hm]
    rw [get_cons e]
    exact get_replace b h2

/-- Replaced back, it is the tree. -/
theorem replace_back : ∀ {l : List Int} {t y : Tree} (b : Tree), t.get l = some y → (t.replace (l.map Int.toNat) b).replace (l.map Int.toNat) y = t
  | [], t, y, b, h => by simp [get] at h; subst h; rw [List.map_nil, replace]
  | z :: p, t, y, b, h => by
    obtain ⟨m, x, rfl, hx, h2⟩ := get_split h
    have hm := (List.getElem?_eq_some_iff.1 hx).1
    rw [List.map_cons, show ((m : Int)).toNat = m by omega, replace_cons hx]
    have e : (Tree.mk t.kind t.text t.at_ t.end_ (t.kids.set m (x.replace (p.map Int.toNat) b))).kids[m]? = some (x.replace (p.map Int.toNat) b) := by
      rw [kids_mk, List.getElem?_set_self hm]
    rw [replace_cons e, replace_back b h2, kids_mk, List.set_set]
    have hx2 : t.kids.set m x = t.kids := by
      obtain ⟨h3, h4⟩ := List.getElem?_eq_some_iff.1 hx
      rw [← h4]; exact List.set_getElem_self h3
    rw [hx2]
    exact (eta t).symm

/-- Paths that part at the k-th place. -/
def Parts (p q : List Int) (k : Nat) : Prop := p.take k = q.take k ∧ ∃ a b, p[k]? = some a ∧ q[k]? = some b ∧ a ≠ b

/-- What lies beside the path is what it was. -/
theorem get_beside : ∀ {k : Nat} {p q : List Int} {t y : Tree} (b : Tree), t.get p = some y → Parts p q k → (t.replace (p.map Int.toNat) b).get q = t.get q
  | k, [], q, t, y, b, h, hp => by obtain ⟨_, a, b', h1, _⟩ := hp; simp at h1
  | k, z :: p, [], t, y, b, h, hp => by obtain ⟨_, a, b', _, h1, _⟩ := hp; simp at h1
  | 0, z :: p, z' :: q, t, y, b, h, hp => by
    obtain ⟨_, a, b', h1, h2, h3⟩ := hp
    simp at h1 h2
    subst h1 h2
    obtain ⟨m, x, rfl, hx, h2⟩ := get_split h
    rw [List.map_cons, show ((m : Int)).toNat = m by omega, replace_cons hx]
    rcases Int.lt_or_le z' 0 with hz | hz
    · rw [get_neg hz, get_neg hz]
    · obtain ⟨m', rfl⟩ : ∃ m' : Nat, z' = m' := ⟨z'.toNat, by omega⟩
      have hne : m ≠ m' := by omega
      have e : (Tree.mk t.kind t.text t.at_ t.end_ (t.kids.set m (x.replace (p.map Int.toNat) b))).kids[m']? = t.kids[m']? := by
        rw [kids_mk, List.getElem?_set_ne hne]
      rw [get, if_pos (by omega), show ((m' : Int)).toNat = m' by omega, e, get, if_pos (by omega), show ((m' : Int)).toNat = m' by omega]
  | k + 1, z :: p, z' :: q, t, y, b, h, hp => by
    obtain ⟨h0, a, b', h1, h2, h3⟩ := hp
    rw [List.take_succ_cons, List.take_succ_cons] at h0
    injection h0 with h0 h00
    subst h0
    obtain ⟨m, x, rfl, hx, h4⟩ := get_split h
    have hm := (List.getElem?_eq_some_iff.1 hx).1
    have ih := get_beside (k := k) (p := p) (q := q) b h4 ⟨h00, a, b', by simpa using h1, by simpa using h2, h3⟩
    rw [List.map_cons, show ((m : Int)).toNat = m by omega, replace_cons hx]
    have e : (Tree.mk t.kind t.text t.at_ t.end_ (t.kids.set m (x.replace (p.map Int.toNat) b))).kids[m]? = some (x.replace (p.map Int.toNat) b) := by
      rw [kids_mk, List.getElem?_set_self hm]
    rw [get_cons e, get_cons hx, ih]

end Tree
end Go.Proofs.YtlbaaiglebpjiaaGreatDoor
