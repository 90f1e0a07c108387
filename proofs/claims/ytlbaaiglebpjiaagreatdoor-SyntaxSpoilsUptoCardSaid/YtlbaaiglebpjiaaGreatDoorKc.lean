/-
  Replace of the program and of the reference, in one form; what it does to the count.
-/
import Derived.Test.YtlbaaiglebpjiaaGreatDoorKb
import Derived.Test.YtlbaaiglebpjiaaGreatDoorUf
namespace Go.Proofs.YtlbaaiglebpjiaaGreatDoor
open Go.RowKit Go.Shelf Go.Lib

namespace Tree
theorem countL_set : ∀ {ts : List Tree} {i : Nat} {x : Tree} (y : Tree), ts[i]? = some x → countL (ts.set i y) + x.count = countL ts + y.count
  | [], i, x, y, h => by simp at h
  | t :: ts, 0, x, y, h => by
    simp at h; subst h
    rw [List.set_cons_zero, countL_cons, countL_cons]; omega
  | t :: ts, i + 1, x, y, h => by
    have := countL_set (ts := ts) (i := i) y (by simpa using h)
    rw [List.set_cons_succ, countL_cons, countL_cons]; omega

theorem replace_cons {t x : Tree} {i : Nat} (h : t.kids[i]? = some x) (p : List Nat) (b : Tree) : t.replace (i :: p) b = .mk t.kind t.text t.at_ t.end_ (t.kids.set i (x.replace p b)) := by rw [replace, h]

/-- The number of nodes changes by those that were replaced. -/
theorem replace_count : ∀ {l : List Int} {t y : Tree} (b : Tree), t.get l = some y → (t.replace (l.map Int.toNat) b).count + y.count = t.count + b.count
  | [], t, y, b, h => by simp [get] at h; subst h; rw [List.map_nil, replace]; omega
  | z :: p, t, y, b, h => by
    obtain ⟨m, x, rfl, hx, h2⟩ := get_split h
    have ih := replace_count b h2
    rw [List.map_cons, show ((m : Int)).toNat = m by omega, replace_cons hx, count_eq, count_eq t]
    have := countL_set (x.replace (p.map Int.toNat) b) hx
    show countL (t.kids.set m _) + 1 + _ = _
    omega
end Tree

def repT2 (t : Tree) (l : List Int) (b : Tree) : Tree := if (t.get l).isSome = true then t.replace (l.map Int.toNat) b else zeroT
def errT (t : Tree) (l : List Int) : Int := if (t.get l).isSome = true then 0 else 7
def ReplU (t : Tree) (l : List Int) (b : Tree) (w : World) (e : Ending) (w' : World) : Prop :=
  ∃ p n c, e = .returned (.tuple #[nodeV (repT2 t l b) (.slice p n c), .int .i64 (errT t l)]) ∧ KidsV w' (.slice p n c) (repT2 t l b).kids ∧ Below w.heap.size w w'

theorem replU (t b : Tree) (kt kb : Value) (l : List Int) (pv : Value) (w : World) (hk : KidsV w kt t.kids) (hp : IntsV w pv l) (hkb : KidsV w kb b.kids) (hlb : l.length ≤ 4611686018427387904) (hct : t.count ≤ 4194304) (hcb : b.count ≤ 4194304) :
    Calls Tryz.prog 36 #[nodeV t kt, pv, nodeV b kb] w (ReplU t l b w) := by
  cases hg : t.get l with
  | none =>
    refine (replace_none t b kt kb l pv w hk hp hkb hlb hg).mono ?_
    rintro e w' ⟨rfl, hb⟩
    refine ⟨none, 0, 0, ?_, ?_, hb⟩
    · unfold repT2 errT; rw [hg]; rfl
    · unfold repT2; rw [hg]; exact KidsV.nil _ _ _
  | some y =>
    refine (replace_some t b kt kb l pv w hk hp hkb hlb hct hcb y hg).mono ?_
    rintro e w' ⟨hb, p, m, c, rfl, hO⟩
    refine ⟨p, m, c, ?_, ?_, hb⟩
    · unfold repT2 errT; rw [hg]; rfl
    · unfold repT2; rw [hg]; exact hO.toV

theorem refReplU (t b : Tree) (kt kb : Value) (l : List Int) (pv : Value) (w : World) (hk : KidsV w kt t.kids) (hp : IntsV w pv l) (hcp : CapOk pv) (hkb : KidsV w kb b.kids) (hlb : l.length ≤ 4194304) (hct : t.count ≤ 4194304) :
    Calls Tryz.prog 37 #[nodeV t kt, pv, nodeV b kb] w (ReplU t l b w) := by
  refine (refReplace_any (fun k => k < w.heap.size) b kb l t kt pv w (fun _ h => h) hk.toS hkb.toS hp hcp hct hlb).mono ?_
  rintro e w' ⟨hb, (⟨y, p, n, c, hg, rfl, hS⟩ | ⟨hg, rfl⟩)⟩
  · refine ⟨p, n, c, ?_, ?_, hb⟩
    · unfold repT2 errT; rw [hg]; rfl
    · unfold repT2; rw [hg]; exact hS.toV
  · refine ⟨none, 0, 0, ?_, ?_, hb⟩
    · unfold repT2 errT; rw [hg]; rfl
    · unfold repT2; rw [hg]; exact KidsV.nil _ _ _

theorem repT2_count (t : Tree) (l : List Int) (b : Tree) : (repT2 t l b).count ≤ t.count + b.count := by
  unfold repT2
  cases hg : t.get l with
  | none => show zeroT.count ≤ _; have h1 : zeroT.count = 1 := by decide
            have := Tree.count_pos t; omega
  | some y => have := Tree.replace_count b hg; show (t.replace _ b).count ≤ _; omega

end Go.Proofs.YtlbaaiglebpjiaaGreatDoor
