/-
  newShapes, Program, Expression.
-/
import Derived.Test.YtlbaaiglebpjiaaGreatDoorZd
import Derived.Test.YtlbaaiglebpjiaaGreatDoorZf
namespace Go.Proofs.YtlbaaiglebpjiaaGreatDoor
open Go.RowKit Go.Shelf Go.Lib

def TextP.okB : TextP → Bool
  | .oneOf ws => decide (ws.length ≤ 20000)
  | _ => true
def Sh.okB (T : Int → Option Entry) : Sh → Bool
  | .of ks => decide (ks.length ≤ 20000) && ks.all fun k => (T k).isSome
  | .either a b => a.okB T && b.okB T
  | .word ws => decide (ws.length ≤ 20000)
  | .bound x => x.okB T
def Entry.okB (T : Int → Option Entry) : Entry → Bool
  | .parts p l => p.okB && decide (l.length ≤ 20000) && l.all fun x => x.okB T
  | .many p n x => p.okB && decide (n ≤ 20000) && x.okB T

theorem TextP.ok {p : TextP} (h : p.okB = true) : p.small := by
  cases p with
  | oneOf ws => exact (show ws.length ≤ 20000 from of_decide_eq_true h)
  | name => trivial
  | number => trivial
  | integer => trivial
theorem Sh.ok {T : Int → Option Entry} {s : Sh} (h : s.okB T = true) : s.small ∧ s.wf T = true := by
  induction s with
  | of ks =>
    unfold Sh.okB at h
    rw [Bool.and_eq_true] at h
    exact ⟨(show ks.length ≤ 20000 from of_decide_eq_true h.1), h.2⟩
  | either a b iha ihb =>
    unfold Sh.okB at h
    rw [Bool.and_eq_true] at h
    obtain ⟨a1, a2⟩ := iha h.1
    obtain ⟨b1, b2⟩ := ihb h.2
    exact ⟨⟨a1, b1⟩, by unfold Sh.wf; rw [a2, b2]; rfl⟩
  | word ws => exact ⟨(show ws.length ≤ 20000 from of_decide_eq_true h), rfl⟩
  | bound x ih => exact ih h
theorem Entry.ok {T : Int → Option Entry} {e : Entry} (h : e.okB T = true) : e.small ∧ ∀ s ∈ e.kids, s.small ∧ s.wf T = true := by
  cases e with
  | parts p l =>
    unfold Entry.okB at h
    rw [Bool.and_eq_true, Bool.and_eq_true] at h
    exact ⟨⟨TextP.ok h.1.1, of_decide_eq_true h.1.2⟩, fun s hs => Sh.ok (List.all_eq_true.1 h.2 s hs)⟩
  | many p n x =>
    unfold Entry.okB at h
    rw [Bool.and_eq_true, Bool.and_eq_true] at h
    refine ⟨⟨TextP.ok h.1.1, of_decide_eq_true h.1.2⟩, fun s hs => ?_⟩
    have : s = x := by simpa [Entry.kids] using hs
    subst this
    exact Sh.ok h.2

/-- All shapes. -/
def shapesL : List (Int × Entry) := exprL ++ (stmtL ++ (partL ++ (invL ++ (declL ++ []))))
/-- The shape of the nodes of each kind. -/
def tab : Int → Option Entry := tabOf shapesL

theorem tab_ok : TabOk shapesL := by
  have h : (shapesL.all fun x => x.2.okB (tabOf shapesL)) = true := by kernel_rfl
  refine ⟨fun k en hk => ?_⟩
  unfold tabOf at hk
  cases hf : shapesL.find? (fun x => x.1 == k) with
  | none => rw [hf] at hk; cases hk
  | some x =>
    rw [hf] at hk
    have : x.2 = en := Option.some.inj hk
    subst this
    exact Entry.ok (List.all_eq_true.1 h x (List.mem_of_find?_eq_some hf))

theorem MapOk.made (w : World) : MapOk (w.alloc (.map #[] 0)) w.heap.size [] :=
  ⟨.map [], World.ownsMap_made w _ _ _, Maps.isMap_empty, fun k e h => by simp [tabOf] at h⟩

set_option maxRecDepth 100000 in
set_option maxHeartbeats 3200000 in
theorem newShapes_any (w : World) (hmax : MaxAt w) :
    Calls Tryz.prog 48 #[] w fun e w' => e = .returned (.map (some w.heap.size)) ∧ MapOk w' w.heap.size shapesL ∧ Below w.heap.size w w' := by
  have hmm := @run_makeMap Tryz.prog
  have S : Sta (w.alloc (.map #[] 0)) (w.alloc (.map #[] 0)) w.heap.size [] := ⟨MapOk.made w, Below.refl _ _, hmax.keep ((Below.refl _ _).alloc (Nat.le_refl _) _)⟩
  have c1 := addDeclarations_any _ _ _ S (by decide)
  have HB : Hid (Below w.heap.size w (w.alloc (.map #[] 0))) := (Below.refl _ _).alloc (Nat.le_refl _) _
  go_enter Tryz.func48, Tryz.ntmps48
  go_wp2_with fail
  generalize w.alloc (.map #[] 0) = w1 at *
  (with_reducible refine c1.mono ?_)
  rintro e w2 ⟨⟨v2, rfl⟩, s2⟩
  have c2 := addInvariants_any _ _ _ ⟨s2.1, Below.refl _ _, s2.2.2⟩ (by decide)
  have HB2 : Hid (Below w.heap.size w w2) := HB.out.trans s2.2.1
  clear c1 s2 HB S
  go_wp2_with fail
  (with_reducible refine c2.mono ?_)
  rintro e w3 ⟨⟨v3, rfl⟩, s3⟩
  have c3 := addParts_any _ _ _ ⟨s3.1, Below.refl _ _, s3.2.2⟩ (by decide)
  have HB3 : Hid (Below w.heap.size w w3) := HB2.out.trans s3.2.1
  clear c2 s3 HB2
  go_wp2_with fail
  (with_reducible refine c3.mono ?_)
  rintro e w4 ⟨⟨v4, rfl⟩, s4⟩
  have c4 := addStatements_any _ _ _ ⟨s4.1, Below.refl _ _, s4.2.2⟩ (by decide)
  have HB4 : Hid (Below w.heap.size w w4) := HB3.out.trans s4.2.1
  clear c3 s4 HB3
  go_wp2_with fail
  (with_reducible refine c4.mono ?_)
  rintro e w5 ⟨⟨v5, rfl⟩, s5⟩
  have c5 := addExpressions_any _ _ _ ⟨s5.1, Below.refl _ _, s5.2.2⟩ (by decide)
  have HB5 : Hid (Below w.heap.size w w5) := HB4.out.trans s5.2.1
  clear c4 s5 HB4
  go_wp2_with fail
  (with_reducible refine c5.mono ?_)
  rintro e w6 ⟨⟨v6, rfl⟩, s6⟩
  have HM : Hid (MapOk w6 w.heap.size shapesL) := s6.1
  have HB6 : Hid (Below w.heap.size w w6) := HB5.out.trans s6.2.1
  clear c5 s6 HB5
  go_wp2_with fail
  go_ret
  exact ⟨rfl, HM.out, HB6.out⟩

/-- The shapes of expressions alone. -/
def exprShapesL : List (Int × Entry) := exprL ++ []
def exprTab : Int → Option Entry := tabOf exprShapesL

theorem exprTab_ok : TabOk exprShapesL := by
  have h : (exprShapesL.all fun x => x.2.okB (tabOf exprShapesL)) = true := by kernel_rfl
  refine ⟨fun k en hk => ?_⟩
  unfold tabOf at hk
  cases hf : exprShapesL.find? (fun x => x.1 == k) with
  | none => rw [hf] at hk; cases hk
  | some x =>
    rw [hf] at hk
    have : x.2 = en := Option.some.inj hk
    subst this
    exact Entry.ok (List.all_eq_true.1 h x (List.mem_of_find?_eq_some hf))

set_option maxRecDepth 100000 in
set_option maxHeartbeats 3200000 in
theorem newExpressionShapes_any (w : World) (hmax : MaxAt w) :
    Calls Tryz.prog 51 #[] w fun e w' => e = .returned (.map (some w.heap.size)) ∧ MapOk w' w.heap.size exprShapesL ∧ Below w.heap.size w w' := by
  have hmm := @run_makeMap Tryz.prog
  have S : Sta (w.alloc (.map #[] 0)) (w.alloc (.map #[] 0)) w.heap.size [] := ⟨MapOk.made w, Below.refl _ _, hmax.keep ((Below.refl _ _).alloc (Nat.le_refl _) _)⟩
  have c1 := addExpressions_any _ _ _ S (by decide)
  have HB : Hid (Below w.heap.size w (w.alloc (.map #[] 0))) := (Below.refl _ _).alloc (Nat.le_refl _) _
  go_enter Tryz.func51, Tryz.ntmps51
  go_wp2_with fail
  generalize w.alloc (.map #[] 0) = w1 at *
  (with_reducible refine c1.mono ?_)
  rintro e w2 ⟨⟨v2, rfl⟩, s2⟩
  have HM : Hid (MapOk w2 w.heap.size exprShapesL) := s2.1
  have HB2 : Hid (Below w.heap.size w w2) := HB.out.trans s2.2.1
  clear c1 s2 HB S
  go_wp2_with fail
  go_ret
  exact ⟨rfl, HM.out, HB2.out⟩

end Go.Proofs.YtlbaaiglebpjiaaGreatDoor
