/-
  The walk of SyntaxShapes. By gen_vq.py.
-/
import Derived.Test.YtlbaaiglebpjiaaGreatDoorVn
import Derived.Test.YtlbaaiglebpjiaaGreatDoorAw
namespace Go.Proofs.YtlbaaiglebpjiaaGreatDoor
open Go Go.RowKit Go.Shelf Go.Lib

section
variable {ops : Array Oper} {Q : Exit → Act → World → Prop} {i d : Nat} {a : Act} {w : World} {pos : String} {af : Array Edge} {gd : Option (Nat × Bool)}

theorem do_box {B : Nat} {c : Nat} {t : Tree} {p : Option Addr} {n cap : Nat} (ho : ops[i]? = some ⟨some d, .load 24 (.tmp c), 24, pos, af, gd⟩) (hw : Region.wanted ⟨some d, .load 24 (.tmp c), 24, pos, af, gd⟩ (yielded ops a.tmps) = true) (h2 : a.eval (.tmp c) = .pointer (some ⟨B, 0, none⟩)) (hn : NodeAt w B 0 t (.slice p n cap)) :
    Does Tryz.prog ops Q (Ph.is (nodeV t (.slice p n cap))).says i d a w := by
  refine does_value ho rfl hw ?_ (Below.refl _ _) rfl
  have c0 := hn.c0
  have c1 := hn.c1
  have c2 := hn.c2
  have c3 := hn.c3
  have c4 := hn.c4
  simp only [execOp, h2]
  go_simp
  rfl

theorem do_not {c : Nat} {b : Bool} (ho : ops[i]? = some ⟨some d, .unOp .not 4 (.tmp c), 4, pos, af, gd⟩) (hw : Region.wanted ⟨some d, .unOp .not 4 (.tmp c), 4, pos, af, gd⟩ (yielded ops a.tmps) = true) (h2 : a.eval (.tmp c) = .bool b) :
    Does Tryz.prog ops Q (Ph.is (.bool (!b))).says i d a w := by
  refine does_value ho rfl hw ?_ (Below.refl _ _) rfl
  simp only [execOp, h2]
  go_simp

theorem do_same {c1 c2 : Nat} {b : Bool} (ho : ops[i]? = some ⟨some d, .binOp .eql 4 (.tmp c1) (.tmp c2) 4, 4, pos, af, gd⟩) (hw : Region.wanted ⟨some d, .binOp .eql 4 (.tmp c1) (.tmp c2) 4, 4, pos, af, gd⟩ (yielded ops a.tmps) = true) (h1 : a.eval (.tmp c1) = .bool b) (h2 : a.eval (.tmp c2) = .bool b) :
    Does Tryz.prog ops Q (Ph.is (.bool true)).says i d a w := by
  refine does_value ho rfl hw ?_ (Below.refl _ _) rfl
  simp only [execOp, h1, h2]
  cases b <;> go_simp

theorem do_progS {c : Nat} {v : Value} {b : Bool} (ho : ops[i]? = some ⟨some d, .call { callee := .value (.func 13), args := #[.tmp c], argTypes := #[24] }, 4, pos, af, gd⟩)
    (hw : Region.wanted ⟨some d, .call { callee := .value (.func 13), args := #[.tmp c], argTypes := #[24] }, 4, pos, af, gd⟩ (yielded ops a.tmps) = true)
    (h1 : a.eval (.tmp c) = v) (hc : Calls Tryz.prog 13 #[v] w fun e w' => e = .returned (.bool b) ∧ Below w.heap.size w w') : Does Tryz.prog ops Q (Ph.is (.bool b)).says i d a w := by
  refine does_call (f := 13) (args := #[v]) ho rfl hw ?_ (hc.mono ?_)
  · simp only [execOp]
    rw [← h1]
    go_simp
  · rintro e w' ⟨rfl, hb⟩
    exact ⟨_, rfl, rfl, hb⟩

theorem do_progR {c : Nat} {v : Value} {b : Bool} (ho : ops[i]? = some ⟨some d, .call { callee := .value (.func 14), args := #[.tmp c], argTypes := #[24] }, 4, pos, af, gd⟩)
    (hw : Region.wanted ⟨some d, .call { callee := .value (.func 14), args := #[.tmp c], argTypes := #[24] }, 4, pos, af, gd⟩ (yielded ops a.tmps) = true)
    (h1 : a.eval (.tmp c) = v) (hc : Calls Tryz.prog 14 #[v] w fun e w' => e = .returned (.bool b) ∧ Below w.heap.size w w') : Does Tryz.prog ops Q (Ph.is (.bool b)).says i d a w := by
  refine does_call (f := 14) (args := #[v]) ho rfl hw ?_ (hc.mono ?_)
  · simp only [execOp]
    rw [← h1]
    go_simp
  · rintro e w' ⟨rfl, hb⟩
    exact ⟨_, rfl, rfl, hb⟩

theorem do_exprS {c : Nat} {v : Value} {b : Bool} (ho : ops[i]? = some ⟨some d, .call { callee := .value (.func 15), args := #[.tmp c], argTypes := #[24] }, 4, pos, af, gd⟩)
    (hw : Region.wanted ⟨some d, .call { callee := .value (.func 15), args := #[.tmp c], argTypes := #[24] }, 4, pos, af, gd⟩ (yielded ops a.tmps) = true)
    (h1 : a.eval (.tmp c) = v) (hc : Calls Tryz.prog 15 #[v] w fun e w' => e = .returned (.bool b) ∧ Below w.heap.size w w') : Does Tryz.prog ops Q (Ph.is (.bool b)).says i d a w := by
  refine does_call (f := 15) (args := #[v]) ho rfl hw ?_ (hc.mono ?_)
  · simp only [execOp]
    rw [← h1]
    go_simp
  · rintro e w' ⟨rfl, hb⟩
    exact ⟨_, rfl, rfl, hb⟩

theorem do_exprR {c : Nat} {v : Value} {b : Bool} (ho : ops[i]? = some ⟨some d, .call { callee := .value (.func 16), args := #[.tmp c], argTypes := #[24] }, 4, pos, af, gd⟩)
    (hw : Region.wanted ⟨some d, .call { callee := .value (.func 16), args := #[.tmp c], argTypes := #[24] }, 4, pos, af, gd⟩ (yielded ops a.tmps) = true)
    (h1 : a.eval (.tmp c) = v) (hc : Calls Tryz.prog 16 #[v] w fun e w' => e = .returned (.bool b) ∧ Below w.heap.size w w') : Does Tryz.prog ops Q (Ph.is (.bool b)).says i d a w := by
  refine does_call (f := 16) (args := #[v]) ho rfl hw ?_ (hc.mono ?_)
  · simp only [execOp]
    rw [← h1]
    go_simp
  · rintro e w' ⟨rfl, hb⟩
    exact ⟨_, rfl, rfl, hb⟩

theorem do_small {c : Nat} {v : Value} {b : Bool} (ho : ops[i]? = some ⟨some d, .call { callee := .value (.func 12), args := #[.tmp c, .const (.int .i64 200)], argTypes := #[24, 3] }, 4, pos, af, gd⟩)
    (hw : Region.wanted ⟨some d, .call { callee := .value (.func 12), args := #[.tmp c, .const (.int .i64 200)], argTypes := #[24, 3] }, 4, pos, af, gd⟩ (yielded ops a.tmps) = true)
    (h1 : a.eval (.tmp c) = v) (hc : Calls Tryz.prog 12 #[v, .int .i64 200] w fun e w' => e = .returned (.bool b) ∧ Below w.heap.size w w') : Does Tryz.prog ops Q (Ph.is (.bool b)).says i d a w := by
  refine does_call (f := 12) (args := #[v, .int .i64 200]) ho rfl hw ?_ (hc.mono ?_)
  · simp only [execOp]
    rw [← h1]
    go_simp
  · rintro e w' ⟨rfl, hb⟩
    exact ⟨_, rfl, rfl, hb⟩

end

set_option maxRecDepth 100000 in
set_option maxHeartbeats 6400000 in
theorem shapes_walk (t : Tree) (kv : Value) (W : World) (hk : KidsV W kv t.kids) (hct : t.count ≤ 1048576) (hmax : MaxAt W) :
    Calls Tryz.prog 3 #[nodeV t kv] W fun e w' => e = .returned (.bool true) ∧ Below W.heap.size W w' := by
  have haw := fun w (h : Below W.heap.size W w) => awake_any w (hmax.keep h)
  have hsm := fun w (h : Below W.heap.size W w) => refSmall_any 200 (by decide) t kv w (hk.later h) (by omega)
  have hps := fun w (h : Below W.heap.size W w) (hx : TextsOk t) => program_any t kv w (hk.later h) (by omega) hx (hmax.keep h)
  have hpr := fun w (h : Below W.heap.size W w) (hx : TextsOk t) => refPrograms_tree t kv w (hk.later h) (by omega) hx
  have hes := fun w (h : Below W.heap.size W w) (hx : TextsOk t) => expression_any t kv w (hk.later h) (by omega) hx (hmax.keep h)
  have her := fun w (h : Below W.heap.size W w) (hx : TextsOk t) => refExpressions_tree t kv w (hk.later h) (by omega) hx
  simp only [← prog_ref] at hpr
  simp only [← expr_ref] at her
  obtain ⟨p, cap, g, o, rfl, _, _⟩ := hk.open
  have hbA : Below W.heap.size W (W.alloc (.cells #[.int .i64 t.kind, .string t.text, .int .i64 t.at_, .int .i64 t.end_, .slice p t.kids.length cap] 24)) := (Below.refl _ _).alloc (Nat.le_refl _) _
  have hn0 : NodeAt (W.alloc (.cells #[.int .i64 t.kind, .string t.text, .int .i64 t.at_, .int .i64 t.end_, .slice p t.kids.length cap] 24)) W.heap.size 0 t (.slice p t.kids.length cap) := by constructor <;> simp [go_sem]
  have HBA := hidden hbA
  have HN0 := hidden hn0
  clear hk hct hmax hbA hn0
  show Calls Tryz.prog 3 #[.agg #[.int .i64 t.kind, .string t.text, .int .i64 t.at_, .int .i64 t.end_, .slice p t.kids.length cap]] W _
  go_enter Tryz.func3, Tryz.ntmps3
  go_wp2_with fail
  (with_reducible refine (haw _ HBA.out).mono ?_)
  rintro e w1 ⟨rfl, hb1⟩
  have HB1 := hidden (bt HBA.out hb1)
  have HN1 := hidden (HN0.out.stays hb1)
  clear haw hb1 HBA HN0
  go_wp2_with fail
  cases hs : smallB 200 t with
  | false =>
    simp only [hs] at hsm
    refine region_spec (by kernel_rfl) [5, 6, 7, 8, 9, 10, 11, 12, 13, 14, 15, 16, 17, 18, 19, 20, 21, 2] (fun i => (([.is (nodeV t (.slice p t.kids.length cap)), .is (.bool false), .is (.bool true), .is (.bool true), .is undef, .is undef, .is undef, .is undef, .is undef, .is undef, .is undef, .is undef, .is undef, .is undef, .is undef, .is undef, .is (.bool true), .is (.bool true)] : List Ph).getD i .any).says) rfl (by decide) 22 rfl (by decide) (by kernel_rfl) (fun _ _ _ _ h hb => Ph.later h hb) ?_ ?_
    · intro i hi a w' hN hall
      have HN' := HN1.out.stays (bt (Below.refl _ _).drew hN.below)
      have HB' : Below W.heap.size W w' := bt HB1.out.drew hN.below
      have hi' : i < 18 := hi
      rcases (show i = 0 ∨ i = 1 ∨ i = 2 ∨ i = 3 ∨ i = 4 ∨ i = 5 ∨ i = 6 ∨ i = 7 ∨ i = 8 ∨ i = 9 ∨ i = 10 ∨ i = 11 ∨ i = 12 ∨ i = 13 ∨ i = 14 ∨ i = 15 ∨ i = 16 ∨ i = 17 by omega) with rfl | rfl | rfl | rfl | rfl | rfl | rfl | rfl | rfl | rfl | rfl | rfl | rfl | rfl | rfl | rfl | rfl | rfl
      · exact do_box rfl (wanted_free rfl) (hN.base 1 (by decide)) HN'
      · exact do_small rfl (wanted_free rfl) (hall 0 rfl) (hsm _ HB')
      · exact do_not rfl (wanted_free rfl) (hall 1 rfl)
      · exact do_move rfl (wanted_free rfl) (hall 2 rfl)
      · exact do_nothing rfl (wanted_is rfl rfl (hall 3 rfl))
      · exact do_nothing rfl (wanted_is rfl rfl (hall 3 rfl))
      · exact do_nothing rfl (wanted_is rfl rfl (hall 3 rfl))
      · exact do_nothing rfl (wanted_is rfl rfl (hall 3 rfl))
      · exact do_nothing rfl (wanted_is rfl rfl (hall 3 rfl))
      · exact do_nothing rfl (wanted_is rfl rfl (hall 3 rfl))
      · exact do_nothing rfl (wanted_not rfl rfl (hall 9 rfl))
      · exact do_nothing rfl (wanted_not rfl rfl (hall 9 rfl))
      · exact do_nothing rfl (wanted_not rfl rfl (hall 9 rfl))
      · exact do_nothing rfl (wanted_not rfl rfl (hall 9 rfl))
      · exact do_nothing rfl (wanted_not rfl rfl (hall 9 rfl))
      · exact do_nothing rfl (wanted_is rfl rfl (hall 3 rfl))
      · exact do_pickT rfl (wanted_free rfl) (hall 3 rfl) rfl
      · exact do_assign rfl (hall 16 rfl)
    · intro a w' hN hall
      have h4 : a.eval (.tmp 2) = .bool true := hall 17 (by decide)
      go_wp2_with fail
      exact bodyPost_ret (v := .bool true) (by rw [← h4]; exact results_tmp rfl _ _ _) hN.defers ⟨rfl, bt HB1.out.drew hN.below⟩
  | true =>
    have htx : TextsOk t := by
      intro x hx
      unfold smallB at hs
      rw [Bool.and_eq_true] at hs
      have h0 := hs.2
      unfold shortB at h0
      have h1 := List.all_eq_true.1 h0 x hx
      unfold textB at h1
      have h2 : x.text.size ≤ 40 := of_decide_eq_true h1
      omega
    simp only [hs] at hsm
    refine region_spec (by kernel_rfl) [5, 6, 7, 8, 9, 10, 11, 12, 13, 14, 15, 16, 17, 18, 19, 20, 21, 2] (fun i => (([.is (nodeV t (.slice p t.kids.length cap)), .is (.bool true), .is (.bool false), .is (.bool false), .is (nodeV t (.slice p t.kids.length cap)), .is (.bool (progB t)), .is (nodeV t (.slice p t.kids.length cap)), .is (.bool (progB t)), .is (.bool true), .is (.bool true), .is (nodeV t (.slice p t.kids.length cap)), .is (.bool (exprB t)), .is (nodeV t (.slice p t.kids.length cap)), .is (.bool (exprB t)), .is (.bool true), .is (.bool true), .is (.bool true), .is (.bool true)] : List Ph).getD i .any).says) rfl (by decide) 22 rfl (by decide) (by kernel_rfl) (fun _ _ _ _ h hb => Ph.later h hb) ?_ ?_
    · intro i hi a w' hN hall
      have HN' := HN1.out.stays (bt (Below.refl _ _).drew hN.below)
      have HB' : Below W.heap.size W w' := bt HB1.out.drew hN.below
      have hi' : i < 18 := hi
      rcases (show i = 0 ∨ i = 1 ∨ i = 2 ∨ i = 3 ∨ i = 4 ∨ i = 5 ∨ i = 6 ∨ i = 7 ∨ i = 8 ∨ i = 9 ∨ i = 10 ∨ i = 11 ∨ i = 12 ∨ i = 13 ∨ i = 14 ∨ i = 15 ∨ i = 16 ∨ i = 17 by omega) with rfl | rfl | rfl | rfl | rfl | rfl | rfl | rfl | rfl | rfl | rfl | rfl | rfl | rfl | rfl | rfl | rfl | rfl
      · exact do_box rfl (wanted_free rfl) (hN.base 1 (by decide)) HN'
      · exact do_small rfl (wanted_free rfl) (hall 0 rfl) (hsm _ HB')
      · exact do_not rfl (wanted_free rfl) (hall 1 rfl)
      · exact do_move rfl (wanted_free rfl) (hall 2 rfl)
      · exact do_box rfl (wanted_is rfl rfl (hall 3 rfl)) (hN.base 1 (by decide)) HN'
      · exact do_progS rfl (wanted_is rfl rfl (hall 3 rfl)) (hall 4 rfl) (hps _ HB' htx)
      · exact do_box rfl (wanted_is rfl rfl (hall 3 rfl)) (hN.base 1 (by decide)) HN'
      · exact do_progR rfl (wanted_is rfl rfl (hall 3 rfl)) (hall 6 rfl) (hpr _ HB' htx)
      · exact do_same rfl (wanted_is rfl rfl (hall 3 rfl)) (hall 5 rfl) (hall 7 rfl)
      · exact do_move rfl (wanted_is rfl rfl (hall 3 rfl)) (hall 8 rfl)
      · exact do_box rfl (wanted_is rfl rfl (hall 9 rfl)) (hN.base 1 (by decide)) HN'
      · exact do_exprS rfl (wanted_is rfl rfl (hall 9 rfl)) (hall 10 rfl) (hes _ HB' htx)
      · exact do_box rfl (wanted_is rfl rfl (hall 9 rfl)) (hN.base 1 (by decide)) HN'
      · exact do_exprR rfl (wanted_is rfl rfl (hall 9 rfl)) (hall 12 rfl) (her _ HB' htx)
      · exact do_same rfl (wanted_is rfl rfl (hall 9 rfl)) (hall 11 rfl) (hall 13 rfl)
      · exact do_pickT rfl (wanted_is rfl rfl (hall 3 rfl)) (hall 9 rfl) (hall 14 rfl)
      · exact do_pickF rfl (wanted_free rfl) (hall 3 rfl) (hall 15 rfl)
      · exact do_assign rfl (hall 16 rfl)
    · intro a w' hN hall
      have h4 : a.eval (.tmp 2) = .bool true := hall 17 (by decide)
      go_wp2_with fail
      exact bodyPost_ret (v := .bool true) (by rw [← h4]; exact results_tmp rfl _ _ _) hN.defers ⟨rfl, bt HB1.out.drew hN.below⟩

end Go.Proofs.YtlbaaiglebpjiaaGreatDoor
