/-
  Program and Expression.
-/
import Derived.Test.YtlbaaiglebpjiaaGreatDoorZg
import Derived.Deep.RegionHeld3
namespace Go.Proofs.YtlbaaiglebpjiaaGreatDoor
open Go.RowKit Go.Shelf Go.Lib

/-- What Program and Expression answer. -/
def progB (t : Tree) : Bool := Sh.sem tab t.levels (.of [2]) t
def exprB (t : Tree) : Bool := Sh.sem exprTab t.levels (.of [35, 36, 39, 40]) t

theorem shapes_answer {w0 : World} {m : Nat} (hM : MapOk w0 m shapesL) (t : Tree) (kv : Value) (hk : KidsV w0 kv t.kids) (hc : t.count ≤ 4194304) (ht : TextsOk t) {ks : List Int} (hks : ks.length ≤ 20000) (hwf : (Sh.of ks).wf (tabOf shapesL) = true)
    {v : Value} (hv : ShV w0 m v (.inl (.of ks))) : Asks w0 v t kv (Sh.sem tab t.levels (.of ks) t) :=
  sh_asks hM tab_ok t.levels t (Nat.le_refl _) hc ht kv hk (.of ks) v hv hks hwf

theorem exprShapes_answer {w0 : World} {m : Nat} (hM : MapOk w0 m exprShapesL) (t : Tree) (kv : Value) (hk : KidsV w0 kv t.kids) (hc : t.count ≤ 4194304) (ht : TextsOk t) {ks : List Int} (hks : ks.length ≤ 20000) (hwf : (Sh.of ks).wf (tabOf exprShapesL) = true)
    {v : Value} (hv : ShV w0 m v (.inl (.of ks))) : Asks w0 v t kv (Sh.sem exprTab t.levels (.of ks) t) :=
  sh_asks hM exprTab_ok t.levels t (Nat.le_refl _) hc ht kv hk (.of ks) v hv hks hwf

/-- The variable, what was there. -/
theorem prKeep {w w' w0 : World} {V : Nat} {x : Tree} {kx : Value} (h : w.cell? ⟨V, 0, none⟩ = some (.int .i64 x.kind) ∧ w.cell? ⟨V, 1, none⟩ = some (.string x.text) ∧ w.cell? ⟨V, 2, none⟩ = some (.int .i64 x.at_) ∧ w.cell? ⟨V, 3, none⟩ = some (.int .i64 x.end_) ∧ w.cell? ⟨V, 4, none⟩ = some kx ∧ Hid (Below w0.heap.size w0 w))
    (hb : Below w.heap.size w w') : w'.cell? ⟨V, 0, none⟩ = some (.int .i64 x.kind) ∧ w'.cell? ⟨V, 1, none⟩ = some (.string x.text) ∧ w'.cell? ⟨V, 2, none⟩ = some (.int .i64 x.at_) ∧ w'.cell? ⟨V, 3, none⟩ = some (.int .i64 x.end_) ∧ w'.cell? ⟨V, 4, none⟩ = some kx ∧ Hid (Below w0.heap.size w0 w') := by
  obtain ⟨a0, a1, a2, a3, a4, a11⟩ := h
  have hon := CellsOn.of_below hb
  exact ⟨hon.cell _ _ a0, hon.cell _ _ a1, hon.cell _ _ a2, hon.cell _ _ a3, hon.cell _ _ a4, bt a11.out hb⟩

set_option maxRecDepth 100000 in
set_option maxHeartbeats 6400000 in
theorem expression_any (t : Tree) (kv : Value) (w : World) (hk : KidsV w kv t.kids) (hc : t.count ≤ 4194304) (ht : TextsOk t) (hmax : MaxAt w) :
    Calls Tryz.prog 15 #[nodeV t kv] w fun e w' => e = .returned (.bool (exprB t)) ∧ Below w.heap.size w w' := by
  have hns := fun W (h : Below w.heap.size w W) => newExpressionShapes_any W (hmax.keep h)
  have hex := fun m W => expression_make m W
  have hfin : ∀ (m : Nat) (W1 W2 : World) (g : Nat) (lb : Array Value), Below w.heap.size w W1 → MapOk W1 m exprShapesL → Below W1.heap.size W1 W2 → ShV W2 m (.func (.func g) #[] lb) (.inl (.of [35, 36, 39, 40])) →
      (∀ args w, (callFunc g args).run Tryz.prog w = .ok (.enter g args) w) ∧ ∀ W, Below W2.heap.size W2 W → Calls Tryz.prog g (#[nodeV t kv] ++ lb) W fun e W' => e = .returned (.bool (exprB t)) ∧ Below W.heap.size W W' := by
    intro m W1 W2 g lb hB hM hB2 hv
    obtain ⟨g', lb', he, h1, h2⟩ := exprShapes_answer (hM.later hB2) t kv (hk.later (bt hB hB2)) hc ht (by decide) (by kernel_rfl) hv
    cases he
    exact ⟨h1, h2⟩
  obtain ⟨p, cap, g, o, rfl, _, _⟩ := hk.open
  simp only [nodeV] at hfin ⊢
  clear hk hc ht hmax
  unfold MadeSh at hex
  generalize exprB t = r at *
  obtain ⟨A, hA⟩ : ∃ A, A = w.alloc (.cells #[.int .i64 t.kind, .string t.text, .int .i64 t.at_, .int .i64 t.end_, .slice p t.kids.length cap] 24) := ⟨_, rfl⟩
  have hBA : Hid (Below w.heap.size w A) := by show Below _ _ _; rw [hA]; exact (Below.refl _ _).alloc (Nat.le_refl _) _
  have hS : A.cell? ⟨w.heap.size, 0, none⟩ = some (.int .i64 t.kind) ∧ A.cell? ⟨w.heap.size, 1, none⟩ = some (.string t.text) ∧ A.cell? ⟨w.heap.size, 2, none⟩ = some (.int .i64 t.at_) ∧ A.cell? ⟨w.heap.size, 3, none⟩ = some (.int .i64 t.end_) ∧ A.cell? ⟨w.heap.size, 4, none⟩ = some (.slice p t.kids.length cap) ∧ Hid (Below w.heap.size w A) :=
    ⟨by rw [hA]; simp [go_sem], by rw [hA]; simp [go_sem], by rw [hA]; simp [go_sem], by rw [hA]; simp [go_sem], by rw [hA]; simp [go_sem], hBA⟩
  have HA := hidden hA
  clear hA
  go_enter Tryz.func15, Tryz.ntmps15
  go_wp2_with fail
  rw [← HA.out]
  go_region_held3 (fun w' => w'.cell? ⟨w.heap.size, 0, none⟩ = some (.int .i64 t.kind) ∧ w'.cell? ⟨w.heap.size, 1, none⟩ = some (.string t.text) ∧ w'.cell? ⟨w.heap.size, 2, none⟩ = some (.int .i64 t.at_) ∧ w'.cell? ⟨w.heap.size, 3, none⟩ = some (.int .i64 t.end_) ∧ w'.cell? ⟨w.heap.size, 4, none⟩ = some (.slice p t.kids.length cap) ∧ Hid (Below w.heap.size w w'))
    (first | assumption | (exact prKeep (by assumption) (by assumption)) | (exact prKeep hS ⟨rfl, rfl, rfl, Nat.le_refl _, fun _ _ => rfl⟩))
    (first | (go_at_call 51; (with_reducible refine (hns _ (by first | exact hBA.out.drew | exact below_drewN hBA.out _ | exact hBA.out | exact (hBA.out.alloc hBA.out.size _).drew | exact hBA.out.drew.alloc hBA.out.size _ | exact hBA.out.alloc hBA.out.size _)).mono ?_); rintro e W1 ⟨rfl, hM1, hb1⟩) | (go_at_call 52; (with_reducible refine (hex _ _).mono ?_); rintro e W2 ⟨g2, lb2, rfl, hv2, hb2⟩; obtain ⟨eG, hG⟩ := hfin _ W1 W2 g2 lb2 (by first | exact bt hBA.out hb1 | exact bt hBA.out.drew hb1 | exact bt (below_drewN hBA.out _) hb1) hM1 ⟨hb2.os, hb2.tape, hb2.output, hb2.size, hb2.block⟩ hv2) | (go_at_fn g2; (with_reducible refine (hG _ ⟨rfl, rfl, rfl, Nat.le_refl _, fun _ _ => rfl⟩).mono ?_); rintro e W4 ⟨rfl, hb4⟩))
  have HB := hidden (bt (bt (bt hBA.out.drew hb1) hb2) hb4)
  clear hns hex hfin hS hM1 hb1 hv2 hb2 eG hG hb4
  go_wp2_with fail
  go_ret
  exact ⟨rfl, HB.out⟩

theorem two_cell (W : World) (t : TypeId) : (W.alloc (.cells #[.int .i64 2] t)).cell? ⟨W.heap.size, 0, none⟩ = some (.int .i64 2) := by simp

theorem of_two (m blk : Nat) (W : World) (hc : W.cell? ⟨blk, 0, none⟩ = some (.int .i64 2)) :
    Calls Tryz.prog 49 #[.map (some m), .slice (some ⟨blk, 0, none⟩) 1 1] W (MadeSh m (.inl (.of [2])) W) := by
  refine of_make m [2] ⟨_, _, blk, 0, rfl, fun _ => ⟨rfl, World.block_lt_of_cell? W _ hc⟩, fun i z hz => ?_⟩
  rcases i with _ | i
  · simp at hz; subst hz; exact hc
  · simp at hz

set_option maxRecDepth 100000 in
set_option maxHeartbeats 6400000 in
theorem program_any (t : Tree) (kv : Value) (w : World) (hk : KidsV w kv t.kids) (hc : t.count ≤ 4194304) (ht : TextsOk t) (hmax : MaxAt w) :
    Calls Tryz.prog 13 #[nodeV t kv] w fun e w' => e = .returned (.bool (progB t)) ∧ Below w.heap.size w w' := by
  have hns := fun W (h : Below w.heap.size w W) => newShapes_any W (hmax.keep h)
  have hof := fun m blk W hc => of_two m blk W hc
  have hfin : ∀ (m : Nat) (W1 W2 : World) (g : Nat) (lb : Array Value), Below w.heap.size w W1 → MapOk W1 m shapesL → Below W1.heap.size W1 W2 → ShV W2 m (.func (.func g) #[] lb) (.inl (.of [2])) →
      (∀ args w, (callFunc g args).run Tryz.prog w = .ok (.enter g args) w) ∧ ∀ W, Below W2.heap.size W2 W → Calls Tryz.prog g (#[nodeV t kv] ++ lb) W fun e W' => e = .returned (.bool (progB t)) ∧ Below W.heap.size W W' := by
    intro m W1 W2 g lb hB hM hB2 hv
    obtain ⟨g', lb', he, h1, h2⟩ := shapes_answer (hM.later hB2) t kv (hk.later (bt hB hB2)) hc ht (by decide) (by kernel_rfl) hv
    cases he
    exact ⟨h1, h2⟩
  obtain ⟨p, cap, g, o, rfl, _, _⟩ := hk.open
  simp only [nodeV] at hfin ⊢
  clear hk hc ht hmax
  unfold MadeSh at hof
  generalize progB t = r at *
  obtain ⟨A, hA⟩ : ∃ A, A = w.alloc (.cells #[.int .i64 t.kind, .string t.text, .int .i64 t.at_, .int .i64 t.end_, .slice p t.kids.length cap] 24) := ⟨_, rfl⟩
  have hBA : Hid (Below w.heap.size w A) := by show Below _ _ _; rw [hA]; exact (Below.refl _ _).alloc (Nat.le_refl _) _
  have hS : A.cell? ⟨w.heap.size, 0, none⟩ = some (.int .i64 t.kind) ∧ A.cell? ⟨w.heap.size, 1, none⟩ = some (.string t.text) ∧ A.cell? ⟨w.heap.size, 2, none⟩ = some (.int .i64 t.at_) ∧ A.cell? ⟨w.heap.size, 3, none⟩ = some (.int .i64 t.end_) ∧ A.cell? ⟨w.heap.size, 4, none⟩ = some (.slice p t.kids.length cap) ∧ Hid (Below w.heap.size w A) :=
    ⟨by rw [hA]; simp [go_sem], by rw [hA]; simp [go_sem], by rw [hA]; simp [go_sem], by rw [hA]; simp [go_sem], by rw [hA]; simp [go_sem], hBA⟩
  have hlA : w.heap.size < A.heap.size := by rw [hA]; simp
  have hnA : w.heap.size ≠ A.heap.size := Nat.ne_of_lt hlA
  have HA := hidden hA
  clear hA
  go_enter Tryz.func13, Tryz.ntmps13
  go_wp2_with fail
  rw [← HA.out]
  go_region_held3 (fun w' => w'.cell? ⟨w.heap.size, 0, none⟩ = some (.int .i64 t.kind) ∧ w'.cell? ⟨w.heap.size, 1, none⟩ = some (.string t.text) ∧ w'.cell? ⟨w.heap.size, 2, none⟩ = some (.int .i64 t.at_) ∧ w'.cell? ⟨w.heap.size, 3, none⟩ = some (.int .i64 t.end_) ∧ w'.cell? ⟨w.heap.size, 4, none⟩ = some (.slice p t.kids.length cap) ∧ Hid (Below w.heap.size w w'))
    (first | assumption | (exact prKeep (by assumption) (by assumption)) | (exact prKeep hS ⟨rfl, rfl, rfl, Nat.le_refl _, fun _ _ => rfl⟩) | (exact prKeep (by assumption) ((Below.refl _ _).alloc (Nat.le_refl _) _)) | (exact prKeep hS (((Below.refl _ _).alloc (Nat.le_refl _) _).drew)))
    (first | (go_at_call 48; (with_reducible refine (hns _ (by first | exact hBA.out.drew | exact below_drewN hBA.out _ | exact hBA.out | exact (hBA.out.alloc hBA.out.size _).drew | exact hBA.out.drew.alloc hBA.out.size _ | exact hBA.out.alloc hBA.out.size _)).mono ?_); rintro e W1 ⟨rfl, hM1, hb1⟩; have HW1 : Hid (Below w.heap.size w W1) := (by first | exact bt hBA.out hb1 | exact bt hBA.out.drew hb1 | exact bt (below_drewN hBA.out _) hb1 | exact bt (hBA.out.alloc hBA.out.size _) hb1 | exact bt (hBA.out.drew.alloc hBA.out.size _) hb1 | exact bt ((hBA.out.alloc hBA.out.size _).drew) hb1)) | (go_at_call 49; (with_reducible refine (hof _ _ _ (two_cell _ _)).mono ?_); rintro e W2 ⟨g2, lb2, rfl, hv2, hb2⟩; have HB2 := hidden (bt ((Below.refl W1.heap.size W1).alloc (Nat.le_refl _) (.cells #[.int .i64 2] 3)) hb2); obtain ⟨eG, hG⟩ := hfin _ W1 W2 g2 lb2 HW1.out hM1 HB2.out hv2) | (go_at_call 49; have hcB : W1.cell? ⟨A.heap.size, 0, none⟩ = some (.int .i64 2) := (hb1.cell (p := ⟨A.heap.size, 0, none⟩) (by simp)).trans (by simp); (with_reducible refine (hof _ _ _ hcB).mono ?_); rintro e W2 ⟨g2, lb2, rfl, hv2, hb2⟩; have HB2 := hidden (show Below W1.heap.size W1 W2 from ⟨hb2.os, hb2.tape, hb2.output, hb2.size, hb2.block⟩); obtain ⟨eG, hG⟩ := hfin (A.heap.size + 1) W1 W2 g2 lb2 HW1.out (by have h : MapOk W1 (A.alloc (.cells #[.int .i64 2] 3)).heap.size shapesL := hM1; rw [World.size_alloc] at h; exact h) HB2.out hv2) | (go_at_fn g2; (with_reducible refine (hG _ ⟨rfl, rfl, rfl, Nat.le_refl _, fun _ _ => rfl⟩).mono ?_); rintro e W4 ⟨rfl, hb4⟩))
  all_goals
    have HB := hidden (bt (bt HW1.out HB2.out) hb4)
    clear hns hof hfin hS hM1 hb1 hv2 hb2 eG hG hb4
    go_wp2_with fail
    go_ret
    exact ⟨rfl, HB.out⟩

end Go.Proofs.YtlbaaiglebpjiaaGreatDoor
