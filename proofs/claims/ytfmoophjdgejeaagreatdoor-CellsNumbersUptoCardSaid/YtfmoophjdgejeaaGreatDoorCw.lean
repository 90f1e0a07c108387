import Derived.Test.YtfmoophjdgejeaaGreatDoorCv
/-
  The example.
-/
namespace Go.Proofs.YtfmoophjdgejeaaGreatDoor
open Go.RowKit Go.Shelf
attribute [local go_sem] Oper.semAt_some

def exSs : List Int := [2, 3]
def exTs : List Tab := [⟨⟨#[114]⟩, 0, [0, 1], 0, 1, 0⟩, ⟨⟨#[117]⟩, 2, [1], 0, 1, 0⟩, ⟨⟨#[99]⟩, 1, [], -1, 4, 6⟩]

theorem ex_tuple : cellAt (cellsFrom exSs true exTs 0) 5 = some (0, [1, 2]) := by decide
theorem ex_count1 : (cellsFrom exSs true exTs 0).length = 7 := by decide
theorem ex_count2 : (cellsFrom exSs false exTs 0).length = 3 := by decide
theorem ex_tups : (tupsOf exSs [1, 0]).length = 6 := by decide
theorem ex_tuple2 : cellAt (cellsFrom exSs true exTs 0) 6 = some (2, []) := by decide
theorem ex_fmt : fmtS ⟨#[99]⟩ [] = ⟨#[99, 40, 41]⟩ := by
  unfold fmtS joinS
  rfl
theorem ex_valid : validB exSs exTs = true := by kernel_rfl
theorem ex_words : callOf (wordsB ⟨#[114, 32, 40, 32, 49, 44, 48, 50, 32, 41]⟩) = some (⟨#[114]⟩, [1, 2]) := by kernel_rfl

theorem ex_names : ∀ t ∈ exTs, t.name.size ≤ 4096 ∧ t.cols.length ≤ 4611686018427387904 := by
  intro t ht
  simp only [exTs, List.mem_cons, List.not_mem_nil, or_false] at ht
  rcases ht with rfl | rfl | rfl <;> exact ⟨by decide, by decide⟩

theorem ints_lit2 (w : World) (a b : Int) : IntsV (w.alloc (.cells #[.int .i64 a, .int .i64 b] 3)) (.slice (some ⟨w.heap.size, 0, none⟩) 2 2) [a, b] := by
  refine ⟨_, 2, w.heap.size, 0, rfl, fun _ => ⟨rfl, by simp⟩, fun i z h => ?_⟩
  match i with
  | 0 => simp at h; subst h; simp
  | 1 => simp at h; subst h; simp
  | i + 2 => simp at h

theorem ints_lit1 (w : World) (a : Int) : IntsV (w.alloc (.cells #[.int .i64 a] 3)) (.slice (some ⟨w.heap.size, 0, none⟩) 1 1) [a] := by
  refine ⟨_, 1, w.heap.size, 0, rfl, fun _ => ⟨rfl, by simp⟩, fun i z h => ?_⟩
  match i with
  | 0 => simp at h; subst h; simp
  | i + 1 => simp at h

set_option maxRecDepth 100000 in
set_option maxHeartbeats 3200000 in
theorem example_any (w : World) : Calls Tryz.prog 29 #[] w fun e w' => ∃ sv tv, e = .returned (.tuple #[sv, tv]) ∧ IntsV w' sv exSs ∧ TabsV w' tv exTs ∧ Below w.heap.size w w' := by
  obtain ⟨A1, hA1⟩ : ∃ A, A = w.alloc (.cells #[.int .i64 2, .int .i64 3] 3) := ⟨_, rfl⟩
  obtain ⟨A2, hA2⟩ : ∃ A, A = A1.alloc (.cells #[.int .i64 0, .int .i64 1] 3) := ⟨_, rfl⟩
  obtain ⟨A3, hA3⟩ : ∃ A, A = A2.alloc (.cells #[.int .i64 1] 3) := ⟨_, rfl⟩
  obtain ⟨A4, hA4⟩ : ∃ A, A = A3.alloc (.cells #[.string ⟨#[114]⟩, .int .i64 0, .slice (some ⟨A1.heap.size, 0, none⟩) 2 2, .int .i64 0, .int .i64 1, .int .i64 0, .string ⟨#[117]⟩, .int .i64 2, .slice (some ⟨A2.heap.size, 0, none⟩) 1 1, .int .i64 0, .int .i64 1, .int .i64 0,
    .string ⟨#[99]⟩, .int .i64 1, .slice none 0 0, .int .i64 (-1), .int .i64 4, .int .i64 6] 44) := ⟨_, rfl⟩
  have b1 : Below w.heap.size w A1 := by rw [hA1]; exact (Below.refl _ _).alloc (Nat.le_refl _) _
  have b2 : Below A1.heap.size A1 A2 := by rw [hA2]; exact (Below.refl _ _).alloc (Nat.le_refl _) _
  have b3 : Below A2.heap.size A2 A3 := by rw [hA3]; exact (Below.refl _ _).alloc (Nat.le_refl _) _
  have b4 : Below A3.heap.size A3 A4 := by rw [hA4]; exact (Below.refl _ _).alloc (Nat.le_refl _) _
  have i1 : IntsV A4 (.slice (some ⟨w.heap.size, 0, none⟩) 2 2) exSs := by
    have h := ints_lit2 w 2 3
    rw [← hA1] at h
    exact ((h.later b2).later b3).later b4
  have i2 : IntsV A4 (.slice (some ⟨A1.heap.size, 0, none⟩) 2 2) [0, 1] := by
    have h := ints_lit2 A1 0 1
    rw [← hA2] at h
    exact (h.later b3).later b4
  have i3 : IntsV A4 (.slice (some ⟨A2.heap.size, 0, none⟩) 1 1) [1] := by
    have h := ints_lit1 A2 1
    rw [← hA3] at h
    exact h.later b4
  have i0 : IntsV A4 (.slice none 0 0) [] := ⟨none, 0, 0, 0, rfl, fun h => absurd rfl h, fun i z h => by simp at h⟩
  have ht : TabsV A4 (.slice (some ⟨A3.heap.size, 0, none⟩) 3 3) exTs := by
    refine ⟨_, 3, A3.heap.size, 0, fun i => if i = 0 then .slice (some ⟨A1.heap.size, 0, none⟩) 2 2 else if i = 1 then .slice (some ⟨A2.heap.size, 0, none⟩) 1 1 else .slice none 0 0, rfl, fun _ => ⟨rfl, by rw [hA4]; simp⟩, fun i t h => ?_⟩
    match i with
    | 0 =>
      obtain rfl : _ = t := by simpa [exTs] using h
      exact ⟨by rw [hA4]; constructor <;> simp, i2⟩
    | 1 =>
      obtain rfl : _ = t := by simpa [exTs] using h
      exact ⟨by rw [hA4]; constructor <;> simp, i3⟩
    | 2 =>
      obtain rfl : _ = t := by simpa [exTs] using h
      exact ⟨by rw [hA4]; constructor <;> simp, i0⟩
    | i + 3 => simp [exTs] at h
  have hB : Below w.heap.size w A4 := bt (bt (bt b1 b2) b3) b4
  have z1 : A1.heap.size = w.heap.size + 1 := by rw [hA1]; simp
  have z2 : A2.heap.size = w.heap.size + 2 := by rw [hA2, World.size_alloc, z1]
  have z3 : A3.heap.size = w.heap.size + 3 := by rw [hA3, World.size_alloc, z2]
  have HF := hidden (And.intro i1 (And.intro ht hB))
  have HA : Hid (A4 = (((w.alloc (.cells #[.int .i64 2, .int .i64 3] 3)).alloc (.cells #[.int .i64 0, .int .i64 1] 3)).alloc (.cells #[.int .i64 1] 3)).alloc (.cells #[.string ⟨#[114]⟩, .int .i64 0, .slice (some ⟨w.heap.size + 1, 0, none⟩) 2 2, .int .i64 0, .int .i64 1, .int .i64 0, .string ⟨#[117]⟩, .int .i64 2, .slice (some ⟨w.heap.size + 2, 0, none⟩) 1 1, .int .i64 0, .int .i64 1, .int .i64 0,
    .string ⟨#[99]⟩, .int .i64 1, .slice none 0 0, .int .i64 (-1), .int .i64 4, .int .i64 6] 44)) := by show _ = _; rw [hA4, z1, z2, hA3, hA2, hA1]
  rw [z3] at HF
  clear hA1 hA2 hA3 hA4 b1 b2 b3 b4 i1 i2 i3 i0 ht hB z1 z2 z3
  go_enter Tryz.func29, Tryz.ntmps29
  go_wp2_with fail
  rw [← HA.out]
  go_ret2
  exact ⟨_, _, rfl, HF.out⟩

end Go.Proofs.YtfmoophjdgejeaaGreatDoor
