import Derived.Test.YtlbaaiglebpjiaaGreatDoorZi
import Derived.Test.YtlbaaiglebpjiaaGreatDoorZh
import Derived.Test.YtlbaaiglebpjiaaGreatDoorYj
import Derived.Test.YtlbaaiglebpjiaaGreatDoorYl
import Derived.Test.YtlbaaiglebpjiaaGreatDoorJg
/-
  The chapter's example: what the functions answer there.
-/





namespace Go.Proofs.YtlbaaiglebpjiaaGreatDoor
open Go.RowKit Go.Shelf Go.Lib

def leaf3 : Tree := .mk 36 ⟨#[51]⟩ 0 0 []
def repT : Tree := .mk 2 ⟨#[]⟩ 0 0 [.mk 3 ⟨#[115]⟩ 0 0 [leaf3], exRel]
def leafS : Tree := .mk 35 ⟨#[115]⟩ 0 0 []

theorem exT_count : exT.count = 7 := by kernel_rfl
theorem exT_levels : exT.levels = 5 := by kernel_rfl
theorem exT_prog : progB exT = true := by kernel_rfl
theorem exT_expr : exprB exT = false := by kernel_rfl
theorem exT_path : exT.pathOf 6 = some [1, 0, 0, 0] := by kernel_rfl
theorem exT_get : exT.get [1, 0, 0, 0] = some leafS := by kernel_rfl
theorem exT_number : exT.numberOf [1, 0, 0, 0] = 6 := by kernel_rfl
theorem exT_get2 : exT.get [0, 0] = some (.mk 36 ⟨#[50]⟩ 0 0 []) := by kernel_rfl
theorem exT_rep : exT.replace (([0, 0] : List Int).map Int.toNat) leaf3 = repT := by kernel_rfl
theorem exT_eqv : repT.eqv exT = false := by kernel_rfl
theorem exT_strip : exT.strip = exT := by kernel_rfl
theorem exT_eqv2 : exT.eqv exT = true := by kernel_rfl
theorem repT_texts : repT.texts 36 = [⟨#[51]⟩] := by kernel_rfl
theorem repT_count : repT.count = 7 := by kernel_rfl
theorem exT_texts : TextsOk exT := by
  have h : (exT.nodes.all fun x => decide (x.text.size ≤ 4096)) = true := by kernel_rfl
  exact fun x hx => of_decide_eq_true (List.all_eq_true.1 h x hx)

/-- The example as a value; the example with another number. -/
abbrev exV (p : Option Addr) (c : Nat) : Value := .agg #[.int .i64 2, .string ⟨#[]⟩, .int .i64 0, .int .i64 0, .slice p 2 c]

theorem ex_path {W : World} {p : Option Addr} {c : Nat} (hk : KidsV W (.slice p 2 c) exT.kids) : Calls Tryz.prog 19 #[exV p c, .int .i64 6] W fun e W' => ∃ v, e = .returned (.tuple #[v, .bool true]) ∧ W'.ownsRow W.heap.size 3 1 v 4 [natI 1, natI 0, natI 0, natI 0] ∧ Below W.heap.size W W' := by
  refine (path_any exT (.slice p 2 c) 6 (by decide) W hk (by rw [exT_count]; decide)).mono ?_
  rintro e W' ⟨hb, (⟨q, v, _, hq, rfl, hown⟩ | ⟨h7, _⟩)⟩
  · rw [exT_path] at hq
    obtain rfl := Option.some.inj hq
    exact ⟨v, rfl, hown, hb⟩
  · rw [exT_count] at h7; omega
theorem ex_get {W : World} {p : Option Addr} {c : Nat} {pv : Value} (hk : KidsV W (.slice p 2 c) exT.kids) (hp : IntsV W pv [1, 0, 0, 0]) : Calls Tryz.prog 17 #[exV p c, pv] W fun e W' =>
    ∃ q c', e = .returned (.tuple #[.agg #[.int .i64 35, .string ⟨#[115]⟩, .int .i64 0, .int .i64 0, .slice q 0 c'], .bool true]) ∧ Below W.heap.size W W' := by
  refine (get_any exT (.slice p 2 c) [1, 0, 0, 0] pv W hk hp (by decide) _ exT_get).mono ?_
  rintro e W' ⟨x, q, c', rfl, hx, _, _, hb⟩
  obtain rfl := hx _ rfl
  exact ⟨q, c', rfl, hb⟩
theorem ex_number {W : World} {p : Option Addr} {c : Nat} {pv : Value} (hk : KidsV W (.slice p 2 c) exT.kids) (hp : IntsV W pv [1, 0, 0, 0]) : Calls Tryz.prog 21 #[exV p c, pv] W fun e W' =>
    e = .returned (.tuple #[.int .i64 6, .bool true]) ∧ Below W.heap.size W W' := by
  refine (number_tree exT (.slice p 2 c) [1, 0, 0, 0] pv W hk hp (by decide) (by rw [exT_count]; decide)).mono ?_
  rw [exT_get, exT_number]
  rintro e W' ⟨(⟨y, _, rfl⟩ | ⟨h, _⟩), hb⟩
  · exact ⟨rfl, hb⟩
  · cases h
theorem ex_replace {W : World} {p : Option Addr} {c : Nat} {pv : Value} (hk : KidsV W (.slice p 2 c) exT.kids) (hp : IntsV W pv [0, 0]) : Calls Tryz.prog 36 #[exV p c, pv, .agg #[.int .i64 36, .string ⟨#[51]⟩, .int .i64 0, .int .i64 0, .slice none 0 0]] W fun e W' =>
    ∃ q c', e = .returned (.tuple #[exV q c', .int .i64 0]) ∧ KidsO W' (.slice q 2 c') repT.kids (fun k => W.heap.size ≤ k ∧ k < W'.heap.size) ∧ Below W.heap.size W W' := by
  refine (replace_some exT leaf3 (.slice p 2 c) (.slice none 0 0) [0, 0] pv W hk hp (KidsV.nil _ _ _) (by decide) (by rw [exT_count]; decide) (by decide) _ exT_get2).mono ?_
  rintro e W' ⟨hb, q, m, c', rfl, hO⟩
  rw [exT_rep] at hO ⊢
  obtain rfl : m = 2 := by
    obtain ⟨_, _, hv⟩ := hO.form
    injection hv
  exact ⟨q, c', rfl, hO, hb⟩
theorem ex_prog {W : World} {p : Option Addr} {c : Nat} (hk : KidsV W (.slice p 2 c) exT.kids) (hmax : MaxAt W) : Calls Tryz.prog 13 #[exV p c] W fun e W' => e = .returned (.bool true) ∧ Below W.heap.size W W' := by
  have := program_any exT (.slice p 2 c) W hk (by rw [exT_count]; decide) exT_texts hmax
  rw [exT_prog] at this; exact this
theorem ex_expr {W : World} {p : Option Addr} {c : Nat} (hk : KidsV W (.slice p 2 c) exT.kids) (hmax : MaxAt W) : Calls Tryz.prog 15 #[exV p c] W fun e W' => e = .returned (.bool false) ∧ Below W.heap.size W W' := by
  have := expression_any exT (.slice p 2 c) W hk (by rw [exT_count]; decide) exT_texts hmax
  rw [exT_expr] at this; exact this
theorem ex_count {W : World} {p : Option Addr} {c : Nat} (hk : KidsV W (.slice p 2 c) exT.kids) : Calls Tryz.prog 23 #[exV p c] W fun e W' => e = .returned (.int .i64 7) ∧ Below W.heap.size W W' := by
  have := count_any exT (.slice p 2 c) W hk (by rw [exT_count]; decide)
  rw [exT_count] at this; exact this
theorem ex_levels {W : World} {p : Option Addr} {c : Nat} (hk : KidsV W (.slice p 2 c) exT.kids) : Calls Tryz.prog 25 #[exV p c] W fun e W' => e = .returned (.int .i64 5) ∧ Below W.heap.size W W' := by
  have := levels_any exT (.slice p 2 c) W hk (by rw [exT_count]; decide)
  rw [exT_levels] at this; exact this
theorem ex_equal {W : World} {p q : Option Addr} {c c' : Nat} (hk : KidsV W (.slice q 2 c') repT.kids) (hk2 : KidsV W (.slice p 2 c) exT.kids) : Calls Tryz.prog 29 #[exV q c', exV p c] W fun e W' => e = .returned (.bool false) ∧ Below W.heap.size W W' := by
  have := equal_tree repT exT (.slice q 2 c') (.slice p 2 c) W hk hk2 (by rw [repT_count]; decide)
  rw [exT_eqv] at this; exact this
theorem ex_equal2 {W : World} {p q : Option Addr} {c c' : Nat} (hk : KidsV W (.slice q 2 c') exT.kids) (hk2 : KidsV W (.slice p 2 c) exT.kids) : Calls Tryz.prog 29 #[exV q c', exV p c] W fun e W' => e = .returned (.bool true) ∧ Below W.heap.size W W' := by
  have := equal_tree exT exT (.slice q 2 c') (.slice p 2 c) W hk hk2 (by rw [exT_count]; decide)
  rw [exT_eqv2] at this; exact this
theorem ex_strip {W : World} {p : Option Addr} {c : Nat} (hk : KidsV W (.slice p 2 c) exT.kids) : Calls Tryz.prog 31 #[exV p c] W fun e W' => ∃ q c', e = .returned (exV q c') ∧ KidsV W' (.slice q 2 c') exT.kids ∧ Below W.heap.size W W' := by
  refine (strip_any exT (.slice p 2 c) W hk (by rw [exT_count]; decide)).mono ?_
  rintro e W' ⟨q, m, c', rfl, hO, hb⟩
  rw [exT_strip] at hO ⊢
  obtain rfl : m = 2 := by
    obtain ⟨_, _, hv⟩ := hO.form
    injection hv
  exact ⟨q, c', rfl, hO.toV, hb⟩
theorem ex_texts {W : World} {p : Option Addr} {c : Nat} (hk : KidsV W (.slice p 2 c) repT.kids) : Calls Tryz.prog 34 #[exV p c, .int .i64 36] W fun e W' => ∃ v, e = .returned v ∧ Strs W' v [⟨#[51]⟩] ∧ Below W.heap.size W W' := by
  refine (texts_any repT (.slice p 2 c) 36 W hk (by rw [repT_count]; decide)).mono ?_
  rintro e W' ⟨v, rfl, hown, hb⟩
  rw [repT_texts] at hown
  exact ⟨v, rfl, Strs.of_row hown, hb⟩

end Go.Proofs.YtlbaaiglebpjiaaGreatDoor
/-
  awake.
-/

namespace Go.Proofs.YtlbaaiglebpjiaaGreatDoor
open Go.RowKit Go.Shelf Go.Lib

theorem node_alloc (w : World) (k a e : Int) (s : ByteArray) (kv : Value) (t : TypeId) : (w.alloc (.cells #[.int .i64 k, .string s, .int .i64 a, .int .i64 e, kv] t)).cell? ⟨w.heap.size, 0, none⟩ = some (.int .i64 k) ∧ (w.alloc (.cells #[.int .i64 k, .string s, .int .i64 a, .int .i64 e, kv] t)).cell? ⟨w.heap.size, 1, none⟩ = some (.string s) ∧
    (w.alloc (.cells #[.int .i64 k, .string s, .int .i64 a, .int .i64 e, kv] t)).cell? ⟨w.heap.size, 2, none⟩ = some (.int .i64 a) ∧ (w.alloc (.cells #[.int .i64 k, .string s, .int .i64 a, .int .i64 e, kv] t)).cell? ⟨w.heap.size, 3, none⟩ = some (.int .i64 e) ∧ (w.alloc (.cells #[.int .i64 k, .string s, .int .i64 a, .int .i64 e, kv] t)).cell? ⟨w.heap.size, 4, none⟩ = some kv := by
  refine ⟨by simp, by simp, by simp, by simp, by simp⟩

theorem boxKeep {w w' w0 : World} {V : Nat} {a0 a1 a2 a3 a4 : Value} (h : w.cell? ⟨V, 0, none⟩ = some a0 ∧ w.cell? ⟨V, 1, none⟩ = some a1 ∧ w.cell? ⟨V, 2, none⟩ = some a2 ∧ w.cell? ⟨V, 3, none⟩ = some a3 ∧ w.cell? ⟨V, 4, none⟩ = some a4 ∧ Hid (Below w0.heap.size w0 w))
    (hb : Below w.heap.size w w') : w'.cell? ⟨V, 0, none⟩ = some a0 ∧ w'.cell? ⟨V, 1, none⟩ = some a1 ∧ w'.cell? ⟨V, 2, none⟩ = some a2 ∧ w'.cell? ⟨V, 3, none⟩ = some a3 ∧ w'.cell? ⟨V, 4, none⟩ = some a4 ∧ Hid (Below w0.heap.size w0 w') := by
  obtain ⟨b0, b1, b2, b3, b4, b11⟩ := h
  exact ⟨cell_later b0 hb, cell_later b1 hb, cell_later b2 hb, cell_later b3 hb, cell_later b4 hb, bt b11.out hb⟩

theorem ints2 (W : World) (t : TypeId) : IntsV (W.alloc (.cells #[.int .i64 0, .int .i64 0] t)) (.slice (some ⟨W.heap.size, 0, none⟩) 2 2) [0, 0] := IntsV.lit W [0, 0] t
theorem ints4 (W : World) (t : TypeId) : IntsV (W.alloc (.cells #[.int .i64 1, .int .i64 0, .int .i64 0, .int .i64 0] t)) (.slice (some ⟨W.heap.size, 0, none⟩) 4 4) [1, 0, 0, 0] := IntsV.lit W [1, 0, 0, 0] t
theorem below_alloc (W : World) (o : Obj) : Below W.heap.size W (W.alloc o) := (Below.refl _ _).alloc (Nat.le_refl _) _

theorem ints_at {W : World} {blk : Nat} (h0 : W.cell? ⟨blk, 0, none⟩ = some (.int .i64 0)) (h1 : W.cell? ⟨blk, 1, none⟩ = some (.int .i64 0)) : IntsV W (.slice (some ⟨blk, 0, none⟩) 2 2) [0, 0] := by
  refine ⟨_, _, blk, 0, rfl, fun _ => ⟨rfl, World.block_lt_of_cell? W _ h0⟩, fun i z hz => ?_⟩
  rcases i with _ | _ | i
  · simp at hz; subst hz; exact h0
  · simp at hz; subst hz; exact h1
  · simp at hz

end Go.Proofs.YtlbaaiglebpjiaaGreatDoor
