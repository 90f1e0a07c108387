import Derived.RangeFuncNested
import Derived.RangeFuncBound
import Derived.RangeFuncCalls
import Derived.RangeFuncLeaves
import Derived.Shelf.Abstract
import Derived.Shelf.RegionOpen
import Derived.WalkKit
import Derived.OwnWalkIn
import Derived.TacticsInMore
import Derived.LoopNIn
import Derived.LoopIn
import Derived.Test.YtlbaaiglebpjiaaGreatDoorJb
import Derived.Test.YtlbaaiglebpjiaaGreatDoorShelf
import Derived.Maps.AppendAt
/-
  A loop over an iterator that keeps variables of its own in cells: what lies between two marks of the heap is the iterator's, and no round of the caller's turns it. No program stands here.
-/











namespace Go.Proofs.YtlbaaiglebpjiaaGreatDoor
open Go.RowKit Go.Shelf

/-- The iterator's steps: of what lay, only blocks from lo on and below hi are turned. -/
structure Turn (lo hi : Nat) (w w' : World) : Prop where
  os : w'.os = w.os
  tape : w'.tape = w.tape
  output : w'.output = w.output
  size : w.heap.size ≤ w'.heap.size
  block : ∀ k, k < w.heap.size → (k < lo ∨ hi ≤ k) → w'.heap[k]? = w.heap[k]?

/-- A round's steps: between lo and hi nothing is turned. -/
structure Mid (lo hi : Nat) (w w' : World) : Prop where
  size : w.heap.size ≤ w'.heap.size
  block : ∀ k, lo ≤ k → k < hi → w'.heap[k]? = w.heap[k]?

theorem Turn.refl (lo hi : Nat) (w : World) : Turn lo hi w w := ⟨rfl, rfl, rfl, Nat.le_refl _, fun _ _ _ => rfl⟩
theorem Turn.trans {lo hi : Nat} {a b c : World} (h : Turn lo hi a b) (k : Turn lo hi b c) : Turn lo hi a c :=
  ⟨k.os.trans h.os, k.tape.trans h.tape, k.output.trans h.output, Nat.le_trans h.size k.size, fun i hi' ho => (k.block i (Nat.lt_of_lt_of_le hi' h.size) ho).trans (h.block i hi' ho)⟩
theorem Turn.mono {lo lo' hi : Nat} {a b : World} (h : Turn lo hi a b) (hl : lo' ≤ lo) : Turn lo' hi a b :=
  ⟨h.os, h.tape, h.output, h.size, fun i hi' ho => h.block i hi' (by omega)⟩
theorem Turn.of_below {lo hi : Nat} {a b : World} (h : Below a.heap.size a b) : Turn lo hi a b := ⟨h.os, h.tape, h.output, h.size, fun k hk _ => h.block k hk⟩
theorem Turn.below {lo hi B : Nat} {a b : World} (h : Turn lo hi a b) (h1 : B ≤ lo) (h2 : B ≤ a.heap.size) : Below B a b := ⟨h.os, h.tape, h.output, h.size, fun k hk => h.block k (by omega) (.inl (by omega))⟩
theorem putObj_other {w : World} {l k : Nat} {o : Obj} (h : k ≠ l) : (w.putObj l o).heap[k]? = w.heap[k]? := World.putObj_heap_other h
theorem Turn.putObj {lo hi l : Nat} {w : World} (o : Obj) (h1 : lo ≤ l) (h2 : l < hi) : Turn lo hi w (w.putObj l o) :=
  ⟨rfl, rfl, rfl, by simp, fun k _ hk => putObj_other (by omega)⟩
theorem Turn.setCell {lo hi : Nat} {w : World} {p : Addr} (v : Value) (h1 : lo ≤ p.block) (h2 : p.block < hi) : Turn lo hi w (w.setCell p v) :=
  ⟨rfl, rfl, rfl, by simp [World.setCell], fun k _ hk => Below.heap_setCell _ _ _ _ (by omega)⟩

theorem Mid.refl (lo hi : Nat) (w : World) : Mid lo hi w w := ⟨Nat.le_refl _, fun _ _ _ => rfl⟩
theorem Mid.trans {lo hi : Nat} {a b c : World} (h : Mid lo hi a b) (k : Mid lo hi b c) : Mid lo hi a c :=
  ⟨Nat.le_trans h.size k.size, fun i h1 h2 => (k.block i h1 h2).trans (h.block i h1 h2)⟩
theorem Mid.mono {lo lo' hi : Nat} {a b : World} (h : Mid lo hi a b) (hl : lo ≤ lo') : Mid lo' hi a b := ⟨h.size, fun i h1 h2 => h.block i (by omega) h2⟩
theorem Mid.of_below {lo hi B : Nat} {a b : World} (h : Below B a b) (hB : hi ≤ B) : Mid lo hi a b := ⟨h.size, fun i _ h2 => h.block i (by omega)⟩
theorem Mid.putObj {lo hi l : Nat} {w : World} (o : Obj) (h : l < lo ∨ hi ≤ l) : Mid lo hi w (w.putObj l o) := ⟨by simp, fun k h1 h2 => putObj_other (by omega)⟩
theorem Mid.setCell {lo hi : Nat} {w : World} {p : Addr} (v : Value) (h : p.block < lo ∨ hi ≤ p.block) : Mid lo hi w (w.setCell p v) :=
  ⟨by simp [World.setCell], fun k h1 h2 => Below.heap_setCell _ _ _ _ (by omega)⟩
theorem Mid.cell {lo hi : Nat} {a b : World} (h : Mid lo hi a b) {p : Addr} (h1 : lo ≤ p.block) (h2 : p.block < hi) : b.cell? p = a.cell? p := World.cell?_of_block (h.block _ h1 h2)
theorem Mid.frozen {lo hi : Nat} {a b : World} (h : Mid lo hi a b) {p : Addr} (h1 : lo ≤ p.block) (h2 : p.block < hi) : b.frozen? p = a.frozen? p := World.frozen?_of_block (h.block _ h1 h2)

/-- A fact is kept from the walk. -/
theorem hidden {p : Prop} (h : p) : Hid p := h

/-- What one call of yield does, for the iterator. -/
def SaysAt {α : Type} (n lo H : Nat) (J Jx : Nat → List α → World → Prop) (s : List α) (A : World) (e : Ending) (B : World) : Prop :=
  (e = .returned (.bool true) ∧ J H s B ∧ Mid lo H A B ∧ Below n A B) ∨ (e = .returned (.bool false) ∧ Jx H s B ∧ Mid lo H A B ∧ Below n A B)

/-- An iterator that yields the elements of L, in order, unless it is stopped. The rounds keep what lay below n, too. -/
def SeqT {α : Type} (n : Nat) (P : Program) (g : Nat) (lb : Array Value) (enc : α → Value) (L : List α) (w : World) : Prop :=
  ∀ (l : Nat) (J Jx : Nat → List α → World → Prop) (W : World), Below w.heap.size w W →
    (∀ H s A B, J H s A → Turn W.heap.size H A B → J H s B) → (∀ H s A B, Jx H s A → Turn W.heap.size H A B → Jx H s B) →
    (∀ B, Below W.heap.size W B → J B.heap.size [] B) →
    (∀ H pre x A, J H pre A → W.heap.size ≤ H → H ≤ A.heap.size → (pre ++ [x]) <+: L → YieldAt Fence.wide 9 P l #[enc x] A (SaysAt n W.heap.size H J Jx (pre ++ [x]) A)) →
    Calls P g (#[.func (.yield l) #[] #[]] ++ lb) W fun e B => (∃ v, e = .returned v) ∧ ∃ H, W.heap.size ≤ H ∧ H ≤ B.heap.size ∧ (J H L B ∨ ∃ pre, pre <+: L ∧ Jx H pre B)

theorem round_any {P : Program} {l : Nat} {f : FuncId} {tmps : Array Value} {assign body : Code} {w : World} {R : Ending → World → Prop} (m : Nat) (h : RoundIn Fence.wide 9 P l f tmps assign body w R) : RoundIn Fence.wide m P l f tmps assign body w R :=
  ⟨h.1, fun c cs _ => h.2 c cs (room_wide _)⟩
theorem round_in {P : Program} {l : Nat} {f : FuncId} {tmps : Array Value} {assign body : Code} {w : World} {R : Ending → World → Prop} (l' m : Nat) (h : RoundIn Fence.wide 9 P l f tmps assign body w R) : RoundIn (Fence.wide.inRound l') m P l f tmps assign body w R :=
  round_any m h

/-- How the body of a round may be left. -/
def leftT {α : Type} (n lo H : Nat) (I : Nat → List α → World → Prop) (Ix : Nat → Code → List α → World → Prop) (s : List α) (A : World) : Exit → Act → World → Prop
  | .normal, _, B => I H s B ∧ Mid lo H A B ∧ Below n A B
  | .ret, _, B => Ix H .ret s B ∧ Mid lo H A B ∧ Below n A B
  | .exit id, _, B => Ix H (.exit id) s B ∧ Mid lo H A B ∧ Below n A B
  | .goto t, _, B => Ix H (.goto t) s B ∧ Mid lo H A B ∧ Below n A B
  | .panic _, _, _ => False
  | .outgrown, _, _ => False

/-- The loop over such an iterator. -/
theorem rangeT {α : Type} {P : Program} {n : Nat} {g : Operand} {p : Tmp} {assign body : Code} {Q : Exit → Act → World → Prop} {a : Act} {w : World}
    {gf : Nat} {lb : Array Value} (hg : a.eval g = .func (.func gf) #[] lb) (eg : ∀ args w, (callFunc gf args).run P w = .ok (.enter gf args) w)
    {enc : α → Value} {L : List α} {w0 : World} {n₀ : Nat} (hseq : SeqT n₀ P gf lb enc L w0) (hb0 : Below w0.heap.size w0 w) (hn0 : n₀ ≤ w.heap.size)
    (I : Nat → List α → World → Prop) (Ix : Nat → Code → List α → World → Prop) (Ax : Nat → List α → α → Act → World → Prop)
    (hI : ∀ H s A B, I H s A → Turn w.heap.size H A B → I H s B) (hIx : ∀ H c s A B, Ix H c s A → Turn w.heap.size H A B → Ix H c s B)
    (hAx : ∀ H s x a' A B, Ax H s x a' A → Turn w.heap.size H A B → Ax H s x a' B)
    (h0 : ∀ B, Below w.heap.size w B → I B.heap.size [] B)
    (hassign : ∀ l H pre x A, I H pre A → w.heap.size + 2 ≤ H → H ≤ A.heap.size → (pre ++ [x]) <+: L →
      assign.wpIn (Fence.wide.inRound l) 9 P (Exit.then (fun a' B => Ax H pre x a' B ∧ Mid w.heap.size H A B ∧ Below n₀ A B) (fun _ _ _ => False)) { tmps := a.tmps.setIfInBounds p (enc x), defers := [] } A)
    (hbody : ∀ l H pre x a' A, Ax H pre x a' A → w.heap.size + 2 ≤ H → H ≤ A.heap.size → (pre ++ [x]) <+: L →
      body.wpIn (Fence.wide.inRound l) 9 P (leftT n₀ w.heap.size H I Ix (pre ++ [x]) A) a' A)
    (hdone : ∀ H D B, I H L B → w.heap.size ≤ D → D < H → H ≤ B.heap.size → B.heap[D]? = some (.deferred (some [])) → Q .normal { a with defers := { target := .collected D, args := #[] } :: a.defers } B)
    (hstop : ∀ H D c pre B, pre <+: L → Ix H c pre B → w.heap.size ≤ D → D < H → H ≤ B.heap.size → B.heap[D]? = some (.deferred (some [])) → c.wpIn Fence.wide n P Q { a with defers := { target := .collected D, args := #[] } :: a.defers } B) :
    (Code.rangeFunc g #[p] assign body).wpIn Fence.wide n P Q a w := by
  refine wpIn_rangeFunc ?_
  intro fn hfn
  obtain ⟨rec, hrec⟩ : ∃ rec : LoopState → Option Code → Loop, rec = fun st pe => { state := st, pending := pe, fn, tmps := a.tmps, params := #[p], assign, body, defers := w.heap.size } := ⟨_, rfl⟩
  obtain ⟨W1, hW1⟩ : ∃ W1, (w.alloc (.deferred (some []))).alloc (.loop (rec .ready none)) = W1 := ⟨_, rfl⟩
  have hs1 : W1.heap.size = w.heap.size + 2 := by rw [← hW1]; simp
  have hl1 : W1.heap[w.heap.size + 1]? = some (.loop (rec .ready none)) := by
    have := World.alloc_heap_new (w.alloc (.deferred (some []))) (.loop (rec .ready none))
    rw [World.size_alloc] at this; rw [← hW1]; exact this
  have hk1 : W1.heap[w.heap.size]? = some (.deferred (some [])) := by
    rw [← hW1]; exact (Below.heap_alloc _ _ _ (by simp)).trans (World.alloc_heap_new w _)
  have hw1 : Below w.heap.size w W1 := by rw [← hW1]; exact ((Below.refl _ w).alloc (Nat.le_refl _) _).alloc (by simp) _
  refine ⟨w.heap.size + 1, [{ target := .collected w.heap.size, args := #[] }], W1, { target := .fn (.func gf) lb, args := #[.func (.yield (w.heap.size + 1)) #[] #[]] }, W1, gf,
    #[.func (.yield (w.heap.size + 1)) #[] #[]] ++ lb, W1, ?_, ?_, fun _ _ => trivial, ?_, fun h => (by cases h), ?_⟩
  · rw [← hW1, hrec]; exact run_enterLoop_outer _ _ _ _ _
  · simp only [resolve, hg]
    simp [go_sem]
  · simp [invoke, go_sem, eg]
  refine (callsIn_wide.2 (hseq (w.heap.size + 1)
    (fun H s A => I H s A ∧ A.heap[w.heap.size + 1]? = some (.loop (rec .ready none)) ∧ A.heap[w.heap.size]? = some (.deferred (some [])))
    (fun H s A => ∃ c, Ix H c s A ∧ A.heap[w.heap.size + 1]? = some (.loop (rec .done (some c))) ∧ A.heap[w.heap.size]? = some (.deferred (some [])))
    W1 (hb0.trans (hw1.mono hb0.size)) ?_ ?_ ?_ ?_)).mono ?_
  · rintro H s A B ⟨hi, hl, hk⟩ ht
    exact ⟨hI _ _ _ _ hi (ht.mono (by omega)), (ht.block _ (Array.getElem?_eq_some_iff.1 hl).1 (.inl (by omega))).trans hl, (ht.block _ (Array.getElem?_eq_some_iff.1 hk).1 (.inl (by omega))).trans hk⟩
  · rintro H s A B ⟨c, hi, hl, hk⟩ ht
    exact ⟨c, hIx _ _ _ _ _ hi (ht.mono (by omega)), (ht.block _ (Array.getElem?_eq_some_iff.1 hl).1 (.inl (by omega))).trans hl, (ht.block _ (Array.getElem?_eq_some_iff.1 hk).1 (.inl (by omega))).trans hk⟩
  · intro B hB
    exact ⟨h0 B (hw1.trans (hB.mono (by omega))), (hB.block _ (by omega)).trans hl1, (hB.block _ (by omega)).trans hk1⟩
  · rintro H pre x A ⟨hi, hl, hk⟩ hH hA hp
    rw [hs1] at hH
    have hlA : w.heap.size + 1 < A.heap.size := (Array.getElem?_eq_some_iff.1 hl).1
    have hy : (Instr.yield (w.heap.size + 1) #[enc x]).run P A = .ok (.round (w.heap.size + 1) fn (a.tmps.setIfInBounds p (enc x)) assign body) A := by
      have h := run_yield (P := P) (args := #[enc x]) hl (by rw [hrec]; rfl)
      rw [hrec] at h
      simpa using h
    refine ⟨fn, _, assign, body, hy, roundIn_of_wpIn hfn ?_⟩
    refine wpIn_mono (hassign _ H pre x A hi hH hA hp) ?_
    intro e a' A1 h
    cases e with
    | normal =>
      obtain ⟨hax, hm1, hw1'⟩ := h
      have hl1' := (hm1.block (w.heap.size + 1) (by omega) (by omega)).trans hl
      have hk1' := (hm1.block w.heap.size (by omega) (by omega)).trans hk
      refine ⟨_, run_beginRound hl1' (by rw [hrec]), ?_⟩
      obtain ⟨A2, hA2⟩ : ∃ A2, A1.putObj (w.heap.size + 1) (.loop { rec .ready none with state := .busy }) = A2 := ⟨_, rfl⟩
      have hl2 : A2.heap[w.heap.size + 1]? = some (.loop { rec .ready none with state := .busy }) := by rw [← hA2]; exact World.putObj_heap_same (Array.getElem?_eq_some_iff.1 hl1').1
      have hk2 : A2.heap[w.heap.size]? = some (.deferred (some [])) := by rw [← hA2]; exact (putObj_other (by omega)).trans hk1'
      have hz2 : A2.heap.size = A1.heap.size := by rw [← hA2]; simp
      have hm2 : Mid (w.heap.size + 2) H A A2 := by rw [← hA2]; exact (hm1.mono (by omega)).trans (Mid.putObj _ (.inl (by omega)))
      have hw2 : Below n₀ A A2 := by rw [← hA2]; exact hw1'.trans (Turn.below (Turn.putObj (lo := w.heap.size) (hi := H) _ (by omega) (by omega)) hn0 (by have := (Array.getElem?_eq_some_iff.1 hl1').1; omega))
      have ht2 : Turn w.heap.size H A1 A2 := by rw [← hA2]; exact Turn.putObj _ (by omega) (by omega)
      rw [hA2]
      refine wpIn_mono (hbody _ H pre x a' A2 (hAx _ _ _ _ _ _ hax ht2) hH (by have := hm1.size; omega) hp) ?_
      have fin : ∀ (jump : Option Code) (B : World), Mid w.heap.size H A2 B → Below n₀ A2 B →
          (Instr.endRound (w.heap.size + 1) jump).run P B = .ok (.bool jump.isNone) (B.putObj (w.heap.size + 1) (.loop (rec (if jump.isNone then .ready else .done) jump))) ∧
          (B.putObj (w.heap.size + 1) (.loop (rec (if jump.isNone then .ready else .done) jump))).heap[w.heap.size + 1]? = some (.loop (rec (if jump.isNone then .ready else .done) jump)) ∧
          (B.putObj (w.heap.size + 1) (.loop (rec (if jump.isNone then .ready else .done) jump))).heap[w.heap.size]? = some (.deferred (some [])) ∧
          Turn w.heap.size H B (B.putObj (w.heap.size + 1) (.loop (rec (if jump.isNone then .ready else .done) jump))) ∧
          Mid (w.heap.size + 2) H A (B.putObj (w.heap.size + 1) (.loop (rec (if jump.isNone then .ready else .done) jump))) ∧
          Below n₀ A (B.putObj (w.heap.size + 1) (.loop (rec (if jump.isNone then .ready else .done) jump))) := fun jump B hm hb => by
        have hl3 := (hm.block (w.heap.size + 1) (by omega) (by omega)).trans hl2
        have hk3 := (hm.block w.heap.size (by omega) (by omega)).trans hk2
        have hr := run_endRound (P := P) jump hl3
        rw [hrec] at hr
        refine ⟨by rw [hrec]; exact hr, World.putObj_heap_same (Array.getElem?_eq_some_iff.1 hl3).1, (putObj_other (by omega)).trans hk3, Turn.putObj _ (by omega) (by omega), (hm2.trans (hm.mono (by omega))).trans (Mid.putObj _ (.inl (by omega))), (hw2.trans hb).trans (Turn.below (Turn.putObj (lo := w.heap.size) (hi := H) _ (by omega) (by omega)) hn0 (by have := (Array.getElem?_eq_some_iff.1 hl3).1; omega))⟩
      intro e a3 B h
      cases e with
      | normal =>
        obtain ⟨h1, h2, h3⟩ := h
        obtain ⟨f1, f2, f3, f4, f5, f6⟩ := fin none B h2 h3
        exact ⟨_, _, f1, .inl ⟨rfl, ⟨hI _ _ _ _ h1 f4, f2, f3⟩, by rw [hs1]; exact f5, f6⟩⟩
      | ret =>
        obtain ⟨h1, h2, h3⟩ := h
        obtain ⟨f1, f2, f3, f4, f5, f6⟩ := fin (some .ret) B h2 h3
        exact ⟨_, _, f1, .inr ⟨rfl, ⟨_, hIx _ _ _ _ _ h1 f4, f2, f3⟩, by rw [hs1]; exact f5, f6⟩⟩
      | exit id =>
        obtain ⟨h1, h2, h3⟩ := h
        obtain ⟨f1, f2, f3, f4, f5, f6⟩ := fin (some (.exit id)) B h2 h3
        exact ⟨_, _, f1, .inr ⟨rfl, ⟨_, hIx _ _ _ _ _ h1 f4, f2, f3⟩, by rw [hs1]; exact f5, f6⟩⟩
      | goto t =>
        obtain ⟨h1, h2, h3⟩ := h
        obtain ⟨f1, f2, f3, f4, f5, f6⟩ := fin (some (.goto t)) B h2 h3
        exact ⟨_, _, f1, .inr ⟨rfl, ⟨_, hIx _ _ _ _ _ h1 f4, f2, f3⟩, by rw [hs1]; exact f5, f6⟩⟩
      | panic ch => exact h.elim
      | outgrown => exact h.elim
    | ret => exact h.elim
    | exit id => exact h.elim
    | goto t => exact h.elim
    | panic ch => exact h.elim
    | outgrown => exact h.elim
  · rintro e B ⟨⟨v, rfl⟩, H, hH, hHB, h⟩
    rw [hs1] at hH
    rcases h with ⟨hi, hl, hk⟩ | ⟨pre, hp, c, hc, hl, hk⟩
    · have h := run_endLoop (P := P) hl (by rw [hrec]; simp)
      rw [show (rec .ready none).pending = none by rw [hrec]] at h
      refine ⟨none, _, h, ?_⟩
      exact hdone H w.heap.size _ (hI _ _ _ _ hi (Turn.putObj _ (by omega) (by omega))) (Nat.le_refl _) (by omega) (by simp; exact hHB) ((putObj_other (by omega)).trans hk)
    · have h := run_endLoop (P := P) hl (by rw [hrec]; simp)
      rw [show (rec .done (some c)).pending = some c by rw [hrec]] at h
      refine ⟨some c, _, h, ?_⟩
      exact hstop H w.heap.size c pre _ hp (hIx _ _ _ _ _ hc (Turn.putObj _ (by omega) (by omega))) (Nat.le_refl _) (by omega) (by simp; exact hHB) ((putObj_other (by omega)).trans hk)

end Go.Proofs.YtlbaaiglebpjiaaGreatDoor
/-
  The tokens of a text, and split's iterator.
-/
namespace Go.Proofs.YtlbaaiglebpjiaaGreatDoor
open Go.RowKit Go.Shelf Go.Lib

theorem wrongF_le (l : List UInt8) : wrongF l ≤ l.length := by
  induction l with
  | nil => simp [wrongF]
  | cons c r ih => unfold wrongF; split <;> simp <;> omega

theorem symL_le (l : List UInt8) : symL l ≤ l.length := by
  cases l with
  | nil => simp [symL]
  | cons a r =>
    cases r with
    | nil => rw [symL]; split <;> simp
    | cons b r =>
      rw [symL]
      split
      · simp
      · split <;> simp

theorem takeWhile_le (p : UInt8 → Bool) (l : List UInt8) : (l.takeWhile p).length ≤ l.length := (List.takeWhile_sublist p).length_le

theorem tokF_pos (c : UInt8) (r : List UInt8) : 0 < (tokF (c :: r)).1 ∧ 0 < (tokF (c :: r)).2 ∧ (tokF (c :: r)).2 ≤ r.length + 1 := by
  have h1 := takeWhile_le partB r
  have h2 := takeWhile_le digitB r
  have h3 := wrongF_le r
  have h4 := symL_le (c :: r)
  rw [List.length_cons] at h4
  have e : tokF (c :: r) = if letterB c then (1, (r.takeWhile partB).length + 1) else if digitB c then (3, (r.takeWhile digitB).length + 1)
    else if 0 < symL (c :: r) then (4, symL (c :: r)) else (5, wrongF r + 1) := by rw [tokF]
  rw [e]
  split
  · exact ⟨Nat.succ_pos _, by simp, by show _ + 1 ≤ _; omega⟩
  · split
    · exact ⟨Nat.succ_pos _, by simp, by show _ + 1 ≤ _; omega⟩
    · split
      · exact ⟨Nat.succ_pos _, by assumption, h4⟩
      · exact ⟨Nat.succ_pos _, by simp, by show _ + 1 ≤ _; omega⟩

theorem nextT_facts (l : List UInt8) (k : Nat) (h : k ≤ l.length) :
    (nextT l k).from_ = k ∧ k ≤ (nextT l k).at_ ∧ (nextT l k).at_ ≤ (nextT l k).end_ ∧ (nextT l k).end_ ≤ l.length ∧
      ((nextT l k).kind = 0 → (nextT l k).at_ = l.length) ∧ ((nextT l k).kind ≠ 0 → (nextT l k).at_ < (nextT l k).end_) := by
  have h1 : k ≤ skipTo l k := by unfold skipTo; omega
  have h2 := skipTo_le l k h
  refine ⟨rfl, h1, Nat.le_add_right _ _, ?_, ?_, ?_⟩
  · show skipTo l k + (tokF (l.drop (skipTo l k))).2 ≤ _
    rcases Nat.lt_or_eq_of_le h2 with h3 | h3
    · rw [drop_get l _ h3]
      have := (tokF_pos (l.getD (skipTo l k) 0) (l.drop (skipTo l k + 1))).2.2
      rw [List.length_drop] at this
      omega
    · rw [h3]; simp [tokF]
  · show (tokF (l.drop (skipTo l k))).1 = 0 → skipTo l k = _
    intro h0
    rcases Nat.lt_or_eq_of_le h2 with h3 | h3
    · rw [drop_get l _ h3] at h0
      have := (tokF_pos (l.getD (skipTo l k) 0) (l.drop (skipTo l k + 1))).1
      omega
    · exact h3
  · show (tokF (l.drop (skipTo l k))).1 ≠ 0 → skipTo l k < skipTo l k + (tokF (l.drop (skipTo l k))).2
    intro h0
    rcases Nat.lt_or_eq_of_le h2 with h3 | h3
    · rw [drop_get l _ h3]
      have := (tokF_pos (l.getD (skipTo l k) 0) (l.drop (skipTo l k + 1))).2.1
      omega
    · rw [h3] at h0; simp [tokF] at h0

def toksF : Nat → List UInt8 → Nat → List Tok
  | 0, _, _ => []
  | f + 1, l, k => nextT l k :: (if (nextT l k).kind = 0 then [] else toksF f l (nextT l k).end_)
/-- The tokens of a text, with names for keywords. -/
def toks (l : List UInt8) : List Tok := toksF (l.length + 1) l 0

/-- The index lies between two marks. -/
def IdxIn (lo S : Nat) (w : World) (b : Nat) (s : ByteArray) : Prop :=
  lo ≤ b ∧ b < S ∧ S ≤ w.heap.size ∧ Idx w b s (feedsOf s.data.toList) ∧ ∀ bf o n cap, w.cell? ⟨b, 1, none⟩ = some (.slice (some ⟨bf, o, none⟩) n cap) → lo ≤ bf ∧ bf < S

theorem IdxIn.of {lo : Nat} {w : World} {b : Nat} {s : ByteArray} (h : Idx w b s (feedsOf s.data.toList)) (hf : IdxFrom lo w b) : IdxIn lo w.heap.size w b s := by
  obtain ⟨bf, cap, h1, h2, h3⟩ := h.feeds
  refine ⟨hf.1, h.own, Nat.le_refl _, h, fun bf' o n cap' hc => ?_⟩
  refine ⟨hf.2 _ _ _ _ hc, ?_⟩
  rw [h2] at hc
  have e : bf = bf' := by simp at hc; exact hc.1.1
  omega

theorem IdxIn.idx {lo S : Nat} {w : World} {b : Nat} {s : ByteArray} (h : IdxIn lo S w b s) : Idx w b s (feedsOf s.data.toList) := by
  obtain ⟨_, _, _, h, _⟩ := h; exact h

theorem IdxIn.mid {lo S : Nat} {w w' : World} {b : Nat} {s : ByteArray} (h : IdxIn lo S w b s) (hm : Mid lo S w w') : IdxIn lo S w' b s := by
  obtain ⟨a1, a2, a3, ⟨h1, h2, h3, hp, h4, h5, bf, cap, h6, h7, h8⟩, a4⟩ := h
  have hz := hm.size
  obtain ⟨b1, b2⟩ := a4 _ _ _ _ h7
  refine ⟨a1, a2, by omega, ⟨h1, h2, h3, hp, by omega, by rw [hm.cell (p := ⟨b, 0, none⟩) a1 a2]; exact h5, bf, cap, by omega, by rw [hm.cell (p := ⟨b, 1, none⟩) a1 a2]; exact h7, fun i hi => by rw [hm.cell (p := ⟨bf, i, none⟩) b1 b2]; exact h8 i hi⟩, fun bf o n cap hc => ?_⟩
  rw [hm.cell (p := ⟨b, 1, none⟩) a1 a2] at hc
  exact a4 _ _ _ _ hc

/-- What split's iterator keeps: the scanner, the token. -/
structure Scan4 (lo H S T b : Nat) (s : ByteArray) (t : Tok) (w : World) : Prop where
  h1 : lo ≤ S
  h2 : S < T
  h3 : T < H
  h4 : H ≤ w.heap.size
  ix : IdxIn lo S w b s
  c0 : w.cell? ⟨S, 0, none⟩ = some (.string s)
  c1 : w.cell? ⟨S, 1, none⟩ = some (.pointer (some ⟨b, 0, none⟩))
  t0 : w.cell? ⟨T, 0, none⟩ = some (.int .i64 t.kind)
  t1 : w.cell? ⟨T, 1, none⟩ = some (.int .i64 t.from_)
  t2 : w.cell? ⟨T, 2, none⟩ = some (.int .i64 t.at_)
  t3 : w.cell? ⟨T, 3, none⟩ = some (.int .i64 t.end_)
  y0 : w.frozen? ⟨T, 0, none⟩ = false
  y1 : w.frozen? ⟨T, 1, none⟩ = false
  y2 : w.frozen? ⟨T, 2, none⟩ = false
  y3 : w.frozen? ⟨T, 3, none⟩ = false

theorem Scan4.mid {lo H S T b : Nat} {s : ByteArray} {t : Tok} {w w' : World} (h : Scan4 lo H S T b s t w) (hm : Mid lo H w w') : Scan4 lo H S T b s t w' := by
  obtain ⟨h1, h2, h3, h4, ix, c0, c1, t0, t1, t2, t3, y0, y1, y2, y3⟩ := h
  have hz := hm.size
  have hl : lo ≤ T := by omega
  have hS : S < H := by omega
  exact ⟨h1, h2, h3, by omega, ix.mid ⟨hm.size, fun k a c => hm.block k a (by omega)⟩, (hm.cell (p := ⟨S, 0, none⟩) h1 hS).trans c0, (hm.cell (p := ⟨S, 1, none⟩) h1 hS).trans c1,
    (hm.cell (p := ⟨T, 0, none⟩) hl h3).trans t0, (hm.cell (p := ⟨T, 1, none⟩) hl h3).trans t1, (hm.cell (p := ⟨T, 2, none⟩) hl h3).trans t2, (hm.cell (p := ⟨T, 3, none⟩) hl h3).trans t3,
    (hm.frozen (p := ⟨T, 0, none⟩) hl h3).trans y0, (hm.frozen (p := ⟨T, 1, none⟩) hl h3).trans y1, (hm.frozen (p := ⟨T, 2, none⟩) hl h3).trans y2, (hm.frozen (p := ⟨T, 3, none⟩) hl h3).trans y3⟩

/-- A token is stored. -/
abbrev putTok (w : World) (T : Nat) (t : Tok) : World :=
  (((w.setCell ⟨T, 0, none⟩ (.int .i64 t.kind)).setCell ⟨T, 1, none⟩ (.int .i64 t.from_)).setCell ⟨T, 2, none⟩ (.int .i64 t.at_)).setCell ⟨T, 3, none⟩ (.int .i64 t.end_)

theorem Scan4.put {lo H S T b : Nat} {s : ByteArray} {t : Tok} {w : World} (h : Scan4 lo H S T b s t w) (t' : Tok) : Scan4 lo H S T b s t' (putTok w T t') := by
  obtain ⟨h1, h2, h3, h4, ix, c0, c1, t0, t1, t2, t3, y0, y1, y2, y3⟩ := h
  have hm : Mid lo (S + 1) w (putTok w T t') := (((Mid.setCell (p := ⟨T, 0, none⟩) _ (.inr h2)).trans (Mid.setCell (p := ⟨T, 1, none⟩) _ (.inr h2))).trans (Mid.setCell (p := ⟨T, 2, none⟩) _ (.inr h2))).trans (Mid.setCell (p := ⟨T, 3, none⟩) _ (.inr h2))
  have hz : (putTok w T t').heap.size = w.heap.size := by simp [putTok, World.setCell]
  refine ⟨h1, h2, h3, by omega, ix.mid ⟨hm.size, fun k a c => hm.block k a (by omega)⟩, (hm.cell (p := ⟨S, 0, none⟩) h1 (by show S < _; omega)).trans c0, (hm.cell (p := ⟨S, 1, none⟩) h1 (by show S < _; omega)).trans c1, ?_, ?_, ?_, ?_, ?_, ?_, ?_, ?_⟩
  · simp [putTok, go_sem, t0]
  · simp [putTok, go_sem, t1]
  · simp [putTok, go_sem, t2]
  · simp [putTok, go_sem, t3]
  · simp [putTok, go_sem, y0]
  · simp [putTok, go_sem, y1]
  · simp [putTok, go_sem, y2]
  · simp [putTok, go_sem, y3]

theorem Scan4.turn {lo H S T b : Nat} {s : ByteArray} {t : Tok} {w : World} (h : Scan4 lo H S T b s t w) (t' : Tok) : Turn lo H w (putTok w T t') := by
  have h1 : lo ≤ T := by have := h.h1; have := h.h2; omega
  exact (((Turn.setCell (p := ⟨T, 0, none⟩) _ h1 h.h3).trans (Turn.setCell (p := ⟨T, 1, none⟩) _ h1 h.h3)).trans (Turn.setCell (p := ⟨T, 2, none⟩) _ h1 h.h3)).trans (Turn.setCell (p := ⟨T, 3, none⟩) _ h1 h.h3)

end Go.Proofs.YtlbaaiglebpjiaaGreatDoor
/-
  Rows of strings; slices.Equal of two of them.
-/
namespace Go.Proofs.YtlbaaiglebpjiaaGreatDoor
open Go.RowKit Go.Shelf Go.Lib

theorem info9 : (Tryz.prog.info? 9).map (fun i => (i.zero, i.size, i.bytes)) = some (some (.string ByteArray.empty), 1, 16) := by kernel_rfl

theorem row_mono {w : World} {b b' : Nat} {e : TypeId} {size n : Nat} {v : Value} {xs : List Value} (h : w.ownsRow b e size v n xs) (hb : b' ≤ b) : w.ownsRow b' e size v n xs := by
  refine ⟨h.1, ?_⟩
  rcases h.2 with h | ⟨g, cap, cur, h1, h2, h3⟩
  · exact .inl h
  · exact .inr ⟨g, cap, cur, h1, by omega, h3⟩

theorem row_block {w : World} {H : Nat} {e : TypeId} {size n : Nat} {v : Value} {xs : List Value} (h : w.ownsRow H e size v n xs) : ∀ k, v.ownBlock = some k → H ≤ k := by
  intro k hk
  rcases h.2 with ⟨rfl, _⟩ | ⟨g, cap, cur, rfl, h2, _⟩
  · cases hk
  · cases hk; exact h2

theorem toksF_len : ∀ (f : Nat) (l : List UInt8) (k : Nat), (toksF f l k).length ≤ f
  | 0, _, _ => by rw [toksF]; exact Nat.le_refl _
  | f + 1, l, k => by
    rw [toksF, List.length_cons]
    have := toksF_len f l (nextT l k).end_
    by_cases h : (nextT l k).kind = 0
    · rw [if_pos h]; simp
    · rw [if_neg h]; omega

/-- What collects the words. -/
def RowOf (w : World) (ws : List ByteArray) (e : Ending) (w' : World) : Prop :=
  ∃ v, e = .returned v ∧ w'.ownsRow w.heap.size 9 1 v ws.length (ws.map Value.string) ∧ Below w.heap.size w w'

/-- A slice value that holds strings. -/
def Strs (w : World) (v : Value) (xs : List ByteArray) : Prop :=
  (v = .slice none 0 0 ∧ xs = []) ∨ ∃ g cap, v = .slice (some ⟨g, 0, none⟩) xs.length cap ∧ g < w.heap.size ∧ ∀ j, j < xs.length → w.cell? ⟨g, 0 + j, none⟩ = some (.string (xs.getD j ByteArray.empty))

theorem Strs.of_row {w : World} {b : Nat} {e : TypeId} {v : Value} {xs : List ByteArray} (h : w.ownsRow b e 1 v xs.length (xs.map Value.string)) : Strs w v xs := by
  rcases h.2 with ⟨rfl, h0⟩ | ⟨g, cap, cur, rfl, h2, h3, h4, h5, h6, h7⟩
  · exact .inl ⟨rfl, List.length_eq_zero_iff.1 h0⟩
  · refine .inr ⟨g, cap, rfl, (Array.getElem?_eq_some_iff.1 h3).1, fun j hj => ?_⟩
    have hc : w.cell? ⟨g, 0 + j, none⟩ = cur[0 + j]? := by simp [World.cell?, h3]
    rw [hc, Nat.zero_add]
    have h8 : (cur.toList.take (xs.length * 1))[j]? = (xs.map Value.string)[j]? := by rw [h7]
    rw [List.getElem?_take, if_pos (by omega)] at h8
    rw [← Array.getElem?_toList, h8, List.getElem?_map, List.getD_eq_getElem?_getD, List.getElem?_eq_getElem hj]
    rfl

theorem Strs.below {w w' : World} {v : Value} {xs : List ByteArray} (h : Strs w v xs) (hb : Below w.heap.size w w') : Strs w' v xs := by
  rcases h with h | ⟨g, cap, h1, h2, h3⟩
  · exact .inl h
  · exact .inr ⟨g, cap, h1, Nat.lt_of_lt_of_le h2 hb.size, fun j hj => (hb.cell (p := ⟨g, 0 + j, none⟩) h2).trans (h3 j hj)⟩

theorem Strs.lit2 (w : World) (a b : ByteArray) : Strs (w.alloc (.cells #[.string a, .string b] 9)) (.slice (some ⟨w.heap.size, 0, none⟩) 2 2) [a, b] := by
  refine .inr ⟨w.heap.size, 2, rfl, by simp, fun j hj => ?_⟩
  rcases j with _ | _ | j
  · simp
  · simp
  · simp at hj; omega

theorem equal_any {w : World} {v1 v2 : Value} {xs ys : List ByteArray} (h1 : Strs w v1 xs) (h2 : Strs w v2 ys) (hx : xs.length ≤ 20000) (hy : ys.length ≤ 20000) :
    Calls Tryz.prog 45 #[v1, v2] w fun e w' => e = .returned (.bool (decide (xs = ys))) ∧ ∃ q, w' = w.drewN q := by
  have hd0 : w = w.drewN 0 := rfl
  have hv1 : ∃ a c, v1 = .slice a xs.length c := by
    rcases h1 with ⟨rfl, rfl⟩ | ⟨g, cap, rfl, _⟩
    · exact ⟨_, _, rfl⟩
    · exact ⟨_, _, rfl⟩
  have hv2 : ∃ a c, v2 = .slice a ys.length c := by
    rcases h2 with ⟨rfl, rfl⟩ | ⟨g, cap, rfl, _⟩
    · exact ⟨_, _, rfl⟩
    · exact ⟨_, _, rfl⟩
  by_cases hl : xs.length = ys.length
  · by_cases h0 : xs.length = 0
    · obtain ⟨a1, c1, rfl⟩ := hv1
      obtain ⟨a2, c2, rfl⟩ := hv2
      rw [h0]
      have e1 : decide (xs = ys) = decide (ys.length = 0) := by
        have hx0 : xs = [] := List.length_eq_zero_iff.1 h0
        have hy0 : ys = [] := List.length_eq_zero_iff.1 (by omega)
        rw [hx0, hy0]; rfl
      rw [e1]
      refine (Tryz.slices_Equal_string_empty a1 a2 c1 ys.length c2 w (by omega)).mono ?_
      rintro e w' ⟨rfl, rfl⟩
      exact ⟨rfl, 0, rfl⟩
    · rcases h1 with ⟨rfl, rfl⟩ | ⟨g1, c1, rfl, _, k1⟩
      · exact absurd rfl h0
      · rcases h2 with ⟨rfl, rfl⟩ | ⟨g2, c2, rfl, _, k2⟩
        · exact absurd hl h0
        · refine (Tryz.slices_Equal_string g1 0 xs.length c1 g2 0 ys.length c2 xs ys w (Nat.le_refl _) (Nat.le_refl _) (by omega) (by omega) k1 k2).mono ?_
          rintro e w' ⟨rfl, h⟩
          rw [List.take_length, List.take_length]
          exact ⟨rfl, h⟩
  · obtain ⟨a1, c1, rfl⟩ := hv1
    obtain ⟨a2, c2, rfl⟩ := hv2
    refine (Tryz.slices_Equal_string_lens a1 a2 xs.length c1 ys.length c2 w hl).mono ?_
    rintro e w' ⟨rfl, rfl⟩
    refine ⟨?_, 0, rfl⟩
    have : xs ≠ ys := fun h => hl (by rw [h])
    simp [this]

theorem below_drewN {B : Nat} {a w : World} (h : Below B a w) (q : Nat) : Below B a (w.drewN q) := ⟨h.os, h.tape, h.output, h.size, h.block⟩

theorem Strs.lit (w : World) (xs : List ByteArray) : Strs (w.alloc (.cells (xs.map Value.string).toArray 9)) (.slice (some ⟨w.heap.size, 0, none⟩) xs.length xs.length) xs := by
  refine .inr ⟨w.heap.size, xs.length, rfl, by simp, fun j hj => ?_⟩
  rw [Nat.zero_add, World.cell?_alloc_new, List.getElem?_toArray, List.getElem?_map, List.getD_eq_getElem?_getD, List.getElem?_eq_getElem hj]
  rfl

end Go.Proofs.YtlbaaiglebpjiaaGreatDoor
