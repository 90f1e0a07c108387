import Derived.RangeFuncNested
import Derived.RangeFuncBound
import Derived.RangeFuncCalls
import Derived.RangeFuncLeaves
import Derived.Shelf.Abstract
import Derived.Shelf.RegionOpen
import Derived.WalkKit
import Derived.OwnWalkIn
import Derived.TacticsInMore
import Derived.LoopNIn
import Derived.LoopIn
import Derived.Sort.QuietIn
/-
  A loop over an iterator that keeps variables of its own in cells: what lies between two marks of the heap is the iterator's, and no round of the caller's turns it. No program stands here.
-/











namespace Go.Proofs.YtfmoophjdgejeaaGreatDoor
open Go.RowKit Go.Shelf

/-- The iterator's steps: of what lay, only blocks from lo on and below hi are turned. -/
structure Turn (lo hi : Nat) (w w' : World) : Prop where
  os : w'.os = w.os
  tape : w'.tape = w.tape
  output : w'.output = w.output
  size : w.heap.size ≤ w'.heap.size
  block : ∀ k, k < w.heap.size → (k < lo ∨ hi ≤ k) → w'.heap[k]? = w.heap[k]?

/-- A round's steps: between lo and hi nothing is turned. -/
structure Mid (lo hi : Nat) (w w' : World) : Prop where
  size : w.heap.size ≤ w'.heap.size
  block : ∀ k, lo ≤ k → k < hi → w'.heap[k]? = w.heap[k]?

theorem Turn.refl (lo hi : Nat) (w : World) : Turn lo hi w w := ⟨rfl, rfl, rfl, Nat.le_refl _, fun _ _ _ => rfl⟩
theorem Turn.trans {lo hi : Nat} {a b c : World} (h : Turn lo hi a b) (k : Turn lo hi b c) : Turn lo hi a c :=
  ⟨k.os.trans h.os, k.tape.trans h.tape, k.output.trans h.output, Nat.le_trans h.size k.size, fun i hi' ho => (k.block i (Nat.lt_of_lt_of_le hi' h.size) ho).trans (h.block i hi' ho)⟩
theorem Turn.mono {lo lo' hi : Nat} {a b : World} (h : Turn lo hi a b) (hl : lo' ≤ lo) : Turn lo' hi a b :=
  ⟨h.os, h.tape, h.output, h.size, fun i hi' ho => h.block i hi' (by omega)⟩
theorem Turn.of_below {lo hi : Nat} {a b : World} (h : Below a.heap.size a b) : Turn lo hi a b := ⟨h.os, h.tape, h.output, h.size, fun k hk _ => h.block k hk⟩
theorem Turn.below {lo hi B : Nat} {a b : World} (h : Turn lo hi a b) (h1 : B ≤ lo) (h2 : B ≤ a.heap.size) : Below B a b := ⟨h.os, h.tape, h.output, h.size, fun k hk => h.block k (by omega) (.inl (by omega))⟩
theorem putObj_other {w : World} {l k : Nat} {o : Obj} (h : k ≠ l) : (w.putObj l o).heap[k]? = w.heap[k]? := World.putObj_heap_other h
theorem Turn.putObj {lo hi l : Nat} {w : World} (o : Obj) (h1 : lo ≤ l) (h2 : l < hi) : Turn lo hi w (w.putObj l o) :=
  ⟨rfl, rfl, rfl, by simp, fun k _ hk => putObj_other (by omega)⟩
theorem Turn.setCell {lo hi : Nat} {w : World} {p : Addr} (v : Value) (h1 : lo ≤ p.block) (h2 : p.block < hi) : Turn lo hi w (w.setCell p v) :=
  ⟨rfl, rfl, rfl, by simp [World.setCell], fun k _ hk => Below.heap_setCell _ _ _ _ (by omega)⟩

theorem Mid.refl (lo hi : Nat) (w : World) : Mid lo hi w w := ⟨Nat.le_refl _, fun _ _ _ => rfl⟩
theorem Mid.trans {lo hi : Nat} {a b c : World} (h : Mid lo hi a b) (k : Mid lo hi b c) : Mid lo hi a c :=
  ⟨Nat.le_trans h.size k.size, fun i h1 h2 => (k.block i h1 h2).trans (h.block i h1 h2)⟩
theorem Mid.mono {lo lo' hi : Nat} {a b : World} (h : Mid lo hi a b) (hl : lo ≤ lo') : Mid lo' hi a b := ⟨h.size, fun i h1 h2 => h.block i (by omega) h2⟩
theorem Mid.of_below {lo hi B : Nat} {a b : World} (h : Below B a b) (hB : hi ≤ B) : Mid lo hi a b := ⟨h.size, fun i _ h2 => h.block i (by omega)⟩
theorem Mid.putObj {lo hi l : Nat} {w : World} (o : Obj) (h : l < lo ∨ hi ≤ l) : Mid lo hi w (w.putObj l o) := ⟨by simp, fun k h1 h2 => putObj_other (by omega)⟩
theorem Mid.setCell {lo hi : Nat} {w : World} {p : Addr} (v : Value) (h : p.block < lo ∨ hi ≤ p.block) : Mid lo hi w (w.setCell p v) :=
  ⟨by simp [World.setCell], fun k h1 h2 => Below.heap_setCell _ _ _ _ (by omega)⟩
theorem Mid.cell {lo hi : Nat} {a b : World} (h : Mid lo hi a b) {p : Addr} (h1 : lo ≤ p.block) (h2 : p.block < hi) : b.cell? p = a.cell? p := World.cell?_of_block (h.block _ h1 h2)
theorem Mid.frozen {lo hi : Nat} {a b : World} (h : Mid lo hi a b) {p : Addr} (h1 : lo ≤ p.block) (h2 : p.block < hi) : b.frozen? p = a.frozen? p := World.frozen?_of_block (h.block _ h1 h2)

/-- A fact is kept from the walk. -/
theorem hidden {p : Prop} (h : p) : Hid p := h

/-- What one call of yield does, for the iterator. -/
def SaysAt {α : Type} (n lo H : Nat) (J Jx : Nat → List α → World → Prop) (s : List α) (A : World) (e : Ending) (B : World) : Prop :=
  (e = .returned (.bool true) ∧ J H s B ∧ Mid lo H A B ∧ Below n A B) ∨ (e = .returned (.bool false) ∧ Jx H s B ∧ Mid lo H A B ∧ Below n A B)

/-- An iterator that yields the elements of L, in order, unless it is stopped. The rounds keep what lay below n, too. -/
def SeqT {α : Type} (n : Nat) (P : Program) (g : Nat) (lb : Array Value) (enc : α → Value) (L : List α) (w : World) : Prop :=
  ∀ (l : Nat) (J Jx : Nat → List α → World → Prop) (W : World), Below w.heap.size w W →
    (∀ H s A B, J H s A → Turn W.heap.size H A B → J H s B) → (∀ H s A B, Jx H s A → Turn W.heap.size H A B → Jx H s B) →
    (∀ B, Below W.heap.size W B → J B.heap.size [] B) →
    (∀ H pre x A, J H pre A → W.heap.size ≤ H → H ≤ A.heap.size → (pre ++ [x]) <+: L → YieldAt Fence.wide 9 P l #[enc x] A (SaysAt n W.heap.size H J Jx (pre ++ [x]) A)) →
    Calls P g (#[.func (.yield l) #[] #[]] ++ lb) W fun e B => (∃ v, e = .returned v) ∧ ∃ H, W.heap.size ≤ H ∧ H ≤ B.heap.size ∧ (J H L B ∨ ∃ pre, pre <+: L ∧ Jx H pre B)

theorem round_any {P : Program} {l : Nat} {f : FuncId} {tmps : Array Value} {assign body : Code} {w : World} {R : Ending → World → Prop} (m : Nat) (h : RoundIn Fence.wide 9 P l f tmps assign body w R) : RoundIn Fence.wide m P l f tmps assign body w R :=
  ⟨h.1, fun c cs _ => h.2 c cs (room_wide _)⟩
theorem round_in {P : Program} {l : Nat} {f : FuncId} {tmps : Array Value} {assign body : Code} {w : World} {R : Ending → World → Prop} (l' m : Nat) (h : RoundIn Fence.wide 9 P l f tmps assign body w R) : RoundIn (Fence.wide.inRound l') m P l f tmps assign body w R :=
  round_any m h

/-- How the body of a round may be left. -/
def leftT {α : Type} (n lo H : Nat) (I : Nat → List α → World → Prop) (Ix : Nat → Code → List α → World → Prop) (s : List α) (A : World) : Exit → Act → World → Prop
  | .normal, _, B => I H s B ∧ Mid lo H A B ∧ Below n A B
  | .ret, _, B => Ix H .ret s B ∧ Mid lo H A B ∧ Below n A B
  | .exit id, _, B => Ix H (.exit id) s B ∧ Mid lo H A B ∧ Below n A B
  | .goto t, _, B => Ix H (.goto t) s B ∧ Mid lo H A B ∧ Below n A B
  | .panic _, _, _ => False
  | .outgrown, _, _ => False

/-- The loop over such an iterator. -/
theorem rangeT {α : Type} {P : Program} {n : Nat} {g : Operand} {p : Tmp} {assign body : Code} {Q : Exit → Act → World → Prop} {a : Act} {w : World}
    {gf : Nat} {lb : Array Value} (hg : a.eval g = .func (.func gf) #[] lb) (eg : ∀ args w, (callFunc gf args).run P w = .ok (.enter gf args) w)
    {enc : α → Value} {L : List α} {w0 : World} {n₀ : Nat} (hseq : SeqT n₀ P gf lb enc L w0) (hb0 : Below w0.heap.size w0 w) (hn0 : n₀ ≤ w.heap.size)
    (I : Nat → List α → World → Prop) (Ix : Nat → Code → List α → World → Prop) (Ax : Nat → List α → α → Act → World → Prop)
    (hI : ∀ H s A B, I H s A → Turn w.heap.size H A B → I H s B) (hIx : ∀ H c s A B, Ix H c s A → Turn w.heap.size H A B → Ix H c s B)
    (hAx : ∀ H s x a' A B, Ax H s x a' A → Turn w.heap.size H A B → Ax H s x a' B)
    (h0 : ∀ B, Below w.heap.size w B → I B.heap.size [] B)
    (hassign : ∀ l H pre x A, I H pre A → w.heap.size + 2 ≤ H → H ≤ A.heap.size → (pre ++ [x]) <+: L →
      assign.wpIn (Fence.wide.inRound l) 9 P (Exit.then (fun a' B => Ax H pre x a' B ∧ Mid w.heap.size H A B ∧ Below n₀ A B) (fun _ _ _ => False)) { tmps := a.tmps.setIfInBounds p (enc x), defers := [] } A)
    (hbody : ∀ l H pre x a' A, Ax H pre x a' A → w.heap.size + 2 ≤ H → H ≤ A.heap.size → (pre ++ [x]) <+: L →
      body.wpIn (Fence.wide.inRound l) 9 P (leftT n₀ w.heap.size H I Ix (pre ++ [x]) A) a' A)
    (hdone : ∀ H D B, I H L B → w.heap.size ≤ D → D < H → H ≤ B.heap.size → B.heap[D]? = some (.deferred (some [])) → Q .normal { a with defers := { target := .collected D, args := #[] } :: a.defers } B)
    (hstop : ∀ H D c pre B, pre <+: L → Ix H c pre B → w.heap.size ≤ D → D < H → H ≤ B.heap.size → B.heap[D]? = some (.deferred (some [])) → c.wpIn Fence.wide n P Q { a with defers := { target := .collected D, args := #[] } :: a.defers } B) :
    (Code.rangeFunc g #[p] assign body).wpIn Fence.wide n P Q a w := by
  refine wpIn_rangeFunc ?_
  intro fn hfn
  obtain ⟨rec, hrec⟩ : ∃ rec : LoopState → Option Code → Loop, rec = fun st pe => { state := st, pending := pe, fn, tmps := a.tmps, params := #[p], assign, body, defers := w.heap.size } := ⟨_, rfl⟩
  obtain ⟨W1, hW1⟩ : ∃ W1, (w.alloc (.deferred (some []))).alloc (.loop (rec .ready none)) = W1 := ⟨_, rfl⟩
  have hs1 : W1.heap.size = w.heap.size + 2 := by rw [← hW1]; simp
  have hl1 : W1.heap[w.heap.size + 1]? = some (.loop (rec .ready none)) := by
    have := World.alloc_heap_new (w.alloc (.deferred (some []))) (.loop (rec .ready none))
    rw [World.size_alloc] at this; rw [← hW1]; exact this
  have hk1 : W1.heap[w.heap.size]? = some (.deferred (some [])) := by
    rw [← hW1]; exact (Below.heap_alloc _ _ _ (by simp)).trans (World.alloc_heap_new w _)
  have hw1 : Below w.heap.size w W1 := by rw [← hW1]; exact ((Below.refl _ w).alloc (Nat.le_refl _) _).alloc (by simp) _
  refine ⟨w.heap.size + 1, [{ target := .collected w.heap.size, args := #[] }], W1, { target := .fn (.func gf) lb, args := #[.func (.yield (w.heap.size + 1)) #[] #[]] }, W1, gf,
    #[.func (.yield (w.heap.size + 1)) #[] #[]] ++ lb, W1, ?_, ?_, fun _ _ => trivial, ?_, fun h => (by cases h), ?_⟩
  · rw [← hW1, hrec]; exact run_enterLoop_outer _ _ _ _ _
  · simp only [resolve, hg]
    simp [go_sem]
  · simp [invoke, go_sem, eg]
  refine (callsIn_wide.2 (hseq (w.heap.size + 1)
    (fun H s A => I H s A ∧ A.heap[w.heap.size + 1]? = some (.loop (rec .ready none)) ∧ A.heap[w.heap.size]? = some (.deferred (some [])))
    (fun H s A => ∃ c, Ix H c s A ∧ A.heap[w.heap.size + 1]? = some (.loop (rec .done (some c))) ∧ A.heap[w.heap.size]? = some (.deferred (some [])))
    W1 (hb0.trans (hw1.mono hb0.size)) ?_ ?_ ?_ ?_)).mono ?_
  · rintro H s A B ⟨hi, hl, hk⟩ ht
    exact ⟨hI _ _ _ _ hi (ht.mono (by omega)), (ht.block _ (Array.getElem?_eq_some_iff.1 hl).1 (.inl (by omega))).trans hl, (ht.block _ (Array.getElem?_eq_some_iff.1 hk).1 (.inl (by omega))).trans hk⟩
  · rintro H s A B ⟨c, hi, hl, hk⟩ ht
    exact ⟨c, hIx _ _ _ _ _ hi (ht.mono (by omega)), (ht.block _ (Array.getElem?_eq_some_iff.1 hl).1 (.inl (by omega))).trans hl, (ht.block _ (Array.getElem?_eq_some_iff.1 hk).1 (.inl (by omega))).trans hk⟩
  · intro B hB
    exact ⟨h0 B (hw1.trans (hB.mono (by omega))), (hB.block _ (by omega)).trans hl1, (hB.block _ (by omega)).trans hk1⟩
  · rintro H pre x A ⟨hi, hl, hk⟩ hH hA hp
    rw [hs1] at hH
    have hlA : w.heap.size + 1 < A.heap.size := (Array.getElem?_eq_some_iff.1 hl).1
    have hy : (Instr.yield (w.heap.size + 1) #[enc x]).run P A = .ok (.round (w.heap.size + 1) fn (a.tmps.setIfInBounds p (enc x)) assign body) A := by
      have h := run_yield (P := P) (args := #[enc x]) hl (by rw [hrec]; rfl)
      rw [hrec] at h
      simpa using h
    refine ⟨fn, _, assign, body, hy, roundIn_of_wpIn hfn ?_⟩
    refine wpIn_mono (hassign _ H pre x A hi hH hA hp) ?_
    intro e a' A1 h
    cases e with
    | normal =>
      obtain ⟨hax, hm1, hw1'⟩ := h
      have hl1' := (hm1.block (w.heap.size + 1) (by omega) (by omega)).trans hl
      have hk1' := (hm1.block w.heap.size (by omega) (by omega)).trans hk
      refine ⟨_, run_beginRound hl1' (by rw [hrec]), ?_⟩
      obtain ⟨A2, hA2⟩ : ∃ A2, A1.putObj (w.heap.size + 1) (.loop { rec .ready none with state := .busy }) = A2 := ⟨_, rfl⟩
      have hl2 : A2.heap[w.heap.size + 1]? = some (.loop { rec .ready none with state := .busy }) := by rw [← hA2]; exact World.putObj_heap_same (Array.getElem?_eq_some_iff.1 hl1').1
      have hk2 : A2.heap[w.heap.size]? = some (.deferred (some [])) := by rw [← hA2]; exact (putObj_other (by omega)).trans hk1'
      have hz2 : A2.heap.size = A1.heap.size := by rw [← hA2]; simp
      have hm2 : Mid (w.heap.size + 2) H A A2 := by rw [← hA2]; exact (hm1.mono (by omega)).trans (Mid.putObj _ (.inl (by omega)))
      have hw2 : Below n₀ A A2 := by rw [← hA2]; exact hw1'.trans (Turn.below (Turn.putObj (lo := w.heap.size) (hi := H) _ (by omega) (by omega)) hn0 (by have := (Array.getElem?_eq_some_iff.1 hl1').1; omega))
      have ht2 : Turn w.heap.size H A1 A2 := by rw [← hA2]; exact Turn.putObj _ (by omega) (by omega)
      rw [hA2]
      refine wpIn_mono (hbody _ H pre x a' A2 (hAx _ _ _ _ _ _ hax ht2) hH (by have := hm1.size; omega) hp) ?_
      have fin : ∀ (jump : Option Code) (B : World), Mid w.heap.size H A2 B → Below n₀ A2 B →
          (Instr.endRound (w.heap.size + 1) jump).run P B = .ok (.bool jump.isNone) (B.putObj (w.heap.size + 1) (.loop (rec (if jump.isNone then .ready else .done) jump))) ∧
          (B.putObj (w.heap.size + 1) (.loop (rec (if jump.isNone then .ready else .done) jump))).heap[w.heap.size + 1]? = some (.loop (rec (if jump.isNone then .ready else .done) jump)) ∧
          (B.putObj (w.heap.size + 1) (.loop (rec (if jump.isNone then .ready else .done) jump))).heap[w.heap.size]? = some (.deferred (some [])) ∧
          Turn w.heap.size H B (B.putObj (w.heap.size + 1) (.loop (rec (if jump.isNone then .ready else .done) jump))) ∧
          Mid (w.heap.size + 2) H A (B.putObj (w.heap.size + 1) (.loop (rec (if jump.isNone then .ready else .done) jump))) ∧
          Below n₀ A (B.putObj (w.heap.size + 1) (.loop (rec (if jump.isNone then .ready else .done) jump))) := fun jump B hm hb => by
        have hl3 := (hm.block (w.heap.size + 1) (by omega) (by omega)).trans hl2
        have hk3 := (hm.block w.heap.size (by omega) (by omega)).trans hk2
        have hr := run_endRound (P := P) jump hl3
        rw [hrec] at hr
        refine ⟨by rw [hrec]; exact hr, World.putObj_heap_same (Array.getElem?_eq_some_iff.1 hl3).1, (putObj_other (by omega)).trans hk3, Turn.putObj _ (by omega) (by omega), (hm2.trans (hm.mono (by omega))).trans (Mid.putObj _ (.inl (by omega))), (hw2.trans hb).trans (Turn.below (Turn.putObj (lo := w.heap.size) (hi := H) _ (by omega) (by omega)) hn0 (by have := (Array.getElem?_eq_some_iff.1 hl3).1; omega))⟩
      intro e a3 B h
      cases e with
      | normal =>
        obtain ⟨h1, h2, h3⟩ := h
        obtain ⟨f1, f2, f3, f4, f5, f6⟩ := fin none B h2 h3
        exact ⟨_, _, f1, .inl ⟨rfl, ⟨hI _ _ _ _ h1 f4, f2, f3⟩, by rw [hs1]; exact f5, f6⟩⟩
      | ret =>
        obtain ⟨h1, h2, h3⟩ := h
        obtain ⟨f1, f2, f3, f4, f5, f6⟩ := fin (some .ret) B h2 h3
        exact ⟨_, _, f1, .inr ⟨rfl, ⟨_, hIx _ _ _ _ _ h1 f4, f2, f3⟩, by rw [hs1]; exact f5, f6⟩⟩
      | exit id =>
        obtain ⟨h1, h2, h3⟩ := h
        obtain ⟨f1, f2, f3, f4, f5, f6⟩ := fin (some (.exit id)) B h2 h3
        exact ⟨_, _, f1, .inr ⟨rfl, ⟨_, hIx _ _ _ _ _ h1 f4, f2, f3⟩, by rw [hs1]; exact f5, f6⟩⟩
      | goto t =>
        obtain ⟨h1, h2, h3⟩ := h
        obtain ⟨f1, f2, f3, f4, f5, f6⟩ := fin (some (.goto t)) B h2 h3
        exact ⟨_, _, f1, .inr ⟨rfl, ⟨_, hIx _ _ _ _ _ h1 f4, f2, f3⟩, by rw [hs1]; exact f5, f6⟩⟩
      | panic ch => exact h.elim
      | outgrown => exact h.elim
    | ret => exact h.elim
    | exit id => exact h.elim
    | goto t => exact h.elim
    | panic ch => exact h.elim
    | outgrown => exact h.elim
  · rintro e B ⟨⟨v, rfl⟩, H, hH, hHB, h⟩
    rw [hs1] at hH
    rcases h with ⟨hi, hl, hk⟩ | ⟨pre, hp, c, hc, hl, hk⟩
    · have h := run_endLoop (P := P) hl (by rw [hrec]; simp)
      rw [show (rec .ready none).pending = none by rw [hrec]] at h
      refine ⟨none, _, h, ?_⟩
      exact hdone H w.heap.size _ (hI _ _ _ _ hi (Turn.putObj _ (by omega) (by omega))) (Nat.le_refl _) (by omega) (by simp; exact hHB) ((putObj_other (by omega)).trans hk)
    · have h := run_endLoop (P := P) hl (by rw [hrec]; simp)
      rw [show (rec .done (some c)).pending = some c by rw [hrec]] at h
      refine ⟨some c, _, h, ?_⟩
      exact hstop H w.heap.size c pre _ hp (hIx _ _ _ _ _ hc (Turn.putObj _ (by omega) (by omega))) (Nat.le_refl _) (by omega) (by simp; exact hHB) ((putObj_other (by omega)).trans hk)

end Go.Proofs.YtfmoophjdgejeaaGreatDoor
/-
  Regions that draw their order, in a round of a loop over an iterator: what holds outside of a round holds in it. No program stands here.
-/


namespace Go.Proofs.YtfmoophjdgejeaaGreatDoor
open Go.RowKit Go.Shelf

theorem oper_round {l n : Nat} {P : Program} {o : Oper} {a : Act} {w : World} {K : Act → World → Prop} {Q : Exit → Act → World → Prop} (hd : ∀ c, o.op ≠ .defer c)
    (h : o.wpIn Fence.wide n P a w K Q) : o.wpIn (Fence.wide.inRound l) n P a w K Q := by
  unfold Oper.wpIn at h ⊢
  refine ⟨h.1, ?_⟩
  have h2 := h.2
  rw [show o.semAt Fence.wide.round a.eval = execOp a.eval o from rfl] at h2
  rw [show o.semAt (Fence.wide.inRound l).round a.eval = execOp a.eval o from Oper.semAt_some l _ o hd]
  generalize (execOp a.eval o).run P w = r at h2 ⊢
  cases r with
  | ok nx w' => cases nx <;> exact h2
  | halt x w' => cases x <;> exact h2

theorem wpAny_round {l n : Nat} {P : Program} {md : Region.Mode} {ops : Array Oper} {Q : Exit → Act → World → Prop} (hno : ∀ o ∈ ops, ∀ c, o.op ≠ .defer c) : ∀ (fuel : Nat) (listed : Array Bool) (a : Act) (w : World),
    wpAnyIn Fence.wide n P md ops Q fuel listed a w → wpAnyIn (Fence.wide.inRound l) n P md ops Q fuel listed a w
  | 0, _, _, _, h => h
  | fuel + 1, listed, a, w, h => by
    refine ⟨h.1, fun i hi => ?_⟩
    have h2 := h.2 i hi
    unfold wpOpIn at h2 ⊢
    cases ho : ops[i]? with
    | none =>
      simp only [ho] at h2 ⊢
      exact wpAny_round hno fuel _ _ _ h2
    | some o =>
      simp only [ho] at h2 ⊢
      by_cases hw : Region.wanted o (yielded ops a.tmps) = true
      · rw [if_pos hw] at h2 ⊢
        exact oper_round (hno o (Array.mem_of_getElem? ho)) (Oper.wpIn_mono (fun a w h => wpAny_round hno fuel _ a w h) h2)
      · rw [if_neg hw] at h2 ⊢
        exact ⟨h2.1, wpAny_round hno fuel _ _ _ h2.2⟩

theorem region_round_quiet {id l n : Nat} {P : Program} {Q : Exit → Act → World → Prop} {a : Act} {w : World} {ls : List Oper} (hno : ∀ o ∈ ls.toArray, ∀ c, o.op ≠ .defer c) (hm : P.follows .mixedOrders = true) (hB : Region.lexB .any ls.toArray = true)
    (h : wpQuietIn Fence.wide n P ls.toArray (fun w' => ∃ k, w' = w.drewN k) (fun a' => ∀ w', (∃ k, w' = w.drewN k) → Q .normal a' w') ls a) : (Code.region id ls.toArray true).wpIn (Fence.wide.inRound l) n P Q a w := by
  simp only [Region.lexB, Bool.and_eq_true] at hB
  refine wpIn_region_any hm (wpAny_round hno _ _ _ _ (wpAnyIn_of_quiet (C := fun w' => ∃ k, w' = w.drewN k) (Q := fun a' => ∀ w', (∃ k, w' = w.drewN k) → Q .normal a' w') rfl (fun _ w' hw' h => h w' hw') _ _ _ _ ⟨1, rfl⟩ ?_))
  have := wpAnyQIn_lex (F := Fence.wide) (n := n) (C := fun w' => ∃ k, w' = w.drewN k) (md := .any) hB.1 ls 0 (Array.replicate ls.toArray.size false) a (by simp) (by simpa using hB.2) h
  simpa using this

end Go.Proofs.YtfmoophjdgejeaaGreatDoor
/-
  A loop over an iterator whose values are told by a relation (a row that changes from step to step; one value or several).
-/
namespace Go.Proofs.YtfmoophjdgejeaaGreatDoor
open Go.RowKit Go.Shelf

/-- The variables of a round, set. -/
def setAll : Array Value → List Tmp → List Value → Array Value
  | t, p :: ps, v :: vs => setAll (t.setIfInBounds p v) ps vs
  | t, _, _ => t

theorem setAll_zip : ∀ (ps : List Tmp) (vs : List Value) (t : Array Value), (ps.zip vs).foldl (fun tmps x => tmps.setIfInBounds x.1 x.2) t = setAll t ps vs
  | [], vs, t => by cases vs <;> rfl
  | p :: ps, [], t => rfl
  | p :: ps, v :: vs, t => by rw [List.zip_cons_cons, List.foldl_cons, setAll_zip ps vs]; rfl

theorem setAll_arr (ps : Array Tmp) (vs : Array Value) (t : Array Value) : (ps.zip vs).foldl (fun tmps x => tmps.setIfInBounds x.1 x.2) t = setAll t ps.toList vs.toList := by
  rw [← setAll_zip, ← Array.foldl_toList, Array.toList_zip]

/-- The blocks of a set that lay are as they were. -/
structure Keeps (K : Nat → Prop) (w w' : World) : Prop where
  size : w.heap.size ≤ w'.heap.size
  block : ∀ k, K k → k < w.heap.size → w'.heap[k]? = w.heap[k]?
theorem Keeps.refl (K : Nat → Prop) (w : World) : Keeps K w w := ⟨Nat.le_refl _, fun _ _ _ => rfl⟩
theorem Keeps.trans {K : Nat → Prop} {a b c : World} (h : Keeps K a b) (k : Keeps K b c) : Keeps K a c :=
  ⟨Nat.le_trans h.size k.size, fun i h1 h2 => (k.block i h1 (Nat.lt_of_lt_of_le h2 h.size)).trans (h.block i h1 h2)⟩
theorem Keeps.putObj {K : Nat → Prop} {l : Nat} {w : World} (o : Obj) (h : ∀ k, K k → k ≠ l) : Keeps K w (w.putObj l o) := ⟨by simp, fun k h1 _ => putObj_other (h k h1)⟩
theorem Keeps.of_below {K : Nat → Prop} {B : Nat} {a b : World} (h : Below B a b) (hs : a.heap.size ≤ b.heap.size) (hK : ∀ k, K k → k < B) : Keeps K a b := ⟨hs, fun k h1 _ => h.block k (hK k h1)⟩

/-- Of what lay, only blocks of a set are turned. -/
structure TurnO (O : Nat → Prop) (w w' : World) : Prop where
  os : w'.os = w.os
  tape : w'.tape = w.tape
  output : w'.output = w.output
  size : w.heap.size ≤ w'.heap.size
  block : ∀ k, k < w.heap.size → ¬ O k → w'.heap[k]? = w.heap[k]?
theorem TurnO.refl (O : Nat → Prop) (w : World) : TurnO O w w := ⟨rfl, rfl, rfl, Nat.le_refl _, fun _ _ _ => rfl⟩
theorem TurnO.trans {O : Nat → Prop} {a b c : World} (h : TurnO O a b) (k : TurnO O b c) : TurnO O a c :=
  ⟨k.os.trans h.os, k.tape.trans h.tape, k.output.trans h.output, Nat.le_trans h.size k.size, fun i hi ho => (k.block i (Nat.lt_of_lt_of_le hi h.size) ho).trans (h.block i hi ho)⟩
theorem TurnO.mono {O O' : Nat → Prop} {a b : World} (h : TurnO O a b) (ho : ∀ k, O k → O' k) : TurnO O' a b :=
  ⟨h.os, h.tape, h.output, h.size, fun i hi hn => h.block i hi (fun h => hn (ho i h))⟩
theorem TurnO.of_below {O : Nat → Prop} {a b : World} (h : Below a.heap.size a b) : TurnO O a b := ⟨h.os, h.tape, h.output, h.size, fun k hk _ => h.block k hk⟩
theorem TurnO.below {O : Nat → Prop} {B : Nat} {a b : World} (h : TurnO O a b) (h1 : ∀ k, O k → B ≤ k) (h2 : B ≤ a.heap.size) : Below B a b :=
  ⟨h.os, h.tape, h.output, h.size, fun k hk => h.block k (by omega) (fun ho => by have := h1 k ho; omega)⟩
theorem TurnO.putObj {O : Nat → Prop} {l : Nat} {w : World} (o : Obj) (h : O l) : TurnO O w (w.putObj l o) :=
  ⟨rfl, rfl, rfl, by simp, fun k _ hk => putObj_other (fun e => hk (by rw [e]; exact h))⟩

/-- What one call of yield does, for the iterator: of what lay, the blocks of O and those of K are as they were. -/
def SaysR {α : Type} (K O : Nat → Prop) (J Jx : (Nat → Prop) → List α → World → Prop) (s : List α) (A : World) (e : Ending) (B : World) : Prop :=
  (e = .returned (.bool true) ∧ J O s B ∧ Keeps O A B ∧ Keeps K A B) ∨ (e = .returned (.bool false) ∧ Jx O s B ∧ Keeps O A B ∧ Keeps K A B)

/-- A set of blocks made between two sizes of the heap. -/
def Among (lo hi : Nat) (O : Nat → Prop) : Prop := ∀ k, O k → lo ≤ k ∧ k < hi

/-- An iterator that yields the elements of L, in order, unless it is stopped: R O x vs A: the values vs stand for x in the world A, among the blocks O. O are the iterator's own blocks so far. -/
def SeqR {α : Type} (K : Nat → Prop) (P : Program) (g : Nat) (lb : Array Value) (R : (Nat → Prop) → α → Array Value → World → Prop) (L : List α) (w : World) : Prop :=
  ∀ (l : Nat) (J Jx : (Nat → Prop) → List α → World → Prop) (W : World), Below w.heap.size w W →
    (∀ O s A B, J O s A → TurnO O A B → J O s B) → (∀ O s A B, Jx O s A → TurnO O A B → Jx O s B) →
    (∀ (O O' : Nat → Prop) s A, J O s A → (∀ k, O' k → O k ∨ A.heap.size ≤ k) → J O' s A) →
    (∀ B, Below W.heap.size W B → J (fun k => W.heap.size ≤ k ∧ k < B.heap.size) [] B) →
    (∀ O pre x vs A, J O pre A → R O x vs A → Among W.heap.size A.heap.size O → (pre ++ [x]) <+: L → YieldAt Fence.wide 9 P l vs A (SaysR K O J Jx (pre ++ [x]) A)) →
    Calls P g (#[.func (.yield l) #[] #[]] ++ lb) W fun e B => (∃ v, e = .returned v) ∧ ∃ O, Among W.heap.size B.heap.size O ∧ (J O L B ∨ ∃ pre, pre <+: L ∧ Jx O pre B)

/-- How the body of a round may be left. -/
def leftR {α : Type} (K O : Nat → Prop) (I : (Nat → Prop) → List α → World → Prop) (Ix : (Nat → Prop) → Code → List α → World → Prop) (s : List α) (A : World) : Exit → Act → World → Prop
  | .normal, _, B => I O s B ∧ Keeps O A B ∧ Keeps K A B
  | .ret, _, B => Ix O .ret s B ∧ Keeps O A B ∧ Keeps K A B
  | .exit id, _, B => Ix O (.exit id) s B ∧ Keeps O A B ∧ Keeps K A B
  | .goto t, _, B => Ix O (.goto t) s B ∧ Keeps O A B ∧ Keeps K A B
  | .panic _, _, _ => False
  | .outgrown, _, _ => False

/-- An iterator's blocks and the two of the loop over it. -/
def withLoop (n : Nat) (O : Nat → Prop) : Nat → Prop := fun k => O k ∨ k = n ∨ k = n + 1

/-- The loop over such an iterator. -/
theorem rangeR {α : Type} {P : Program} {n : Nat} {K : Nat → Prop} {g : Operand} {ps : Array Tmp} {assign body : Code} {Q : Exit → Act → World → Prop} {a : Act} {w : World}
    {gf : Nat} {lb : Array Value} (hg : a.eval g = .func (.func gf) #[] lb) (eg : ∀ args w, (callFunc gf args).run P w = .ok (.enter gf args) w)
    {R : (Nat → Prop) → α → Array Value → World → Prop} {L : List α} {w0 : World} (hseq : SeqR K P gf lb R L w0) (hR : ∀ O x vs A, R O x vs A → vs.size = ps.size) (hb0 : Below w0.heap.size w0 w) (hK : ∀ k, K k → k < w.heap.size)
    (I : (Nat → Prop) → List α → World → Prop) (Ix : (Nat → Prop) → Code → List α → World → Prop) (Ax : (Nat → Prop) → List α → α → Act → World → Prop)
    (hI : ∀ O s A B, (∀ k, O k → w.heap.size ≤ k) → w.heap.size ≤ A.heap.size → I O s A → TurnO O A B → I O s B) (hIx : ∀ O c s A B, (∀ k, O k → w.heap.size ≤ k) → w.heap.size ≤ A.heap.size → Ix O c s A → TurnO O A B → Ix O c s B)
    (hIg : ∀ (O O' : Nat → Prop) s A, I O s A → (∀ k, O' k → O k ∨ A.heap.size ≤ k) → I O' s A)
    (hAx : ∀ O s x a' A B, Ax O s x a' A → (∀ k, O k → w.heap.size + 2 ≤ k) → w.heap.size + 2 ≤ A.heap.size → TurnO (fun k => k = w.heap.size + 1) A B → Ax O s x a' B)
    (h0 : ∀ B, Below w.heap.size w B → I (fun k => w.heap.size ≤ k ∧ k < B.heap.size) [] B)
    (hassign : ∀ l O pre x vs A, I (withLoop w.heap.size O) pre A → R O x vs A → Among (w.heap.size + 2) A.heap.size O → w.heap.size + 2 ≤ A.heap.size → (pre ++ [x]) <+: L →
      assign.wpIn (Fence.wide.inRound l) 9 P (Exit.then (fun a' B => Ax O pre x a' B ∧ Keeps (withLoop w.heap.size O) A B ∧ Keeps K A B) (fun _ _ _ => False)) { tmps := setAll a.tmps ps.toList vs.toList, defers := [] } A)
    (hbody : ∀ l O pre x a' A, Ax O pre x a' A → Among (w.heap.size + 2) A.heap.size O → w.heap.size + 2 ≤ A.heap.size → (pre ++ [x]) <+: L →
      body.wpIn (Fence.wide.inRound l) 9 P (leftR K (withLoop w.heap.size O) I Ix (pre ++ [x]) A) a' A)
    (hdone : ∀ O D B, I O L B → Among w.heap.size B.heap.size O → O D → B.heap[D]? = some (.deferred (some [])) → Q .normal { a with defers := { target := .collected D, args := #[] } :: a.defers } B)
    (hstop : ∀ O D c pre B, pre <+: L → Ix O c pre B → Among w.heap.size B.heap.size O → O D → B.heap[D]? = some (.deferred (some [])) → c.wpIn Fence.wide n P Q { a with defers := { target := .collected D, args := #[] } :: a.defers } B) :
    (Code.rangeFunc g ps assign body).wpIn Fence.wide n P Q a w := by
  refine wpIn_rangeFunc ?_
  intro fn hfn
  obtain ⟨rec, hrec⟩ : ∃ rec : LoopState → Option Code → Loop, rec = fun st pe => { state := st, pending := pe, fn, tmps := a.tmps, params := ps, assign, body, defers := w.heap.size } := ⟨_, rfl⟩
  obtain ⟨W1, hW1⟩ : ∃ W1, (w.alloc (.deferred (some []))).alloc (.loop (rec .ready none)) = W1 := ⟨_, rfl⟩
  have hs1 : W1.heap.size = w.heap.size + 2 := by rw [← hW1]; simp
  have hl1 : W1.heap[w.heap.size + 1]? = some (.loop (rec .ready none)) := by
    have := World.alloc_heap_new (w.alloc (.deferred (some []))) (.loop (rec .ready none))
    rw [World.size_alloc] at this; rw [← hW1]; exact this
  have hk1 : W1.heap[w.heap.size]? = some (.deferred (some [])) := by
    rw [← hW1]; exact (Below.heap_alloc _ _ _ (by simp)).trans (World.alloc_heap_new w _)
  have hw1 : Below w.heap.size w W1 := by rw [← hW1]; exact ((Below.refl _ w).alloc (Nat.le_refl _) _).alloc (by simp) _
  have lowE : ∀ O : Nat → Prop, (∀ k, O k → w.heap.size + 2 ≤ k) → ∀ k, withLoop w.heap.size O k → w.heap.size ≤ k := fun O h k hk => by
    rcases hk with hk | hk | hk
    · have := h k hk; omega
    · omega
    · omega
  refine ⟨w.heap.size + 1, [{ target := .collected w.heap.size, args := #[] }], W1, { target := .fn (.func gf) lb, args := #[.func (.yield (w.heap.size + 1)) #[] #[]] }, W1, gf,
    #[.func (.yield (w.heap.size + 1)) #[] #[]] ++ lb, W1, ?_, ?_, fun _ _ => trivial, ?_, fun h => (by cases h), ?_⟩
  · rw [← hW1, hrec]; exact run_enterLoop_outer _ _ _ _ _
  · simp only [resolve, hg]
    simp [go_sem]
  · simp [invoke, go_sem, eg]
  refine (callsIn_wide.2 (hseq (w.heap.size + 1)
    (fun O s A => (∀ k, O k → w.heap.size + 2 ≤ k) ∧ I (withLoop w.heap.size O) s A ∧ A.heap[w.heap.size + 1]? = some (.loop (rec .ready none)) ∧ A.heap[w.heap.size]? = some (.deferred (some [])))
    (fun O s A => (∀ k, O k → w.heap.size + 2 ≤ k) ∧ ∃ c, Ix (withLoop w.heap.size O) c s A ∧ A.heap[w.heap.size + 1]? = some (.loop (rec .done (some c))) ∧ A.heap[w.heap.size]? = some (.deferred (some [])))
    W1 (hb0.trans (hw1.mono hb0.size)) ?_ ?_ ?_ ?_ ?_)).mono ?_
  · rintro O s A B ⟨hlo, hi, hl, hk⟩ ht
    have hz : w.heap.size + 1 < A.heap.size := (Array.getElem?_eq_some_iff.1 hl).1
    exact ⟨hlo, hI _ _ _ _ (lowE O hlo) (by omega) hi (ht.mono (fun k h => .inl h)), (ht.block _ hz (fun h => by have := hlo _ h; omega)).trans hl, (ht.block _ (by omega) (fun h => by have := hlo _ h; omega)).trans hk⟩
  · rintro O s A B ⟨hlo, c, hi, hl, hk⟩ ht
    have hz : w.heap.size + 1 < A.heap.size := (Array.getElem?_eq_some_iff.1 hl).1
    exact ⟨hlo, c, hIx _ _ _ _ _ (lowE O hlo) (by omega) hi (ht.mono (fun k h => .inl h)), (ht.block _ hz (fun h => by have := hlo _ h; omega)).trans hl, (ht.block _ (by omega) (fun h => by have := hlo _ h; omega)).trans hk⟩
  · rintro O O' s A ⟨hlo, hi, hl, hk⟩ hg'
    have hz : w.heap.size + 1 < A.heap.size := (Array.getElem?_eq_some_iff.1 hl).1
    refine ⟨fun k h => ?_, hIg _ _ _ _ hi (fun k h => ?_), hl, hk⟩
    · rcases hg' k h with h | h
      · exact hlo k h
      · omega
    · rcases h with h | h | h
      · rcases hg' k h with h | h
        · exact .inl (.inl h)
        · exact .inr h
      · exact .inl (.inr (.inl h))
      · exact .inl (.inr (.inr h))
  · intro B hB
    refine ⟨fun k h => by have := h.1; omega, hIg _ _ _ _ (h0 B (hw1.trans (hB.mono (by omega)))) (fun k h => ?_), (hB.block _ (by omega)).trans hl1, (hB.block _ (by omega)).trans hk1⟩
    have hz := hB.size
    rcases h with h | h | h
    · exact .inl ⟨by have := h.1; omega, h.2⟩
    · exact .inl ⟨by omega, by omega⟩
    · exact .inl ⟨by omega, by omega⟩
  · rintro O pre x vs A ⟨hlo, hi, hl, hk⟩ hr hO hp
    rw [hs1] at hO
    have hlA : w.heap.size + 1 < A.heap.size := (Array.getElem?_eq_some_iff.1 hl).1
    have hy : (Instr.yield (w.heap.size + 1) vs).run P A = .ok (.round (w.heap.size + 1) fn (setAll a.tmps ps.toList vs.toList) assign body) A := by
      have h := run_yield (P := P) (args := vs) hl (by rw [hrec]; exact hR _ _ _ _ hr)
      rw [hrec] at h
      rw [← setAll_arr]
      exact h
    refine ⟨fn, _, assign, body, hy, roundIn_of_wpIn hfn ?_⟩
    refine wpIn_mono (hassign _ O pre x vs A hi hr hO (by omega) hp) ?_
    intro e a' A1 h
    cases e with
    | normal =>
      obtain ⟨hax, hm1, hkA⟩ := h
      have hl1' := (hm1.block (w.heap.size + 1) (.inr (.inr rfl)) (by omega)).trans hl
      have hk1' := (hm1.block w.heap.size (.inr (.inl rfl)) (by omega)).trans hk
      refine ⟨_, run_beginRound hl1' (by rw [hrec]), ?_⟩
      obtain ⟨A2, hA2⟩ : ∃ A2, A1.putObj (w.heap.size + 1) (.loop { rec .ready none with state := .busy }) = A2 := ⟨_, rfl⟩
      have hl2 : A2.heap[w.heap.size + 1]? = some (.loop { rec .ready none with state := .busy }) := by rw [← hA2]; exact World.putObj_heap_same (Array.getElem?_eq_some_iff.1 hl1').1
      have hk2 : A2.heap[w.heap.size]? = some (.deferred (some [])) := by rw [← hA2]; exact (putObj_other (by omega)).trans hk1'
      have hz2 : A2.heap.size = A1.heap.size := by rw [← hA2]; simp
      have hm2 : Keeps O A A2 := by rw [← hA2]; exact Keeps.trans ⟨hm1.size, fun k h1 h2 => hm1.block k (.inl h1) h2⟩ (Keeps.putObj _ (fun k hk => by have := hlo k hk; omega))
      have hw2 : Keeps K A A2 := by rw [← hA2]; exact hkA.trans (Keeps.putObj _ (fun k hk => by have := hK k hk; omega))
      have ht2 : TurnO (fun k => k = w.heap.size + 1) A1 A2 := by rw [← hA2]; exact TurnO.putObj _ rfl
      rw [hA2]
      refine wpIn_mono (hbody _ O pre x a' A2 (hAx _ _ _ _ _ _ hax hlo (by have := hm1.size; omega) ht2) (fun k h => ⟨(hO k h).1, by have := (hO k h).2; have := hm1.size; omega⟩) (by have := hm1.size; omega) hp) ?_
      have fin : ∀ (jump : Option Code) (B : World), Keeps (withLoop w.heap.size O) A2 B → Keeps K A2 B →
          (Instr.endRound (w.heap.size + 1) jump).run P B = .ok (.bool jump.isNone) (B.putObj (w.heap.size + 1) (.loop (rec (if jump.isNone then .ready else .done) jump))) ∧
          (B.putObj (w.heap.size + 1) (.loop (rec (if jump.isNone then .ready else .done) jump))).heap[w.heap.size + 1]? = some (.loop (rec (if jump.isNone then .ready else .done) jump)) ∧
          (B.putObj (w.heap.size + 1) (.loop (rec (if jump.isNone then .ready else .done) jump))).heap[w.heap.size]? = some (.deferred (some [])) ∧
          TurnO (withLoop w.heap.size O) B (B.putObj (w.heap.size + 1) (.loop (rec (if jump.isNone then .ready else .done) jump))) ∧
          Keeps O A (B.putObj (w.heap.size + 1) (.loop (rec (if jump.isNone then .ready else .done) jump))) ∧
          Keeps K A (B.putObj (w.heap.size + 1) (.loop (rec (if jump.isNone then .ready else .done) jump))) ∧ w.heap.size ≤ B.heap.size := fun jump B hm hkp => by
        have hzm := hm.size
        have hzm1 := hm1.size
        have hl3 := (hm.block (w.heap.size + 1) (.inr (.inr rfl)) (by omega)).trans hl2
        have hk3 := (hm.block w.heap.size (.inr (.inl rfl)) (by omega)).trans hk2
        have hr := run_endRound (P := P) jump hl3
        rw [hrec] at hr
        refine ⟨by rw [hrec]; exact hr, World.putObj_heap_same (Array.getElem?_eq_some_iff.1 hl3).1, (putObj_other (by omega)).trans hk3, TurnO.putObj _ (.inr (.inr rfl)), ?_, ?_, by omega⟩
        · exact (hm2.trans ⟨hm.size, fun k h1 h2 => hm.block k (.inl h1) h2⟩).trans (Keeps.putObj _ (fun k hk => by have := hlo k hk; omega))
        · exact (hw2.trans hkp).trans (Keeps.putObj _ (fun k hk => by have := hK k hk; omega))
      intro e a3 B h
      cases e with
      | normal =>
        obtain ⟨h1, h2, h3⟩ := h
        obtain ⟨f1, f2, f3, f4, f5, f6, f7⟩ := fin none B h2 h3
        exact ⟨_, _, f1, .inl ⟨rfl, ⟨hlo, hI _ _ _ _ (lowE O hlo) f7 h1 f4, f2, f3⟩, f5, f6⟩⟩
      | ret =>
        obtain ⟨h1, h2, h3⟩ := h
        obtain ⟨f1, f2, f3, f4, f5, f6, f7⟩ := fin (some .ret) B h2 h3
        exact ⟨_, _, f1, .inr ⟨rfl, ⟨hlo, _, hIx _ _ _ _ _ (lowE O hlo) f7 h1 f4, f2, f3⟩, f5, f6⟩⟩
      | exit id =>
        obtain ⟨h1, h2, h3⟩ := h
        obtain ⟨f1, f2, f3, f4, f5, f6, f7⟩ := fin (some (.exit id)) B h2 h3
        exact ⟨_, _, f1, .inr ⟨rfl, ⟨hlo, _, hIx _ _ _ _ _ (lowE O hlo) f7 h1 f4, f2, f3⟩, f5, f6⟩⟩
      | goto t =>
        obtain ⟨h1, h2, h3⟩ := h
        obtain ⟨f1, f2, f3, f4, f5, f6, f7⟩ := fin (some (.goto t)) B h2 h3
        exact ⟨_, _, f1, .inr ⟨rfl, ⟨hlo, _, hIx _ _ _ _ _ (lowE O hlo) f7 h1 f4, f2, f3⟩, f5, f6⟩⟩
      | panic ch => exact h.elim
      | outgrown => exact h.elim
    | ret => exact h.elim
    | exit id => exact h.elim
    | goto t => exact h.elim
    | panic ch => exact h.elim
    | outgrown => exact h.elim
  · rintro e B ⟨⟨v, rfl⟩, O, hO, h⟩
    rw [hs1] at hO
    have hAm : w.heap.size + 1 < B.heap.size → Among w.heap.size B.heap.size (withLoop w.heap.size O) := fun hl k hk => by
      rcases hk with hk | hk | hk
      · have := hO k hk; omega
      · omega
      · omega
    rcases h with ⟨hlo, hi, hl, hk⟩ | ⟨pre, hp, hlo, c, hc, hl, hk⟩
    · have hz : w.heap.size + 1 < B.heap.size := (Array.getElem?_eq_some_iff.1 hl).1
      have h := run_endLoop (P := P) hl (by rw [hrec]; simp)
      rw [show (rec .ready none).pending = none by rw [hrec]] at h
      refine ⟨none, _, h, ?_⟩
      exact hdone (withLoop w.heap.size O) w.heap.size _ (hI _ _ _ _ (lowE O hlo) (by omega) hi (TurnO.putObj _ (.inr (.inr rfl)))) (by simpa using hAm hz) (.inr (.inl rfl)) ((putObj_other (by omega)).trans hk)
    · have hz : w.heap.size + 1 < B.heap.size := (Array.getElem?_eq_some_iff.1 hl).1
      have h := run_endLoop (P := P) hl (by rw [hrec]; simp)
      rw [show (rec .done (some c)).pending = some c by rw [hrec]] at h
      refine ⟨some c, _, h, ?_⟩
      exact hstop (withLoop w.heap.size O) w.heap.size c pre _ hp (hIx _ _ _ _ _ (lowE O hlo) (by omega) hc (TurnO.putObj _ (.inr (.inr rfl)))) (by simpa using hAm hz) (.inr (.inl rfl)) ((putObj_other (by omega)).trans hk)

/-- The mark that a loop over an iterator leaves among a function's deferred calls. -/
def markOf (D : Nat) : Deferred := { target := .collected D, args := #[] }

/-- A function that leaves marks of such loops behind. -/
theorem leaves_marks {F : Fence} {n : Nat} {P : Program} {fn : Func} {tmps : Array Value} {R : Ending → World → Prop} : ∀ (Ds : List Nat) (w : World), Ds.Nodup → (∀ D ∈ Ds, w.heap[D]? = some (.deferred (some []))) →
    (∀ w', TurnO (fun k => k ∈ Ds) w w' → LeavesIn F n P fn tmps R [] .returning w') → LeavesInM F n P fn tmps R (Ds.map markOf) .returning w
  | [], w, _, _, h => h w (TurnO.refl _ _)
  | D :: Ds, w, hd, hm, h => by
    refine ⟨by simp, .inl ⟨D, _, rfl, run_takeDeferred (hm D List.mem_cons_self), ?_⟩⟩
    refine leaves_marks Ds _ (List.nodup_cons.1 hd).2 (fun D' h' => ?_) (fun w' ht => h w' ?_)
    · exact (putObj_other (fun e => (List.nodup_cons.1 hd).1 (by rw [← e]; exact h'))).trans (hm D' (List.mem_cons_of_mem _ h'))
    · exact (TurnO.putObj (O := fun k => k ∈ D :: Ds) _ List.mem_cons_self).trans (ht.mono (fun k hk => List.mem_cons_of_mem _ hk))

end Go.Proofs.YtfmoophjdgejeaaGreatDoor
