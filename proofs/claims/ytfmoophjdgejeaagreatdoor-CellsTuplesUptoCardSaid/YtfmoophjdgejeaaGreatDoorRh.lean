import Derived.Test.YtfmoophjdgejeaaGreatDoorJc
/-
  The like of rangeR, where what stands when a round has stopped the loop may speak of the iterator's own rows: behind a stop only loops and marks are turned.
-/
namespace Go.Proofs.YtfmoophjdgejeaaGreatDoor
open Go.RowKit Go.Shelf

/-- Of what lay, only loops and marks of a set are turned. -/
structure TurnM (O : Nat → Prop) (w w' : World) : Prop where
  turn : TurnO O w w'
  cells : ∀ (k : Nat) cs t f, w.heap[k]? = some (Obj.cells cs t f) → w'.heap[k]? = w.heap[k]?
theorem TurnM.refl (O : Nat → Prop) (w : World) : TurnM O w w := ⟨TurnO.refl _ _, fun _ _ _ _ _ => rfl⟩
theorem TurnM.trans {O : Nat → Prop} {a b c : World} (h : TurnM O a b) (k : TurnM O b c) : TurnM O a c :=
  ⟨h.turn.trans k.turn, fun i cs t f hi => (k.cells i cs t f ((h.cells i cs t f hi).trans hi)).trans (h.cells i cs t f hi)⟩
theorem TurnM.mono {O O' : Nat → Prop} {a b : World} (h : TurnM O a b) (ho : ∀ k, O k → O' k) : TurnM O' a b := ⟨h.turn.mono ho, h.cells⟩
theorem TurnM.putObj {O : Nat → Prop} {l : Nat} {w : World} {o : Obj} (o' : Obj) (h : O l) (hl : w.heap[l]? = some o) (hn : ∀ cs t f, o ≠ Obj.cells cs t f) : TurnM O w (w.putObj l o') :=
  ⟨TurnO.putObj _ h, fun k cs t f hk => putObj_other (fun e => by rw [e, hl] at hk; injection hk with hk; exact hn _ _ _ hk)⟩
/-- A cell is as it was. -/
theorem TurnM.cell {O : Nat → Prop} {a b : World} (h : TurnM O a b) {T i : Nat} {v : Value} (hc : a.cell? ⟨T, i, none⟩ = some v) : b.heap[T]? = a.heap[T]? := by
  have h0 := hc
  unfold World.cell? at h0
  cases hb : a.heap[T]? with
  | none => simp [hb] at h0
  | some o =>
    cases o with
    | cells c t f => rw [← hb]; exact h.cells T c t f hb
    | _ => simp [hb] at h0

/-- An iterator that yields the elements of L, in order, unless it is stopped: R O x vs A: the values vs stand for x in the world A, among the blocks O. O are the iterator's own blocks so far. -/
def SeqM {α : Type} (K : Nat → Prop) (P : Program) (g : Nat) (lb : Array Value) (R : (Nat → Prop) → α → Array Value → World → Prop) (L : List α) (w : World) : Prop :=
  ∀ (l : Nat) (J Jx : (Nat → Prop) → List α → World → Prop) (W : World), Below w.heap.size w W →
    (∀ O s A B, J O s A → TurnO O A B → J O s B) → (∀ O s A B, Jx O s A → TurnM O A B → Jx O s B) →
    (∀ (O O' : Nat → Prop) s A, J O s A → (∀ k, O' k → O k ∨ A.heap.size ≤ k) → J O' s A) →
    (∀ B, Below W.heap.size W B → J (fun k => W.heap.size ≤ k ∧ k < B.heap.size) [] B) →
    (∀ O pre x vs A, J O pre A → R O x vs A → Among W.heap.size A.heap.size O → (pre ++ [x]) <+: L → YieldAt Fence.wide 9 P l vs A (SaysR K O J Jx (pre ++ [x]) A)) →
    Calls P g (#[.func (.yield l) #[] #[]] ++ lb) W fun e B => (∃ v, e = .returned v) ∧ ∃ O, Among W.heap.size B.heap.size O ∧ (J O L B ∨ ∃ pre, pre <+: L ∧ Jx O pre B)

/-- The loop over such an iterator. -/
theorem rangeM {α : Type} {P : Program} {n : Nat} {K : Nat → Prop} {g : Operand} {ps : Array Tmp} {assign body : Code} {Q : Exit → Act → World → Prop} {a : Act} {w : World}
    {gf : Nat} {lb : Array Value} (hg : a.eval g = .func (.func gf) #[] lb) (eg : ∀ args w, (callFunc gf args).run P w = .ok (.enter gf args) w)
    {R : (Nat → Prop) → α → Array Value → World → Prop} {L : List α} {w0 : World} (hseq : SeqM K P gf lb R L w0) (hR : ∀ O x vs A, R O x vs A → vs.size = ps.size) (hb0 : Below w0.heap.size w0 w) (hK : ∀ k, K k → k < w.heap.size)
    (I : (Nat → Prop) → List α → World → Prop) (Ix : (Nat → Prop) → Code → List α → World → Prop) (Ax : (Nat → Prop) → List α → α → Act → World → Prop)
    (hI : ∀ O s A B, (∀ k, O k → w.heap.size ≤ k) → w.heap.size ≤ A.heap.size → I O s A → TurnO O A B → I O s B) (hIx : ∀ O c s A B, (∀ k, O k → w.heap.size ≤ k) → w.heap.size ≤ A.heap.size → Ix O c s A → TurnM O A B → Ix O c s B)
    (hIg : ∀ (O O' : Nat → Prop) s A, I O s A → (∀ k, O' k → O k ∨ A.heap.size ≤ k) → I O' s A)
    (hAx : ∀ O s x a' A B, Ax O s x a' A → (∀ k, O k → w.heap.size + 2 ≤ k) → w.heap.size + 2 ≤ A.heap.size → TurnO (fun k => k = w.heap.size + 1) A B → Ax O s x a' B)
    (h0 : ∀ B, Below w.heap.size w B → I (fun k => w.heap.size ≤ k ∧ k < B.heap.size) [] B)
    (hassign : ∀ l O pre x vs A, I (withLoop w.heap.size O) pre A → R O x vs A → Among (w.heap.size + 2) A.heap.size O → w.heap.size + 2 ≤ A.heap.size → (pre ++ [x]) <+: L →
      assign.wpIn (Fence.wide.inRound l) 9 P (Exit.then (fun a' B => Ax O pre x a' B ∧ Keeps (withLoop w.heap.size O) A B ∧ Keeps K A B) (fun _ _ _ => False)) { tmps := setAll a.tmps ps.toList vs.toList, defers := [] } A)
    (hbody : ∀ l O pre x a' A, Ax O pre x a' A → Among (w.heap.size + 2) A.heap.size O → w.heap.size + 2 ≤ A.heap.size → (pre ++ [x]) <+: L →
      body.wpIn (Fence.wide.inRound l) 9 P (leftR K (withLoop w.heap.size O) I Ix (pre ++ [x]) A) a' A)
    (hdone : ∀ O D B, I O L B → Among w.heap.size B.heap.size O → O D → B.heap[D]? = some (.deferred (some [])) → Q .normal { a with defers := { target := .collected D, args := #[] } :: a.defers } B)
    (hstop : ∀ O D c pre B, pre <+: L → Ix O c pre B → Among w.heap.size B.heap.size O → O D → B.heap[D]? = some (.deferred (some [])) → c.wpIn Fence.wide n P Q { a with defers := { target := .collected D, args := #[] } :: a.defers } B) :
    (Code.rangeFunc g ps assign body).wpIn Fence.wide n P Q a w := by
  refine wpIn_rangeFunc ?_
  intro fn hfn
  obtain ⟨rec, hrec⟩ : ∃ rec : LoopState → Option Code → Loop, rec = fun st pe => { state := st, pending := pe, fn, tmps := a.tmps, params := ps, assign, body, defers := w.heap.size } := ⟨_, rfl⟩
  obtain ⟨W1, hW1⟩ : ∃ W1, (w.alloc (.deferred (some []))).alloc (.loop (rec .ready none)) = W1 := ⟨_, rfl⟩
  have hs1 : W1.heap.size = w.heap.size + 2 := by rw [← hW1]; simp
  have hl1 : W1.heap[w.heap.size + 1]? = some (.loop (rec .ready none)) := by
    have := World.alloc_heap_new (w.alloc (.deferred (some []))) (.loop (rec .ready none))
    rw [World.size_alloc] at this; rw [← hW1]; exact this
  have hk1 : W1.heap[w.heap.size]? = some (.deferred (some [])) := by
    rw [← hW1]; exact (Below.heap_alloc _ _ _ (by simp)).trans (World.alloc_heap_new w _)
  have hw1 : Below w.heap.size w W1 := by rw [← hW1]; exact ((Below.refl _ w).alloc (Nat.le_refl _) _).alloc (by simp) _
  have lowE : ∀ O : Nat → Prop, (∀ k, O k → w.heap.size + 2 ≤ k) → ∀ k, withLoop w.heap.size O k → w.heap.size ≤ k := fun O h k hk => by
    rcases hk with hk | hk | hk
    · have := h k hk; omega
    · omega
    · omega
  refine ⟨w.heap.size + 1, [{ target := .collected w.heap.size, args := #[] }], W1, { target := .fn (.func gf) lb, args := #[.func (.yield (w.heap.size + 1)) #[] #[]] }, W1, gf,
    #[.func (.yield (w.heap.size + 1)) #[] #[]] ++ lb, W1, ?_, ?_, fun _ _ => trivial, ?_, fun h => (by cases h), ?_⟩
  · rw [← hW1, hrec]; exact run_enterLoop_outer _ _ _ _ _
  · simp only [resolve, hg]
    simp [go_sem]
  · simp [invoke, go_sem, eg]
  refine (callsIn_wide.2 (hseq (w.heap.size + 1)
    (fun O s A => (∀ k, O k → w.heap.size + 2 ≤ k) ∧ I (withLoop w.heap.size O) s A ∧ A.heap[w.heap.size + 1]? = some (.loop (rec .ready none)) ∧ A.heap[w.heap.size]? = some (.deferred (some [])))
    (fun O s A => (∀ k, O k → w.heap.size + 2 ≤ k) ∧ ∃ c, Ix (withLoop w.heap.size O) c s A ∧ A.heap[w.heap.size + 1]? = some (.loop (rec .done (some c))) ∧ A.heap[w.heap.size]? = some (.deferred (some [])))
    W1 (hb0.trans (hw1.mono hb0.size)) ?_ ?_ ?_ ?_ ?_)).mono ?_
  · rintro O s A B ⟨hlo, hi, hl, hk⟩ ht
    have hz : w.heap.size + 1 < A.heap.size := (Array.getElem?_eq_some_iff.1 hl).1
    exact ⟨hlo, hI _ _ _ _ (lowE O hlo) (by omega) hi (ht.mono (fun k h => .inl h)), (ht.block _ hz (fun h => by have := hlo _ h; omega)).trans hl, (ht.block _ (by omega) (fun h => by have := hlo _ h; omega)).trans hk⟩
  · rintro O s A B ⟨hlo, c, hi, hl, hk⟩ ht
    have hz : w.heap.size + 1 < A.heap.size := (Array.getElem?_eq_some_iff.1 hl).1
    exact ⟨hlo, c, hIx _ _ _ _ _ (lowE O hlo) (by omega) hi (ht.mono (fun k h => .inl h)), (ht.turn.block _ hz (fun h => by have := hlo _ h; omega)).trans hl, (ht.turn.block _ (by omega) (fun h => by have := hlo _ h; omega)).trans hk⟩
  · rintro O O' s A ⟨hlo, hi, hl, hk⟩ hg'
    have hz : w.heap.size + 1 < A.heap.size := (Array.getElem?_eq_some_iff.1 hl).1
    refine ⟨fun k h => ?_, hIg _ _ _ _ hi (fun k h => ?_), hl, hk⟩
    · rcases hg' k h with h | h
      · exact hlo k h
      · omega
    · rcases h with h | h | h
      · rcases hg' k h with h | h
        · exact .inl (.inl h)
        · exact .inr h
      · exact .inl (.inr (.inl h))
      · exact .inl (.inr (.inr h))
  · intro B hB
    refine ⟨fun k h => by have := h.1; omega, hIg _ _ _ _ (h0 B (hw1.trans (hB.mono (by omega)))) (fun k h => ?_), (hB.block _ (by omega)).trans hl1, (hB.block _ (by omega)).trans hk1⟩
    have hz := hB.size
    rcases h with h | h | h
    · exact .inl ⟨by have := h.1; omega, h.2⟩
    · exact .inl ⟨by omega, by omega⟩
    · exact .inl ⟨by omega, by omega⟩
  · rintro O pre x vs A ⟨hlo, hi, hl, hk⟩ hr hO hp
    rw [hs1] at hO
    have hlA : w.heap.size + 1 < A.heap.size := (Array.getElem?_eq_some_iff.1 hl).1
    have hy : (Instr.yield (w.heap.size + 1) vs).run P A = .ok (.round (w.heap.size + 1) fn (setAll a.tmps ps.toList vs.toList) assign body) A := by
      have h := run_yield (P := P) (args := vs) hl (by rw [hrec]; exact hR _ _ _ _ hr)
      rw [hrec] at h
      rw [← setAll_arr]
      exact h
    refine ⟨fn, _, assign, body, hy, roundIn_of_wpIn hfn ?_⟩
    refine wpIn_mono (hassign _ O pre x vs A hi hr hO (by omega) hp) ?_
    intro e a' A1 h
    cases e with
    | normal =>
      obtain ⟨hax, hm1, hkA⟩ := h
      have hl1' := (hm1.block (w.heap.size + 1) (.inr (.inr rfl)) (by omega)).trans hl
      have hk1' := (hm1.block w.heap.size (.inr (.inl rfl)) (by omega)).trans hk
      refine ⟨_, run_beginRound hl1' (by rw [hrec]), ?_⟩
      obtain ⟨A2, hA2⟩ : ∃ A2, A1.putObj (w.heap.size + 1) (.loop { rec .ready none with state := .busy }) = A2 := ⟨_, rfl⟩
      have hl2 : A2.heap[w.heap.size + 1]? = some (.loop { rec .ready none with state := .busy }) := by rw [← hA2]; exact World.putObj_heap_same (Array.getElem?_eq_some_iff.1 hl1').1
      have hk2 : A2.heap[w.heap.size]? = some (.deferred (some [])) := by rw [← hA2]; exact (putObj_other (by omega)).trans hk1'
      have hz2 : A2.heap.size = A1.heap.size := by rw [← hA2]; simp
      have hm2 : Keeps O A A2 := by rw [← hA2]; exact Keeps.trans ⟨hm1.size, fun k h1 h2 => hm1.block k (.inl h1) h2⟩ (Keeps.putObj _ (fun k hk => by have := hlo k hk; omega))
      have hw2 : Keeps K A A2 := by rw [← hA2]; exact hkA.trans (Keeps.putObj _ (fun k hk => by have := hK k hk; omega))
      have ht2 : TurnO (fun k => k = w.heap.size + 1) A1 A2 := by rw [← hA2]; exact TurnO.putObj _ rfl
      rw [hA2]
      refine wpIn_mono (hbody _ O pre x a' A2 (hAx _ _ _ _ _ _ hax hlo (by have := hm1.size; omega) ht2) (fun k h => ⟨(hO k h).1, by have := (hO k h).2; have := hm1.size; omega⟩) (by have := hm1.size; omega) hp) ?_
      have fin : ∀ (jump : Option Code) (B : World), Keeps (withLoop w.heap.size O) A2 B → Keeps K A2 B →
          (Instr.endRound (w.heap.size + 1) jump).run P B = .ok (.bool jump.isNone) (B.putObj (w.heap.size + 1) (.loop (rec (if jump.isNone then .ready else .done) jump))) ∧
          (B.putObj (w.heap.size + 1) (.loop (rec (if jump.isNone then .ready else .done) jump))).heap[w.heap.size + 1]? = some (.loop (rec (if jump.isNone then .ready else .done) jump)) ∧
          (B.putObj (w.heap.size + 1) (.loop (rec (if jump.isNone then .ready else .done) jump))).heap[w.heap.size]? = some (.deferred (some [])) ∧
          TurnM (withLoop w.heap.size O) B (B.putObj (w.heap.size + 1) (.loop (rec (if jump.isNone then .ready else .done) jump))) ∧
          Keeps O A (B.putObj (w.heap.size + 1) (.loop (rec (if jump.isNone then .ready else .done) jump))) ∧
          Keeps K A (B.putObj (w.heap.size + 1) (.loop (rec (if jump.isNone then .ready else .done) jump))) ∧ w.heap.size ≤ B.heap.size := fun jump B hm hkp => by
        have hzm := hm.size
        have hzm1 := hm1.size
        have hl3 := (hm.block (w.heap.size + 1) (.inr (.inr rfl)) (by omega)).trans hl2
        have hk3 := (hm.block w.heap.size (.inr (.inl rfl)) (by omega)).trans hk2
        have hr := run_endRound (P := P) jump hl3
        rw [hrec] at hr
        refine ⟨by rw [hrec]; exact hr, World.putObj_heap_same (Array.getElem?_eq_some_iff.1 hl3).1, (putObj_other (by omega)).trans hk3, TurnM.putObj _ (.inr (.inr rfl)) hl3 (fun _ _ _ h => by cases h), ?_, ?_, by omega⟩
        · exact (hm2.trans ⟨hm.size, fun k h1 h2 => hm.block k (.inl h1) h2⟩).trans (Keeps.putObj _ (fun k hk => by have := hlo k hk; omega))
        · exact (hw2.trans hkp).trans (Keeps.putObj _ (fun k hk => by have := hK k hk; omega))
      intro e a3 B h
      cases e with
      | normal =>
        obtain ⟨h1, h2, h3⟩ := h
        obtain ⟨f1, f2, f3, f4, f5, f6, f7⟩ := fin none B h2 h3
        exact ⟨_, _, f1, .inl ⟨rfl, ⟨hlo, hI _ _ _ _ (lowE O hlo) f7 h1 f4.turn, f2, f3⟩, f5, f6⟩⟩
      | ret =>
        obtain ⟨h1, h2, h3⟩ := h
        obtain ⟨f1, f2, f3, f4, f5, f6, f7⟩ := fin (some .ret) B h2 h3
        exact ⟨_, _, f1, .inr ⟨rfl, ⟨hlo, _, hIx _ _ _ _ _ (lowE O hlo) f7 h1 f4, f2, f3⟩, f5, f6⟩⟩
      | exit id =>
        obtain ⟨h1, h2, h3⟩ := h
        obtain ⟨f1, f2, f3, f4, f5, f6, f7⟩ := fin (some (.exit id)) B h2 h3
        exact ⟨_, _, f1, .inr ⟨rfl, ⟨hlo, _, hIx _ _ _ _ _ (lowE O hlo) f7 h1 f4, f2, f3⟩, f5, f6⟩⟩
      | goto t =>
        obtain ⟨h1, h2, h3⟩ := h
        obtain ⟨f1, f2, f3, f4, f5, f6, f7⟩ := fin (some (.goto t)) B h2 h3
        exact ⟨_, _, f1, .inr ⟨rfl, ⟨hlo, _, hIx _ _ _ _ _ (lowE O hlo) f7 h1 f4, f2, f3⟩, f5, f6⟩⟩
      | panic ch => exact h.elim
      | outgrown => exact h.elim
    | ret => exact h.elim
    | exit id => exact h.elim
    | goto t => exact h.elim
    | panic ch => exact h.elim
    | outgrown => exact h.elim
  · rintro e B ⟨⟨v, rfl⟩, O, hO, h⟩
    rw [hs1] at hO
    have hAm : w.heap.size + 1 < B.heap.size → Among w.heap.size B.heap.size (withLoop w.heap.size O) := fun hl k hk => by
      rcases hk with hk | hk | hk
      · have := hO k hk; omega
      · omega
      · omega
    rcases h with ⟨hlo, hi, hl, hk⟩ | ⟨pre, hp, hlo, c, hc, hl, hk⟩
    · have hz : w.heap.size + 1 < B.heap.size := (Array.getElem?_eq_some_iff.1 hl).1
      have h := run_endLoop (P := P) hl (by rw [hrec]; simp)
      rw [show (rec .ready none).pending = none by rw [hrec]] at h
      refine ⟨none, _, h, ?_⟩
      exact hdone (withLoop w.heap.size O) w.heap.size _ (hI _ _ _ _ (lowE O hlo) (by omega) hi (TurnO.putObj _ (.inr (.inr rfl)))) (by simpa using hAm hz) (.inr (.inl rfl)) ((putObj_other (by omega)).trans hk)
    · have hz : w.heap.size + 1 < B.heap.size := (Array.getElem?_eq_some_iff.1 hl).1
      have h := run_endLoop (P := P) hl (by rw [hrec]; simp)
      rw [show (rec .done (some c)).pending = some c by rw [hrec]] at h
      refine ⟨some c, _, h, ?_⟩
      exact hstop (withLoop w.heap.size O) w.heap.size c pre _ hp (hIx _ _ _ _ _ (lowE O hlo) (by omega) hc (TurnM.putObj _ (.inr (.inr rfl)) hl (fun _ _ _ h => by cases h))) (by simpa using hAm hz) (.inr (.inl rfl)) ((putObj_other (by omega)).trans hk)

/-- A function that leaves marks of such loops behind. -/
theorem leaves_marksM {F : Fence} {n : Nat} {P : Program} {fn : Func} {tmps : Array Value} {R : Ending → World → Prop} : ∀ (Ds : List Nat) (w : World), Ds.Nodup → (∀ D ∈ Ds, w.heap[D]? = some (.deferred (some []))) →
    (∀ w', TurnM (fun k => k ∈ Ds) w w' → LeavesIn F n P fn tmps R [] .returning w') → LeavesInM F n P fn tmps R (Ds.map markOf) .returning w
  | [], w, _, _, h => h w (TurnM.refl _ _)
  | D :: Ds, w, hd, hm, h => by
    refine ⟨by simp, .inl ⟨D, _, rfl, run_takeDeferred (hm D List.mem_cons_self), ?_⟩⟩
    refine leaves_marksM Ds _ (List.nodup_cons.1 hd).2 (fun D' h' => ?_) (fun w' ht => h w' ?_)
    · exact (putObj_other (fun e => (List.nodup_cons.1 hd).1 (by rw [← e]; exact h'))).trans (hm D' (List.mem_cons_of_mem _ h'))
    · exact (TurnM.putObj (O := fun k => k ∈ D :: Ds) _ List.mem_cons_self (hm D List.mem_cons_self) (fun _ _ _ h => by cases h)).trans (ht.mono (fun k hk => List.mem_cons_of_mem _ hk))

end Go.Proofs.YtfmoophjdgejeaaGreatDoor
