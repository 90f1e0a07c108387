/-
  Plain facts: a token depends on few bytes behind it; what a text reads as. No program stands here.
-/
import Derived.Test.YtdcpfpifecnfmaaDoorLm
namespace Go.Proofs.YtdcpfpifecnfmaaDoor

/-- No position of the first list is one at which a wrong token ends. -/
def innerB : List UInt8 → List UInt8 → Bool
  | [], _ => true
  | x :: b, r => !endsB (x :: (b ++ r)) && innerB b r

theorem while_iff (p : UInt8 → Bool) (r : List UInt8) : ∀ u : List UInt8, ((u ++ r).takeWhile p).length = u.length ↔ (∀ x ∈ u, p x = true) ∧ r.takeWhile p = []
  | [] => by simp
  | c :: u => by
    have ih := while_iff p r u
    by_cases hc : p c = true
    · rw [List.cons_append, List.takeWhile_cons_of_pos hc, List.length_cons, List.length_cons, Nat.add_right_cancel_iff, ih]
      simp [hc]
    · rw [List.cons_append, List.takeWhile_cons_of_neg hc]
      constructor
      · intro h; simp at h
      · intro h; exact absurd (h.1 c List.mem_cons_self) hc

theorem wrong_iff (r : List UInt8) : ∀ u : List UInt8, wrongF (u ++ r) = u.length ↔ innerB u r = true ∧ endsB r = true
  | [] => by
    cases r with
    | nil => simp [wrongF, innerB, endsB]
    | cons c t =>
      rw [List.nil_append, wrongF, innerB, List.length_nil]
      by_cases h : endsB (c :: t) = true
      · rw [if_pos h]; simp [h]
      · rw [if_neg h]; simp [h]
  | c :: u => by
    have ih := wrong_iff r u
    rw [List.cons_append, wrongF, innerB]
    by_cases h : endsB (c :: (u ++ r)) = true
    · rw [if_pos h]; simp [h]
    · rw [if_neg h, List.length_cons, Nat.add_right_cancel_iff, ih]
      simp [h]

theorem tok_iff (k : Nat) (c : UInt8) (u r : List UInt8) : tokF (c :: (u ++ r)) = (k, u.length + 1) ↔
    if letterB c = true then k = 1 ∧ (∀ x ∈ u, partB x = true) ∧ r.takeWhile partB = []
    else if digitB c = true then k = 3 ∧ (∀ x ∈ u, digitB x = true) ∧ r.takeWhile digitB = []
    else if 0 < symL (c :: (u ++ r)) then k = 4 ∧ symL (c :: (u ++ r)) = u.length + 1
    else k = 5 ∧ innerB u r = true ∧ endsB r = true := by
  rw [tokF]
  by_cases h1 : letterB c = true
  · rw [if_pos h1, if_pos h1, ← while_iff, Prod.mk.injEq, Nat.add_right_cancel_iff]
    exact ⟨fun h => ⟨h.1.symm, h.2⟩, fun h => ⟨h.1.symm, h.2⟩⟩
  · rw [if_neg h1, if_neg h1]
    by_cases h2 : digitB c = true
    · rw [if_pos h2, if_pos h2, ← while_iff, Prod.mk.injEq, Nat.add_right_cancel_iff]
      exact ⟨fun h => ⟨h.1.symm, h.2⟩, fun h => ⟨h.1.symm, h.2⟩⟩
    · rw [if_neg h2, if_neg h2]
      by_cases h3 : 0 < symL (c :: (u ++ r))
      · rw [if_pos h3, if_pos h3, Prod.mk.injEq]
        exact ⟨fun h => ⟨h.1.symm, h.2⟩, fun h => ⟨h.1.symm, h.2⟩⟩
      · rw [if_neg h3, if_neg h3, ← wrong_iff, Prod.mk.injEq, Nat.add_right_cancel_iff]
        exact ⟨fun h => ⟨h.1.symm, h.2⟩, fun h => ⟨h.1.symm, h.2⟩⟩

theorem sym2 (a b : UInt8) (t t' : List UInt8) : symL (a :: b :: t) = symL (a :: b :: t') := by rw [symL, symL]
theorem sym_cut (a : UInt8) (t : List UInt8) (h : symL (a :: t) = 1) : symL [a] = 1 := by
  cases t with
  | nil => exact h
  | cons b t =>
    rw [symL] at h
    split at h
    · cases h
    · rw [symL]; exact h
theorem sym_zero (a : UInt8) (t : List UInt8) (h : symL (a :: t) = 0) : symL [a] = 0 := by
  cases t with
  | nil => exact h
  | cons b t =>
    rw [symL] at h
    split at h
    · cases h
    · rw [symL]; exact h
theorem sym_two (a : UInt8) (t : List UInt8) : symL (a :: t) ≤ 2 := by
  cases t with
  | nil => rw [symL]; split <;> omega
  | cons b t => rw [symL]; split <;> (try split) <;> omega

theorem ends2 (x y : UInt8) (t t' : List UInt8) : endsB (x :: y :: t) = endsB (x :: y :: t') := by
  unfold endsB; simp only [sym2 x y t t']
theorem ends_mono (x : UInt8) (t : List UInt8) (h : endsB [x] = true) : endsB (x :: t) = true := by
  unfold endsB at h ⊢
  simp only [Bool.or_eq_true, decide_eq_true_eq] at h ⊢
  rcases h with h | h
  · exact .inl h
  · refine .inr ?_
    have := sym_zero x t
    omega

theorem inner_head (y : UInt8) (t t' : List UInt8) : ∀ u : List UInt8, innerB u (y :: t) = innerB u (y :: t')
  | [] => rfl
  | [x] => by simp only [innerB, List.nil_append, ends2 x y t t']
  | x :: z :: u => by
    have ih := inner_head y t t' (z :: u)
    rw [innerB, innerB.eq_def (x :: z :: u)]
    simp only [ih, List.cons_append, ends2 x z (u ++ y :: t) (u ++ y :: t')]
theorem inner_cut (r : List UInt8) : ∀ u : List UInt8, innerB u r = true → innerB u [] = true
  | [], _ => rfl
  | x :: u, h => by
    rw [innerB, Bool.and_eq_true] at h ⊢
    refine ⟨?_, inner_cut r u h.2⟩
    have h1 := h.1
    simp only [List.append_nil, Bool.not_eq_true'] at h1 ⊢
    cases u with
    | nil =>
      cases he : endsB [x] with
      | false => rfl
      | true => rw [ends_mono x _ he] at h1; cases h1
    | cons z u => rw [← h1]; exact ends2 x z _ _

/-- A byte that is white space or begins a comment. -/
def gapB (c : UInt8) : Bool := whiteB c || c == 35
theorem gap_facts (c : UInt8) (h : gapB c = true) : partB c = false ∧ digitB c = false ∧ letterB c = false ∧ c ≠ 61 ∧ c ≠ 46 ∧ ∀ t, endsB (c :: t) = true := by
  have e : c = 9 ∨ c = 10 ∨ c = 13 ∨ c = 32 ∨ c = 35 := by
    unfold gapB whiteB at h
    simp only [Bool.or_eq_true, beq_iff_eq] at h
    rcases h with (((h | h) | h) | h) | h
    · exact .inl h
    · exact .inr (.inl h)
    · exact .inr (.inr (.inl h))
    · exact .inr (.inr (.inr (.inl h)))
    · exact .inr (.inr (.inr (.inr h)))
  have e2 : ∀ t, endsB (c :: t) = true := fun t => by
    unfold endsB
    unfold gapB at h
    simp only [Bool.or_eq_true] at h ⊢
    exact .inl (.inl (.inl h))
  refine ⟨?_, ?_, ?_, ?_, ?_, e2⟩ <;> rcases e with rfl | rfl | rfl | rfl | rfl <;> decide

theorem sym_gap (a c : UInt8) (t : List UInt8) (h1 : c ≠ 61) (h2 : c ≠ 46) : symL (a :: c :: t) = symL [a] := by
  have : twoB a c = false := by
    unfold twoB
    rw [show (c == 61) = false by simpa using h1, show (c == 46) = false by simpa using h2]
    simp
  rw [symL, symL, if_neg (by rw [this]; simp)]
theorem inner_gap (c : UInt8) (t : List UInt8) (h1 : c ≠ 61) (h2 : c ≠ 46) : ∀ u : List UInt8, innerB u (c :: t) = innerB u []
  | [] => rfl
  | [x] => by
    simp only [innerB, List.nil_append]
    unfold endsB
    simp only [sym_gap x c t h1 h2]
  | x :: z :: u => by
    have ih := inner_gap c t h1 h2 (z :: u)
    rw [innerB, innerB.eq_def (x :: z :: u)]
    simp only [ih, List.cons_append, ends2 x z (u ++ c :: t) (u ++ [])]

/-- The word of a token is a token of its own. -/
theorem tok_cut {k : Nat} {w r : List UInt8} (h0 : w ≠ []) (h : tokF (w ++ r) = (k, w.length)) : tokF w = (k, w.length) := by
  cases w with
  | nil => exact absurd rfl h0
  | cons c u =>
    rw [List.cons_append, List.length_cons, tok_iff] at h
    have e : tokF (c :: u) = tokF (c :: (u ++ [])) := by rw [List.append_nil]
    rw [e, List.length_cons, tok_iff]
    by_cases h1 : letterB c = true
    · rw [if_pos h1] at h ⊢; exact ⟨h.1, h.2.1, rfl⟩
    · rw [if_neg h1] at h ⊢
      by_cases h2 : digitB c = true
      · rw [if_pos h2] at h ⊢; exact ⟨h.1, h.2.1, rfl⟩
      · rw [if_neg h2] at h ⊢
        by_cases h3 : 0 < symL (c :: (u ++ r))
        · rw [if_pos h3] at h
          obtain ⟨rfl, h5⟩ := h
          have h6 : symL (c :: (u ++ [])) = u.length + 1 := by
            cases u with
            | nil => exact sym_cut c r h5
            | cons d u =>
              have := sym_two c (d :: u ++ r)
              rw [h5, List.length_cons] at this
              have hu : u = [] := List.length_eq_zero_iff.1 (by omega)
              subst hu
              rw [← h5]; exact sym2 c d _ _
          rw [if_pos (by rw [h6]; exact Nat.succ_pos _)]
          exact ⟨rfl, h6⟩
        · rw [if_neg h3] at h
          have h6 : symL (c :: (u ++ [])) = 0 := by
            cases u with
            | nil => exact sym_zero c r (Nat.eq_zero_of_not_pos h3)
            | cons d u => rw [show symL (c :: (d :: u ++ [])) = symL (c :: (d :: u ++ r)) from sym2 c d _ _]; omega
          rw [if_neg (by rw [h6]; exact Nat.lt_irrefl 0)]
          exact ⟨h.1, inner_cut r u h.2.1, rfl⟩

/-- Behind a token stands a gap instead. -/
theorem tok_gap {k : Nat} {w : List UInt8} {c : UInt8} (t : List UInt8) (h0 : w ≠ []) (h : tokF w = (k, w.length)) (hc : gapB c = true) : tokF (w ++ c :: t) = (k, w.length) := by
  obtain ⟨g1, g2, g3, g4, g5, g6⟩ := gap_facts c hc
  cases w with
  | nil => exact absurd rfl h0
  | cons a u =>
    have e : tokF (a :: u) = tokF (a :: (u ++ [])) := by rw [List.append_nil]
    rw [e, List.length_cons, tok_iff] at h
    rw [List.cons_append, List.length_cons, tok_iff]
    by_cases h1 : letterB a = true
    · rw [if_pos h1] at h ⊢; exact ⟨h.1, h.2.1, List.takeWhile_cons_of_neg (by rw [g1]; simp)⟩
    · rw [if_neg h1] at h ⊢
      by_cases h2 : digitB a = true
      · rw [if_pos h2] at h ⊢; exact ⟨h.1, h.2.1, List.takeWhile_cons_of_neg (by rw [g2]; simp)⟩
      · rw [if_neg h2] at h ⊢
        have hs : symL (a :: (u ++ c :: t)) = symL (a :: (u ++ [])) := by
          cases u with
          | nil => exact sym_gap a c t g4 g5
          | cons d u => exact sym2 a d _ _
        rw [hs]
        by_cases h3 : 0 < symL (a :: (u ++ []))
        · rw [if_pos h3] at h ⊢; exact h
        · rw [if_neg h3] at h ⊢
          exact ⟨h.1, by rw [inner_gap c t g4 g5]; exact h.2.1, g6 t⟩

/-- Of what stands behind a token its first byte counts alone, but for where a wrong token ends. -/
theorem tok_head {k : Nat} {w t t' : List UInt8} {a : UInt8} (h0 : w ≠ []) (h : tokF (w ++ a :: t) = (k, w.length)) (he : k = 5 → endsB (a :: t) = true → endsB (a :: t') = true) : tokF (w ++ a :: t') = (k, w.length) := by
  cases w with
  | nil => exact absurd rfl h0
  | cons c u =>
    rw [List.cons_append, List.length_cons, tok_iff] at h ⊢
    have hp : ∀ p : UInt8 → Bool, (a :: t).takeWhile p = [] → (a :: t').takeWhile p = [] := fun p hp => by
      by_cases ha : p a = true
      · rw [List.takeWhile_cons_of_pos ha] at hp; cases hp
      · exact List.takeWhile_cons_of_neg ha
    by_cases h1 : letterB c = true
    · rw [if_pos h1] at h ⊢; exact ⟨h.1, h.2.1, hp _ h.2.2⟩
    · rw [if_neg h1] at h ⊢
      by_cases h2 : digitB c = true
      · rw [if_pos h2] at h ⊢; exact ⟨h.1, h.2.1, hp _ h.2.2⟩
      · rw [if_neg h2] at h ⊢
        have hs : symL (c :: (u ++ a :: t')) = symL (c :: (u ++ a :: t)) := by
          cases u with
          | nil => exact sym2 c a _ _
          | cons d u => exact sym2 c d _ _
        rw [hs]
        by_cases h3 : 0 < symL (c :: (u ++ a :: t))
        · rw [if_pos h3] at h ⊢; exact h
        · rw [if_neg h3] at h ⊢
          exact ⟨h.1, by rw [inner_head a t' t]; exact h.2.1, he h.1 h.2.2⟩

theorem tok_more {k : Nat} {w v : List UInt8} (r : List UInt8) (h0 : w ≠ []) (hv : v ≠ []) (h : tokF (w ++ v) = (k, w.length)) : tokF (w ++ (v ++ r)) = (k, w.length) := by
  cases v with
  | nil => exact absurd rfl hv
  | cons a v =>
    refine tok_head (t' := v ++ r) h0 h fun _ he => ?_
    cases v with
    | nil => exact ends_mono a r he
    | cons b v => rw [← he]; exact ends2 a b _ _

theorem tok_less {k j : Nat} {w v r : List UInt8} (h0 : w ≠ []) (hv : v ≠ []) (h : tokF (w ++ (v ++ r)) = (k, w.length)) (hr : tokF (v ++ r) = (j, v.length)) : tokF (w ++ v) = (k, w.length) := by
  cases v with
  | nil => exact absurd rfl hv
  | cons a v =>
    refine tok_head (t := v ++ r) h0 h fun _ he => ?_
    cases v with
    | cons b v => rw [← he]; exact ends2 a b _ _
    | nil =>
      have hr' : tokF (a :: ([] ++ r)) = (j, ([] : List UInt8).length + 1) := hr
      rw [tok_iff] at hr'
      unfold endsB at he ⊢
      simp only [Bool.or_eq_true, decide_eq_true_eq] at he ⊢
      rcases he with he | he
      · exact .inl he
      · by_cases h1 : letterB a = true
        · exact .inl (.inl (.inr h1))
        · rw [if_neg h1] at hr'
          by_cases h2 : digitB a = true
          · exact .inl (.inr h2)
          · rw [if_neg h2] at hr'
            have he' : 0 < symL (a :: ([] ++ r)) := he
            rw [if_pos he'] at hr'
            refine .inr ?_
            rw [sym_cut a r hr'.2]; exact Nat.one_pos

/-- What a text reads as: the kinds (a keyword counts as a name) and the words. -/
inductive Reads : List UInt8 → List (Nat × List UInt8) → Prop
  | done (l : List UInt8) (h : skipF false l = l.length) : Reads l []
  | tok (l p w r : List UInt8) (k : Nat) (ks : List (Nat × List UInt8)) (hl : l = p ++ (w ++ r)) (hs : skipF false l = p.length) (hw : w ≠ []) (ht : tokF (w ++ r) = (k, w.length)) (h : Reads r ks) : Reads l ((k, w) :: ks)

theorem Reads.one {l : List UInt8} {ks : List (Nat × List UInt8)} (h : Reads l ks) : ∀ {js}, Reads l js → ks = js := by
  induction h with
  | done l h =>
    intro js hj
    cases hj with
    | done => rfl
    | tok _ p w r k ks hl hs hw ht h' =>
      exfalso
      rw [hl] at h hs
      rw [h] at hs
      simp only [List.length_append] at hs
      exact hw (List.length_eq_zero_iff.1 (by omega))
  | tok l p w r k ks hl hs hw ht h' ih =>
    intro js hj
    cases hj with
    | done _ h =>
      exfalso
      rw [h, hl] at hs
      simp only [List.length_append] at hs
      exact hw (List.length_eq_zero_iff.1 (by omega))
    | tok _ p' w' r' k' ks' hl' hs' hw' ht' h'' =>
      obtain ⟨rfl, e⟩ := List.append_inj (hl.symm.trans hl') (by omega)
      rw [← e, ht] at ht'
      obtain ⟨rfl, e2⟩ := Prod.mk.inj ht'
      obtain ⟨rfl, rfl⟩ := List.append_inj e e2
      rw [ih h'']

theorem skip_cons (c : UInt8) (r : List UInt8) : skipF false (c :: r) = 0 ↔ gapB c = false := by
  unfold gapB
  rw [skipF]
  by_cases h1 : whiteB c = true
  · rw [if_pos h1]; simp [h1]
  · rw [if_neg h1]
    by_cases h2 : c = 35
    · rw [if_pos h2]; simp [h2]
    · rw [if_neg h2]; simp [h1, h2]

theorem skip_after : ∀ (cm : Bool) (p x : List UInt8), skipF cm (p ++ x) = p.length → skipF false x = 0 ∨ x = [] 
  | false, [], x, h => .inl h
  | true, [], x, h => by
    cases x with
    | nil => exact .inr rfl
    | cons c x =>
      rw [List.nil_append, skipF] at h
      split at h <;> simp at h
  | true, c :: p, x, h => by
    rw [List.cons_append, skipF] at h
    split at h
    · exact skip_after false p x (by simpa using h)
    · exact skip_after true p x (by simpa using h)
  | false, c :: p, x, h => by
    rw [List.cons_append, skipF] at h
    split at h
    · exact skip_after false p x (by simpa using h)
    · split at h
      · exact skip_after true p x (by simpa using h)
      · simp at h

/-- A word: one token, without a gap ahead. -/
structure IsWord (k : Nat) (w : List UInt8) : Prop where
  ne : w ≠ []
  skip : skipF false w = 0
  tok : tokF w = (k, w.length)

theorem skip_app {w : List UInt8} (h0 : w ≠ []) (x : List UInt8) : skipF false (w ++ x) = 0 ↔ skipF false w = 0 := by
  cases w with
  | nil => exact absurd rfl h0
  | cons c u => rw [List.cons_append, skip_cons, skip_cons]

theorem Reads.words {l : List UInt8} {ks : List (Nat × List UInt8)} (h : Reads l ks) : ∀ x ∈ ks, IsWord x.1 x.2 := by
  induction h with
  | done => intro x hx; cases hx
  | tok l p w r k ks hl hs hw ht h' ih =>
    intro x hx
    rcases List.mem_cons.1 hx with rfl | hx
    · refine ⟨hw, ?_, tok_cut hw ht⟩
      rw [hl] at hs
      rcases skip_after false p (w ++ r) hs with h | h
      · exact (skip_app hw r).1 h
      · exact absurd (List.append_eq_nil_iff.1 h).1 hw
    · exact ih x hx

/-- A text that begins with a word. -/
theorem IsWord.reads {k j : Nat} {w r : List UInt8} {ks : List (Nat × List UInt8)} (h : IsWord k w) (ht : tokF (w ++ r) = (j, w.length)) (hr : Reads r ks) : Reads (w ++ r) ((j, w) :: ks) :=
  .tok (w ++ r) [] w r j ks rfl ((skip_app h.ne r).2 h.skip) h.ne ht hr

theorem Reads.nil : Reads [] [] := .done [] rfl
theorem IsWord.alone {k : Nat} {w : List UInt8} (h : IsWord k w) : Reads w [(k, w)] := by
  have := h.reads (r := []) (j := k) (by rw [List.append_nil]; exact h.tok) Reads.nil
  rwa [List.append_nil] at this

/-- A gap ahead. -/
theorem Reads.skip {x : List UInt8} {ks : List (Nat × List UInt8)} (h : Reads x ks) (p : List UInt8) (hp : skipF false (p ++ x) = p.length + skipF false x) : Reads (p ++ x) ks := by
  cases h with
  | done _ h => exact .done _ (by rw [hp, h, List.length_append])
  | tok _ q w r k ks hl hs hw ht h' => exact .tok _ (p ++ q) w r k ks (by rw [hl, List.append_assoc]) (by rw [hp, hs, List.length_append]) hw ht h'

end Go.Proofs.YtdcpfpifecnfmaaDoor
