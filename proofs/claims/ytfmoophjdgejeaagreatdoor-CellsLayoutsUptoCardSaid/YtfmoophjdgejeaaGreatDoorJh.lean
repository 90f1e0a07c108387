import Derived.Test.YtfmoophjdgejeaaGreatDoorJe
import Derived.Test.YtfmoophjdgejeaaGreatDoorJf
import Derived.Test.YtfmoophjdgejeaaGreatDoorJa
/-
  slices.Equal of two lists of strings; Separate.
-/
namespace Go.Proofs.YtfmoophjdgejeaaGreatDoor
open Go.RowKit Go.Shelf Go.Lib
attribute [local go_sem] Oper.semAt_some

/-- A slice value that holds strings. -/
def Strs (w : World) (v : Value) (xs : List ByteArray) : Prop :=
  (v = .slice none 0 0 ∧ xs = []) ∨ ∃ g cap, v = .slice (some ⟨g, 0, none⟩) xs.length cap ∧ g < w.heap.size ∧ ∀ j, j < xs.length → w.cell? ⟨g, 0 + j, none⟩ = some (.string (xs.getD j ByteArray.empty))

theorem Strs.of_row {w : World} {b : Nat} {e : TypeId} {v : Value} {xs : List ByteArray} (h : w.ownsRow b e 1 v xs.length (xs.map Value.string)) : Strs w v xs := by
  rcases h.2 with ⟨rfl, h0⟩ | ⟨g, cap, cur, rfl, h2, h3, h4, h5, h6, h7⟩
  · exact .inl ⟨rfl, List.length_eq_zero_iff.1 h0⟩
  · refine .inr ⟨g, cap, rfl, (Array.getElem?_eq_some_iff.1 h3).1, fun j hj => ?_⟩
    have hc : w.cell? ⟨g, 0 + j, none⟩ = cur[0 + j]? := by simp [World.cell?, h3]
    rw [hc, Nat.zero_add]
    have h8 : (cur.toList.take (xs.length * 1))[j]? = (xs.map Value.string)[j]? := by rw [h7]
    rw [List.getElem?_take, if_pos (by omega)] at h8
    rw [← Array.getElem?_toList, h8, List.getElem?_map, List.getD_eq_getElem?_getD, List.getElem?_eq_getElem hj]
    rfl

theorem Strs.below {w w' : World} {v : Value} {xs : List ByteArray} (h : Strs w v xs) (hb : Below w.heap.size w w') : Strs w' v xs := by
  rcases h with h | ⟨g, cap, h1, h2, h3⟩
  · exact .inl h
  · exact .inr ⟨g, cap, h1, Nat.lt_of_lt_of_le h2 hb.size, fun j hj => (hb.cell (p := ⟨g, 0 + j, none⟩) h2).trans (h3 j hj)⟩

theorem Strs.lit2 (w : World) (a b : ByteArray) : Strs (w.alloc (.cells #[.string a, .string b] 9)) (.slice (some ⟨w.heap.size, 0, none⟩) 2 2) [a, b] := by
  refine .inr ⟨w.heap.size, 2, rfl, by simp, fun j hj => ?_⟩
  rcases j with _ | _ | j
  · simp
  · simp
  · simp at hj; omega

theorem Strs.lit (w : World) (xs : List ByteArray) : Strs (w.alloc (.cells (xs.map Value.string).toArray 9)) (.slice (some ⟨w.heap.size, 0, none⟩) xs.length xs.length) xs := by
  refine .inr ⟨w.heap.size, xs.length, rfl, by simp, fun j hj => ?_⟩
  rw [Nat.zero_add, World.cell?_alloc_new, List.getElem?_toArray, List.getElem?_map, List.getD_eq_getElem?_getD, List.getElem?_eq_getElem hj]
  rfl

end Go.Proofs.YtfmoophjdgejeaaGreatDoor
/-
  The tokens of a text, keywords told from names (plain).
-/
namespace Go.Proofs.YtfmoophjdgejeaaGreatDoor
open Go.RowKit Go.Shelf Go.Lib

/-- A token, keywords told from names. -/
def kwT (s : ByteArray) (t : Tok) : Tok := if t.kind = 1 ∧ (wordOf s t).data.toList ∈ kwords then { t with kind := 2 } else t
/-- The tokens of a text. -/
def toksK (s : ByteArray) : List Tok := (toks s.data.toList).map (kwT s)

theorem kwT_other (s : ByteArray) (t : Tok) (h : t.kind ≠ 1) : kwT s t = t := by unfold kwT; exact if_neg (fun hh => h hh.1)
theorem kwT_no (s : ByteArray) (t : Tok) (h : (wordOf s t).data.toList ∉ kwords) : kwT s t = t := by unfold kwT; exact if_neg (fun hh => h hh.2)
theorem kwT_yes (s : ByteArray) (t : Tok) (h1 : t.kind = 1) (h : (wordOf s t).data.toList ∈ kwords) : kwT s t = ⟨2, t.from_, t.at_, t.end_⟩ := by unfold kwT; exact if_pos ⟨h1, h⟩

theorem map_go (s : ByteArray) (p : List Tok) (x : Tok) : (p ++ [x]).map (kwT s) = p.map (kwT s) ++ [kwT s x] := by rw [List.map_append]; rfl
theorem map_prefix (s : ByteArray) {p q : List Tok} (h : p <+: q) : p.map (kwT s) <+: q.map (kwT s) := by obtain ⟨r, rfl⟩ := h; rw [List.map_append]; exact ⟨_, rfl⟩

end Go.Proofs.YtfmoophjdgejeaaGreatDoor
/-
  Plain facts: a token depends on few bytes behind it; what a text reads as. No program stands here.
-/

namespace Go.Proofs.YtfmoophjdgejeaaGreatDoor

/-- No position of the first list is one at which a wrong token ends. -/
def innerB : List UInt8 → List UInt8 → Bool
  | [], _ => true
  | x :: b, r => !endsB (x :: (b ++ r)) && innerB b r

theorem while_iff (p : UInt8 → Bool) (r : List UInt8) : ∀ u : List UInt8, ((u ++ r).takeWhile p).length = u.length ↔ (∀ x ∈ u, p x = true) ∧ r.takeWhile p = []
  | [] => by simp
  | c :: u => by
    have ih := while_iff p r u
    by_cases hc : p c = true
    · rw [List.cons_append, List.takeWhile_cons_of_pos hc, List.length_cons, List.length_cons, Nat.add_right_cancel_iff, ih]
      simp [hc]
    · rw [List.cons_append, List.takeWhile_cons_of_neg hc]
      constructor
      · intro h; simp at h
      · intro h; exact absurd (h.1 c List.mem_cons_self) hc

theorem wrong_iff (r : List UInt8) : ∀ u : List UInt8, wrongF (u ++ r) = u.length ↔ innerB u r = true ∧ endsB r = true
  | [] => by
    cases r with
    | nil => simp [wrongF, innerB, endsB]
    | cons c t =>
      rw [List.nil_append, wrongF, innerB, List.length_nil]
      by_cases h : endsB (c :: t) = true
      · rw [if_pos h]; simp [h]
      · rw [if_neg h]; simp [h]
  | c :: u => by
    have ih := wrong_iff r u
    rw [List.cons_append, wrongF, innerB]
    by_cases h : endsB (c :: (u ++ r)) = true
    · rw [if_pos h]; simp [h]
    · rw [if_neg h, List.length_cons, Nat.add_right_cancel_iff, ih]
      simp [h]

theorem tok_iff (k : Nat) (c : UInt8) (u r : List UInt8) : tokF (c :: (u ++ r)) = (k, u.length + 1) ↔
    if letterB c = true then k = 1 ∧ (∀ x ∈ u, partB x = true) ∧ r.takeWhile partB = []
    else if digitB c = true then k = 3 ∧ (∀ x ∈ u, digitB x = true) ∧ r.takeWhile digitB = []
    else if 0 < symL (c :: (u ++ r)) then k = 4 ∧ symL (c :: (u ++ r)) = u.length + 1
    else k = 5 ∧ innerB u r = true ∧ endsB r = true := by
  rw [tokF]
  by_cases h1 : letterB c = true
  · rw [if_pos h1, if_pos h1, ← while_iff, Prod.mk.injEq, Nat.add_right_cancel_iff]
    exact ⟨fun h => ⟨h.1.symm, h.2⟩, fun h => ⟨h.1.symm, h.2⟩⟩
  · rw [if_neg h1, if_neg h1]
    by_cases h2 : digitB c = true
    · rw [if_pos h2, if_pos h2, ← while_iff, Prod.mk.injEq, Nat.add_right_cancel_iff]
      exact ⟨fun h => ⟨h.1.symm, h.2⟩, fun h => ⟨h.1.symm, h.2⟩⟩
    · rw [if_neg h2, if_neg h2]
      by_cases h3 : 0 < symL (c :: (u ++ r))
      · rw [if_pos h3, if_pos h3, Prod.mk.injEq]
        exact ⟨fun h => ⟨h.1.symm, h.2⟩, fun h => ⟨h.1.symm, h.2⟩⟩
      · rw [if_neg h3, if_neg h3, ← wrong_iff, Prod.mk.injEq, Nat.add_right_cancel_iff]
        exact ⟨fun h => ⟨h.1.symm, h.2⟩, fun h => ⟨h.1.symm, h.2⟩⟩

theorem sym2 (a b : UInt8) (t t' : List UInt8) : symL (a :: b :: t) = symL (a :: b :: t') := by rw [symL, symL]
theorem sym_cut (a : UInt8) (t : List UInt8) (h : symL (a :: t) = 1) : symL [a] = 1 := by
  cases t with
  | nil => exact h
  | cons b t =>
    rw [symL] at h
    split at h
    · cases h
    · rw [symL]; exact h
theorem sym_zero (a : UInt8) (t : List UInt8) (h : symL (a :: t) = 0) : symL [a] = 0 := by
  cases t with
  | nil => exact h
  | cons b t =>
    rw [symL] at h
    split at h
    · cases h
    · rw [symL]; exact h
theorem sym_two (a : UInt8) (t : List UInt8) : symL (a :: t) ≤ 2 := by
  cases t with
  | nil => rw [symL]; split <;> omega
  | cons b t => rw [symL]; split <;> (try split) <;> omega

theorem ends2 (x y : UInt8) (t t' : List UInt8) : endsB (x :: y :: t) = endsB (x :: y :: t') := by
  unfold endsB; simp only [sym2 x y t t']
theorem ends_mono (x : UInt8) (t : List UInt8) (h : endsB [x] = true) : endsB (x :: t) = true := by
  unfold endsB at h ⊢
  simp only [Bool.or_eq_true, decide_eq_true_eq] at h ⊢
  rcases h with h | h
  · exact .inl h
  · refine .inr ?_
    have := sym_zero x t
    omega

theorem inner_head (y : UInt8) (t t' : List UInt8) : ∀ u : List UInt8, innerB u (y :: t) = innerB u (y :: t')
  | [] => rfl
  | [x] => by simp only [innerB, List.nil_append, ends2 x y t t']
  | x :: z :: u => by
    have ih := inner_head y t t' (z :: u)
    rw [innerB, innerB.eq_def (x :: z :: u)]
    simp only [ih, List.cons_append, ends2 x z (u ++ y :: t) (u ++ y :: t')]
theorem inner_cut (r : List UInt8) : ∀ u : List UInt8, innerB u r = true → innerB u [] = true
  | [], _ => rfl
  | x :: u, h => by
    rw [innerB, Bool.and_eq_true] at h ⊢
    refine ⟨?_, inner_cut r u h.2⟩
    have h1 := h.1
    simp only [List.append_nil, Bool.not_eq_true'] at h1 ⊢
    cases u with
    | nil =>
      cases he : endsB [x] with
      | false => rfl
      | true => rw [ends_mono x _ he] at h1; cases h1
    | cons z u => rw [← h1]; exact ends2 x z _ _

/-- A byte that is white space or begins a comment. -/
def gapB (c : UInt8) : Bool := whiteB c || c == 35
theorem gap_facts (c : UInt8) (h : gapB c = true) : partB c = false ∧ digitB c = false ∧ letterB c = false ∧ c ≠ 61 ∧ c ≠ 46 ∧ ∀ t, endsB (c :: t) = true := by
  have e : c = 9 ∨ c = 10 ∨ c = 13 ∨ c = 32 ∨ c = 35 := by
    unfold gapB whiteB at h
    simp only [Bool.or_eq_true, beq_iff_eq] at h
    rcases h with (((h | h) | h) | h) | h
    · exact .inl h
    · exact .inr (.inl h)
    · exact .inr (.inr (.inl h))
    · exact .inr (.inr (.inr (.inl h)))
    · exact .inr (.inr (.inr (.inr h)))
  have e2 : ∀ t, endsB (c :: t) = true := fun t => by
    unfold endsB
    unfold gapB at h
    simp only [Bool.or_eq_true] at h ⊢
    exact .inl (.inl (.inl h))
  refine ⟨?_, ?_, ?_, ?_, ?_, e2⟩ <;> rcases e with rfl | rfl | rfl | rfl | rfl <;> decide

theorem sym_gap (a c : UInt8) (t : List UInt8) (h1 : c ≠ 61) (h2 : c ≠ 46) : symL (a :: c :: t) = symL [a] := by
  have : twoB a c = false := by
    unfold twoB
    rw [show (c == 61) = false by simpa using h1, show (c == 46) = false by simpa using h2]
    simp
  rw [symL, symL, if_neg (by rw [this]; simp)]
theorem inner_gap (c : UInt8) (t : List UInt8) (h1 : c ≠ 61) (h2 : c ≠ 46) : ∀ u : List UInt8, innerB u (c :: t) = innerB u []
  | [] => rfl
  | [x] => by
    simp only [innerB, List.nil_append]
    unfold endsB
    simp only [sym_gap x c t h1 h2]
  | x :: z :: u => by
    have ih := inner_gap c t h1 h2 (z :: u)
    rw [innerB, innerB.eq_def (x :: z :: u)]
    simp only [ih, List.cons_append, ends2 x z (u ++ c :: t) (u ++ [])]

/-- The word of a token is a token of its own. -/
theorem tok_cut {k : Nat} {w r : List UInt8} (h0 : w ≠ []) (h : tokF (w ++ r) = (k, w.length)) : tokF w = (k, w.length) := by
  cases w with
  | nil => exact absurd rfl h0
  | cons c u =>
    rw [List.cons_append, List.length_cons, tok_iff] at h
    have e : tokF (c :: u) = tokF (c :: (u ++ [])) := by rw [List.append_nil]
    rw [e, List.length_cons, tok_iff]
    by_cases h1 : letterB c = true
    · rw [if_pos h1] at h ⊢; exact ⟨h.1, h.2.1, rfl⟩
    · rw [if_neg h1] at h ⊢
      by_cases h2 : digitB c = true
      · rw [if_pos h2] at h ⊢; exact ⟨h.1, h.2.1, rfl⟩
      · rw [if_neg h2] at h ⊢
        by_cases h3 : 0 < symL (c :: (u ++ r))
        · rw [if_pos h3] at h
          obtain ⟨rfl, h5⟩ := h
          have h6 : symL (c :: (u ++ [])) = u.length + 1 := by
            cases u with
            | nil => exact sym_cut c r h5
            | cons d u =>
              have := sym_two c (d :: u ++ r)
              rw [h5, List.length_cons] at this
              have hu : u = [] := List.length_eq_zero_iff.1 (by omega)
              subst hu
              rw [← h5]; exact sym2 c d _ _
          rw [if_pos (by rw [h6]; exact Nat.succ_pos _)]
          exact ⟨rfl, h6⟩
        · rw [if_neg h3] at h
          have h6 : symL (c :: (u ++ [])) = 0 := by
            cases u with
            | nil => exact sym_zero c r (Nat.eq_zero_of_not_pos h3)
            | cons d u => rw [show symL (c :: (d :: u ++ [])) = symL (c :: (d :: u ++ r)) from sym2 c d _ _]; omega
          rw [if_neg (by rw [h6]; exact Nat.lt_irrefl 0)]
          exact ⟨h.1, inner_cut r u h.2.1, rfl⟩

/-- Behind a token stands a gap instead. -/
theorem tok_gap {k : Nat} {w : List UInt8} {c : UInt8} (t : List UInt8) (h0 : w ≠ []) (h : tokF w = (k, w.length)) (hc : gapB c = true) : tokF (w ++ c :: t) = (k, w.length) := by
  obtain ⟨g1, g2, g3, g4, g5, g6⟩ := gap_facts c hc
  cases w with
  | nil => exact absurd rfl h0
  | cons a u =>
    have e : tokF (a :: u) = tokF (a :: (u ++ [])) := by rw [List.append_nil]
    rw [e, List.length_cons, tok_iff] at h
    rw [List.cons_append, List.length_cons, tok_iff]
    by_cases h1 : letterB a = true
    · rw [if_pos h1] at h ⊢; exact ⟨h.1, h.2.1, List.takeWhile_cons_of_neg (by rw [g1]; simp)⟩
    · rw [if_neg h1] at h ⊢
      by_cases h2 : digitB a = true
      · rw [if_pos h2] at h ⊢; exact ⟨h.1, h.2.1, List.takeWhile_cons_of_neg (by rw [g2]; simp)⟩
      · rw [if_neg h2] at h ⊢
        have hs : symL (a :: (u ++ c :: t)) = symL (a :: (u ++ [])) := by
          cases u with
          | nil => exact sym_gap a c t g4 g5
          | cons d u => exact sym2 a d _ _
        rw [hs]
        by_cases h3 : 0 < symL (a :: (u ++ []))
        · rw [if_pos h3] at h ⊢; exact h
        · rw [if_neg h3] at h ⊢
          exact ⟨h.1, by rw [inner_gap c t g4 g5]; exact h.2.1, g6 t⟩

/-- Of what stands behind a token its first byte counts alone, but for where a wrong token ends. -/
theorem tok_head {k : Nat} {w t t' : List UInt8} {a : UInt8} (h0 : w ≠ []) (h : tokF (w ++ a :: t) = (k, w.length)) (he : k = 5 → endsB (a :: t) = true → endsB (a :: t') = true) : tokF (w ++ a :: t') = (k, w.length) := by
  cases w with
  | nil => exact absurd rfl h0
  | cons c u =>
    rw [List.cons_append, List.length_cons, tok_iff] at h ⊢
    have hp : ∀ p : UInt8 → Bool, (a :: t).takeWhile p = [] → (a :: t').takeWhile p = [] := fun p hp => by
      by_cases ha : p a = true
      · rw [List.takeWhile_cons_of_pos ha] at hp; cases hp
      · exact List.takeWhile_cons_of_neg ha
    by_cases h1 : letterB c = true
    · rw [if_pos h1] at h ⊢; exact ⟨h.1, h.2.1, hp _ h.2.2⟩
    · rw [if_neg h1] at h ⊢
      by_cases h2 : digitB c = true
      · rw [if_pos h2] at h ⊢; exact ⟨h.1, h.2.1, hp _ h.2.2⟩
      · rw [if_neg h2] at h ⊢
        have hs : symL (c :: (u ++ a :: t')) = symL (c :: (u ++ a :: t)) := by
          cases u with
          | nil => exact sym2 c a _ _
          | cons d u => exact sym2 c d _ _
        rw [hs]
        by_cases h3 : 0 < symL (c :: (u ++ a :: t))
        · rw [if_pos h3] at h ⊢; exact h
        · rw [if_neg h3] at h ⊢
          exact ⟨h.1, by rw [inner_head a t' t]; exact h.2.1, he h.1 h.2.2⟩

theorem tok_more {k : Nat} {w v : List UInt8} (r : List UInt8) (h0 : w ≠ []) (hv : v ≠ []) (h : tokF (w ++ v) = (k, w.length)) : tokF (w ++ (v ++ r)) = (k, w.length) := by
  cases v with
  | nil => exact absurd rfl hv
  | cons a v =>
    refine tok_head (t' := v ++ r) h0 h fun _ he => ?_
    cases v with
    | nil => exact ends_mono a r he
    | cons b v => rw [← he]; exact ends2 a b _ _

theorem tok_less {k j : Nat} {w v r : List UInt8} (h0 : w ≠ []) (hv : v ≠ []) (h : tokF (w ++ (v ++ r)) = (k, w.length)) (hr : tokF (v ++ r) = (j, v.length)) : tokF (w ++ v) = (k, w.length) := by
  cases v with
  | nil => exact absurd rfl hv
  | cons a v =>
    refine tok_head (t := v ++ r) h0 h fun _ he => ?_
    cases v with
    | cons b v => rw [← he]; exact ends2 a b _ _
    | nil =>
      have hr' : tokF (a :: ([] ++ r)) = (j, ([] : List UInt8).length + 1) := hr
      rw [tok_iff] at hr'
      unfold endsB at he ⊢
      simp only [Bool.or_eq_true, decide_eq_true_eq] at he ⊢
      rcases he with he | he
      · exact .inl he
      · by_cases h1 : letterB a = true
        · exact .inl (.inl (.inr h1))
        · rw [if_neg h1] at hr'
          by_cases h2 : digitB a = true
          · exact .inl (.inr h2)
          · rw [if_neg h2] at hr'
            have he' : 0 < symL (a :: ([] ++ r)) := he
            rw [if_pos he'] at hr'
            refine .inr ?_
            rw [sym_cut a r hr'.2]; exact Nat.one_pos

/-- What a text reads as: the kinds (a keyword counts as a name) and the words. -/
inductive Reads : List UInt8 → List (Nat × List UInt8) → Prop
  | done (l : List UInt8) (h : skipF false l = l.length) : Reads l []
  | tok (l p w r : List UInt8) (k : Nat) (ks : List (Nat × List UInt8)) (hl : l = p ++ (w ++ r)) (hs : skipF false l = p.length) (hw : w ≠ []) (ht : tokF (w ++ r) = (k, w.length)) (h : Reads r ks) : Reads l ((k, w) :: ks)

theorem Reads.one {l : List UInt8} {ks : List (Nat × List UInt8)} (h : Reads l ks) : ∀ {js}, Reads l js → ks = js := by
  induction h with
  | done l h =>
    intro js hj
    cases hj with
    | done => rfl
    | tok _ p w r k ks hl hs hw ht h' =>
      exfalso
      rw [hl] at h hs
      rw [h] at hs
      simp only [List.length_append] at hs
      exact hw (List.length_eq_zero_iff.1 (by omega))
  | tok l p w r k ks hl hs hw ht h' ih =>
    intro js hj
    cases hj with
    | done _ h =>
      exfalso
      rw [h, hl] at hs
      simp only [List.length_append] at hs
      exact hw (List.length_eq_zero_iff.1 (by omega))
    | tok _ p' w' r' k' ks' hl' hs' hw' ht' h'' =>
      obtain ⟨rfl, e⟩ := List.append_inj (hl.symm.trans hl') (by omega)
      rw [← e, ht] at ht'
      obtain ⟨rfl, e2⟩ := Prod.mk.inj ht'
      obtain ⟨rfl, rfl⟩ := List.append_inj e e2
      rw [ih h'']

theorem skip_cons (c : UInt8) (r : List UInt8) : skipF false (c :: r) = 0 ↔ gapB c = false := by
  unfold gapB
  rw [skipF]
  by_cases h1 : whiteB c = true
  · rw [if_pos h1]; simp [h1]
  · rw [if_neg h1]
    by_cases h2 : c = 35
    · rw [if_pos h2]; simp [h2]
    · rw [if_neg h2]; simp [h1, h2]

theorem skip_after : ∀ (cm : Bool) (p x : List UInt8), skipF cm (p ++ x) = p.length → skipF false x = 0 ∨ x = [] 
  | false, [], x, h => .inl h
  | true, [], x, h => by
    cases x with
    | nil => exact .inr rfl
    | cons c x =>
      rw [List.nil_append, skipF] at h
      split at h <;> simp at h
  | true, c :: p, x, h => by
    rw [List.cons_append, skipF] at h
    split at h
    · exact skip_after false p x (by simpa using h)
    · exact skip_after true p x (by simpa using h)
  | false, c :: p, x, h => by
    rw [List.cons_append, skipF] at h
    split at h
    · exact skip_after false p x (by simpa using h)
    · split at h
      · exact skip_after true p x (by simpa using h)
      · simp at h

/-- A word: one token, without a gap ahead. -/
structure IsWord (k : Nat) (w : List UInt8) : Prop where
  ne : w ≠ []
  skip : skipF false w = 0
  tok : tokF w = (k, w.length)

theorem skip_app {w : List UInt8} (h0 : w ≠ []) (x : List UInt8) : skipF false (w ++ x) = 0 ↔ skipF false w = 0 := by
  cases w with
  | nil => exact absurd rfl h0
  | cons c u => rw [List.cons_append, skip_cons, skip_cons]

theorem Reads.words {l : List UInt8} {ks : List (Nat × List UInt8)} (h : Reads l ks) : ∀ x ∈ ks, IsWord x.1 x.2 := by
  induction h with
  | done => intro x hx; cases hx
  | tok l p w r k ks hl hs hw ht h' ih =>
    intro x hx
    rcases List.mem_cons.1 hx with rfl | hx
    · refine ⟨hw, ?_, tok_cut hw ht⟩
      rw [hl] at hs
      rcases skip_after false p (w ++ r) hs with h | h
      · exact (skip_app hw r).1 h
      · exact absurd (List.append_eq_nil_iff.1 h).1 hw
    · exact ih x hx

/-- A text that begins with a word. -/
theorem IsWord.reads {k j : Nat} {w r : List UInt8} {ks : List (Nat × List UInt8)} (h : IsWord k w) (ht : tokF (w ++ r) = (j, w.length)) (hr : Reads r ks) : Reads (w ++ r) ((j, w) :: ks) :=
  .tok (w ++ r) [] w r j ks rfl ((skip_app h.ne r).2 h.skip) h.ne ht hr

theorem Reads.nil : Reads [] [] := .done [] rfl
theorem IsWord.alone {k : Nat} {w : List UInt8} (h : IsWord k w) : Reads w [(k, w)] := by
  have := h.reads (r := []) (j := k) (by rw [List.append_nil]; exact h.tok) Reads.nil
  rwa [List.append_nil] at this

/-- A gap ahead. -/
theorem Reads.skip {x : List UInt8} {ks : List (Nat × List UInt8)} (h : Reads x ks) (p : List UInt8) (hp : skipF false (p ++ x) = p.length + skipF false x) : Reads (p ++ x) ks := by
  cases h with
  | done _ h => exact .done _ (by rw [hp, h, List.length_append])
  | tok _ q w r k ks hl hs hw ht h' => exact .tok _ (p ++ q) w r k ks (by rw [hl, List.append_assoc]) (by rw [hp, hs, List.length_append]) hw ht h'

end Go.Proofs.YtfmoophjdgejeaaGreatDoor
/-
  Plain facts: the tokens of a text are what it reads as; compact texts.
-/
namespace Go.Proofs.YtfmoophjdgejeaaGreatDoor
open Go.RowKit Go.Shelf Go.Lib

theorem toksF_reads : ∀ (f : Nat) (l : List UInt8) (k : Nat), k ≤ l.length → l.length < k + f →
    Reads (l.drop k) (((toksF f l k).filter fun t => t.kind != 0).map fun t => (t.kind, (l.drop t.at_).take (t.end_ - t.at_)))
  | 0, l, k, h1, h2 => by omega
  | f + 1, l, k, h1, h2 => by
    obtain ⟨f1, f2, f3, f4, f5, f6⟩ := nextT_facts l k h1
    have e : (nextT l k).at_ = k + skipF false (l.drop k) := rfl
    have e2 : (nextT l k).end_ = (nextT l k).at_ + (tokF (l.drop (nextT l k).at_)).2 := rfl
    have e3 : (nextT l k).kind = (tokF (l.drop (nextT l k).at_)).1 := rfl
    rw [toksF]
    by_cases h0 : (nextT l k).kind = 0
    · rw [if_pos h0, List.filter_cons_of_neg (by simp [h0]), List.filter_nil, List.map_nil]
      refine .done _ ?_
      have := f5 h0
      rw [List.length_drop]; omega
    · rw [if_neg h0, List.filter_cons_of_pos (by simp [h0]), List.map_cons]
      have ha := f6 h0
      have hr := toksF_reads f l (nextT l k).end_ f4 (by omega)
      generalize (nextT l k).at_ = a at *
      generalize (nextT l k).end_ = b at *
      generalize (nextT l k).kind = kd at *
      have hd : l.drop a = (l.drop a).take (b - a) ++ l.drop b := by
        have h := (List.take_append_drop (b - a) (l.drop a)).symm
        rw [List.drop_drop, show a + (b - a) = b by omega] at h
        exact h
      have hp : l.drop k = (l.drop k).take (a - k) ++ l.drop a := by
        have h := (List.take_append_drop (a - k) (l.drop k)).symm
        rw [List.drop_drop, show k + (a - k) = a by omega] at h
        exact h
      have hl : ((l.drop a).take (b - a)).length = b - a := by rw [List.length_take, List.length_drop]; omega
      refine .tok _ ((l.drop k).take (a - k)) _ (l.drop b) _ _ (by rw [← hd]; exact hp) ?_ ?_ ?_ hr
      · rw [List.length_take, List.length_drop]; omega
      · intro h; rw [h] at hl; simp at hl; omega
      · rw [← hd, hl, e3, show b - a = (tokF (l.drop a)).2 by omega]

/-- The kinds and the words of a text. -/
def ksOf (s : ByteArray) : List (Nat × List UInt8) := ((toks s.data.toList).filter fun t => t.kind != 0).map fun t => (t.kind, (wordOf s t).data.toList)

theorem reads_ks (s : ByteArray) : Reads s.data.toList (ksOf s) := by
  have h := toksF_reads (s.data.toList.length + 1) s.data.toList 0 (Nat.zero_le _) (by omega)
  have e : ksOf s = ((toksF (s.data.toList.length + 1) s.data.toList 0).filter fun t => t.kind != 0).map fun t => (t.kind, (s.data.toList.drop t.at_).take (t.end_ - t.at_)) := by
    unfold ksOf wordOf
    simp only [Lib.extract_data]
    rfl
  rw [e]; exact h

/-- A word's bytes. -/
def ba (x : Nat × List UInt8) : ByteArray := ⟨x.2.toArray⟩
theorem ba_list (x : Nat × List UInt8) : (ba x).data.toList = x.2 := by unfold ba; simp
theorem ba_eq (s : ByteArray) (k : Nat) : ba (k, s.data.toList) = s := by unfold ba; simp
theorem ba_inj {x y : Nat × List UInt8} (h : ba x = ba y) : x.2 = y.2 := by rw [← ba_list x, ← ba_list y, h]
theorem ba_app (x y : Nat × List UInt8) : (ba x ++ ba y).data.toList = x.2 ++ y.2 := by rw [ByteArray.data_append, Array.toList_append, ba_list, ba_list]

theorem words_ks (s : ByteArray) : wordsB s = (ksOf s).map ba := by
  unfold wordsB wordsT ksOf
  rw [List.map_map]
  refine List.map_congr_left fun t _ => ?_
  exact (ba_eq _ _).symm
theorem ks_of {s : ByteArray} {ks : List (Nat × List UInt8)} (h : Reads s.data.toList ks) : ksOf s = ks := (reads_ks s).one h
theorem words_of {s : ByteArray} {ks : List (Nat × List UInt8)} (h : Reads s.data.toList ks) : wordsB s = ks.map ba := by rw [words_ks, ks_of h]

theorem Reads.head {k : Nat} {w r : List UInt8} {js : List (Nat × List UInt8)} (h0 : w ≠ []) (hs : skipF false w = 0) (h : Reads (w ++ r) ((k, w) :: js)) : tokF (w ++ r) = (k, w.length) ∧ Reads r js := by
  cases h with
  | tok _ p _ r' _ _ hl hp hw ht h' =>
    rw [(skip_app h0 r).2 hs] at hp
    have hp0 : p = [] := List.length_eq_zero_iff.1 hp.symm
    subst hp0
    rw [List.nil_append] at hl
    have := List.append_cancel_left hl
    subst this
    exact ⟨ht, h'⟩

end Go.Proofs.YtfmoophjdgejeaaGreatDoor
/-
  Plain facts: the kinds of a text's words; a longer word is no token; what stands ahead of a token; other gaps between words.
-/
namespace Go.Proofs.YtfmoophjdgejeaaGreatDoor
open Go.RowKit Go.Shelf Go.Lib

theorem toksF_next : ∀ (f : Nat) (l : List UInt8) (k : Nat), k ≤ l.length → ∀ t ∈ toksF f l k, ∃ j, j ≤ l.length ∧ t = nextT l j
  | 0, _, _, _, t, h => by rw [toksF] at h; cases h
  | f + 1, l, k, hk, t, h => by
    obtain ⟨f1, f2, f3, f4, _, _⟩ := nextT_facts l k hk
    rw [toksF] at h
    rcases List.mem_cons.1 h with rfl | h
    · exact ⟨k, hk, rfl⟩
    · by_cases h0 : (nextT l k).kind = 0
      · rw [if_pos h0] at h; cases h
      · rw [if_neg h0] at h; exact toksF_next f l _ f4 t h

/-- A token's word, and what stands behind it. -/
theorem tok_parts (l : List UInt8) (t : Tok) (ht : t ∈ toks l) (h0 : t.kind ≠ 0) : t.at_ < t.end_ ∧ t.end_ ≤ l.length ∧ IsWord t.kind ((l.drop t.at_).take (t.end_ - t.at_)) ∧
    tokF ((l.drop t.at_).take (t.end_ - t.at_) ++ l.drop t.end_) = (t.kind, ((l.drop t.at_).take (t.end_ - t.at_)).length) := by
  obtain ⟨j, hj, rfl⟩ := toksF_next _ _ _ (Nat.zero_le _) t ht
  obtain ⟨f1, f2, f3, f4, f5, f6⟩ := nextT_facts l j hj
  have e : (nextT l j).at_ = j + skipF false (l.drop j) := rfl
  have e2 : (nextT l j).end_ = (nextT l j).at_ + (tokF (l.drop (nextT l j).at_)).2 := rfl
  have e3 : (nextT l j).kind = (tokF (l.drop (nextT l j).at_)).1 := rfl
  have ha := f6 h0
  generalize (nextT l j).at_ = a at *
  generalize (nextT l j).end_ = b at *
  generalize (nextT l j).kind = kd at *
  have hd : l.drop a = (l.drop a).take (b - a) ++ l.drop b := by
    have h := (List.take_append_drop (b - a) (l.drop a)).symm
    rw [List.drop_drop, show a + (b - a) = b by omega] at h
    exact h
  have hp : l.drop j = (l.drop j).take (a - j) ++ l.drop a := by
    have h := (List.take_append_drop (a - j) (l.drop j)).symm
    rw [List.drop_drop, show j + (a - j) = a by omega] at h
    exact h
  have hl : ((l.drop a).take (b - a)).length = b - a := by rw [List.length_take, List.length_drop]; omega
  have hne : (l.drop a).take (b - a) ≠ [] := by intro h; rw [h] at hl; simp at hl; omega
  have htk : tokF ((l.drop a).take (b - a) ++ l.drop b) = (kd, ((l.drop a).take (b - a)).length) := by
    rw [← hd, hl, e3, show b - a = (tokF (l.drop a)).2 by omega]
  refine ⟨ha, f4, ⟨hne, ?_, tok_cut hne htk⟩, htk⟩
  have hs : skipF false ((l.drop j).take (a - j) ++ l.drop a) = ((l.drop j).take (a - j)).length := by
    rw [← hp, List.length_take, List.length_drop]; omega
  rcases skip_after false _ _ hs with h | h
  · rw [hd] at h; exact (skip_app hne _).1 h
  · rw [hd] at h; exact absurd (List.append_eq_nil_iff.1 h).1 hne

theorem kindN_word {k : Nat} {x : ByteArray} (h : IsWord k x.data.toList) : kindN x = k := by
  unfold kindN
  have e : (nextT x.data.toList 0).at_ = 0 := by show 0 + skipF false (x.data.toList.drop 0) = 0; rw [List.drop_zero, h.skip]
  have e2 : (nextT x.data.toList 0).end_ = x.size := by
    show (nextT x.data.toList 0).at_ + (tokF (x.data.toList.drop (nextT x.data.toList 0).at_)).2 = _
    rw [e, List.drop_zero, h.tok, bytes_len]; simp
  have e3 : (nextT x.data.toList 0).kind = k := by
    show (tokF (x.data.toList.drop (nextT x.data.toList 0).at_)).1 = _
    rw [e, List.drop_zero, h.tok]
  rw [if_pos ⟨e, e2⟩, e3]

/-- The kind of a token's word is the token's. -/
theorem kind_tok (s : ByteArray) (t : Tok) (ht : t ∈ toks s.data.toList) (h0 : t.kind ≠ 0) : kindW (wordOf s t) = (kwT s t).kind := by
  have hw : IsWord t.kind (wordOf s t).data.toList := by
    have := (tok_parts _ t ht h0).2.2.1
    unfold wordOf; rw [Lib.extract_data]; exact this
  unfold kindW kwT
  rw [kindN_word hw]
  split <;> rfl

/-- With the next byte a word is no word of one token. -/
theorem kind_longer (s : ByteArray) (t : Tok) (ht : t ∈ toks s.data.toList) (h0 : t.kind ≠ 0) (h5 : t.kind ≠ 5) (he : t.end_ < s.size) : kindW (s.extract t.at_ (t.end_ + 1)) = 0 := by
  obtain ⟨p1, p2, hw, hk⟩ := tok_parts _ t ht h0
  rw [drop_get _ t.end_ (by rw [bytes_len]; exact he)] at hk
  have h2 := tok_head (t' := []) hw.ne hk (fun h => absurd h h5)
  have hx : (s.extract t.at_ (t.end_ + 1)).data.toList = (s.data.toList.drop t.at_).take (t.end_ - t.at_) ++ [s.data.toList.getD t.end_ 0] := by
    rw [Lib.extract_data, show t.end_ + 1 - t.at_ = (t.end_ - t.at_) + 1 by omega, List.take_add_one, List.getElem?_drop, show t.at_ + (t.end_ - t.at_) = t.end_ by omega, List.getD_eq_getElem?_getD, List.getElem?_eq_getElem (by rw [bytes_len]; exact he)]
    rfl
  have hl : ((s.data.toList.drop t.at_).take (t.end_ - t.at_)).length = t.end_ - t.at_ := by rw [List.length_take, List.length_drop]; omega
  have hN : kindN (s.extract t.at_ (t.end_ + 1)) = 0 := by
    unfold kindN
    rw [hx]
    refine if_neg fun h => ?_
    have e : (nextT ((s.data.toList.drop t.at_).take (t.end_ - t.at_) ++ [s.data.toList.getD t.end_ 0]) 0).end_ = (nextT ((s.data.toList.drop t.at_).take (t.end_ - t.at_) ++ [s.data.toList.getD t.end_ 0]) 0).at_ + (tokF (((s.data.toList.drop t.at_).take (t.end_ - t.at_) ++ [s.data.toList.getD t.end_ 0]).drop (nextT ((s.data.toList.drop t.at_).take (t.end_ - t.at_) ++ [s.data.toList.getD t.end_ 0]) 0).at_)).2 := rfl
    rw [h.1, List.drop_zero, h2, h.2, ByteArray.size_extract] at e
    simp only [hl] at e
    omega
  unfold kindW
  rw [hN]; simp

/-- A step of what is skipped. -/
theorem skip_step (cm : Bool) (l : List UInt8) (k n : Nat) (h : skipF cm (l.drop k) = n + 1) : k < l.length ∧
    ((l.getD k 0 = 10 ∧ skipF false (l.drop (k + 1)) = n) ∨ (l.getD k 0 ≠ 10 ∧ cm = true ∧ skipF true (l.drop (k + 1)) = n) ∨
      (l.getD k 0 ≠ 10 ∧ cm = false ∧ l.getD k 0 = 35 ∧ skipF true (l.drop (k + 1)) = n) ∨ (l.getD k 0 ≠ 10 ∧ cm = false ∧ l.getD k 0 ≠ 35 ∧ whiteB (l.getD k 0) = true ∧ skipF false (l.drop (k + 1)) = n)) := by
  have hk : k < l.length := by
    rcases Nat.lt_or_ge k l.length with h' | h'
    · exact h'
    · rw [List.drop_eq_nil_of_le h'] at h; cases cm <;> simp [skipF] at h
  refine ⟨hk, ?_⟩
  rw [drop_get l k hk] at h
  generalize l.getD k 0 = c at *
  generalize l.drop (k + 1) = r at *
  cases cm with
  | true =>
    rw [skipF] at h
    by_cases h10 : c = 10
    · rw [if_pos h10] at h; exact .inl ⟨h10, by omega⟩
    · rw [if_neg h10] at h; exact .inr (.inl ⟨h10, rfl, by omega⟩)
  | false =>
    rw [skipF] at h
    by_cases h10 : c = 10
    · subst h10
      rw [if_pos (by decide)] at h; exact .inl ⟨rfl, by omega⟩
    · by_cases hw : whiteB c = true
      · rw [if_pos hw] at h
        have h35 : c ≠ 35 := by intro e; subst e; exact absurd hw (by decide)
        exact .inr (.inr (.inr ⟨h10, rfl, h35, hw, by omega⟩))
      · rw [if_neg hw] at h
        by_cases h35 : c = 35
        · rw [if_pos h35] at h; exact .inr (.inr (.inl ⟨h10, rfl, h35, by omega⟩))
        · rw [if_neg h35] at h; cases h

/-- The kinds of a text's tokens. -/
def kwK (x : Nat × List UInt8) : Nat := if x.1 = 1 ∧ x.2 ∈ kwords then 2 else x.1

theorem toksF_kinds (s : ByteArray) : ∀ (f : Nat) (k : Nat), k ≤ s.data.toList.length → s.data.toList.length ≤ k + f →
    ((toksF (f + 1) s.data.toList k).map fun t => (kwT s t).kind) = (((toksF (f + 1) s.data.toList k).filter fun t => t.kind != 0).map fun t => kwK (t.kind, (wordOf s t).data.toList)) ++ [0]
  | f, k, hk, hf => by
    obtain ⟨f1, f2, f3, f4, f5, f6⟩ := nextT_facts s.data.toList k hk
    rw [toksF]
    by_cases h0 : (nextT s.data.toList k).kind = 0
    · rw [if_pos h0, List.filter_cons_of_neg (by simp [h0]), List.filter_nil, List.map_nil, List.nil_append, List.map_cons, List.map_nil, kwT_other s _ (by omega), h0]
    · have := f6 h0
      rw [if_neg h0, List.filter_cons_of_pos (by simp [h0]), List.map_cons, List.map_cons, List.cons_append]
      congr 1
      · unfold kwT kwK; split <;> rfl
      · cases f with
        | zero => omega
        | succ f => exact toksF_kinds s f _ f4 (by omega)

theorem kinds_ks (s : ByteArray) : (toksK s).map (·.kind) = (ksOf s).map kwK ++ [0] := by
  unfold toksK ksOf
  rw [List.map_map, List.map_map]
  exact toksF_kinds s _ 0 (Nat.zero_le _) (by omega)

/-- Gaps ahead of words. -/
def gaps : List (List UInt8) := [[32], [10], [9, 13], [32, 35, 32, 97, 100, 100, 32, 49, 10], [35, 10, 10]]
def spaced : List (List UInt8 × (Nat × List UInt8)) → List UInt8
  | [] => []
  | x :: xs => x.1 ++ (x.2.2 ++ spaced xs)

theorem gap_skip (g : List UInt8) (hg : g ∈ gaps) (x : List UInt8) : skipF false (g ++ x) = g.length + skipF false x := by
  simp only [gaps, List.mem_cons, List.not_mem_nil, or_false] at hg
  rcases hg with rfl | rfl | rfl | rfl | rfl <;> simp [skipF, whiteB] <;> omega
theorem gap_head (g : List UInt8) (hg : g ∈ gaps) : ∃ c r, g = c :: r ∧ gapB c = true := by
  simp only [gaps, List.mem_cons, List.not_mem_nil, or_false] at hg
  rcases hg with rfl | rfl | rfl | rfl | rfl <;> exact ⟨_, _, rfl, by decide⟩

theorem spaced_reads (e : List UInt8) (he : e = [] ∨ (∃ c r, e = c :: r ∧ gapB c = true) ∧ Reads e []) : ∀ xs : List (List UInt8 × (Nat × List UInt8)), (∀ x ∈ xs, x.1 ∈ gaps ∧ IsWord x.2.1 x.2.2) → Reads (spaced xs ++ e) (xs.map (·.2))
  | [], _ => by
    rcases he with rfl | ⟨_, he⟩
    · exact Reads.nil
    · exact he
  | x :: xs, h => by
    obtain ⟨hg, hw⟩ := h x List.mem_cons_self
    have ih := spaced_reads e he xs (fun y hy => h y (List.mem_cons_of_mem _ hy))
    have e1 : spaced (x :: xs) ++ e = x.1 ++ (x.2.2 ++ (spaced xs ++ e)) := by rw [spaced]; simp only [List.append_assoc]
    rw [e1, List.map_cons]
    refine Reads.skip ?_ x.1 (gap_skip x.1 hg _)
    have ht : tokF (x.2.2 ++ (spaced xs ++ e)) = (x.2.1, x.2.2.length) := by
      cases xs with
      | nil =>
        rw [spaced, List.nil_append]
        rcases he with rfl | ⟨⟨c, r, rfl, hc⟩, _⟩
        · rw [List.append_nil]; exact hw.tok
        · exact tok_gap r hw.ne hw.tok hc
      | cons y ys =>
        obtain ⟨c, r, hy, hc⟩ := gap_head y.1 (h y (by simp)).1
        rw [spaced, hy]
        exact tok_gap _ hw.ne hw.tok hc
    exact hw.reads ht ih

theorem spaced_snoc (xs : List (List UInt8 × (Nat × List UInt8))) (y : List UInt8 × (Nat × List UInt8)) : spaced (xs ++ [y]) = spaced xs ++ (y.1 ++ y.2.2) := by
  induction xs with
  | nil => simp [spaced]
  | cons x xs ih => rw [List.cons_append, spaced, spaced, ih]; simp only [List.append_assoc]

end Go.Proofs.YtfmoophjdgejeaaGreatDoor
/-
  A slice that reads as tokens; where a token stands.
-/
namespace Go.Proofs.YtfmoophjdgejeaaGreatDoor
open Go.RowKit Go.Shelf Go.Lib

theorem infoTok : (Tryz.prog.info? 115).map (fun i => (i.zero, i.size, i.bytes)) = some (some (.agg #[.int .i64 0, .int .i64 0, .int .i64 0, .int .i64 0]), 4, 32) := by kernel_rfl

def tokC (t : Tok) : List Value := [.int .i64 t.kind, .int .i64 t.from_, .int .i64 t.at_, .int .i64 t.end_]
/-- The cells of tokens. -/
def toksC (ts : List Tok) : List Value := ts.flatMap tokC
theorem toksC_snoc (p : List Tok) (x : Tok) : toksC (p ++ [x]) = toksC p ++ tokC x := by unfold toksC; simp
theorem tokC_new (w : World) (x : Tok) (t : TypeId) : ∀ j u, (tokC x)[j]? = some u → (w.alloc (.cells #[.int .i64 x.kind, .int .i64 x.from_, .int .i64 x.at_, .int .i64 x.end_] t)).cell? ((⟨w.heap.size, 0, none⟩ : Addr).add j) = some u := by
  intro j u hj
  rcases j with _ | _ | _ | _ | j
  · simp [tokC] at hj; subst hj; simp [Addr.add]
  · simp [tokC] at hj; subst hj; simp [Addr.add]
  · simp [tokC] at hj; subst hj; simp [Addr.add]
  · simp [tokC] at hj; subst hj; simp [Addr.add]
  · simp [tokC] at hj
theorem tokC_one (x : Tok) : ∀ u ∈ tokC x, u.oneCell' = true := by
  intro u hu
  simp only [tokC, List.mem_cons, List.not_mem_nil, or_false] at hu
  rcases hu with rfl | rfl | rfl | rfl <;> rfl

theorem toksK_len (s : ByteArray) (hs : s.size ≤ 4096) : (toksK s).length ≤ 10000 := by
  unfold toksK
  rw [List.length_map]
  have h2 := toksF_len (s.data.toList.length + 1) s.data.toList 0
  rw [bytes_len] at h2
  have h3 : (toks s.data.toList).length ≤ s.size + 1 := by unfold toks; rw [bytes_len]; exact h2
  omega

/-- A slice value that owns tokens. -/
def ToksOf (w : World) (ts : List Tok) (v : Value) (w' : World) : Prop := w'.ownsRow w.heap.size 115 4 v ts.length (toksC ts) ∧ Below w.heap.size w w'

/-- A token lies at a place. -/
structure TokAt (w : World) (g o : Nat) (t : Tok) : Prop where
  c0 : w.cell? ⟨g, o, none⟩ = some (.int .i64 t.kind)
  c1 : w.cell? ⟨g, o + 1, none⟩ = some (.int .i64 t.from_)
  c2 : w.cell? ⟨g, o + 2, none⟩ = some (.int .i64 t.at_)
  c3 : w.cell? ⟨g, o + 3, none⟩ = some (.int .i64 t.end_)

theorem TokAt.below {w w' : World} {g o B : Nat} {t : Tok} (h : TokAt w g o t) (hb : Below B w w') (hg : g < B) : TokAt w' g o t :=
  ⟨(hb.cell (p := ⟨g, o, none⟩) hg).trans h.c0, (hb.cell (p := ⟨g, o + 1, none⟩) hg).trans h.c1, (hb.cell (p := ⟨g, o + 2, none⟩) hg).trans h.c2, (hb.cell (p := ⟨g, o + 3, none⟩) hg).trans h.c3⟩

/-- A slice value that holds tokens (at least one). -/
def TokRow (w : World) (v : Value) (ts : List Tok) : Prop :=
  ∃ g cap, v = .slice (some ⟨g, 0, none⟩) ts.length cap ∧ g < w.heap.size ∧ ∀ i t, ts[i]? = some t → TokAt w g (i * 4) t

theorem toksC_get : ∀ (ts : List Tok) (i : Nat) (t : Tok) (j : Nat), ts[i]? = some t → j < 4 → (toksC ts)[i * 4 + j]? = (tokC t)[j]?
  | [], i, t, j, h, _ => by simp at h
  | x :: ts, 0, t, j, h, hj => by
    simp at h; subst h
    show ((tokC x) ++ toksC ts)[0 * 4 + j]? = _
    rw [Nat.zero_mul, Nat.zero_add, List.getElem?_append_left (by simpa [tokC] using hj)]
  | x :: ts, i + 1, t, j, h, hj => by
    have ih := toksC_get ts i t j (by simpa using h) hj
    show ((tokC x) ++ toksC ts)[(i + 1) * 4 + j]? = _
    rw [List.getElem?_append_right (by simp [tokC]; omega), ← ih]
    congr 1
    simp [tokC]; omega

theorem tokRow_of {w : World} {b : Nat} {e : TypeId} {v : Value} {ts : List Tok} (h : w.ownsRow b e 4 v ts.length (toksC ts)) (h0 : ts ≠ []) : TokRow w v ts := by
  have hc := fun g hg => h.cells (g := g) hg
  rcases h.2 with ⟨_, h1⟩ | ⟨g, cap, cur, rfl, h2, h3, _⟩
  · exact absurd (List.length_eq_zero_iff.1 h1) h0
  · refine ⟨g, cap, rfl, (Array.getElem?_eq_some_iff.1 h3).1, fun i t ht => ?_⟩
    have hh := fun j hj u hu => hc g rfl (i * 4 + j) u ((toksC_get ts i t j ht hj).trans hu)
    have e : ∀ n, ((⟨g, 0, none⟩ : Addr).add n) = ⟨g, n, none⟩ := fun n => by simp [Addr.add]; omega
    simp only [e] at hh
    exact ⟨hh 0 (by omega) _ rfl, hh 1 (by omega) _ rfl, hh 2 (by omega) _ rfl, hh 3 (by omega) _ rfl⟩

theorem TokRow.below {w w' : World} {v : Value} {ts : List Tok} (h : TokRow w v ts) (hb : Below w.heap.size w w') : TokRow w' v ts := by
  obtain ⟨g, cap, h1, h2, h3⟩ := h
  exact ⟨g, cap, h1, Nat.lt_of_lt_of_le h2 hb.size, fun i t ht => (h3 i t ht).below hb h2⟩

theorem toksK_ne (s : ByteArray) : toksK s ≠ [] := by
  unfold toksK toks
  rw [toksF]
  simp

theorem toksK_get (s : ByteArray) (i : Nat) (h : i < (toksK s).length) : ∃ t ∈ toks s.data.toList, (toksK s)[i]? = some (kwT s t) := by
  unfold toksK at h ⊢
  rw [List.length_map] at h
  exact ⟨_, List.getElem_mem h, by rw [List.getElem?_map, List.getElem?_eq_getElem h]; rfl⟩

theorem toksK_drop (s : ByteArray) (k : Nat) (h : k < (toksK s).length) : (toks s.data.toList).drop k ≠ [] := by
  unfold toksK at h
  rw [List.length_map] at h
  intro e
  have := congrArg List.length e
  rw [List.length_drop] at this
  simp at this
  omega

/-- Where token number k begins, and what it is. -/
def TokHere (s : ByteArray) (k p : Nat) : Prop := p ≤ s.size ∧ ∃ f, s.size ≤ p + f ∧ (toks s.data.toList).drop k = toksF (f + 1) s.data.toList p

theorem tokHere_first (s : ByteArray) : TokHere s 0 0 := ⟨Nat.zero_le _, s.size, by omega, by unfold toks; rw [List.drop_zero, bytes_len]⟩

theorem tokHere_get {s : ByteArray} {k p : Nat} (h : TokHere s k p) : (toksK s)[k]? = some (kwT s (nextT s.data.toList p)) := by
  obtain ⟨_, f, _, h2⟩ := h
  have : (toks s.data.toList)[k]? = some (nextT s.data.toList p) := by
    have h3 := congrArg (fun l => l[0]?) h2
    rw [toksF] at h3
    simpa [List.getElem?_drop] using h3
  unfold toksK
  rw [List.getElem?_map, this]; rfl

theorem tokHere_last {s : ByteArray} {k p : Nat} (h : TokHere s k p) (h0 : (nextT s.data.toList p).kind = 0) : k + 1 = (toksK s).length ∧ (nextT s.data.toList p).at_ = s.size ∧ (nextT s.data.toList p).end_ = s.size := by
  obtain ⟨h1, f, hf, h2⟩ := h
  obtain ⟨f1, f2, f3, f4, f5, f6⟩ := nextT_facts s.data.toList p (by rw [bytes_len]; exact h1)
  rw [bytes_len] at f4 f5
  refine ⟨?_, f5 h0, by have := f5 h0; omega⟩
  rw [toksF, if_pos h0] at h2
  have := congrArg List.length h2
  unfold toksK
  rw [List.length_map]
  rw [List.length_drop] at this
  simp at this
  omega

theorem tokHere_next {s : ByteArray} {k p : Nat} (h : TokHere s k p) (h0 : (nextT s.data.toList p).kind ≠ 0) : k + 1 < (toksK s).length ∧ (nextT s.data.toList p).at_ < (nextT s.data.toList p).end_ ∧ TokHere s (k + 1) (nextT s.data.toList p).end_ := by
  obtain ⟨h1, f, hf, h2⟩ := h
  obtain ⟨f1, f2, f3, f4, f5, f6⟩ := nextT_facts s.data.toList p (by rw [bytes_len]; exact h1)
  rw [bytes_len] at f4
  have h3 := f6 h0
  rw [toksF, if_neg h0] at h2
  obtain ⟨f', rfl⟩ : ∃ f', f = f' + 1 := ⟨f - 1, by omega⟩
  have hd : (toks s.data.toList).drop (k + 1) = toksF (f' + 1) s.data.toList (nextT s.data.toList p).end_ := by rw [← List.drop_drop, h2]; rfl
  refine ⟨?_, h3, f4, f', by omega, hd⟩
  have := congrArg List.length hd
  rw [toksF, List.length_drop, List.length_cons] at this
  unfold toksK
  rw [List.length_map]
  omega

end Go.Proofs.YtfmoophjdgejeaaGreatDoor
