import Derived.Test.YtdcpfpifecnfmaaGreatDoorPb
import Derived.Test.YtdcpfpifecnfmaaGreatDoorMq
/-
  Plain facts: the kinds of a text's words; a longer word is no token; what stands ahead of a token; other gaps between words.
-/
namespace Go.Proofs.YtdcpfpifecnfmaaGreatDoor
open Go.RowKit Go.Shelf Go.Lib

theorem toksF_next : ∀ (f : Nat) (l : List UInt8) (k : Nat), k ≤ l.length → ∀ t ∈ toksF f l k, ∃ j, j ≤ l.length ∧ t = nextT l j
  | 0, _, _, _, t, h => by rw [toksF] at h; cases h
  | f + 1, l, k, hk, t, h => by
    obtain ⟨f1, f2, f3, f4, _, _⟩ := nextT_facts l k hk
    rw [toksF] at h
    rcases List.mem_cons.1 h with rfl | h
    · exact ⟨k, hk, rfl⟩
    · by_cases h0 : (nextT l k).kind = 0
      · rw [if_pos h0] at h; cases h
      · rw [if_neg h0] at h; exact toksF_next f l _ f4 t h

/-- A token's word, and what stands behind it. -/
theorem tok_parts (l : List UInt8) (t : Tok) (ht : t ∈ toks l) (h0 : t.kind ≠ 0) : t.at_ < t.end_ ∧ t.end_ ≤ l.length ∧ IsWord t.kind ((l.drop t.at_).take (t.end_ - t.at_)) ∧
    tokF ((l.drop t.at_).take (t.end_ - t.at_) ++ l.drop t.end_) = (t.kind, ((l.drop t.at_).take (t.end_ - t.at_)).length) := by
  obtain ⟨j, hj, rfl⟩ := toksF_next _ _ _ (Nat.zero_le _) t ht
  obtain ⟨f1, f2, f3, f4, f5, f6⟩ := nextT_facts l j hj
  have e : (nextT l j).at_ = j + skipF false (l.drop j) := rfl
  have e2 : (nextT l j).end_ = (nextT l j).at_ + (tokF (l.drop (nextT l j).at_)).2 := rfl
  have e3 : (nextT l j).kind = (tokF (l.drop (nextT l j).at_)).1 := rfl
  have ha := f6 h0
  generalize (nextT l j).at_ = a at *
  generalize (nextT l j).end_ = b at *
  generalize (nextT l j).kind = kd at *
  have hd : l.drop a = (l.drop a).take (b - a) ++ l.drop b := by
    have h := (List.take_append_drop (b - a) (l.drop a)).symm
    rw [List.drop_drop, show a + (b - a) = b by omega] at h
    exact h
  have hp : l.drop j = (l.drop j).take (a - j) ++ l.drop a := by
    have h := (List.take_append_drop (a - j) (l.drop j)).symm
    rw [List.drop_drop, show j + (a - j) = a by omega] at h
    exact h
  have hl : ((l.drop a).take (b - a)).length = b - a := by rw [List.length_take, List.length_drop]; omega
  have hne : (l.drop a).take (b - a) ≠ [] := by intro h; rw [h] at hl; simp at hl; omega
  have htk : tokF ((l.drop a).take (b - a) ++ l.drop b) = (kd, ((l.drop a).take (b - a)).length) := by
    rw [← hd, hl, e3, show b - a = (tokF (l.drop a)).2 by omega]
  refine ⟨ha, f4, ⟨hne, ?_, tok_cut hne htk⟩, htk⟩
  have hs : skipF false ((l.drop j).take (a - j) ++ l.drop a) = ((l.drop j).take (a - j)).length := by
    rw [← hp, List.length_take, List.length_drop]; omega
  rcases skip_after false _ _ hs with h | h
  · rw [hd] at h; exact (skip_app hne _).1 h
  · rw [hd] at h; exact absurd (List.append_eq_nil_iff.1 h).1 hne

theorem kindN_word {k : Nat} {x : ByteArray} (h : IsWord k x.data.toList) : kindN x = k := by
  unfold kindN
  have e : (nextT x.data.toList 0).at_ = 0 := by show 0 + skipF false (x.data.toList.drop 0) = 0; rw [List.drop_zero, h.skip]
  have e2 : (nextT x.data.toList 0).end_ = x.size := by
    show (nextT x.data.toList 0).at_ + (tokF (x.data.toList.drop (nextT x.data.toList 0).at_)).2 = _
    rw [e, List.drop_zero, h.tok, bytes_len]; simp
  have e3 : (nextT x.data.toList 0).kind = k := by
    show (tokF (x.data.toList.drop (nextT x.data.toList 0).at_)).1 = _
    rw [e, List.drop_zero, h.tok]
  rw [if_pos ⟨e, e2⟩, e3]

/-- The kind of a token's word is the token's. -/
theorem kind_tok (s : ByteArray) (t : Tok) (ht : t ∈ toks s.data.toList) (h0 : t.kind ≠ 0) : kindW (wordOf s t) = (kwT s t).kind := by
  have hw : IsWord t.kind (wordOf s t).data.toList := by
    have := (tok_parts _ t ht h0).2.2.1
    unfold wordOf; rw [Lib.extract_data]; exact this
  unfold kindW kwT
  rw [kindN_word hw]
  split <;> rfl

/-- With the next byte a word is no word of one token. -/
theorem kind_longer (s : ByteArray) (t : Tok) (ht : t ∈ toks s.data.toList) (h0 : t.kind ≠ 0) (h5 : t.kind ≠ 5) (he : t.end_ < s.size) : kindW (s.extract t.at_ (t.end_ + 1)) = 0 := by
  obtain ⟨p1, p2, hw, hk⟩ := tok_parts _ t ht h0
  rw [drop_get _ t.end_ (by rw [bytes_len]; exact he)] at hk
  have h2 := tok_head (t' := []) hw.ne hk (fun h => absurd h h5)
  have hx : (s.extract t.at_ (t.end_ + 1)).data.toList = (s.data.toList.drop t.at_).take (t.end_ - t.at_) ++ [s.data.toList.getD t.end_ 0] := by
    rw [Lib.extract_data, show t.end_ + 1 - t.at_ = (t.end_ - t.at_) + 1 by omega, List.take_add_one, List.getElem?_drop, show t.at_ + (t.end_ - t.at_) = t.end_ by omega, List.getD_eq_getElem?_getD, List.getElem?_eq_getElem (by rw [bytes_len]; exact he)]
    rfl
  have hl : ((s.data.toList.drop t.at_).take (t.end_ - t.at_)).length = t.end_ - t.at_ := by rw [List.length_take, List.length_drop]; omega
  have hN : kindN (s.extract t.at_ (t.end_ + 1)) = 0 := by
    unfold kindN
    rw [hx]
    refine if_neg fun h => ?_
    have e : (nextT ((s.data.toList.drop t.at_).take (t.end_ - t.at_) ++ [s.data.toList.getD t.end_ 0]) 0).end_ = (nextT ((s.data.toList.drop t.at_).take (t.end_ - t.at_) ++ [s.data.toList.getD t.end_ 0]) 0).at_ + (tokF (((s.data.toList.drop t.at_).take (t.end_ - t.at_) ++ [s.data.toList.getD t.end_ 0]).drop (nextT ((s.data.toList.drop t.at_).take (t.end_ - t.at_) ++ [s.data.toList.getD t.end_ 0]) 0).at_)).2 := rfl
    rw [h.1, List.drop_zero, h2, h.2, ByteArray.size_extract] at e
    simp only [hl] at e
    omega
  unfold kindW
  rw [hN]; simp

/-- A step of what is skipped. -/
theorem skip_step (cm : Bool) (l : List UInt8) (k n : Nat) (h : skipF cm (l.drop k) = n + 1) : k < l.length ∧
    ((l.getD k 0 = 10 ∧ skipF false (l.drop (k + 1)) = n) ∨ (l.getD k 0 ≠ 10 ∧ cm = true ∧ skipF true (l.drop (k + 1)) = n) ∨
      (l.getD k 0 ≠ 10 ∧ cm = false ∧ l.getD k 0 = 35 ∧ skipF true (l.drop (k + 1)) = n) ∨ (l.getD k 0 ≠ 10 ∧ cm = false ∧ l.getD k 0 ≠ 35 ∧ whiteB (l.getD k 0) = true ∧ skipF false (l.drop (k + 1)) = n)) := by
  have hk : k < l.length := by
    rcases Nat.lt_or_ge k l.length with h' | h'
    · exact h'
    · rw [List.drop_eq_nil_of_le h'] at h; cases cm <;> simp [skipF] at h
  refine ⟨hk, ?_⟩
  rw [drop_get l k hk] at h
  generalize l.getD k 0 = c at *
  generalize l.drop (k + 1) = r at *
  cases cm with
  | true =>
    rw [skipF] at h
    by_cases h10 : c = 10
    · rw [if_pos h10] at h; exact .inl ⟨h10, by omega⟩
    · rw [if_neg h10] at h; exact .inr (.inl ⟨h10, rfl, by omega⟩)
  | false =>
    rw [skipF] at h
    by_cases h10 : c = 10
    · subst h10
      rw [if_pos (by decide)] at h; exact .inl ⟨rfl, by omega⟩
    · by_cases hw : whiteB c = true
      · rw [if_pos hw] at h
        have h35 : c ≠ 35 := by intro e; subst e; exact absurd hw (by decide)
        exact .inr (.inr (.inr ⟨h10, rfl, h35, hw, by omega⟩))
      · rw [if_neg hw] at h
        by_cases h35 : c = 35
        · rw [if_pos h35] at h; exact .inr (.inr (.inl ⟨h10, rfl, h35, by omega⟩))
        · rw [if_neg h35] at h; cases h

/-- The kinds of a text's tokens. -/
def kwK (x : Nat × List UInt8) : Nat := if x.1 = 1 ∧ x.2 ∈ kwords then 2 else x.1

theorem toksF_kinds (s : ByteArray) : ∀ (f : Nat) (k : Nat), k ≤ s.data.toList.length → s.data.toList.length ≤ k + f →
    ((toksF (f + 1) s.data.toList k).map fun t => (kwT s t).kind) = (((toksF (f + 1) s.data.toList k).filter fun t => t.kind != 0).map fun t => kwK (t.kind, (wordOf s t).data.toList)) ++ [0]
  | f, k, hk, hf => by
    obtain ⟨f1, f2, f3, f4, f5, f6⟩ := nextT_facts s.data.toList k hk
    rw [toksF]
    by_cases h0 : (nextT s.data.toList k).kind = 0
    · rw [if_pos h0, List.filter_cons_of_neg (by simp [h0]), List.filter_nil, List.map_nil, List.nil_append, List.map_cons, List.map_nil, kwT_other s _ (by omega), h0]
    · have := f6 h0
      rw [if_neg h0, List.filter_cons_of_pos (by simp [h0]), List.map_cons, List.map_cons, List.cons_append]
      congr 1
      · unfold kwT kwK; split <;> rfl
      · cases f with
        | zero => omega
        | succ f => exact toksF_kinds s f _ f4 (by omega)

theorem kinds_ks (s : ByteArray) : (toksK s).map (·.kind) = (ksOf s).map kwK ++ [0] := by
  unfold toksK ksOf
  rw [List.map_map, List.map_map]
  exact toksF_kinds s _ 0 (Nat.zero_le _) (by omega)

/-- Gaps ahead of words. -/
def gaps : List (List UInt8) := [[32], [10], [9, 13], [32, 35, 32, 97, 100, 100, 32, 49, 10], [35, 10, 10]]
def spaced : List (List UInt8 × (Nat × List UInt8)) → List UInt8
  | [] => []
  | x :: xs => x.1 ++ (x.2.2 ++ spaced xs)

theorem gap_skip (g : List UInt8) (hg : g ∈ gaps) (x : List UInt8) : skipF false (g ++ x) = g.length + skipF false x := by
  simp only [gaps, List.mem_cons, List.not_mem_nil, or_false] at hg
  rcases hg with rfl | rfl | rfl | rfl | rfl <;> simp [skipF, whiteB] <;> omega
theorem gap_head (g : List UInt8) (hg : g ∈ gaps) : ∃ c r, g = c :: r ∧ gapB c = true := by
  simp only [gaps, List.mem_cons, List.not_mem_nil, or_false] at hg
  rcases hg with rfl | rfl | rfl | rfl | rfl <;> exact ⟨_, _, rfl, by decide⟩

theorem spaced_reads (e : List UInt8) (he : e = [] ∨ (∃ c r, e = c :: r ∧ gapB c = true) ∧ Reads e []) : ∀ xs : List (List UInt8 × (Nat × List UInt8)), (∀ x ∈ xs, x.1 ∈ gaps ∧ IsWord x.2.1 x.2.2) → Reads (spaced xs ++ e) (xs.map (·.2))
  | [], _ => by
    rcases he with rfl | ⟨_, he⟩
    · exact Reads.nil
    · exact he
  | x :: xs, h => by
    obtain ⟨hg, hw⟩ := h x List.mem_cons_self
    have ih := spaced_reads e he xs (fun y hy => h y (List.mem_cons_of_mem _ hy))
    have e1 : spaced (x :: xs) ++ e = x.1 ++ (x.2.2 ++ (spaced xs ++ e)) := by rw [spaced]; simp only [List.append_assoc]
    rw [e1, List.map_cons]
    refine Reads.skip ?_ x.1 (gap_skip x.1 hg _)
    have ht : tokF (x.2.2 ++ (spaced xs ++ e)) = (x.2.1, x.2.2.length) := by
      cases xs with
      | nil =>
        rw [spaced, List.nil_append]
        rcases he with rfl | ⟨⟨c, r, rfl, hc⟩, _⟩
        · rw [List.append_nil]; exact hw.tok
        · exact tok_gap r hw.ne hw.tok hc
      | cons y ys =>
        obtain ⟨c, r, hy, hc⟩ := gap_head y.1 (h y (by simp)).1
        rw [spaced, hy]
        exact tok_gap _ hw.ne hw.tok hc
    exact hw.reads ht ih

theorem spaced_snoc (xs : List (List UInt8 × (Nat × List UInt8))) (y : List UInt8 × (Nat × List UInt8)) : spaced (xs ++ [y]) = spaced xs ++ (y.1 ++ y.2.2) := by
  induction xs with
  | nil => simp [spaced]
  | cons x xs ih => rw [List.cons_append, spaced, spaced, ih]; simp only [List.append_assoc]

end Go.Proofs.YtdcpfpifecnfmaaGreatDoor
