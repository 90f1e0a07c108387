import Derived.Test.YtdcpfpifecnfmaaGreatDoorLh
/-
  The words of a text, and words' iterator.
-/
namespace Go.Proofs.YtdcpfpifecnfmaaGreatDoor
open Go.RowKit Go.Shelf Go.Lib
attribute [local go_sem] Oper.semAt_some

def wordOf (s : ByteArray) (t : Tok) : ByteArray := s.extract t.at_ t.end_
def wordsT (s : ByteArray) (ts : List Tok) : List ByteArray := (ts.filter fun t => t.kind != 0).map (wordOf s)
/-- The words of a text. -/
def wordsB (s : ByteArray) : List ByteArray := wordsT s (toks s.data.toList)

theorem wordsT_go (s : ByteArray) (p : List Tok) (t : Tok) (h : t.kind ≠ 0) : wordsT s (p ++ [t]) = wordsT s p ++ [wordOf s t] := by
  unfold wordsT; rw [List.filter_append, List.map_append]; simp [h]
theorem wordsT_end (s : ByteArray) (p : List Tok) (t : Tok) (h : t.kind = 0) : wordsT s (p ++ [t]) = wordsT s p := by
  unfold wordsT; rw [List.filter_append, List.map_append]; simp [h]
theorem wordsT_prefix (s : ByteArray) {p q : List Tok} (h : p <+: q) : wordsT s p <+: wordsT s q := by
  obtain ⟨r, rfl⟩ := h
  unfold wordsT; rw [List.filter_append, List.map_append]; exact ⟨_, rfl⟩

theorem toksF_end : ∀ (f : Nat) (l : List UInt8) (k : Nat) (p : List Tok) (x : Tok), (p ++ [x]) <+: toksF f l k → x.kind = 0 → p ++ [x] = toksF f l k
  | 0, l, k, p, x, h, _ => by
    obtain ⟨r, h⟩ := h
    rw [toksF] at h; simp at h
  | f + 1, l, k, p, x, h, h0 => by
    obtain ⟨r, h⟩ := h
    rw [toksF] at h ⊢
    cases p with
    | nil =>
      simp only [List.nil_append, List.cons_append, List.cons.injEq] at h ⊢
      refine ⟨h.1, ?_⟩
      rw [← h.1, if_pos h0]
    | cons a p =>
      simp only [List.cons_append, List.cons.injEq] at h ⊢
      refine ⟨h.1, ?_⟩
      obtain ⟨h1, h2⟩ := h
      by_cases hk : (nextT l k).kind = 0
      · rw [if_pos hk] at h2; simp at h2
      · rw [if_neg hk] at h2 ⊢
        exact toksF_end f l _ p x ⟨r, h2⟩ h0

theorem toksF_has : ∀ (f : Nat) (l : List UInt8) (k : Nat), k ≤ l.length → l.length ≤ k + f → ∃ t ∈ toksF (f + 1) l k, t.kind = 0
  | f, l, k, hk, hf => by
    obtain ⟨_, f2, f3, f4, _, f6⟩ := nextT_facts l k hk
    rw [toksF]
    by_cases h0 : (nextT l k).kind = 0
    · exact ⟨_, List.mem_cons_self, h0⟩
    · have := f6 h0
      cases f with
      | zero => omega
      | succ f =>
        obtain ⟨t, h1, h2⟩ := toksF_has f l (nextT l k).end_ f4 (by omega)
        exact ⟨t, List.mem_cons_of_mem _ (by rw [if_neg h0]; exact h1), h2⟩

theorem toksF_mem : ∀ (f : Nat) (l : List UInt8) (k : Nat), k ≤ l.length → ∀ t ∈ toksF f l k, t.from_ ≤ t.at_ ∧ t.at_ ≤ t.end_ ∧ t.end_ ≤ l.length
  | 0, _, _, _, t, h => by rw [toksF] at h; cases h
  | f + 1, l, k, hk, t, h => by
    obtain ⟨f1, f2, f3, f4, _, _⟩ := nextT_facts l k hk
    rw [toksF] at h
    rcases List.mem_cons.1 h with rfl | h
    · exact ⟨by omega, f3, f4⟩
    · by_cases h0 : (nextT l k).kind = 0
      · rw [if_pos h0] at h; cases h
      · rw [if_neg h0] at h; exact toksF_mem f l _ f4 t h

theorem toks_has (l : List UInt8) : ∃ t ∈ toks l, t.kind = 0 := toksF_has _ _ _ (Nat.zero_le _) (by omega)
theorem toks_mem (l : List UInt8) : ∀ t ∈ toks l, t.from_ ≤ t.at_ ∧ t.at_ ≤ t.end_ ∧ t.end_ ≤ l.length := toksF_mem _ _ _ (Nat.zero_le _)
theorem toks_end (l : List UInt8) {p : List Tok} {x : Tok} (h : (p ++ [x]) <+: toks l) (h0 : x.kind = 0) : p ++ [x] = toks l := toksF_end _ _ _ _ _ h h0

end Go.Proofs.YtdcpfpifecnfmaaGreatDoor
