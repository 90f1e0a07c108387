import Derived.Test.YtdcpfpifecnfmaaGreatDoorShelf
import Derived.Lib.IndexMore
/-
  isKeyword: a word between two blanks, looked for in the list of keywords.
-/
namespace Go.Proofs.YtdcpfpifecnfmaaGreatDoor
open Go.RowKit Go.Shelf Go.Lib

/-- The keywords, in the order in which they are written. -/
def kwords : List (List UInt8) := [[115, 111, 114, 116],
  [114, 101, 108, 97, 116, 105, 111, 110],
  [99, 111, 117, 110, 116, 101, 114],
  [115, 101, 116],
  [114, 101, 103, 105, 115, 116, 101, 114],
  [105, 110, 118, 97, 114, 105, 97, 110, 116],
  [111, 112, 101, 114, 97, 116, 105, 111, 110],
  [107, 101, 121],
  [114, 101, 102, 101, 114, 101, 110, 99, 101],
  [116, 111],
  [99, 111, 117, 110, 116],
  [97, 99, 121, 99, 108, 105, 99],
  [97, 108, 108],
  [115, 117, 109],
  [105, 110],
  [97, 100, 100, 119, 105, 110, 115],
  [114, 101, 109, 111, 118, 101, 119, 105, 110, 115],
  [108, 97, 115, 116],
  [109, 117, 108, 116, 105],
  [104, 105, 100, 101],
  [111, 114, 100, 101, 114, 101, 100],
  [114, 101, 113, 117, 105, 114, 101],
  [104, 111, 108, 100],
  [105, 110, 115, 101, 114, 116],
  [100, 101, 108, 101, 116, 101],
  [97, 100, 100],
  [102, 114, 111, 109],
  [112, 117, 116],
  [100, 114, 111, 112],
  [97, 115, 115, 105, 103, 110],
  [102, 111, 114],
  [119, 104, 101, 114, 101],
  [97, 110, 100],
  [111, 114],
  [110, 111, 116]]

theorem contains_iff (s sub : List UInt8) : Lib.contains s sub = true ↔ sub <:+: s := by
  unfold Lib.contains
  rw [decide_eq_true_eq]
  constructor
  · intro h
    rcases Lib.index_spec s sub with ⟨h1, _⟩ | ⟨i, h1, h2, h3, _⟩
    · omega
    · unfold Lib.occAt at h3
      have hp := List.isPrefixOf_iff_prefix.1 h3
      exact hp.isInfix.trans (List.drop_suffix i s).isInfix
  · rintro ⟨p, q, h⟩
    rcases Lib.index_spec s sub with ⟨_, h2⟩ | ⟨i, h1, _⟩
    · have h3 := h2 p.length (by rw [← h]; simp)
      unfold Lib.occAt at h3
      have : sub.isPrefixOf (s.drop p.length) = true := by
        rw [List.isPrefixOf_iff_prefix, ← h, List.append_assoc, List.drop_left]
        exact List.prefix_append _ _
      rw [this] at h3; cases h3
    · omega

theorem word_head : ∀ (l k r : List UInt8), (32 : UInt8) ∉ l → (32 : UInt8) ∉ k → (l ++ [32]) <+: (k ++ 32 :: r) → l = k
  | [], [], _, _, _, _ => rfl
  | [], c :: k, r, _, hk, h => by
    rw [List.nil_append, List.cons_append, List.cons_prefix_cons] at h
    exact absurd (h.1 ▸ List.mem_cons_self) hk
  | c :: l, [], r, hl, _, h => by
    rw [List.nil_append, List.cons_append, List.cons_prefix_cons] at h
    exact absurd (h.1 ▸ List.mem_cons_self) hl
  | c :: l, d :: k, r, hl, hk, h => by
    rw [List.cons_append, List.cons_append, List.cons_prefix_cons] at h
    rw [h.1, word_head l k r (fun hh => hl (List.mem_cons_of_mem _ hh)) (fun hh => hk (List.mem_cons_of_mem _ hh)) h.2]

theorem infix_skip (x S : List UInt8) : ∀ (k : List UInt8), (32 : UInt8) ∉ k → ((32 :: x) <:+: (k ++ S) ↔ (32 :: x) <:+: S)
  | [], _ => Iff.rfl
  | c :: k, hk => by
    rw [List.cons_append, List.infix_cons_iff, infix_skip x S k (fun hh => hk (List.mem_cons_of_mem _ hh)), List.cons_prefix_cons]
    constructor
    · rintro (⟨h, _⟩ | h)
      · exact absurd (h ▸ List.mem_cons_self) hk
      · exact h
    · exact .inr

/-- A list of words, each between two blanks. -/
def spacedW (ks : List (List UInt8)) : List UInt8 := 32 :: ks.flatMap fun k => k ++ [32]

theorem spacedW_cons (k : List UInt8) (ks : List (List UInt8)) : spacedW (k :: ks) = 32 :: (k ++ spacedW ks) := by unfold spacedW; simp

theorem spaced_has (l : List UInt8) (hl : (32 : UInt8) ∉ l) (h0 : l ≠ []) : ∀ ks : List (List UInt8), (∀ k ∈ ks, (32 : UInt8) ∉ k) → ((32 :: (l ++ [32])) <:+: spacedW ks ↔ l ∈ ks)
  | [], _ => by
    constructor
    · intro h
      have := h.length_le
      unfold spacedW at this
      have h1 : 0 < l.length := List.length_pos_iff.2 h0
      simp only [List.length_cons, List.length_append, List.flatMap_nil, List.length_nil] at this
      omega
    · intro h; cases h
  | k :: ks, hk => by
    rw [spacedW_cons, List.infix_cons_iff, infix_skip _ _ k (hk k List.mem_cons_self), spaced_has l hl h0 ks (fun x hx => hk x (List.mem_cons_of_mem _ hx)), List.cons_prefix_cons, List.mem_cons]
    refine or_congr ⟨fun h => word_head l k _ hl (hk k List.mem_cons_self) h.2, ?_⟩ Iff.rfl
    rintro rfl
    refine ⟨rfl, ?_⟩
    unfold spacedW
    exact ⟨ks.flatMap fun k => k ++ [32], by simp⟩

def kwList : ByteArray := ⟨#[32, 115, 111, 114, 116, 32, 114, 101, 108, 97, 116, 105, 111, 110, 32, 99, 111, 117, 110, 116, 101, 114, 32, 115, 101, 116, 32, 114, 101, 103, 105, 115, 116, 101, 114, 32, 105, 110, 118, 97, 114, 105, 97, 110, 116, 32, 111, 112, 101, 114, 97, 116, 105, 111, 110, 32, 107, 101, 121, 32, 114, 101, 102, 101, 114, 101, 110, 99, 101, 32, 116, 111, 32, 99, 111, 117, 110, 116, 32, 97, 99, 121, 99, 108, 105, 99, 32, 97, 108, 108, 32, 115, 117, 109, 32, 105, 110, 32, 97, 100, 100, 119, 105, 110, 115, 32, 114, 101, 109, 111, 118, 101, 119, 105, 110, 115, 32, 108, 97, 115, 116, 32, 109, 117, 108, 116, 105, 32, 104, 105, 100, 101, 32, 111, 114, 100, 101, 114, 101, 100, 32, 114, 101, 113, 117, 105, 114, 101, 32, 104, 111, 108, 100, 32, 105, 110, 115, 101, 114, 116, 32, 100, 101, 108, 101, 116, 101, 32, 97, 100, 100, 32, 102, 114, 111, 109, 32, 112, 117, 116, 32, 100, 114, 111, 112, 32, 97, 115, 115, 105, 103, 110, 32, 102, 111, 114, 32, 119, 104, 101, 114, 101, 32, 97, 110, 100, 32, 111, 114, 32, 110, 111, 116, 32]⟩

theorem kwList_size : kwList.size < 4294967281 := of_decide_eq_true (by kernel_rfl)

theorem kwList_spaced : kwList.data.toList = spacedW kwords := by kernel_rfl

theorem kw_contains (s : ByteArray) (hl : (32 : UInt8) ∉ s.data.toList) (h0 : s.data.toList ≠ []) :
    Lib.contains kwList.data.toList (((⟨#[32]⟩ : ByteArray) ++ s) ++ ⟨#[32]⟩).data.toList = decide (s.data.toList ∈ kwords) := by
  have e : (((⟨#[32]⟩ : ByteArray) ++ s) ++ ⟨#[32]⟩).data.toList = 32 :: (s.data.toList ++ [32]) := by simp
  rw [e, kwList_spaced, Bool.eq_iff_iff, contains_iff, decide_eq_true_eq]
  exact spaced_has _ hl h0 _ (by decide)

end Go.Proofs.YtdcpfpifecnfmaaGreatDoor
