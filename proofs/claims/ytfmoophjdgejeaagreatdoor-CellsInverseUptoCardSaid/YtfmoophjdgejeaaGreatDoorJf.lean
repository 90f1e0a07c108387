import Derived.Test.YtfmoophjdgejeaaGreatDoorJe
import Derived.Test.YtfmoophjdgejeaaGreatDoorShelf
import Derived.Lib.IndexMore
import Derived.Lib.ItoaNum
import Derived.Lib.Atoi
import Derived.Lib.SmallJoins
import Derived.Lib.AppendIntMem
import Derived.Lib.AtoiErrMem
/-
  Kind, of a word whose first token is no name.
-/
namespace Go.Proofs.YtfmoophjdgejeaaGreatDoor
open Go.RowKit Go.Shelf Go.Lib

/-- The kind of a word, with names for keywords. -/
def kindN (s : ByteArray) : Nat := if (nextT s.data.toList 0).at_ = 0 ∧ (nextT s.data.toList 0).end_ = s.size then (nextT s.data.toList 0).kind else 0

set_option maxRecDepth 100000 in
set_option maxHeartbeats 1600000 in
theorem kind_plain (s : ByteArray) (hs : s.size ≤ 4096) (hk : kindN s ≠ 1) (w : World) :
    Calls Tryz.prog 89 #[.string s] w fun e w' => e = .returned (.int .i64 (kindN s : Nat)) ∧ Below w.heap.size w w' := by
  have hn := newScanner_any s w hs
  unfold kindN at hk ⊢
  obtain ⟨t, ht⟩ : ∃ t, nextT s.data.toList 0 = t := ⟨_, rfl⟩
  rw [ht] at hk ⊢
  obtain ⟨r, hr⟩ : ∃ r, (if t.at_ = 0 ∧ t.end_ = s.size then t.kind else 0) = r := ⟨_, rfl⟩
  rw [hr] at hk ⊢
  have HT := hidden ht
  have HK := hidden hk
  have HR := hidden hr
  clear ht hk hr
  go_enter Tryz.func89, Tryz.ntmps89
  go_wp2_with fail
  (with_reducible refine hn.mono ?_)
  rintro e w1 ⟨b, rfl, hI, hB1, _⟩
  have hn0 : Calls Tryz.prog 84 #[scanV s b, .int .i64 0] w1 fun e w' => e = .returned (tokV (nextT s.data.toList 0)) ∧ Below w1.heap.size w1 w' := next_any hI 0 (Nat.zero_le _)
  rw [HT.out] at hn0
  have HB1 := hidden hB1
  clear hI hB1 hn
  go_wp2_with fail
  (with_reducible refine hn0.mono ?_)
  rintro e w2 ⟨rfl, hB2⟩
  have HB : Hid (Below w.heap.size w (w2.alloc (.cells #[.int .i64 t.kind, .int .i64 t.from_, .int .i64 t.at_, .int .i64 t.end_] 115))) := (bt HB1.out hB2).alloc (by have := HB1.out.size; have := hB2.size; omega) _
  clear hB2 hn0 HB1
  dsimp only [tokV]
  by_cases h1 : t.at_ = 0
  · by_cases h2 : t.end_ = s.size
    · have b1 : ((t.at_ : Int) != 0) = false := by rw [h1]; rfl
      have b2 : ((t.end_ : Int) != (s.size : Int)) = false := by rw [h2]; simp
      have hk1 : t.kind ≠ 1 := by have := HK.out; rwa [HR.out.symm.trans (if_pos ⟨h1, h2⟩)] at this
      have b3 : ((t.kind : Int) == 1) = false := by rw [beq_eq_false_iff_ne]; omega
      have HV : Hid (r = t.kind) := HR.out.symm.trans (if_pos ⟨h1, h2⟩)
      clear h1 h2 hk1
      go_wp2_with fail
      go_ret
      exact ⟨by rw [HV.out]; rfl, HB.out⟩
    · have b1 : ((t.at_ : Int) != 0) = false := by rw [h1]; rfl
      have b2 : ((t.end_ : Int) != (s.size : Int)) = true := by rw [bne_iff_ne]; omega
      have HV : Hid (r = 0) := HR.out.symm.trans <| if_neg (fun h => h2 h.2)
      clear h1 h2
      go_wp2_with fail
      go_ret
      exact ⟨by rw [HV.out]; rfl, HB.out⟩
  · have b1 : ((t.at_ : Int) != 0) = true := by rw [bne_iff_ne]; omega
    have HV : Hid (r = 0) := HR.out.symm.trans <| if_neg (fun h => h1 h.1)
    clear h1
    go_wp2_with fail
    go_ret
    exact ⟨by rw [HV.out]; rfl, HB.out⟩

end Go.Proofs.YtfmoophjdgejeaaGreatDoor
/-
  isKeyword: a word between two blanks, looked for in the list of keywords.
-/
namespace Go.Proofs.YtfmoophjdgejeaaGreatDoor
open Go.RowKit Go.Shelf Go.Lib

/-- The keywords, in the order in which they are written. -/
def kwords : List (List UInt8) := [[115, 111, 114, 116],
  [114, 101, 108, 97, 116, 105, 111, 110],
  [99, 111, 117, 110, 116, 101, 114],
  [115, 101, 116],
  [114, 101, 103, 105, 115, 116, 101, 114],
  [105, 110, 118, 97, 114, 105, 97, 110, 116],
  [111, 112, 101, 114, 97, 116, 105, 111, 110],
  [107, 101, 121],
  [114, 101, 102, 101, 114, 101, 110, 99, 101],
  [116, 111],
  [99, 111, 117, 110, 116],
  [97, 99, 121, 99, 108, 105, 99],
  [97, 108, 108],
  [115, 117, 109],
  [105, 110],
  [97, 100, 100, 119, 105, 110, 115],
  [114, 101, 109, 111, 118, 101, 119, 105, 110, 115],
  [108, 97, 115, 116],
  [109, 117, 108, 116, 105],
  [104, 105, 100, 101],
  [111, 114, 100, 101, 114, 101, 100],
  [114, 101, 113, 117, 105, 114, 101],
  [104, 111, 108, 100],
  [105, 110, 115, 101, 114, 116],
  [100, 101, 108, 101, 116, 101],
  [97, 100, 100],
  [102, 114, 111, 109],
  [112, 117, 116],
  [100, 114, 111, 112],
  [97, 115, 115, 105, 103, 110],
  [102, 111, 114],
  [119, 104, 101, 114, 101],
  [97, 110, 100],
  [111, 114],
  [110, 111, 116]]

theorem contains_iff (s sub : List UInt8) : Lib.contains s sub = true ↔ sub <:+: s := by
  unfold Lib.contains
  rw [decide_eq_true_eq]
  constructor
  · intro h
    rcases Lib.index_spec s sub with ⟨h1, _⟩ | ⟨i, h1, h2, h3, _⟩
    · omega
    · unfold Lib.occAt at h3
      have hp := List.isPrefixOf_iff_prefix.1 h3
      exact hp.isInfix.trans (List.drop_suffix i s).isInfix
  · rintro ⟨p, q, h⟩
    rcases Lib.index_spec s sub with ⟨_, h2⟩ | ⟨i, h1, _⟩
    · have h3 := h2 p.length (by rw [← h]; simp)
      unfold Lib.occAt at h3
      have : sub.isPrefixOf (s.drop p.length) = true := by
        rw [List.isPrefixOf_iff_prefix, ← h, List.append_assoc, List.drop_left]
        exact List.prefix_append _ _
      rw [this] at h3; cases h3
    · omega

theorem word_head : ∀ (l k r : List UInt8), (32 : UInt8) ∉ l → (32 : UInt8) ∉ k → (l ++ [32]) <+: (k ++ 32 :: r) → l = k
  | [], [], _, _, _, _ => rfl
  | [], c :: k, r, _, hk, h => by
    rw [List.nil_append, List.cons_append, List.cons_prefix_cons] at h
    exact absurd (h.1 ▸ List.mem_cons_self) hk
  | c :: l, [], r, hl, _, h => by
    rw [List.nil_append, List.cons_append, List.cons_prefix_cons] at h
    exact absurd (h.1 ▸ List.mem_cons_self) hl
  | c :: l, d :: k, r, hl, hk, h => by
    rw [List.cons_append, List.cons_append, List.cons_prefix_cons] at h
    rw [h.1, word_head l k r (fun hh => hl (List.mem_cons_of_mem _ hh)) (fun hh => hk (List.mem_cons_of_mem _ hh)) h.2]

theorem infix_skip (x S : List UInt8) : ∀ (k : List UInt8), (32 : UInt8) ∉ k → ((32 :: x) <:+: (k ++ S) ↔ (32 :: x) <:+: S)
  | [], _ => Iff.rfl
  | c :: k, hk => by
    rw [List.cons_append, List.infix_cons_iff, infix_skip x S k (fun hh => hk (List.mem_cons_of_mem _ hh)), List.cons_prefix_cons]
    constructor
    · rintro (⟨h, _⟩ | h)
      · exact absurd (h ▸ List.mem_cons_self) hk
      · exact h
    · exact .inr

/-- A list of words, each between two blanks. -/
def spacedW (ks : List (List UInt8)) : List UInt8 := 32 :: ks.flatMap fun k => k ++ [32]

theorem spacedW_cons (k : List UInt8) (ks : List (List UInt8)) : spacedW (k :: ks) = 32 :: (k ++ spacedW ks) := by unfold spacedW; simp

theorem spaced_has (l : List UInt8) (hl : (32 : UInt8) ∉ l) (h0 : l ≠ []) : ∀ ks : List (List UInt8), (∀ k ∈ ks, (32 : UInt8) ∉ k) → ((32 :: (l ++ [32])) <:+: spacedW ks ↔ l ∈ ks)
  | [], _ => by
    constructor
    · intro h
      have := h.length_le
      unfold spacedW at this
      have h1 : 0 < l.length := List.length_pos_iff.2 h0
      simp only [List.length_cons, List.length_append, List.flatMap_nil, List.length_nil] at this
      omega
    · intro h; cases h
  | k :: ks, hk => by
    rw [spacedW_cons, List.infix_cons_iff, infix_skip _ _ k (hk k List.mem_cons_self), spaced_has l hl h0 ks (fun x hx => hk x (List.mem_cons_of_mem _ hx)), List.cons_prefix_cons, List.mem_cons]
    refine or_congr ⟨fun h => word_head l k _ hl (hk k List.mem_cons_self) h.2, ?_⟩ Iff.rfl
    rintro rfl
    refine ⟨rfl, ?_⟩
    unfold spacedW
    exact ⟨ks.flatMap fun k => k ++ [32], by simp⟩

def kwList : ByteArray := ⟨#[32, 115, 111, 114, 116, 32, 114, 101, 108, 97, 116, 105, 111, 110, 32, 99, 111, 117, 110, 116, 101, 114, 32, 115, 101, 116, 32, 114, 101, 103, 105, 115, 116, 101, 114, 32, 105, 110, 118, 97, 114, 105, 97, 110, 116, 32, 111, 112, 101, 114, 97, 116, 105, 111, 110, 32, 107, 101, 121, 32, 114, 101, 102, 101, 114, 101, 110, 99, 101, 32, 116, 111, 32, 99, 111, 117, 110, 116, 32, 97, 99, 121, 99, 108, 105, 99, 32, 97, 108, 108, 32, 115, 117, 109, 32, 105, 110, 32, 97, 100, 100, 119, 105, 110, 115, 32, 114, 101, 109, 111, 118, 101, 119, 105, 110, 115, 32, 108, 97, 115, 116, 32, 109, 117, 108, 116, 105, 32, 104, 105, 100, 101, 32, 111, 114, 100, 101, 114, 101, 100, 32, 114, 101, 113, 117, 105, 114, 101, 32, 104, 111, 108, 100, 32, 105, 110, 115, 101, 114, 116, 32, 100, 101, 108, 101, 116, 101, 32, 97, 100, 100, 32, 102, 114, 111, 109, 32, 112, 117, 116, 32, 100, 114, 111, 112, 32, 97, 115, 115, 105, 103, 110, 32, 102, 111, 114, 32, 119, 104, 101, 114, 101, 32, 97, 110, 100, 32, 111, 114, 32, 110, 111, 116, 32]⟩

theorem kwList_size : kwList.size < 4294967281 := of_decide_eq_true (by kernel_rfl)

theorem kwList_spaced : kwList.data.toList = spacedW kwords := by kernel_rfl

theorem kw_contains (s : ByteArray) (hl : (32 : UInt8) ∉ s.data.toList) (h0 : s.data.toList ≠ []) :
    Lib.contains kwList.data.toList (((⟨#[32]⟩ : ByteArray) ++ s) ++ ⟨#[32]⟩).data.toList = decide (s.data.toList ∈ kwords) := by
  have e : (((⟨#[32]⟩ : ByteArray) ++ s) ++ ⟨#[32]⟩).data.toList = 32 :: (s.data.toList ++ [32]) := by simp
  rw [e, kwList_spaced, Bool.eq_iff_iff, contains_iff, decide_eq_true_eq]
  exact spaced_has _ hl h0 _ (by decide)

end Go.Proofs.YtfmoophjdgejeaaGreatDoor
/-
  Kind, of any word, where keywords are looked for in their list; the library's search wants a variable of its package, which every world behind the start has.
-/
namespace Go.Proofs.YtfmoophjdgejeaaGreatDoor
open Go.RowKit Go.Shelf Go.Lib

/-- The variable internal/bytealg.MaxLen holds some number. -/
def MaxAt (w : World) : Prop := ∃ m : Int, w.cell? ⟨0, 0, none⟩ = some (.int .i64 m)

theorem MaxAt.below {w w' : World} {B : Nat} (h : MaxAt w) (hB : 0 < B) (hb : Below B w w') : MaxAt w' := by
  obtain ⟨m, hm⟩ := h
  exact ⟨m, (World.cell?_of_block (a := ⟨0, 0, none⟩) (hb.block _ hB)).trans hm⟩
theorem MaxAt.lt {w : World} (h : MaxAt w) : 0 < w.heap.size := by
  obtain ⟨m, hm⟩ := h
  exact World.block_lt_of_cell? w _ hm
theorem MaxAt.keep {w w' : World} (h : MaxAt w) (hb : Below w.heap.size w w') : MaxAt w' := h.below h.lt hb

theorem letter_facts (c : UInt8) (h : letterB c = true) : c ≠ 32 := by
  rintro rfl; revert h; decide
theorem part_facts (c : UInt8) (h : partB c = true) : c ≠ 32 := by
  rintro rfl; revert h; decide

theorem takeWhile_only (p : UInt8 → Bool) : ∀ l : List UInt8, (l.takeWhile p).length = l.length → ∀ x ∈ l, p x = true
  | [], _, x, hx => by cases hx
  | c :: r, h, x, hx => by
    by_cases hc : p c = true
    · rw [List.takeWhile_cons_of_pos hc] at h
      rcases List.mem_cons.1 hx with rfl | hx
      · exact hc
      · exact takeWhile_only p r (by simpa using h) x hx
    · rw [List.takeWhile_cons_of_neg hc] at h
      cases h

theorem kindN_one {s : ByteArray} (h : kindN s = 1) : s.data.toList ≠ [] ∧ (32 : UInt8) ∉ s.data.toList := by
  unfold kindN at h
  by_cases hp : (nextT s.data.toList 0).at_ = 0 ∧ (nextT s.data.toList 0).end_ = s.size
  · rw [if_pos hp] at h
    obtain ⟨h1, h2⟩ := hp
    have e0 : skipTo s.data.toList 0 = 0 := h1
    have hk : (tokF (s.data.toList.drop (skipTo s.data.toList 0))).1 = 1 := h
    have he : skipTo s.data.toList 0 + (tokF (s.data.toList.drop (skipTo s.data.toList 0))).2 = s.size := h2
    rw [e0, List.drop_zero] at hk he
    cases hl : s.data.toList with
    | nil => rw [hl] at hk; simp [tokF] at hk
    | cons c r =>
      have hz : s.size = r.length + 1 := by rw [← bytes_len, hl]; rfl
      rw [hl, tokF] at hk he
      by_cases a : letterB c = true
      · rw [if_pos a] at he
        have he' : 0 + ((r.takeWhile partB).length + 1) = s.size := he
        refine ⟨by simp, fun hm => ?_⟩
        rcases List.mem_cons.1 hm with hm | hm
        · exact letter_facts c a hm.symm
        · exact part_facts 32 (takeWhile_only partB r (by omega) 32 hm) rfl
      · rw [if_neg a] at hk
        by_cases b : digitB c = true
        · rw [if_pos b] at hk; cases hk
        · rw [if_neg b] at hk; split at hk <;> cases hk
  · rw [if_neg hp] at h; cases h

set_option maxRecDepth 100000 in
theorem isKeyword_any (s : ByteArray) (hs : s.size ≤ 4096) (hk : kindN s = 1) (w : World) (hm : MaxAt w) :
    Calls Tryz.prog 99 #[.string s] w fun e w' => e = .returned (.bool (decide (s.data.toList ∈ kwords))) ∧ w' = w := by
  obtain ⟨m, hm⟩ := hm
  obtain ⟨h0, hl⟩ := kindN_one hk
  have hc := Tryz.strings_Contains kwList (((⟨#[32]⟩ : ByteArray) ++ s) ++ ⟨#[32]⟩) m w kwList_size hm
  rw [kw_contains s hl h0] at hc
  have hz1 : ((⟨#[32]⟩ : ByteArray) ++ s).size = 1 + s.size := ByteArray.size_append
  have hz : ((⟨#[32]⟩ : ByteArray) ++ s ++ ⟨#[32]⟩).size = s.size + 2 := by
    rw [ByteArray.size_append, hz1]
    show 1 + s.size + 1 = s.size + 2
    omega
  clear h0 hl hk
  go_enter Tryz.func99, Tryz.ntmps99
  go_wp2_with fail
  refine Calls.mono (show Calls _ _ _ _ _ from hc) ?_
  rintro e w' ⟨rfl, rfl⟩
  go_wp2_with fail
  go_ret
  exact ⟨rfl, rfl⟩

/-- The kind of a word. -/
def kindW (s : ByteArray) : Nat := if kindN s = 1 ∧ s.data.toList ∈ kwords then 2 else kindN s

set_option maxRecDepth 100000 in
set_option maxHeartbeats 1600000 in
theorem kind_any (s : ByteArray) (hs : s.size ≤ 4096) (w : World) (hm : MaxAt w) :
    Calls Tryz.prog 89 #[.string s] w fun e w' => e = .returned (.int .i64 (kindW s : Nat)) ∧ Below w.heap.size w w' := by
  by_cases hk : kindN s = 1
  · have hn := newScanner_any s w hs
    have hkw := fun w' h' => isKeyword_any s hs hk w' h'
    obtain ⟨t, ht⟩ : ∃ t, nextT s.data.toList 0 = t := ⟨_, rfl⟩
    obtain ⟨k1, k2, k3⟩ : t.at_ = 0 ∧ t.end_ = s.size ∧ t.kind = 1 := by
      unfold kindN at hk
      rw [ht] at hk
      by_cases h : t.at_ = 0 ∧ t.end_ = s.size
      · rw [if_pos h] at hk; exact ⟨h.1, h.2, hk⟩
      · rw [if_neg h] at hk; cases hk
    obtain ⟨r, hr⟩ : ∃ r, kindW s = r := ⟨_, rfl⟩
    have hr2 : r = if s.data.toList ∈ kwords then 2 else 1 := by
      rw [← hr]
      unfold kindW
      by_cases h : s.data.toList ∈ kwords
      · rw [if_pos ⟨hk, h⟩, if_pos h]
      · rw [if_neg (fun hh => h hh.2), if_neg h, hk]
    rw [hr]
    have HT := hidden ht
    have HR := hidden hr2
    have HM := hidden hm
    clear ht hk hr hr2 hm
    go_enter Tryz.func89, Tryz.ntmps89
    go_wp2_with fail
    (with_reducible refine hn.mono ?_)
    rintro e w1 ⟨b, rfl, hI, hB1, _⟩
    have hn0 : Calls Tryz.prog 84 #[scanV s b, .int .i64 0] w1 fun e w' => e = .returned (tokV (nextT s.data.toList 0)) ∧ Below w1.heap.size w1 w' := next_any hI 0 (Nat.zero_le _)
    rw [HT.out] at hn0
    have HB1 := hidden hB1
    clear hI hB1 hn
    go_wp2_with fail
    (with_reducible refine hn0.mono ?_)
    rintro e w2 ⟨rfl, hB2⟩
    have HB : Hid (Below w.heap.size w (w2.alloc (.cells #[.int .i64 t.kind, .int .i64 t.from_, .int .i64 t.at_, .int .i64 t.end_] 115))) := (bt HB1.out hB2).alloc (by have := HB1.out.size; have := hB2.size; omega) _
    clear hB2 hn0 HB1
    dsimp only [tokV]
    have e1 : ((t.at_ : Int) != 0) = false := by rw [k1]; rfl
    have e2 : ((t.end_ : Int) != (s.size : Int)) = false := by rw [k2]; simp
    have e3 : ((t.kind : Int) == 1) = true := by rw [k3]; rfl
    have HK := hidden k3
    have hkw2 := hkw _ (HM.out.keep HB.out)
    clear k1 k2 k3 hkw
    go_wp2_with fail
    (with_reducible refine hkw2.mono ?_)
    rintro e w3 ⟨rfl, rfl⟩
    by_cases hc : s.data.toList ∈ kwords
    · rw [decide_eq_true hc]
      have HV : Hid (r = 2) := HR.out.trans (if_pos hc)
      clear hkw2 hc
      go_wp2_with fail
      go_ret
      exact ⟨by rw [HV.out]; rfl, HB.out⟩
    · rw [decide_eq_false hc]
      have HV : Hid (r = t.kind) := (HR.out.trans (if_neg hc)).trans HK.out.symm
      clear hkw2 hc
      go_wp2_with fail
      go_ret
      exact ⟨by rw [HV.out]; rfl, HB.out⟩
  · have h : kindW s = kindN s := by unfold kindW; exact if_neg (fun h => hk h.1)
    rw [h]
    exact kind_plain s hs hk w

end Go.Proofs.YtfmoophjdgejeaaGreatDoor
/-
  The kind of digits; plain facts.
-/
namespace Go.Proofs.YtfmoophjdgejeaaGreatDoor
open Go.RowKit Go.Shelf Go.Lib

theorem digit_facts (c : UInt8) (h : digitB c = true) : whiteB c = false ∧ c ≠ 35 ∧ letterB c = false := by
  unfold digitB at h
  simp only [Bool.and_eq_true, decide_eq_true_eq] at h
  obtain ⟨h1, h2⟩ := h
  refine ⟨?_, ?_, ?_⟩
  · unfold whiteB
    have e1 : c ≠ 9 := by rintro rfl; exact absurd h1 (by decide)
    have e2 : c ≠ 10 := by rintro rfl; exact absurd h1 (by decide)
    have e3 : c ≠ 13 := by rintro rfl; exact absurd h1 (by decide)
    have e4 : c ≠ 32 := by rintro rfl; exact absurd h1 (by decide)
    simp [e1, e2, e3, e4]
  · rintro rfl; exact absurd h1 (by decide)
  · unfold letterB
    simp only [Bool.and_eq_false_iff, decide_eq_false_iff_not]
    exact .inl (by omega)

theorem skipTo_stays (c : UInt8) (r : List UInt8) (h1 : whiteB c = false) (h2 : c ≠ 35) : skipTo (c :: r) 0 = 0 := by
  unfold skipTo
  rw [List.drop_zero, skipF, if_neg (by rw [h1]; simp), if_neg h2]

theorem nextT_digit (c : UInt8) (r : List UInt8) (h : digitB c = true) : nextT (c :: r) 0 = ⟨3, 0, 0, (r.takeWhile digitB).length + 1⟩ := by
  obtain ⟨h1, h2, h3⟩ := digit_facts c h
  have e : tokF (c :: r) = (3, (r.takeWhile digitB).length + 1) := by rw [tokF, if_neg (by rw [h3]; simp), if_pos h]
  unfold nextT
  rw [skipTo_stays c r h1 h2, List.drop_zero, e]
  simp

theorem nextT_minus (r : List UInt8) : nextT (45 :: r) 0 = ⟨4, 0, 0, 1⟩ := by
  have h1 : symL (45 :: r) = 1 := by
    cases r with
    | nil => rfl
    | cons b r =>
      have h2 : twoB 45 b = false := by
        unfold twoB
        have a1 : ((45 : UInt8) == 61) = false := by decide
        have a2 : ((45 : UInt8) == 33) = false := by decide
        have a3 : ((45 : UInt8) == 60) = false := by decide
        have a4 : ((45 : UInt8) == 62) = false := by decide
        have a5 : ((45 : UInt8) == 46) = false := by decide
        rw [a1, a2, a3, a4, a5]
        simp
      rw [symL, if_neg (by rw [h2]; simp), if_pos (by decide)]
  have e : tokF (45 :: r) = (4, 1) := by rw [tokF, if_neg (by decide), if_neg (by decide), if_pos (by rw [h1]; decide), h1]
  unfold nextT
  rw [skipTo_stays 45 r (by decide) (by decide), List.drop_zero, e]
  simp

theorem kindN_digits {s : ByteArray} {c : UInt8} {r : List UInt8} (hl : s.data.toList = c :: r) (h : digitB c = true) : kindN s = if (r.takeWhile digitB).length = r.length then 3 else 0 := by
  have hz : s.size = r.length + 1 := by rw [← bytes_len, hl]; rfl
  unfold kindN
  rw [hl, nextT_digit c r h, hz]
  by_cases he : (r.takeWhile digitB).length = r.length
  · rw [if_pos he, if_pos ⟨rfl, by show _ + 1 = _; omega⟩]
  · rw [if_neg he, if_neg (fun hh => he (by have := hh.2; simpa using this))]

theorem kindN_minus {s : ByteArray} {r : List UInt8} (hl : s.data.toList = 45 :: r) (hr : r ≠ []) : kindN s = 0 := by
  have hz : s.size = r.length + 1 := by rw [← bytes_len, hl]; rfl
  have hp : 0 < r.length := List.length_pos_iff.2 hr
  unfold kindN
  rw [hl, nextT_minus r, hz, if_neg (fun hh => by have h2 : 1 = r.length + 1 := hh.2; omega)]

theorem digit_of (d : Nat) (h : d < 10) : digitB (UInt8.ofNat (48 + d)) = true := by
  have : ∀ d : Fin 10, digitB (UInt8.ofNat (48 + d.1)) = true := by decide
  exact this ⟨d, h⟩

theorem decDigits_digits (u : Nat) : ∀ x ∈ Lib.decDigits u, digitB x = true := by
  induction u using Nat.strongRecOn with
  | ind u ih =>
    intro x hx
    rw [Lib.decDigits] at hx
    split at hx
    · next h => rw [List.mem_singleton.1 hx]; exact digit_of u h
    · next h =>
      rcases List.mem_append.1 hx with hx | hx
      · exact ih (u / 10) (by omega) x hx
      · rw [List.mem_singleton.1 hx]; exact digit_of _ (by omega)

theorem decDigits_ne (u : Nat) : Lib.decDigits u ≠ [] := by
  rw [Lib.decDigits]; split <;> simp

theorem digitVal_of (d : Nat) (h : d < 10) : Lib.digitVal (UInt8.ofNat (48 + d)) = some d := by
  have : ∀ d : Fin 10, Lib.digitVal (UInt8.ofNat (48 + d.1)) = some d.1 := by decide
  exact this ⟨d, h⟩

theorem decFrom_append : ∀ (a b : List UInt8) (acc m : Nat), Lib.decFrom acc a = some m → Lib.decFrom acc (a ++ b) = Lib.decFrom m b
  | [], b, acc, m, h => by rw [Lib.decFrom] at h; cases h; rfl
  | x :: a, b, acc, m, h => by
    rw [List.cons_append, Lib.decFrom]
    rw [Lib.decFrom] at h
    cases hd : Lib.digitVal x with
    | none => rw [hd] at h; cases h
    | some d => rw [hd] at h; exact decFrom_append a b _ m h

theorem decFrom_digits (u : Nat) : Lib.decFrom 0 (Lib.decDigits u) = some u := by
  induction u using Nat.strongRecOn with
  | ind u ih =>
    rw [Lib.decDigits]
    split
    · next h => rw [Lib.decFrom, digitVal_of u h]; simp [Lib.decFrom]
    · next h =>
      rw [decFrom_append _ _ _ _ (ih (u / 10) (by omega)), Lib.decFrom, digitVal_of _ (by omega)]
      simp only [Lib.decFrom]
      congr 1
      omega

theorem decFrom_zeros : ∀ (z : Nat), Lib.decFrom 0 (List.replicate z 48) = some 0
  | 0 => rfl
  | z + 1 => by
    rw [List.replicate_succ, Lib.decFrom, show Lib.digitVal 48 = some 0 by decide]
    exact decFrom_zeros z

theorem atoi_padded (z u : Nat) : Lib.atoi (List.replicate z 48 ++ Lib.decDigits u) = some (u : Int) := by
  have h1 : Lib.decFrom 0 (List.replicate z 48 ++ Lib.decDigits u) = some u := by rw [decFrom_append _ _ _ _ (decFrom_zeros z), decFrom_digits]
  have h2 : ∀ x ∈ List.replicate z 48 ++ Lib.decDigits u, digitB x = true := by
    intro x hx
    rcases List.mem_append.1 hx with hx | hx
    · rw [List.eq_of_mem_replicate hx]; decide
    · exact decDigits_digits u x hx
  cases hl : List.replicate z 48 ++ Lib.decDigits u with
  | nil =>
    have := decDigits_ne u
    simp at hl
    exact absurd hl.2 this
  | cons c r =>
    rw [hl] at h1 h2
    have hc := h2 c List.mem_cons_self
    have e1 : (c == 45) = false := by rw [beq_eq_false_iff_ne]; rintro rfl; exact absurd hc (by decide)
    have e2 : (c == 43) = false := by rw [beq_eq_false_iff_ne]; rintro rfl; exact absurd hc (by decide)
    rw [Lib.atoi, e1, e2]
    simp [Lib.decNat, h1]

end Go.Proofs.YtfmoophjdgejeaaGreatDoor
/-
  Number and Name of any word.
-/
namespace Go.Proofs.YtfmoophjdgejeaaGreatDoor
open Go.RowKit Go.Shelf Go.Lib

theorem number_no (s : ByteArray) (hs : s.size ≤ 100) (hk : kindN s ≠ 1) (h : 4 < s.size ∨ kindN s ≠ 3) (w : World) :
    Calls Tryz.prog 98 #[.string s] w fun e w' => e = .returned (.tuple #[.int .i64 0, .bool false]) ∧ Below w.heap.size w w' := by
  have hki := fun w' => kind_plain s (by omega) hk w'
  have hmx : Tryz.prog.follows .mixedOrders = true := by kernel_rfl
  by_cases h4 : 4 < s.size
  · have b1 : ((4 : Int) < (s.size : Int)) := by omega
    clear h hk hki
    go_enter Tryz.func98, Tryz.ntmps98
    go_wp2_with fail
    go_ret2
    exact ⟨rfl, Below.refl _ _⟩
  · have b1 : ¬ ((4 : Int) < (s.size : Int)) := by omega
    have b2 : ((kindN s : Int) != 3) = true := by
      rw [bne_iff_ne]
      rcases h with h | h
      · exact absurd h h4
      · omega
    clear h hk h4
    go_enter Tryz.func98, Tryz.ntmps98
    go_wp2_with fail
    (with_reducible refine (hki _).mono ?_)
    rintro e w1 ⟨rfl, hB1⟩
    clear hki
    have HB1 := hidden hB1
    clear hB1
    go_wp2_with fail
    go_ret2
    exact ⟨rfl, HB1.out⟩

set_option maxHeartbeats 800000 in
theorem number_yes (s : ByteArray) (hs : s.size ≤ 4) (hk : kindN s = 3) (n : Int) (hn : Lib.atoi s.data.toList = some n) (w : World) :
    Calls Tryz.prog 98 #[.string s] w fun e w' => e = .returned (.tuple #[.int .i64 n, .bool true]) ∧ Below w.heap.size w w' := by
  have hki := fun w' => kind_plain s (by omega) (by rw [hk]; decide) w'
  have hat := fun w' => Tryz.strconv_Atoi s n (by omega) hn w'
  rw [hk] at hki
  have b1 : ¬ ((4 : Int) < (s.size : Int)) := by omega
  clear hk hn
  go_enter Tryz.func98, Tryz.ntmps98
  go_wp2_with fail
  (with_reducible refine (hki _).mono ?_)
  rintro e w1 ⟨rfl, hB1⟩
  clear hki
  have HB1 := hidden hB1
  clear hB1
  go_wp2_with fail
  (with_reducible refine (hat _).mono ?_)
  rintro e w2 ⟨rfl, t, rfl⟩
  have HB2 := hidden (bt HB1.out (Lib.bytesWorld_below w1 5 t))
  generalize Lib.bytesWorld w1 5 t = w3 at *
  clear hat HB1
  go_wp2_with fail
  go_quiet (fail)
  go_wp2_with fail
  go_ret2
  exact ⟨rfl, below_drewN HB2.out nq⟩


theorem str_neq {x y : ByteArray} (h : ¬ x = y) : (x.toList == y.toList) = false := by
  rw [beq_eq_false_iff_ne, ByteArray.toList_eq, ByteArray.toList_eq]
  intro e
  apply h
  obtain ⟨⟨a⟩⟩ := x
  obtain ⟨⟨b⟩⟩ := y
  simpa using e

theorem kindN_three {s : ByteArray} (h : kindN s = 3) : ∃ c r, s.data.toList = c :: r ∧ ∀ x ∈ c :: r, digitB x = true := by
  unfold kindN at h
  by_cases hp : (nextT s.data.toList 0).at_ = 0 ∧ (nextT s.data.toList 0).end_ = s.size
  · rw [if_pos hp] at h
    obtain ⟨h1, h2⟩ := hp
    have e0 : skipTo s.data.toList 0 = 0 := h1
    have hk : (tokF (s.data.toList.drop (skipTo s.data.toList 0))).1 = 3 := h
    have he : skipTo s.data.toList 0 + (tokF (s.data.toList.drop (skipTo s.data.toList 0))).2 = s.size := h2
    rw [e0, List.drop_zero] at hk he
    cases hl : s.data.toList with
    | nil => rw [hl] at hk; simp [tokF] at hk
    | cons c r =>
      have hz : s.size = r.length + 1 := by rw [← bytes_len, hl]; rfl
      rw [hl, tokF] at hk he
      by_cases a : letterB c = true
      · rw [if_pos a] at hk; cases hk
      · rw [if_neg a] at hk he
        by_cases b : digitB c = true
        · rw [if_pos b] at he
          have he' : 0 + ((r.takeWhile digitB).length + 1) = s.size := he
          refine ⟨c, r, rfl, fun x hx => ?_⟩
          rcases List.mem_cons.1 hx with rfl | hx
          · exact b
          · exact takeWhile_only digitB r (by omega) x hx
        · rw [if_neg b] at hk; split at hk <;> cases hk
  · rw [if_neg hp] at h; cases h

theorem digit_val {c : UInt8} (h : digitB c = true) : ∃ d, Lib.digitVal c = some d := by
  unfold digitB at h
  simp only [Bool.and_eq_true, decide_eq_true_eq] at h
  exact ⟨c.toNat - 48, by unfold Lib.digitVal; rw [if_pos h]⟩

theorem decFrom_some : ∀ (l : List UInt8) (acc : Nat), (∀ x ∈ l, digitB x = true) → ∃ n, Lib.decFrom acc l = some n
  | [], acc, _ => ⟨acc, rfl⟩
  | c :: r, acc, h => by
    obtain ⟨d, hd⟩ := digit_val (h c List.mem_cons_self)
    rw [Lib.decFrom, hd]
    exact decFrom_some r _ (fun x hx => h x (List.mem_cons_of_mem _ hx))

theorem atoi_digits {s : ByteArray} (h : kindN s = 3) : ∃ n, Lib.atoi s.data.toList = some n := by
  obtain ⟨c, r, hl, hd⟩ := kindN_three h
  obtain ⟨n, hn⟩ := decFrom_some (c :: r) 0 hd
  have hc := hd c List.mem_cons_self
  have h45 : (c == 45) = false := by
    rw [beq_eq_false_iff_ne]; intro e; rw [e] at hc; revert hc; decide
  have h43 : (c == 43) = false := by
    rw [beq_eq_false_iff_ne]; intro e; rw [e] at hc; revert hc; decide
  refine ⟨(n : Int), ?_⟩
  rw [hl]
  simp [Lib.atoi, h45, h43, Lib.decNat, hn]

theorem kindW_one {s : ByteArray} (h : kindW s = 3) : kindN s = 3 := by
  unfold kindW at h
  by_cases hk : kindN s = 1 ∧ s.data.toList ∈ kwords
  · rw [if_pos hk] at h; cases h
  · rw [if_neg hk] at h; exact h

/-- Whether a word is a valid number. -/
def numB (s : ByteArray) : Bool := decide (s.size ≤ 4) && decide (kindW s = 3)
/-- Whether a word is a name. -/
def nameB (s : ByteArray) : Bool := decide (s.size ≤ 16) && decide (kindW s = 1)
/-- The value of a valid number. -/
def numI (s : ByteArray) : Int := if numB s = true then (Lib.atoi s.data.toList).getD 0 else 0

set_option maxHeartbeats 1600000 in
theorem number_any (s : ByteArray) (hs : s.size ≤ 4096) (w : World) (hm : MaxAt w) :
    Calls Tryz.prog 98 #[.string s] w fun e w' => e = .returned (.tuple #[.int .i64 (numI s), .bool (numB s)]) ∧ Below w.heap.size w w' := by
  have hki := kind_any s hs w hm
  have hmx : Tryz.prog.follows .mixedOrders = true := by kernel_rfl
  by_cases h4 : 4 < s.size
  · have b1 : ((4 : Int) < (s.size : Int)) := by omega
    have e1 : numB s = false := by unfold numB; rw [decide_eq_false (by omega)]; rfl
    have e2 : numI s = 0 := by unfold numI; rw [e1]; rfl
    rw [e1, e2]
    clear hki e1 e2 hm
    go_enter Tryz.func98, Tryz.ntmps98
    go_wp2_with fail
    go_ret2
    exact ⟨rfl, Below.refl _ _⟩
  · by_cases hk : kindW s = 3
    · have hkn := kindW_one hk
      obtain ⟨n, hn⟩ := atoi_digits hkn
      have e1 : numB s = true := by unfold numB; rw [decide_eq_true (by omega), decide_eq_true hk]; rfl
      have e2 : numI s = n := by unfold numI; rw [e1, hn]; rfl
      rw [e1, e2]
      exact number_yes s (by omega) hkn n hn w
    · have b1 : ¬ ((4 : Int) < (s.size : Int)) := by omega
      have b2 : ((kindW s : Int) != 3) = true := by rw [bne_iff_ne]; omega
      have e1 : numB s = false := by unfold numB; rw [decide_eq_false hk]; simp
      have e2 : numI s = 0 := by unfold numI; rw [e1]; rfl
      rw [e1, e2]
      clear hk h4 e1 e2 hm
      go_enter Tryz.func98, Tryz.ntmps98
      go_wp2_with fail
      (with_reducible refine hki.mono ?_)
      rintro e w1 ⟨rfl, hB1⟩
      clear hki
      have HB1 := hidden hB1
      clear hB1
      go_wp2_with fail
      go_ret2
      exact ⟨rfl, HB1.out⟩

set_option maxHeartbeats 1600000 in
theorem name_any (s : ByteArray) (hs : s.size ≤ 4096) (w : World) (hm : MaxAt w) :
    Calls Tryz.prog 77 #[.string s] w fun e w' => e = .returned (.bool (nameB s)) ∧ Below w.heap.size w w' := by
  have hki := kind_any s hs w hm
  clear hm
  by_cases h16 : s.size ≤ 16
  · have b1 : ((s.size : Int) ≤ 16) := by omega
    obtain ⟨c, hc⟩ : ∃ c, nameB s = c := ⟨_, rfl⟩
    have hcc : ((kindW s : Int) == 1) = c := by
      rw [← hc]; unfold nameB; rw [decide_eq_true h16, Bool.true_and]
      rw [Bool.eq_iff_iff, beq_iff_eq, decide_eq_true_eq]; omega
    rw [hc]
    clear hc h16
    cases c with
    | true =>
      go_enter Tryz.func77, Tryz.ntmps77
      go_wp2_with fail
      (with_reducible refine hki.mono ?_)
      rintro e w1 ⟨rfl, hB1⟩
      clear hki
      have HB1 := hidden hB1
      clear hB1
      go_wp2_with fail
      go_ret
      exact ⟨rfl, HB1.out⟩
    | false =>
      go_enter Tryz.func77, Tryz.ntmps77
      go_wp2_with fail
      (with_reducible refine hki.mono ?_)
      rintro e w1 ⟨rfl, hB1⟩
      clear hki
      have HB1 := hidden hB1
      clear hB1
      go_wp2_with fail
      go_ret
      exact ⟨rfl, HB1.out⟩
  · have b1 : ¬ ((s.size : Int) ≤ 16) := by omega
    have e1 : nameB s = false := by unfold nameB; rw [decide_eq_false h16]; rfl
    rw [e1]
    clear hki e1 h16
    go_enter Tryz.func77, Tryz.ntmps77
    go_wp2_with fail
    go_ret
    exact ⟨rfl, Below.refl _ _⟩


end Go.Proofs.YtfmoophjdgejeaaGreatDoor
