import Derived.Test.YtlbaaiglebpjiaaGreatDoorJc
import Derived.Test.YtlbaaiglebpjiaaGreatDoorShelf
import Derived.Lib.IndexMore
/-
  Kind, of a word whose first token is no name.
-/
namespace Go.Proofs.YtlbaaiglebpjiaaGreatDoor
open Go.RowKit Go.Shelf Go.Lib

/-- The kind of a word, with names for keywords. -/
def kindN (s : ByteArray) : Nat := if (nextT s.data.toList 0).at_ = 0 ∧ (nextT s.data.toList 0).end_ = s.size then (nextT s.data.toList 0).kind else 0

set_option maxRecDepth 100000 in
set_option maxHeartbeats 1600000 in
theorem kind_plain (s : ByteArray) (hs : s.size ≤ 4096) (hk : kindN s ≠ 1) (w : World) :
    Calls Tryz.prog 100 #[.string s] w fun e w' => e = .returned (.int .i64 (kindN s : Nat)) ∧ Below w.heap.size w w' := by
  have hn := newScanner_any s w hs
  unfold kindN at hk ⊢
  obtain ⟨t, ht⟩ : ∃ t, nextT s.data.toList 0 = t := ⟨_, rfl⟩
  rw [ht] at hk ⊢
  obtain ⟨r, hr⟩ : ∃ r, (if t.at_ = 0 ∧ t.end_ = s.size then t.kind else 0) = r := ⟨_, rfl⟩
  rw [hr] at hk ⊢
  have HT := hidden ht
  have HK := hidden hk
  have HR := hidden hr
  clear ht hk hr
  go_enter Tryz.func100, Tryz.ntmps100
  go_wp2_with fail
  (with_reducible refine hn.mono ?_)
  rintro e w1 ⟨b, rfl, hI, hB1, _⟩
  have hn0 : Calls Tryz.prog 110 #[scanV s b, .int .i64 0] w1 fun e w' => e = .returned (tokV (nextT s.data.toList 0)) ∧ Below w1.heap.size w1 w' := next_any hI 0 (Nat.zero_le _)
  rw [HT.out] at hn0
  have HB1 := hidden hB1
  clear hI hB1 hn
  go_wp2_with fail
  (with_reducible refine hn0.mono ?_)
  rintro e w2 ⟨rfl, hB2⟩
  have HB : Hid (Below w.heap.size w (w2.alloc (.cells #[.int .i64 t.kind, .int .i64 t.from_, .int .i64 t.at_, .int .i64 t.end_] 96))) := (bt HB1.out hB2).alloc (by have := HB1.out.size; have := hB2.size; omega) _
  clear hB2 hn0 HB1
  dsimp only [tokV]
  by_cases h1 : t.at_ = 0
  · by_cases h2 : t.end_ = s.size
    · have b1 : ((t.at_ : Int) != 0) = false := by rw [h1]; rfl
      have b2 : ((t.end_ : Int) != (s.size : Int)) = false := by rw [h2]; simp
      have hk1 : t.kind ≠ 1 := by have := HK.out; rwa [HR.out.symm.trans (if_pos ⟨h1, h2⟩)] at this
      have b3 : ((t.kind : Int) == 1) = false := by rw [beq_eq_false_iff_ne]; omega
      have HV : Hid (r = t.kind) := HR.out.symm.trans (if_pos ⟨h1, h2⟩)
      clear h1 h2 hk1
      go_wp2_with fail
      go_ret
      exact ⟨by rw [HV.out]; rfl, HB.out⟩
    · have b1 : ((t.at_ : Int) != 0) = false := by rw [h1]; rfl
      have b2 : ((t.end_ : Int) != (s.size : Int)) = true := by rw [bne_iff_ne]; omega
      have HV : Hid (r = 0) := HR.out.symm.trans <| if_neg (fun h => h2 h.2)
      clear h1 h2
      go_wp2_with fail
      go_ret
      exact ⟨by rw [HV.out]; rfl, HB.out⟩
  · have b1 : ((t.at_ : Int) != 0) = true := by rw [bne_iff_ne]; omega
    have HV : Hid (r = 0) := HR.out.symm.trans <| if_neg (fun h => h1 h.1)
    clear h1
    go_wp2_with fail
    go_ret
    exact ⟨by rw [HV.out]; rfl, HB.out⟩

end Go.Proofs.YtlbaaiglebpjiaaGreatDoor
/-
  isKeyword: a word between two blanks, looked for in the list of keywords.
-/
namespace Go.Proofs.YtlbaaiglebpjiaaGreatDoor
open Go.RowKit Go.Shelf Go.Lib

/-- The keywords, in the order in which they are written. -/
def kwords : List (List UInt8) := [[115, 111, 114, 116],
  [114, 101, 108, 97, 116, 105, 111, 110],
  [99, 111, 117, 110, 116, 101, 114],
  [115, 101, 116],
  [114, 101, 103, 105, 115, 116, 101, 114],
  [105, 110, 118, 97, 114, 105, 97, 110, 116],
  [111, 112, 101, 114, 97, 116, 105, 111, 110],
  [107, 101, 121],
  [114, 101, 102, 101, 114, 101, 110, 99, 101],
  [116, 111],
  [99, 111, 117, 110, 116],
  [97, 99, 121, 99, 108, 105, 99],
  [97, 108, 108],
  [115, 117, 109],
  [105, 110],
  [97, 100, 100, 119, 105, 110, 115],
  [114, 101, 109, 111, 118, 101, 119, 105, 110, 115],
  [108, 97, 115, 116],
  [109, 117, 108, 116, 105],
  [104, 105, 100, 101],
  [111, 114, 100, 101, 114, 101, 100],
  [114, 101, 113, 117, 105, 114, 101],
  [104, 111, 108, 100],
  [105, 110, 115, 101, 114, 116],
  [100, 101, 108, 101, 116, 101],
  [97, 100, 100],
  [102, 114, 111, 109],
  [112, 117, 116],
  [100, 114, 111, 112],
  [97, 115, 115, 105, 103, 110],
  [102, 111, 114],
  [119, 104, 101, 114, 101],
  [97, 110, 100],
  [111, 114],
  [110, 111, 116]]

theorem contains_iff (s sub : List UInt8) : Lib.contains s sub = true ↔ sub <:+: s := by
  unfold Lib.contains
  rw [decide_eq_true_eq]
  constructor
  · intro h
    rcases Lib.index_spec s sub with ⟨h1, _⟩ | ⟨i, h1, h2, h3, _⟩
    · omega
    · unfold Lib.occAt at h3
      have hp := List.isPrefixOf_iff_prefix.1 h3
      exact hp.isInfix.trans (List.drop_suffix i s).isInfix
  · rintro ⟨p, q, h⟩
    rcases Lib.index_spec s sub with ⟨_, h2⟩ | ⟨i, h1, _⟩
    · have h3 := h2 p.length (by rw [← h]; simp)
      unfold Lib.occAt at h3
      have : sub.isPrefixOf (s.drop p.length) = true := by
        rw [List.isPrefixOf_iff_prefix, ← h, List.append_assoc, List.drop_left]
        exact List.prefix_append _ _
      rw [this] at h3; cases h3
    · omega

theorem word_head : ∀ (l k r : List UInt8), (32 : UInt8) ∉ l → (32 : UInt8) ∉ k → (l ++ [32]) <+: (k ++ 32 :: r) → l = k
  | [], [], _, _, _, _ => rfl
  | [], c :: k, r, _, hk, h => by
    rw [List.nil_append, List.cons_append, List.cons_prefix_cons] at h
    exact absurd (h.1 ▸ List.mem_cons_self) hk
  | c :: l, [], r, hl, _, h => by
    rw [List.nil_append, List.cons_append, List.cons_prefix_cons] at h
    exact absurd (h.1 ▸ List.mem_cons_self) hl
  | c :: l, d :: k, r, hl, hk, h => by
    rw [List.cons_append, List.cons_append, List.cons_prefix_cons] at h
    rw [h.1, word_head l k r (fun hh => hl (List.mem_cons_of_mem _ hh)) (fun hh => hk (List.mem_cons_of_mem _ hh)) h.2]

theorem infix_skip (x S : List UInt8) : ∀ (k : List UInt8), (32 : UInt8) ∉ k → ((32 :: x) <:+: (k ++ S) ↔ (32 :: x) <:+: S)
  | [], _ => Iff.rfl
  | c :: k, hk => by
    rw [List.cons_append, List.infix_cons_iff, infix_skip x S k (fun hh => hk (List.mem_cons_of_mem _ hh)), List.cons_prefix_cons]
    constructor
    · rintro (⟨h, _⟩ | h)
      · exact absurd (h ▸ List.mem_cons_self) hk
      · exact h
    · exact .inr

/-- A list of words, each between two blanks. -/
def spacedW (ks : List (List UInt8)) : List UInt8 := 32 :: ks.flatMap fun k => k ++ [32]

theorem spacedW_cons (k : List UInt8) (ks : List (List UInt8)) : spacedW (k :: ks) = 32 :: (k ++ spacedW ks) := by unfold spacedW; simp

theorem spaced_has (l : List UInt8) (hl : (32 : UInt8) ∉ l) (h0 : l ≠ []) : ∀ ks : List (List UInt8), (∀ k ∈ ks, (32 : UInt8) ∉ k) → ((32 :: (l ++ [32])) <:+: spacedW ks ↔ l ∈ ks)
  | [], _ => by
    constructor
    · intro h
      have := h.length_le
      unfold spacedW at this
      have h1 : 0 < l.length := List.length_pos_iff.2 h0
      simp only [List.length_cons, List.length_append, List.flatMap_nil, List.length_nil] at this
      omega
    · intro h; cases h
  | k :: ks, hk => by
    rw [spacedW_cons, List.infix_cons_iff, infix_skip _ _ k (hk k List.mem_cons_self), spaced_has l hl h0 ks (fun x hx => hk x (List.mem_cons_of_mem _ hx)), List.cons_prefix_cons, List.mem_cons]
    refine or_congr ⟨fun h => word_head l k _ hl (hk k List.mem_cons_self) h.2, ?_⟩ Iff.rfl
    rintro rfl
    refine ⟨rfl, ?_⟩
    unfold spacedW
    exact ⟨ks.flatMap fun k => k ++ [32], by simp⟩

def kwList : ByteArray := ⟨#[32, 115, 111, 114, 116, 32, 114, 101, 108, 97, 116, 105, 111, 110, 32, 99, 111, 117, 110, 116, 101, 114, 32, 115, 101, 116, 32, 114, 101, 103, 105, 115, 116, 101, 114, 32, 105, 110, 118, 97, 114, 105, 97, 110, 116, 32, 111, 112, 101, 114, 97, 116, 105, 111, 110, 32, 107, 101, 121, 32, 114, 101, 102, 101, 114, 101, 110, 99, 101, 32, 116, 111, 32, 99, 111, 117, 110, 116, 32, 97, 99, 121, 99, 108, 105, 99, 32, 97, 108, 108, 32, 115, 117, 109, 32, 105, 110, 32, 97, 100, 100, 119, 105, 110, 115, 32, 114, 101, 109, 111, 118, 101, 119, 105, 110, 115, 32, 108, 97, 115, 116, 32, 109, 117, 108, 116, 105, 32, 104, 105, 100, 101, 32, 111, 114, 100, 101, 114, 101, 100, 32, 114, 101, 113, 117, 105, 114, 101, 32, 104, 111, 108, 100, 32, 105, 110, 115, 101, 114, 116, 32, 100, 101, 108, 101, 116, 101, 32, 97, 100, 100, 32, 102, 114, 111, 109, 32, 112, 117, 116, 32, 100, 114, 111, 112, 32, 97, 115, 115, 105, 103, 110, 32, 102, 111, 114, 32, 119, 104, 101, 114, 101, 32, 97, 110, 100, 32, 111, 114, 32, 110, 111, 116, 32]⟩

theorem kwList_size : kwList.size < 4294967281 := of_decide_eq_true (by kernel_rfl)

theorem kwList_spaced : kwList.data.toList = spacedW kwords := by kernel_rfl

theorem kw_contains (s : ByteArray) (hl : (32 : UInt8) ∉ s.data.toList) (h0 : s.data.toList ≠ []) :
    Lib.contains kwList.data.toList (((⟨#[32]⟩ : ByteArray) ++ s) ++ ⟨#[32]⟩).data.toList = decide (s.data.toList ∈ kwords) := by
  have e : (((⟨#[32]⟩ : ByteArray) ++ s) ++ ⟨#[32]⟩).data.toList = 32 :: (s.data.toList ++ [32]) := by simp
  rw [e, kwList_spaced, Bool.eq_iff_iff, contains_iff, decide_eq_true_eq]
  exact spaced_has _ hl h0 _ (by decide)

end Go.Proofs.YtlbaaiglebpjiaaGreatDoor
/-
  Kind, of any word, where keywords are looked for in their list; the library's search wants a variable of its package, which every world behind the start has.
-/
namespace Go.Proofs.YtlbaaiglebpjiaaGreatDoor
open Go.RowKit Go.Shelf Go.Lib

/-- The variable internal/bytealg.MaxLen holds some number. -/
def MaxAt (w : World) : Prop := ∃ m : Int, w.cell? ⟨2, 0, none⟩ = some (.int .i64 m)

theorem MaxAt.below {w w' : World} {B : Nat} (h : MaxAt w) (hB : 2 < B) (hb : Below B w w') : MaxAt w' := by
  obtain ⟨m, hm⟩ := h
  exact ⟨m, (World.cell?_of_block (a := ⟨2, 0, none⟩) (hb.block _ hB)).trans hm⟩
theorem MaxAt.lt {w : World} (h : MaxAt w) : 2 < w.heap.size := by
  obtain ⟨m, hm⟩ := h
  exact World.block_lt_of_cell? w _ hm
theorem MaxAt.keep {w w' : World} (h : MaxAt w) (hb : Below w.heap.size w w') : MaxAt w' := h.below h.lt hb

theorem letter_facts (c : UInt8) (h : letterB c = true) : c ≠ 32 := by
  rintro rfl; revert h; decide
theorem part_facts (c : UInt8) (h : partB c = true) : c ≠ 32 := by
  rintro rfl; revert h; decide

theorem takeWhile_only (p : UInt8 → Bool) : ∀ l : List UInt8, (l.takeWhile p).length = l.length → ∀ x ∈ l, p x = true
  | [], _, x, hx => by cases hx
  | c :: r, h, x, hx => by
    by_cases hc : p c = true
    · rw [List.takeWhile_cons_of_pos hc] at h
      rcases List.mem_cons.1 hx with rfl | hx
      · exact hc
      · exact takeWhile_only p r (by simpa using h) x hx
    · rw [List.takeWhile_cons_of_neg hc] at h
      cases h

theorem kindN_one {s : ByteArray} (h : kindN s = 1) : s.data.toList ≠ [] ∧ (32 : UInt8) ∉ s.data.toList := by
  unfold kindN at h
  by_cases hp : (nextT s.data.toList 0).at_ = 0 ∧ (nextT s.data.toList 0).end_ = s.size
  · rw [if_pos hp] at h
    obtain ⟨h1, h2⟩ := hp
    have e0 : skipTo s.data.toList 0 = 0 := h1
    have hk : (tokF (s.data.toList.drop (skipTo s.data.toList 0))).1 = 1 := h
    have he : skipTo s.data.toList 0 + (tokF (s.data.toList.drop (skipTo s.data.toList 0))).2 = s.size := h2
    rw [e0, List.drop_zero] at hk he
    cases hl : s.data.toList with
    | nil => rw [hl] at hk; simp [tokF] at hk
    | cons c r =>
      have hz : s.size = r.length + 1 := by rw [← bytes_len, hl]; rfl
      rw [hl, tokF] at hk he
      by_cases a : letterB c = true
      · rw [if_pos a] at he
        have he' : 0 + ((r.takeWhile partB).length + 1) = s.size := he
        refine ⟨by simp, fun hm => ?_⟩
        rcases List.mem_cons.1 hm with hm | hm
        · exact letter_facts c a hm.symm
        · exact part_facts 32 (takeWhile_only partB r (by omega) 32 hm) rfl
      · rw [if_neg a] at hk
        by_cases b : digitB c = true
        · rw [if_pos b] at hk; cases hk
        · rw [if_neg b] at hk; split at hk <;> cases hk
  · rw [if_neg hp] at h; cases h

set_option maxRecDepth 100000 in
theorem isKeyword_any (s : ByteArray) (hs : s.size ≤ 4096) (hk : kindN s = 1) (w : World) (hm : MaxAt w) :
    Calls Tryz.prog 111 #[.string s] w fun e w' => e = .returned (.bool (decide (s.data.toList ∈ kwords))) ∧ w' = w := by
  obtain ⟨m, hm⟩ := hm
  obtain ⟨h0, hl⟩ := kindN_one hk
  have hc := Tryz.strings_Contains kwList (((⟨#[32]⟩ : ByteArray) ++ s) ++ ⟨#[32]⟩) m w kwList_size hm
  rw [kw_contains s hl h0] at hc
  have hz1 : ((⟨#[32]⟩ : ByteArray) ++ s).size = 1 + s.size := ByteArray.size_append
  have hz : ((⟨#[32]⟩ : ByteArray) ++ s ++ ⟨#[32]⟩).size = s.size + 2 := by
    rw [ByteArray.size_append, hz1]
    show 1 + s.size + 1 = s.size + 2
    omega
  clear h0 hl hk
  go_enter Tryz.func111, Tryz.ntmps111
  go_wp2_with fail
  refine Calls.mono (show Calls _ _ _ _ _ from hc) ?_
  rintro e w' ⟨rfl, rfl⟩
  go_wp2_with fail
  go_ret
  exact ⟨rfl, rfl⟩

/-- The kind of a word. -/
def kindW (s : ByteArray) : Nat := if kindN s = 1 ∧ s.data.toList ∈ kwords then 2 else kindN s

set_option maxRecDepth 100000 in
set_option maxHeartbeats 1600000 in
theorem kind_any (s : ByteArray) (hs : s.size ≤ 4096) (w : World) (hm : MaxAt w) :
    Calls Tryz.prog 100 #[.string s] w fun e w' => e = .returned (.int .i64 (kindW s : Nat)) ∧ Below w.heap.size w w' := by
  by_cases hk : kindN s = 1
  · have hn := newScanner_any s w hs
    have hkw := fun w' h' => isKeyword_any s hs hk w' h'
    obtain ⟨t, ht⟩ : ∃ t, nextT s.data.toList 0 = t := ⟨_, rfl⟩
    obtain ⟨k1, k2, k3⟩ : t.at_ = 0 ∧ t.end_ = s.size ∧ t.kind = 1 := by
      unfold kindN at hk
      rw [ht] at hk
      by_cases h : t.at_ = 0 ∧ t.end_ = s.size
      · rw [if_pos h] at hk; exact ⟨h.1, h.2, hk⟩
      · rw [if_neg h] at hk; cases hk
    obtain ⟨r, hr⟩ : ∃ r, kindW s = r := ⟨_, rfl⟩
    have hr2 : r = if s.data.toList ∈ kwords then 2 else 1 := by
      rw [← hr]
      unfold kindW
      by_cases h : s.data.toList ∈ kwords
      · rw [if_pos ⟨hk, h⟩, if_pos h]
      · rw [if_neg (fun hh => h hh.2), if_neg h, hk]
    rw [hr]
    have HT := hidden ht
    have HR := hidden hr2
    have HM := hidden hm
    clear ht hk hr hr2 hm
    go_enter Tryz.func100, Tryz.ntmps100
    go_wp2_with fail
    (with_reducible refine hn.mono ?_)
    rintro e w1 ⟨b, rfl, hI, hB1, _⟩
    have hn0 : Calls Tryz.prog 110 #[scanV s b, .int .i64 0] w1 fun e w' => e = .returned (tokV (nextT s.data.toList 0)) ∧ Below w1.heap.size w1 w' := next_any hI 0 (Nat.zero_le _)
    rw [HT.out] at hn0
    have HB1 := hidden hB1
    clear hI hB1 hn
    go_wp2_with fail
    (with_reducible refine hn0.mono ?_)
    rintro e w2 ⟨rfl, hB2⟩
    have HB : Hid (Below w.heap.size w (w2.alloc (.cells #[.int .i64 t.kind, .int .i64 t.from_, .int .i64 t.at_, .int .i64 t.end_] 96))) := (bt HB1.out hB2).alloc (by have := HB1.out.size; have := hB2.size; omega) _
    clear hB2 hn0 HB1
    dsimp only [tokV]
    have e1 : ((t.at_ : Int) != 0) = false := by rw [k1]; rfl
    have e2 : ((t.end_ : Int) != (s.size : Int)) = false := by rw [k2]; simp
    have e3 : ((t.kind : Int) == 1) = true := by rw [k3]; rfl
    have HK := hidden k3
    have hkw2 := hkw _ (HM.out.keep HB.out)
    clear k1 k2 k3 hkw
    go_wp2_with fail
    (with_reducible refine hkw2.mono ?_)
    rintro e w3 ⟨rfl, rfl⟩
    by_cases hc : s.data.toList ∈ kwords
    · rw [decide_eq_true hc]
      have HV : Hid (r = 2) := HR.out.trans (if_pos hc)
      clear hkw2 hc
      go_wp2_with fail
      go_ret
      exact ⟨by rw [HV.out]; rfl, HB.out⟩
    · rw [decide_eq_false hc]
      have HV : Hid (r = t.kind) := (HR.out.trans (if_neg hc)).trans HK.out.symm
      clear hkw2 hc
      go_wp2_with fail
      go_ret
      exact ⟨by rw [HV.out]; rfl, HB.out⟩
  · have h : kindW s = kindN s := by unfold kindW; exact if_neg (fun h => hk h.1)
    rw [h]
    exact kind_plain s hs hk w

end Go.Proofs.YtlbaaiglebpjiaaGreatDoor
