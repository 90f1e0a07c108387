import Derived.Test.YtfmoophjdgejeaaGreatDoorDa
import Derived.Test.YtfmoophjdgejeaaGreatDoorDb
import Derived.Test.YtfmoophjdgejeaaGreatDoorJh
/-
  The text of a cell is read as the cell, whatever stands between its words. No program stands here.
-/
namespace Go.Proofs.YtfmoophjdgejeaaGreatDoor
open Go.RowKit Go.Shelf Go.Lib

/-- What may stand between two words here. -/
def gapsC : List (List UInt8) := [[], [32], [10], [35, 32, 120, 10]]

theorem gapC_skip (g : List UInt8) (hg : g ∈ gapsC) (x : List UInt8) : skipF false (g ++ x) = g.length + skipF false x := by
  simp only [gapsC, List.mem_cons, List.not_mem_nil, or_false] at hg
  rcases hg with rfl | rfl | rfl | rfl <;> simp [skipF, whiteB] <;> omega

/-- The bytes that may stand behind a word at once. -/
def stopsB (k : Nat) (c : UInt8) : Bool := if k = 1 then !partB c else if k = 3 then !digitB c else true

theorem gapC_head (g : List UInt8) (hg : g ∈ gapsC) : g = [] ∨ ∃ c r, g = c :: r ∧ ∀ k, stopsB k c = true := by
  have key : ∀ c : UInt8, partB c = false → digitB c = false → ∀ k, stopsB k c = true := fun c h1 h2 k => by
    unfold stopsB
    rw [h1, h2]
    split
    · rfl
    · split <;> rfl
  simp only [gapsC, List.mem_cons, List.not_mem_nil, or_false] at hg
  rcases hg with rfl | rfl | rfl | rfl
  · exact .inl rfl
  · exact .inr ⟨_, _, rfl, key _ (by decide) (by decide)⟩
  · exact .inr ⟨_, _, rfl, key _ (by decide) (by decide)⟩
  · exact .inr ⟨_, _, rfl, key _ (by decide) (by decide)⟩

/-- The words of a cell's text. -/
def GoodW (k : Nat) (w : List UInt8) : Prop := IsWord k w ∧ (k = 1 ∨ k = 3 ∨ (k = 4 ∧ (w = [40] ∨ w = [41] ∨ w = [44])))

theorem tok_stops {k : Nat} {w : List UInt8} {c : UInt8} (t : List UInt8) (h : GoodW k w) (hc : stopsB k c = true) : tokF (w ++ c :: t) = (k, w.length) := by
  obtain ⟨hw, hk⟩ := h
  have hne := hw.ne
  have htok := hw.tok
  cases w with
  | nil => exact absurd rfl hne
  | cons a u =>
    have h1 := (tok_iff k a u []).1 (by rw [List.append_nil]; simpa using htok)
    refine (show tokF (a :: (u ++ c :: t)) = (k, u.length + 1) from ?_)
    rw [tok_iff]
    rcases hk with rfl | rfl | ⟨rfl, hw4⟩
    · have hp : partB c = false := by simpa [stopsB] using hc
      by_cases hl : letterB a = true
      · rw [if_pos hl] at h1 ⊢
        exact ⟨rfl, h1.2.1, by rw [List.takeWhile_cons, hp]; rfl⟩
      · rw [if_neg hl] at h1
        by_cases hd : digitB a = true
        · rw [if_pos hd] at h1; cases h1.1
        · rw [if_neg hd] at h1
          by_cases hs : 0 < symL (a :: (u ++ []))
          · rw [if_pos hs] at h1; cases h1.1
          · rw [if_neg hs] at h1; exact absurd h1.1 (by decide)
    · have hp : digitB c = false := by simpa [stopsB] using hc
      by_cases hl : letterB a = true
      · rw [if_pos hl] at h1; cases h1.1
      · rw [if_neg hl] at h1 ⊢
        by_cases hd : digitB a = true
        · rw [if_pos hd] at h1 ⊢
          exact ⟨rfl, h1.2.1, by rw [List.takeWhile_cons, hp]; rfl⟩
        · rw [if_neg hd] at h1
          by_cases hs : 0 < symL (a :: (u ++ []))
          · rw [if_pos hs] at h1; cases h1.1
          · rw [if_neg hs] at h1; exact absurd h1.1 (by decide)
    · have ha : u = [] ∧ (a = 40 ∨ a = 41 ∨ a = 44) := by
        rcases hw4 with h | h | h <;> (injection h with h2 h3; exact ⟨h3, by simp [h2]⟩)
      obtain ⟨rfl, ha⟩ := ha
      have hs : symL (a :: ([] ++ c :: t)) = 1 := by
        show symL (a :: c :: t) = 1
        have h2 : twoB a c = false := by
          rcases ha with rfl | rfl | rfl <;> (unfold twoB; simp; try decide)
        rw [symL, h2]
        rcases ha with rfl | rfl | rfl <;> rfl
      rw [if_neg (by rcases ha with rfl | rfl | rfl <;> decide), if_neg (by rcases ha with rfl | rfl | rfl <;> decide), hs, if_pos (by decide)]
      exact ⟨rfl, rfl⟩

/-- Two words may follow each other: a gap between them, or the second one's beginning ends the first. -/
def chainC : List (List UInt8 × (Nat × List UInt8)) → Prop
  | x :: y :: r => (y.1 ≠ [] ∨ ∃ d u, y.2.2 = d :: u ∧ stopsB x.2.1 d = true) ∧ chainC (y :: r)
  | _ => True

theorem reads_chain : ∀ xs : List (List UInt8 × (Nat × List UInt8)), (∀ x ∈ xs, x.1 ∈ gapsC ∧ GoodW x.2.1 x.2.2) → chainC xs → Reads (spaced xs) (xs.map (·.2))
  | [], _, _ => Reads.nil
  | [x], h, _ => by
    obtain ⟨hg, hw⟩ := h x List.mem_cons_self
    show Reads (x.1 ++ (x.2.2 ++ [])) [x.2]
    exact Reads.skip (hw.1.reads (by rw [List.append_nil]; exact hw.1.tok) Reads.nil) x.1 (gapC_skip x.1 hg _)
  | x :: y :: r, h, hc => by
    obtain ⟨hg, hw⟩ := h x List.mem_cons_self
    obtain ⟨hgy, hwy⟩ := h y (by simp)
    have ih := reads_chain (y :: r) (fun z hz => h z (List.mem_cons_of_mem _ hz)) hc.2
    show Reads (x.1 ++ (x.2.2 ++ spaced (y :: r))) (x.2 :: (y :: r).map (·.2))
    refine Reads.skip ?_ x.1 (gapC_skip x.1 hg _)
    refine hw.1.reads ?_ ih
    rw [spaced]
    rcases gapC_head y.1 hgy with h0 | ⟨c, s, h0, hst⟩
    · rcases hc.1 with h1 | ⟨d, u, h1, h2⟩
      · exact absurd h0 h1
      · rw [h0, h1, List.nil_append, List.cons_append]
        exact tok_stops _ hw h2
    · rw [h0, List.cons_append]
      exact tok_stops _ hw (hst _)

/-- The words of a call, with what stands ahead of each: 'a' ahead of all but the name and the numbers behind a comma, 'b' ahead of those. -/
def tailX (a b : List UInt8) : List Nat → List (List UInt8 × (Nat × List UInt8))
  | [] => [(a, (4, [41]))]
  | n :: r => (a, (4, [44])) :: (b, (3, Lib.decDigits n)) :: tailX a b r
def argsX (a b : List UInt8) : List Nat → List (List UInt8 × (Nat × List UInt8))
  | [] => [(a, (4, [41]))]
  | n :: r => (a, (3, Lib.decDigits n)) :: tailX a b r
def callX (a b nm : List UInt8) (l : List Nat) : List (List UInt8 × (Nat × List UInt8)) := ([], (1, nm)) :: (a, (4, [40])) :: argsX a b l

def tailK : List Nat → List (Nat × List UInt8)
  | [] => [(4, [41])]
  | n :: r => (4, [44]) :: (3, Lib.decDigits n) :: tailK r
def argsK : List Nat → List (Nat × List UInt8)
  | [] => [(4, [41])]
  | n :: r => (3, Lib.decDigits n) :: tailK r
def callK (nm : List UInt8) (l : List Nat) : List (Nat × List UInt8) := (1, nm) :: (4, [40]) :: argsK l

theorem tail_map (a b : List UInt8) : ∀ l : List Nat, (tailX a b l).map (·.2) = tailK l
  | [] => rfl
  | n :: r => by rw [tailX, tailK, List.map_cons, List.map_cons, tail_map a b r]
theorem call_map (a b nm : List UInt8) (l : List Nat) : (callX a b nm l).map (·.2) = callK nm l := by
  unfold callX callK
  rw [List.map_cons, List.map_cons]
  cases l with
  | nil => rfl
  | cons n r => rw [argsX, argsK, List.map_cons, tail_map]

theorem dec_word {n : Nat} (h : n ≤ 6) : GoodW 3 (Lib.decDigits n) ∧ ∃ d, Lib.decDigits n = [d] ∧ digitB d = true := by
  rw [dec_one h]
  refine ⟨⟨?_, .inr (.inl rfl)⟩, _, rfl, ?_⟩
  · match n, h with
    | 0, _ => exact ⟨by decide, by decide, by decide⟩
    | 1, _ => exact ⟨by decide, by decide, by decide⟩
    | 2, _ => exact ⟨by decide, by decide, by decide⟩
    | 3, _ => exact ⟨by decide, by decide, by decide⟩
    | 4, _ => exact ⟨by decide, by decide, by decide⟩
    | 5, _ => exact ⟨by decide, by decide, by decide⟩
    | 6, _ => exact ⟨by decide, by decide, by decide⟩
  · match n, h with
    | 0, _ => decide
    | 1, _ => decide
    | 2, _ => decide
    | 3, _ => decide
    | 4, _ => decide
    | 5, _ => decide
    | 6, _ => decide

theorem sym_words : GoodW 4 [40] ∧ GoodW 4 [41] ∧ GoodW 4 [44] :=
  ⟨⟨⟨by decide, by decide, by decide⟩, .inr (.inr ⟨rfl, .inl rfl⟩)⟩, ⟨⟨by decide, by decide, by decide⟩, .inr (.inr ⟨rfl, .inr (.inl rfl)⟩)⟩, ⟨⟨by decide, by decide, by decide⟩, .inr (.inr ⟨rfl, .inr (.inr rfl)⟩)⟩⟩

theorem tail_good {a b : List UInt8} (ha : a ∈ gapsC) (hb : b ∈ gapsC) : ∀ {l : List Nat}, (∀ n ∈ l, n ≤ 6) → ∀ x ∈ tailX a b l, x.1 ∈ gapsC ∧ GoodW x.2.1 x.2.2
  | [], _, x, hx => by
    simp only [tailX, List.mem_cons, List.not_mem_nil, or_false] at hx
    subst hx
    exact ⟨ha, sym_words.2.1⟩
  | n :: r, h, x, hx => by
    rw [tailX] at hx
    rcases List.mem_cons.1 hx with rfl | hx
    · exact ⟨ha, sym_words.2.2⟩
    · rcases List.mem_cons.1 hx with rfl | hx
      · exact ⟨hb, (dec_word (h n List.mem_cons_self)).1⟩
      · exact tail_good ha hb (fun m hm => h m (List.mem_cons_of_mem _ hm)) x hx

theorem tail_chain {a b : List UInt8} : ∀ {l : List Nat} {x : List UInt8 × (Nat × List UInt8)}, x.2.1 = 3 → (∀ n ∈ l, n ≤ 6) → chainC (x :: tailX a b l)
  | [], x, hx, _ => ⟨.inr ⟨41, [], rfl, by rw [hx]; decide⟩, trivial⟩
  | n :: r, x, hx, h => by
    rw [tailX]
    obtain ⟨d, hd, hdd⟩ := (dec_word (h n List.mem_cons_self)).2
    refine ⟨.inr ⟨44, [], rfl, by rw [hx]; decide⟩, .inr ⟨d, [], hd, rfl⟩, ?_⟩
    exact tail_chain rfl (fun m hm => h m (List.mem_cons_of_mem _ hm))

theorem call_reads {a b nm : List UInt8} {l : List Nat} (ha : a ∈ gapsC) (hb : b ∈ gapsC) (hn : IsWord 1 nm) (h6 : ∀ n ∈ l, n ≤ 6) : Reads (spaced (callX a b nm l)) (callK nm l) := by
  rw [← call_map a b nm l]
  refine reads_chain _ (fun x hx => ?_) ?_
  · unfold callX at hx
    rcases List.mem_cons.1 hx with rfl | hx
    · exact ⟨by simp [gapsC], hn, .inl rfl⟩
    · rcases List.mem_cons.1 hx with rfl | hx
      · exact ⟨ha, sym_words.1⟩
      · cases l with
        | nil =>
          simp only [argsX, List.mem_cons, List.not_mem_nil, or_false] at hx
          subst hx
          exact ⟨ha, sym_words.2.1⟩
        | cons n r =>
          rw [argsX] at hx
          rcases List.mem_cons.1 hx with rfl | hx
          · exact ⟨ha, (dec_word (h6 n List.mem_cons_self)).1⟩
          · exact tail_good ha hb (fun m hm => h6 m (List.mem_cons_of_mem _ hm)) x hx
  · unfold callX
    refine ⟨.inr ⟨40, [], rfl, rfl⟩, ?_⟩
    cases l with
    | nil => exact ⟨.inr ⟨41, [], rfl, rfl⟩, trivial⟩
    | cons n r =>
      rw [argsX]
      obtain ⟨d, hd, hdd⟩ := (dec_word (h6 n List.mem_cons_self)).2
      refine ⟨.inr ⟨d, [], hd, rfl⟩, tail_chain rfl (fun m hm => h6 m (List.mem_cons_of_mem _ hm))⟩

/-- The text of a cell. -/
theorem spaced_tail : ∀ l : List Nat, spaced (tailX [] [32] l) = Lib.joinTail [44, 32] (l.map Lib.decDigits) ++ [41]
  | [] => rfl
  | n :: r => by
    rw [tailX, spaced, spaced, spaced_tail r, List.map_cons]
    simp [Lib.joinTail]

theorem spaced_fmt (nm : ByteArray) (l : List Nat) : spaced (callX [] [32] nm.data.toList l) = (fmtS nm l).data.toList := by
  have e : (fmtS nm l).data.toList = nm.data.toList ++ 40 :: (Lib.join (l.map Lib.decDigits) [44, 32] ++ [41]) := by
    unfold fmtS joinS
    simp only [ByteArray.data_append, Array.toList_append]
    simp
  rw [e]
  unfold callX
  rw [spaced, spaced]
  cases l with
  | nil => simp [argsX, spaced, Lib.join_nil]
  | cons n r =>
    rw [argsX, spaced, spaced_tail, List.map_cons, Lib.join_cons]
    simp

/-- The words, joined. -/
theorem spaced_join_tail (g : List UInt8) : ∀ l : List Nat, spaced (tailX g g l) = Lib.joinTail g ((tailK l).map (·.2))
  | [] => by simp [tailX, tailK, spaced, Lib.joinTail]
  | n :: r => by
    rw [tailX, spaced, spaced, spaced_join_tail g r, tailK, List.map_cons, List.map_cons]
    simp [Lib.joinTail]

theorem spaced_join (g nm : List UInt8) (l : List Nat) : Lib.join ((callK nm l).map (·.2)) g = spaced (callX g g nm l) := by
  unfold callK callX
  rw [List.map_cons, Lib.join_cons, spaced, spaced]
  cases l with
  | nil => simp [argsK, argsX, spaced, Lib.joinTail]
  | cons n r =>
    rw [argsK, argsX, spaced, spaced_join_tail]
    simp [Lib.joinTail]

/-- Both texts have the words of the call. -/
theorem words_fmt {nm : ByteArray} {l : List Nat} (hn : IsWord 1 nm.data.toList) (h6 : ∀ n ∈ l, n ≤ 6) : wordsB (fmtS nm l) = (callK nm.data.toList l).map ba := by
  refine words_of ?_
  rw [← spaced_fmt]
  exact call_reads (by simp [gapsC]) (by simp [gapsC]) hn h6

theorem words_join {nm : ByteArray} {l : List Nat} {g : List UInt8} (hg : g ∈ gapsC) (hn : IsWord 1 nm.data.toList) (h6 : ∀ n ∈ l, n ≤ 6) {s : ByteArray} (hs : s.data.toList = Lib.join ((callK nm.data.toList l).map (·.2)) g) : wordsB s = (callK nm.data.toList l).map ba := by
  refine words_of ?_
  rw [hs, spaced_join]
  exact call_reads hg hg hn h6

theorem num_dec {n : Nat} (h : n ≤ 6) : numOf (ba (3, Lib.decDigits n)) = some (n : Int) := by
  rw [dec_one h]
  match n, h with
  | 0, _ => exact (show numOf (ba (3, [48])) = some 0 by kernel_rfl)
  | 1, _ => exact (show numOf (ba (3, [49])) = some 1 by kernel_rfl)
  | 2, _ => exact (show numOf (ba (3, [50])) = some 2 by kernel_rfl)
  | 3, _ => exact (show numOf (ba (3, [51])) = some 3 by kernel_rfl)
  | 4, _ => exact (show numOf (ba (3, [52])) = some 4 by kernel_rfl)
  | 5, _ => exact (show numOf (ba (3, [53])) = some 5 by kernel_rfl)
  | 6, _ => exact (show numOf (ba (3, [54])) = some 6 by kernel_rfl)

theorem dec_ne {n : Nat} (h : n ≤ 6) : ba (3, Lib.decDigits n) ≠ rparS := by
  rw [dec_one h]
  match n, h with
  | 0, _ => decide
  | 1, _ => decide
  | 2, _ => decide
  | 3, _ => decide
  | 4, _ => decide
  | 5, _ => decide
  | 6, _ => decide

theorem args_tail : ∀ {l : List Nat}, (∀ n ∈ l, n ≤ 6) → argsL false ((tailK l).map ba) = some (natL l, [])
  | [], _ => rfl
  | n :: r, h => by
    rw [tailK, List.map_cons, List.map_cons, args_next_some (z := (n : Int)) (by rw [List.head?_cons]; decide) (by rfl) (by rw [List.tail_cons, List.headD_cons]; exact num_dec (h n List.mem_cons_self))]
    rw [List.tail_cons, List.tail_cons, args_tail (fun m hm => h m (List.mem_cons_of_mem _ hm))]
    rfl

theorem call_words {nm : ByteArray} {l : List Nat} (hk : kindW nm = 1) (h6 : ∀ n ∈ l, n ≤ 6) : callOf ((callK nm.data.toList l).map ba) = some (nm, natL l) := by
  unfold callK callOf
  rw [List.map_cons, List.map_cons, List.headD_cons, List.tail_cons, ba_eq, if_pos ⟨hk, rfl⟩, List.tail_cons]
  cases l with
  | nil => rfl
  | cons n r =>
    rw [argsK, List.map_cons, args_first_some (z := (n : Int)) (by rw [List.head?_cons]; exact fun h => dec_ne (h6 n List.mem_cons_self) (Option.some.inj h)) (by rw [List.headD_cons]; exact num_dec (h6 n List.mem_cons_self)), List.tail_cons, args_tail (fun m hm => h6 m (List.mem_cons_of_mem _ hm))]
    rfl

end Go.Proofs.YtfmoophjdgejeaaGreatDoor
