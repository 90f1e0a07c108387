/-
  Plain facts on lists of bytes and on the places of their line feeds; no program stands here.
-/
namespace Go.Proofs.YtfmoophjdgejeaaGreatDoor

/-- The places of the line feeds among the first k bytes. -/
def feedsTo (l : List UInt8) (k : Nat) : List Nat := (List.range k).filter fun i => l.getD i 0 == 10
def feedsOf (l : List UInt8) : List Nat := feedsTo l l.length

theorem feedsTo_succ (l : List UInt8) (k : Nat) : feedsTo l (k + 1) = feedsTo l k ++ (if l.getD k 0 == 10 then [k] else []) := by
  unfold feedsTo
  rw [List.range_succ, List.filter_append]
  cases h : (l.getD k 0 == 10) <;> simp only [List.filter_cons, List.filter_nil, h] <;> simp

theorem feedsTo_mem {l : List UInt8} {k x : Nat} : x ∈ feedsTo l k ↔ x < k ∧ l.getD x 0 = 10 := by
  unfold feedsTo; simp

theorem feedsTo_len_mono (l : List UInt8) {j k : Nat} (h : j ≤ k) : (feedsTo l j).length ≤ (feedsTo l k).length := by
  obtain ⟨d, rfl⟩ := Nat.exists_eq_add_of_le h
  induction d with
  | zero => exact Nat.le_refl _
  | succ d ih => rw [← Nat.add_assoc, feedsTo_succ, List.length_append]; have := ih (by omega); omega

theorem feedsTo_count (l : List UInt8) (k : Nat) (h : k ≤ l.length) : (feedsTo l k).length = (l.take k).count 10 := by
  induction k with
  | zero => simp [feedsTo]
  | succ k ih =>
    have hk : k < l.length := by omega
    rw [feedsTo_succ, List.length_append, ih (by omega), List.take_succ_eq_append_getElem hk, List.count_append]
    rw [show l.getD k 0 = l[k] by rw [List.getD_eq_getElem?_getD, List.getElem?_eq_getElem hk]; rfl]
    by_cases e : l[k] = 10 <;> simp [e]

theorem feedsOf_len (l : List UInt8) : (feedsOf l).length = l.count 10 := by
  unfold feedsOf; rw [feedsTo_count l _ (Nat.le_refl _), List.take_length]

theorem feedsOf_le (l : List UInt8) : (feedsOf l).length ≤ l.length := by rw [feedsOf_len]; exact List.count_le_length

theorem feedsOf_lt (l : List UInt8) : ∀ x ∈ feedsOf l, x < l.length := fun _ hx => (feedsTo_mem.1 hx).1

theorem feedsOf_sorted (l : List UInt8) : (feedsOf l).Pairwise (· < ·) := List.Pairwise.filter _ List.pairwise_lt_range

/-- The line of an offset. -/
def lineN (fs : List Nat) (a : Int) : Nat := 1 + fs.countP fun x : Nat => decide ((x : Int) < a)

theorem map_getD_range (fs : List Nat) : (List.range fs.length).map (fun i => fs.getD i 0) = fs := by
  apply List.ext_getElem (by simp)
  intro i h1 h2
  simp [List.getElem?_eq_getElem h2]

theorem countP_range_getD (fs : List Nat) (p : Nat → Bool) : (List.range fs.length).countP (fun i => p (fs.getD i 0)) = fs.countP p := by
  conv => rhs; rw [← map_getD_range fs, List.countP_map]
  rfl

theorem sorted_getD {fs : List Nat} (h : fs.Pairwise (· < ·)) {i j : Nat} (hij : i ≤ j) (hj : j < fs.length) : fs.getD i 0 ≤ fs.getD j 0 := by
  rw [List.getD_eq_getElem?_getD, List.getD_eq_getElem?_getD, List.getElem?_eq_getElem (by omega), List.getElem?_eq_getElem hj]
  rcases Nat.lt_or_eq_of_le hij with h1 | rfl
  · exact Nat.le_of_lt (List.pairwise_iff_getElem.1 h i j (by omega) hj h1)
  · exact Nat.le_refl _

theorem getD_bytes (s : ByteArray) (k : Nat) (h : k < s.size) : s.data.toList.getD k 0 = s[k] := by
  rw [List.getD_eq_getElem?_getD, List.getElem?_eq_getElem (by simpa using h)]; rfl

end Go.Proofs.YtfmoophjdgejeaaGreatDoor
/-
  Plain facts: how line and column go on from one offset to the next.
-/

namespace Go.Proofs.YtfmoophjdgejeaaGreatDoor

/-- The end of line k (from 1 on), the line feeds being at fs and the text len bytes long. -/
def endN (fs : List Nat) (len k : Nat) : Nat := fs.getD (k - 1) len
/-- The start of line k. -/
def startN (fs : List Nat) (len k : Nat) : Nat := if k = 1 then 0 else endN fs len (k - 1) + 1

theorem countP_lt_succ (fs : List Nat) (k : Nat) : fs.countP (fun x : Nat => decide ((x : Int) < ((k + 1 : Nat) : Int))) = fs.countP (fun x : Nat => decide ((x : Int) < (k : Int))) + fs.count k := by
  induction fs with
  | nil => rfl
  | cons x r ih =>
    rw [List.countP_cons, List.countP_cons, List.count_cons, ih]
    by_cases h1 : x < k
    · have : ¬ x = k := by omega
      simp [this]; rw [if_pos (by omega), if_pos h1]; omega
    · by_cases h2 : x = k
      · simp [h2]; rw [if_pos (by omega)]; omega
      · simp [h2]; rw [if_neg (by omega), if_neg (by omega)]; omega

theorem count_feeds (l : List UInt8) (k : Nat) (h : k < l.length) : (feedsOf l).count k = if l.getD k 0 = 10 then 1 else 0 := by
  have hnd : (feedsOf l).Nodup := (feedsOf_sorted l).imp fun h => Nat.ne_of_lt h
  split
  · rename_i e
    have hm : k ∈ feedsOf l := feedsTo_mem.2 ⟨h, e⟩
    have h1 := List.nodup_iff_count.1 hnd k
    have h2 := List.count_pos_iff.2 hm
    omega
  · rename_i e
    exact List.count_eq_zero.2 fun hm => e (feedsTo_mem.1 hm).2

theorem lineN_le (fs : List Nat) (a : Int) : lineN fs a ≤ fs.length + 1 := by
  unfold lineN; have := List.countP_le_length (p := fun x : Nat => decide ((x : Int) < a)) (l := fs); omega
theorem lineN_ge (fs : List Nat) (a : Int) : 1 ≤ lineN fs a := by unfold lineN; omega

theorem lineN_zero (fs : List Nat) : lineN fs ((0 : Nat) : Int) = 1 := by
  unfold lineN
  rw [List.countP_eq_zero.2]
  intro x _; simp

theorem lineN_succ (l : List UInt8) (k : Nat) (h : k < l.length) : lineN (feedsOf l) ((k + 1 : Nat) : Int) = lineN (feedsOf l) (k : Int) + if l.getD k 0 = 10 then 1 else 0 := by
  unfold lineN; rw [countP_lt_succ, count_feeds l k h]; omega

theorem lineN_feeds (l : List UInt8) (k : Nat) (h : k ≤ l.length) : lineN (feedsOf l) (k : Int) = 1 + (feedsTo l k).length := by
  induction k with
  | zero => rw [lineN_zero]; simp [feedsTo]
  | succ k ih =>
    rw [lineN_succ l k (by omega), ih (by omega), feedsTo_succ, List.length_append]
    by_cases e : l.getD k 0 = 10 <;> simp only [e, beq_iff_eq, if_true, if_false, List.length_cons, List.length_nil] <;> omega

theorem feedsTo_prefix (l : List UInt8) {j k : Nat} (h : j ≤ k) : feedsTo l j <+: feedsTo l k := by
  obtain ⟨d, rfl⟩ := Nat.exists_eq_add_of_le h
  induction d with
  | zero => exact List.prefix_refl _
  | succ d ih => rw [← Nat.add_assoc, feedsTo_succ]; exact (ih (by omega)).trans (List.prefix_append _ _)

theorem feed_at (l : List UInt8) (k : Nat) (h : k < l.length) (e : l.getD k 0 = 10) (len : Nat) : (feedsOf l).getD (feedsTo l k).length len = k := by
  obtain ⟨t, ht⟩ := feedsTo_prefix l (show k + 1 ≤ l.length by omega)
  have hs := feedsTo_succ l k
  rw [e] at hs
  simp only [beq_self_eq_true, if_true] at hs
  unfold feedsOf
  rw [← ht, hs, List.getD_eq_getElem?_getD, List.append_assoc, List.getElem?_append_right (Nat.le_refl _), Nat.sub_self]
  rfl

theorem startN_zero (fs : List Nat) (len : Nat) : startN fs len (lineN fs ((0 : Nat) : Int)) = 0 := by rw [lineN_zero]; rfl

theorem startN_succ (l : List UInt8) (len k : Nat) (h : k < l.length) :
    startN (feedsOf l) len (lineN (feedsOf l) ((k + 1 : Nat) : Int)) = if l.getD k 0 = 10 then k + 1 else startN (feedsOf l) len (lineN (feedsOf l) (k : Int)) := by
  rw [lineN_succ l k h]
  split
  · rename_i e
    rw [lineN_feeds l k (by omega)]
    unfold startN endN
    rw [if_neg (by omega), show 1 + (feedsTo l k).length + 1 - 1 - 1 = (feedsTo l k).length by omega, feed_at l k h e]
  · rfl

theorem startN_le (l : List UInt8) (len k : Nat) (h : k ≤ l.length) : startN (feedsOf l) len (lineN (feedsOf l) (k : Int)) ≤ k := by
  induction k with
  | zero => rw [startN_zero]; exact Nat.le_refl _
  | succ k ih => rw [startN_succ l len k (by omega)]; have := ih (by omega); split <;> omega

/-- What Position returns. -/
def posN (fs : List Nat) (len : Nat) (a : Int) : Int × Int :=
  if a < 0 ∨ len < a then (0, 0) else (((lineN fs a : Nat) : Int), a - (startN fs len (lineN fs a) : Nat) + 1)

/-- What Offset returns. -/
def offN (fs : List Nat) (len : Nat) (line col : Int) : Int × Bool :=
  if (1 ≤ line ∧ line ≤ fs.length + 1) ∧ 1 ≤ col ∧ col ≤ (endN fs len line.toNat : Int) - startN fs len line.toNat + 1 then ((startN fs len line.toNat : Int) + col - 1, true) else (0, false)

theorem sorted_lt_iff {fs : List Nat} (h : fs.Pairwise (· < ·)) (a : Int) : ∀ i, i < fs.length → (((fs.getD i 0 : Nat) : Int) < a ↔ i < fs.countP fun x : Nat => decide ((x : Int) < a)) := by
  induction fs with
  | nil => intro i hi; simp at hi
  | cons x r ih =>
    rw [List.pairwise_cons] at h
    intro i hi
    rw [List.countP_cons]
    by_cases hx : (x : Int) < a
    · rw [if_pos (by simpa using hx)]
      cases i with
      | zero => simpa using hx
      | succ i => rw [List.getD_cons_succ, ih h.2 i (by simpa using hi)]; omega
    · have h0 : r.countP (fun x : Nat => decide ((x : Int) < a)) = 0 := by
        rw [List.countP_eq_zero]; intro y hy; have := h.1 y hy; simp; omega
      rw [if_neg (by simpa using hx), h0]
      cases i with
      | zero => simpa using hx
      | succ i =>
        rw [List.getD_cons_succ, List.getD_eq_getElem?_getD, List.getElem?_eq_getElem (by simpa using hi)]
        have := h.1 _ (List.getElem_mem (l := r) (n := i) (by simpa using hi))
        simp; omega

theorem endN_ge (l : List UInt8) (k : Nat) (h : k ≤ l.length) : k ≤ endN (feedsOf l) l.length (lineN (feedsOf l) k) := by
  unfold endN lineN
  rw [Nat.add_sub_cancel_left]
  generalize hc : (feedsOf l).countP (fun x : Nat => decide ((x : Int) < (k : Int))) = c
  by_cases hl : c < (feedsOf l).length
  · have h1 := (not_congr (sorted_lt_iff (feedsOf_sorted l) k c hl)).2 (by omega)
    rw [List.getD_eq_getElem?_getD, List.getElem?_eq_getElem hl] at h1 ⊢
    simp at h1 ⊢; omega
  · rw [List.getD_eq_getElem?_getD, List.getElem?_eq_none (by omega)]; simpa using h

/-- Offset inverts Position. -/
theorem off_pos (l : List UInt8) (k : Nat) (h : k ≤ l.length) : offN (feedsOf l) l.length (posN (feedsOf l) l.length k).1 (posN (feedsOf l) l.length k).2 = ((k : Int), true) := by
  have h1 := startN_le l l.length k h
  have h2 := endN_ge l k h
  have h3 := lineN_le (feedsOf l) k
  have h4 := lineN_ge (feedsOf l) k
  unfold posN
  rw [if_neg (by omega)]
  unfold offN
  simp only [Int.toNat_natCast]
  rw [if_pos ⟨⟨by omega, by omega⟩, by omega, by omega⟩]
  congr 1; omega

/-- Between its start and its end an offset is in its line. -/
theorem line_of (l : List UInt8) (m k : Nat) (hm : m ≤ (feedsOf l).length) (h1 : startN (feedsOf l) l.length (m + 1) ≤ k) (h2 : k ≤ endN (feedsOf l) l.length (m + 1)) : lineN (feedsOf l) k = m + 1 := by
  have hs := sorted_lt_iff (feedsOf_sorted l) (k : Int)
  have hcl := List.countP_le_length (p := fun x : Nat => decide ((x : Int) < (k : Int))) (l := feedsOf l)
  unfold lineN
  generalize (feedsOf l).countP (fun x : Nat => decide ((x : Int) < (k : Int))) = c at *
  have c1 : ¬ c < m := by
    intro hlt
    have h5 := (not_congr (hs c (by omega))).2 (by omega)
    have h6 := sorted_getD (feedsOf_sorted l) (show c ≤ m - 1 by omega) (by omega)
    have h7 : startN (feedsOf l) l.length (m + 1) = (feedsOf l).getD (m - 1) 0 + 1 := by
      unfold startN endN
      rw [if_neg (by omega), show m + 1 - 1 - 1 = m - 1 by omega, List.getD_eq_getElem?_getD, List.getD_eq_getElem?_getD, List.getElem?_eq_getElem (by omega)]; rfl
    omega
  have c2 : ¬ m < c := by
    intro hlt
    have h5 := (hs m (by omega)).2 hlt
    have h7 : endN (feedsOf l) l.length (m + 1) = (feedsOf l).getD m 0 := by
      unfold endN
      rw [Nat.add_sub_cancel, List.getD_eq_getElem?_getD, List.getD_eq_getElem?_getD, List.getElem?_eq_getElem (by omega)]; rfl
    omega
  omega

/-- No other position has an offset. -/
theorem pos_off (l : List UInt8) (line col : Int) (h : (offN (feedsOf l) l.length line col).2 = true) :
    ∃ k : Nat, k ≤ l.length ∧ (offN (feedsOf l) l.length line col).1 = k ∧ posN (feedsOf l) l.length k = (line, col) := by
  unfold offN at h ⊢
  split at h
  · rename_i hc
    rw [if_pos hc]
    obtain ⟨⟨h1, h2⟩, h3, h4⟩ := hc
    obtain ⟨m, rfl⟩ : ∃ m : Nat, line = (m : Int) + 1 := ⟨(line - 1).toNat, by omega⟩
    rw [show ((m : Int) + 1).toNat = m + 1 by omega] at h4 ⊢
    have hm : m ≤ (feedsOf l).length := by omega
    have hend : endN (feedsOf l) l.length (m + 1) ≤ l.length := by
      unfold endN; rw [List.getD_eq_getElem?_getD]
      cases hk : (feedsOf l)[m + 1 - 1]? with
      | none => simp
      | some x => have := feedsOf_lt l x (List.mem_of_getElem? hk); simp; omega
    obtain ⟨k, hk⟩ : ∃ k : Nat, ((startN (feedsOf l) l.length (m + 1) : Nat) : Int) + col - 1 = k := ⟨((startN (feedsOf l) l.length (m + 1) : Nat) + col - 1).toNat, by omega⟩
    have hline : lineN (feedsOf l) k = m + 1 := line_of l m k hm (by omega) (by omega)
    refine ⟨k, by omega, hk, ?_⟩
    unfold posN
    rw [if_neg (by omega), hline]
    simp only [Prod.mk.injEq]
    omega
  · cases h

theorem start_le_end {fs : List Nat} {len : Nat} (h : fs.Pairwise (· < ·)) (hl : ∀ x ∈ fs, x < len) (k : Nat) (h1 : 1 ≤ k) (h2 : k ≤ fs.length + 1) : startN fs len k ≤ endN fs len k := by
  unfold startN
  split
  · omega
  · rename_i hk
    unfold endN
    rw [List.getD_eq_getElem?_getD, List.getD_eq_getElem?_getD, List.getElem?_eq_getElem (show k - 1 - 1 < fs.length by omega)]
    rcases Nat.lt_or_ge (k - 1) fs.length with h3 | h3
    · rw [List.getElem?_eq_getElem h3]
      exact List.pairwise_iff_getElem.1 h (k - 1 - 1) (k - 1) (by omega) h3 (by omega)
    · rw [List.getElem?_eq_none h3]
      exact hl _ (List.getElem_mem _)

theorem end_le_len (l : List UInt8) (k : Nat) : endN (feedsOf l) l.length k ≤ l.length := by
  unfold endN; rw [List.getD_eq_getElem?_getD]
  cases hk : (feedsOf l)[k - 1]? with
  | none => simp
  | some x => have := feedsOf_lt l x (List.mem_of_getElem? hk); simp; omega

/-- A line holds no line feed. -/
theorem line_plain (l : List UInt8) (m i : Nat) (hm : m ≤ (feedsOf l).length) (h1 : startN (feedsOf l) l.length (m + 1) ≤ i) (h2 : i < endN (feedsOf l) l.length (m + 1)) : l.getD i 0 ≠ 10 := by
  intro e
  have a := line_of l m i hm h1 (by omega)
  have b := line_of l m (i + 1) hm (by omega) (by omega)
  have c := lineN_succ l i (by have := end_le_len l (m + 1); omega)
  rw [if_pos e] at c
  omega

/-- Each line but the last one ends at a line feed, the last one at the end. -/
theorem line_end (l : List UInt8) (m : Nat) : (m < (feedsOf l).length → endN (feedsOf l) l.length (m + 1) < l.length ∧ l.getD (endN (feedsOf l) l.length (m + 1)) 0 = 10) ∧ ((feedsOf l).length ≤ m → endN (feedsOf l) l.length (m + 1) = l.length) := by
  unfold endN
  rw [List.getD_eq_getElem?_getD, Nat.add_sub_cancel]
  refine ⟨fun h => ?_, fun h => ?_⟩
  · rw [List.getElem?_eq_getElem h]
    have := feedsTo_mem.1 (List.getElem_mem (l := feedsOf l) h)
    exact this
  · rw [List.getElem?_eq_none h]; rfl

end Go.Proofs.YtfmoophjdgejeaaGreatDoor
/-
  Plain facts: classes of bytes, what is skipped, symbols; no program stands here.
-/

namespace Go.Proofs.YtfmoophjdgejeaaGreatDoor

def whiteB (c : UInt8) : Bool := c == 9 || c == 10 || c == 13 || c == 32
def letterB (c : UInt8) : Bool := decide (97 ≤ c.toNat) && decide (c.toNat ≤ 122)
def digitB (c : UInt8) : Bool := decide (48 ≤ c.toNat) && decide (c.toNat ≤ 57)
def partB (c : UInt8) : Bool := letterB c || digitB c || c == 95

/-- How many bytes at the beginning are white space and comments ('cm': within a comment). -/
def skipF : Bool → List UInt8 → Nat
  | _, [] => 0
  | true, c :: r => if c = 10 then skipF false r + 1 else skipF true r + 1
  | false, c :: r => if whiteB c = true then skipF false r + 1 else if c = 35 then skipF true r + 1 else 0

def oneB (a : UInt8) : Bool := decide (a ∈ [60, 62, 61, 43, 45, 42, 40, 41, 123, 125, 44, 58, 59])
def twoB (a b : UInt8) : Bool := (b == 61 && (a == 61 || a == 33 || a == 60 || a == 62)) || (a == 46 && b == 46)
def symL : List UInt8 → Nat
  | [] => 0
  | [a] => if oneB a then 1 else 0
  | a :: b :: _ => if twoB a b then 2 else if oneB a then 1 else 0

def endsB (l : List UInt8) : Bool := match l with
  | [] => true
  | c :: _ => whiteB c || c == 35 || letterB c || digitB c || decide (0 < symL l)

/-- How many bytes a wrong token goes on. -/
def wrongF : List UInt8 → Nat
  | [] => 0
  | c :: r => if endsB (c :: r) then 0 else wrongF r + 1

/-- The kind (a keyword counts as a name) and the length of the token at the beginning. -/
def tokF : List UInt8 → Nat × Nat
  | [] => (0, 0)
  | c :: r => if letterB c then (1, (r.takeWhile partB).length + 1) else if digitB c then (3, (r.takeWhile digitB).length + 1)
    else if 0 < symL (c :: r) then (4, symL (c :: r)) else (5, wrongF r + 1)

theorem skipF_le : ∀ (cm : Bool) (l : List UInt8), skipF cm l ≤ l.length
  | _, [] => by simp [skipF]
  | true, c :: r => by unfold skipF; have h1 := skipF_le false r; have h2 := skipF_le true r; split <;> simp <;> omega
  | false, c :: r => by unfold skipF; have h1 := skipF_le false r; have h2 := skipF_le true r; split <;> (try split) <;> simp <;> omega

/-- A comment goes on to its line's end. -/
theorem skip_comment (l : List UInt8) : ∀ (d : Nat), d ≤ l.length → (∀ i, i < d → l.getD i 0 ≠ 10) → (d = l.length ∨ l.getD d 0 = 10) → skipF true l = d + skipF false (l.drop d) := by
  induction l with
  | nil => intro d hd _ _; obtain rfl : d = 0 := by simpa using hd
           rfl
  | cons c r ih =>
    intro d hd hno hend
    cases d with
    | zero =>
      have h10 : c = 10 := by
        rcases hend with h | h
        · simp at h
        · simpa using h
      subst h10
      show skipF true (10 :: r) = 0 + skipF false (10 :: r)
      simp [skipF, whiteB]
    | succ d =>
      have h10 : c ≠ 10 := by have := hno 0 (by omega); simpa using this
      have := ih d (by simpa using hd) (fun i hi => by have := hno (i + 1) (by omega); simpa using this) (by
        rcases hend with h | h
        · left; simpa using h
        · right; simpa using h)
      have e : skipF true (c :: r) = if c = 10 then skipF false r + 1 else skipF true r + 1 := by rw [skipF]
      rw [List.drop_succ_cons, e, if_neg h10, this]
      omega

end Go.Proofs.YtfmoophjdgejeaaGreatDoor
