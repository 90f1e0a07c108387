import Derived.Test.YtdcpfpifecnfmaaDoorLf
import Derived.Test.YtdcpfpifecnfmaaDoorRt
/-
  The tokens of a text, and split's iterator.
-/
namespace Go.Proofs.YtdcpfpifecnfmaaDoor
open Go.RowKit Go.Shelf Go.Lib

theorem wrongF_le (l : List UInt8) : wrongF l ≤ l.length := by
  induction l with
  | nil => simp [wrongF]
  | cons c r ih => unfold wrongF; split <;> simp <;> omega

theorem symL_le (l : List UInt8) : symL l ≤ l.length := by
  cases l with
  | nil => simp [symL]
  | cons a r =>
    cases r with
    | nil => rw [symL]; split <;> simp
    | cons b r =>
      rw [symL]
      split
      · simp
      · split <;> simp

theorem takeWhile_le (p : UInt8 → Bool) (l : List UInt8) : (l.takeWhile p).length ≤ l.length := (List.takeWhile_sublist p).length_le

theorem tokF_pos (c : UInt8) (r : List UInt8) : 0 < (tokF (c :: r)).1 ∧ 0 < (tokF (c :: r)).2 ∧ (tokF (c :: r)).2 ≤ r.length + 1 := by
  have h1 := takeWhile_le partB r
  have h2 := takeWhile_le digitB r
  have h3 := wrongF_le r
  have h4 := symL_le (c :: r)
  rw [List.length_cons] at h4
  have e : tokF (c :: r) = if letterB c then (1, (r.takeWhile partB).length + 1) else if digitB c then (3, (r.takeWhile digitB).length + 1)
    else if 0 < symL (c :: r) then (4, symL (c :: r)) else (5, wrongF r + 1) := by rw [tokF]
  rw [e]
  split
  · exact ⟨Nat.succ_pos _, by simp, by show _ + 1 ≤ _; omega⟩
  · split
    · exact ⟨Nat.succ_pos _, by simp, by show _ + 1 ≤ _; omega⟩
    · split
      · exact ⟨Nat.succ_pos _, by assumption, h4⟩
      · exact ⟨Nat.succ_pos _, by simp, by show _ + 1 ≤ _; omega⟩

theorem nextT_facts (l : List UInt8) (k : Nat) (h : k ≤ l.length) :
    (nextT l k).from_ = k ∧ k ≤ (nextT l k).at_ ∧ (nextT l k).at_ ≤ (nextT l k).end_ ∧ (nextT l k).end_ ≤ l.length ∧
      ((nextT l k).kind = 0 → (nextT l k).at_ = l.length) ∧ ((nextT l k).kind ≠ 0 → (nextT l k).at_ < (nextT l k).end_) := by
  have h1 : k ≤ skipTo l k := by unfold skipTo; omega
  have h2 := skipTo_le l k h
  refine ⟨rfl, h1, Nat.le_add_right _ _, ?_, ?_, ?_⟩
  · show skipTo l k + (tokF (l.drop (skipTo l k))).2 ≤ _
    rcases Nat.lt_or_eq_of_le h2 with h3 | h3
    · rw [drop_get l _ h3]
      have := (tokF_pos (l.getD (skipTo l k) 0) (l.drop (skipTo l k + 1))).2.2
      rw [List.length_drop] at this
      omega
    · rw [h3]; simp [tokF]
  · show (tokF (l.drop (skipTo l k))).1 = 0 → skipTo l k = _
    intro h0
    rcases Nat.lt_or_eq_of_le h2 with h3 | h3
    · rw [drop_get l _ h3] at h0
      have := (tokF_pos (l.getD (skipTo l k) 0) (l.drop (skipTo l k + 1))).1
      omega
    · exact h3
  · show (tokF (l.drop (skipTo l k))).1 ≠ 0 → skipTo l k < skipTo l k + (tokF (l.drop (skipTo l k))).2
    intro h0
    rcases Nat.lt_or_eq_of_le h2 with h3 | h3
    · rw [drop_get l _ h3]
      have := (tokF_pos (l.getD (skipTo l k) 0) (l.drop (skipTo l k + 1))).2.1
      omega
    · rw [h3] at h0; simp [tokF] at h0

def toksF : Nat → List UInt8 → Nat → List Tok
  | 0, _, _ => []
  | f + 1, l, k => nextT l k :: (if (nextT l k).kind = 0 then [] else toksF f l (nextT l k).end_)
/-- The tokens of a text, with names for keywords. -/
def toks (l : List UInt8) : List Tok := toksF (l.length + 1) l 0

/-- The index lies between two marks. -/
def IdxIn (lo S : Nat) (w : World) (b : Nat) (s : ByteArray) : Prop :=
  lo ≤ b ∧ b < S ∧ S ≤ w.heap.size ∧ Idx w b s (feedsOf s.data.toList) ∧ ∀ bf o n cap, w.cell? ⟨b, 1, none⟩ = some (.slice (some ⟨bf, o, none⟩) n cap) → lo ≤ bf ∧ bf < S

theorem IdxIn.of {lo : Nat} {w : World} {b : Nat} {s : ByteArray} (h : Idx w b s (feedsOf s.data.toList)) (hf : IdxFrom lo w b) : IdxIn lo w.heap.size w b s := by
  obtain ⟨bf, cap, h1, h2, h3⟩ := h.feeds
  refine ⟨hf.1, h.own, Nat.le_refl _, h, fun bf' o n cap' hc => ?_⟩
  refine ⟨hf.2 _ _ _ _ hc, ?_⟩
  rw [h2] at hc
  have e : bf = bf' := by simp at hc; exact hc.1.1
  omega

theorem IdxIn.idx {lo S : Nat} {w : World} {b : Nat} {s : ByteArray} (h : IdxIn lo S w b s) : Idx w b s (feedsOf s.data.toList) := by
  obtain ⟨_, _, _, h, _⟩ := h; exact h

theorem IdxIn.mid {lo S : Nat} {w w' : World} {b : Nat} {s : ByteArray} (h : IdxIn lo S w b s) (hm : Mid lo S w w') : IdxIn lo S w' b s := by
  obtain ⟨a1, a2, a3, ⟨h1, h2, h3, hp, h4, h5, bf, cap, h6, h7, h8⟩, a4⟩ := h
  have hz := hm.size
  obtain ⟨b1, b2⟩ := a4 _ _ _ _ h7
  refine ⟨a1, a2, by omega, ⟨h1, h2, h3, hp, by omega, by rw [hm.cell (p := ⟨b, 0, none⟩) a1 a2]; exact h5, bf, cap, by omega, by rw [hm.cell (p := ⟨b, 1, none⟩) a1 a2]; exact h7, fun i hi => by rw [hm.cell (p := ⟨bf, i, none⟩) b1 b2]; exact h8 i hi⟩, fun bf o n cap hc => ?_⟩
  rw [hm.cell (p := ⟨b, 1, none⟩) a1 a2] at hc
  exact a4 _ _ _ _ hc

/-- What split's iterator keeps: the scanner, the token. -/
structure Scan4 (lo H S T b : Nat) (s : ByteArray) (t : Tok) (w : World) : Prop where
  h1 : lo ≤ S
  h2 : S < T
  h3 : T < H
  h4 : H ≤ w.heap.size
  ix : IdxIn lo S w b s
  c0 : w.cell? ⟨S, 0, none⟩ = some (.string s)
  c1 : w.cell? ⟨S, 1, none⟩ = some (.pointer (some ⟨b, 0, none⟩))
  t0 : w.cell? ⟨T, 0, none⟩ = some (.int .i64 t.kind)
  t1 : w.cell? ⟨T, 1, none⟩ = some (.int .i64 t.from_)
  t2 : w.cell? ⟨T, 2, none⟩ = some (.int .i64 t.at_)
  t3 : w.cell? ⟨T, 3, none⟩ = some (.int .i64 t.end_)
  y0 : w.frozen? ⟨T, 0, none⟩ = false
  y1 : w.frozen? ⟨T, 1, none⟩ = false
  y2 : w.frozen? ⟨T, 2, none⟩ = false
  y3 : w.frozen? ⟨T, 3, none⟩ = false

theorem Scan4.mid {lo H S T b : Nat} {s : ByteArray} {t : Tok} {w w' : World} (h : Scan4 lo H S T b s t w) (hm : Mid lo H w w') : Scan4 lo H S T b s t w' := by
  obtain ⟨h1, h2, h3, h4, ix, c0, c1, t0, t1, t2, t3, y0, y1, y2, y3⟩ := h
  have hz := hm.size
  have hl : lo ≤ T := by omega
  have hS : S < H := by omega
  exact ⟨h1, h2, h3, by omega, ix.mid ⟨hm.size, fun k a c => hm.block k a (by omega)⟩, (hm.cell (p := ⟨S, 0, none⟩) h1 hS).trans c0, (hm.cell (p := ⟨S, 1, none⟩) h1 hS).trans c1,
    (hm.cell (p := ⟨T, 0, none⟩) hl h3).trans t0, (hm.cell (p := ⟨T, 1, none⟩) hl h3).trans t1, (hm.cell (p := ⟨T, 2, none⟩) hl h3).trans t2, (hm.cell (p := ⟨T, 3, none⟩) hl h3).trans t3,
    (hm.frozen (p := ⟨T, 0, none⟩) hl h3).trans y0, (hm.frozen (p := ⟨T, 1, none⟩) hl h3).trans y1, (hm.frozen (p := ⟨T, 2, none⟩) hl h3).trans y2, (hm.frozen (p := ⟨T, 3, none⟩) hl h3).trans y3⟩

/-- A token is stored. -/
abbrev putTok (w : World) (T : Nat) (t : Tok) : World :=
  (((w.setCell ⟨T, 0, none⟩ (.int .i64 t.kind)).setCell ⟨T, 1, none⟩ (.int .i64 t.from_)).setCell ⟨T, 2, none⟩ (.int .i64 t.at_)).setCell ⟨T, 3, none⟩ (.int .i64 t.end_)

theorem Scan4.put {lo H S T b : Nat} {s : ByteArray} {t : Tok} {w : World} (h : Scan4 lo H S T b s t w) (t' : Tok) : Scan4 lo H S T b s t' (putTok w T t') := by
  obtain ⟨h1, h2, h3, h4, ix, c0, c1, t0, t1, t2, t3, y0, y1, y2, y3⟩ := h
  have hm : Mid lo (S + 1) w (putTok w T t') := (((Mid.setCell (p := ⟨T, 0, none⟩) _ (.inr h2)).trans (Mid.setCell (p := ⟨T, 1, none⟩) _ (.inr h2))).trans (Mid.setCell (p := ⟨T, 2, none⟩) _ (.inr h2))).trans (Mid.setCell (p := ⟨T, 3, none⟩) _ (.inr h2))
  have hz : (putTok w T t').heap.size = w.heap.size := by simp [putTok, World.setCell]
  refine ⟨h1, h2, h3, by omega, ix.mid ⟨hm.size, fun k a c => hm.block k a (by omega)⟩, (hm.cell (p := ⟨S, 0, none⟩) h1 (by show S < _; omega)).trans c0, (hm.cell (p := ⟨S, 1, none⟩) h1 (by show S < _; omega)).trans c1, ?_, ?_, ?_, ?_, ?_, ?_, ?_, ?_⟩
  · simp [putTok, go_sem, t0]
  · simp [putTok, go_sem, t1]
  · simp [putTok, go_sem, t2]
  · simp [putTok, go_sem, t3]
  · simp [putTok, go_sem, y0]
  · simp [putTok, go_sem, y1]
  · simp [putTok, go_sem, y2]
  · simp [putTok, go_sem, y3]

theorem Scan4.turn {lo H S T b : Nat} {s : ByteArray} {t : Tok} {w : World} (h : Scan4 lo H S T b s t w) (t' : Tok) : Turn lo H w (putTok w T t') := by
  have h1 : lo ≤ T := by have := h.h1; have := h.h2; omega
  exact (((Turn.setCell (p := ⟨T, 0, none⟩) _ h1 h.h3).trans (Turn.setCell (p := ⟨T, 1, none⟩) _ h1 h.h3)).trans (Turn.setCell (p := ⟨T, 2, none⟩) _ h1 h.h3)).trans (Turn.setCell (p := ⟨T, 3, none⟩) _ h1 h.h3)

end Go.Proofs.YtdcpfpifecnfmaaDoor
