import Derived.Test.YtfmoophjdgejeaaGreatDoorJb
import Derived.Test.YtfmoophjdgejeaaGreatDoorJc
/-
  The tokens of a text, and split's iterator.
-/
namespace Go.Proofs.YtfmoophjdgejeaaGreatDoor
open Go.RowKit Go.Shelf Go.Lib

theorem wrongF_le (l : List UInt8) : wrongF l ≤ l.length := by
  induction l with
  | nil => simp [wrongF]
  | cons c r ih => unfold wrongF; split <;> simp <;> omega

theorem symL_le (l : List UInt8) : symL l ≤ l.length := by
  cases l with
  | nil => simp [symL]
  | cons a r =>
    cases r with
    | nil => rw [symL]; split <;> simp
    | cons b r =>
      rw [symL]
      split
      · simp
      · split <;> simp

theorem takeWhile_le (p : UInt8 → Bool) (l : List UInt8) : (l.takeWhile p).length ≤ l.length := (List.takeWhile_sublist p).length_le

theorem tokF_pos (c : UInt8) (r : List UInt8) : 0 < (tokF (c :: r)).1 ∧ 0 < (tokF (c :: r)).2 ∧ (tokF (c :: r)).2 ≤ r.length + 1 := by
  have h1 := takeWhile_le partB r
  have h2 := takeWhile_le digitB r
  have h3 := wrongF_le r
  have h4 := symL_le (c :: r)
  rw [List.length_cons] at h4
  have e : tokF (c :: r) = if letterB c then (1, (r.takeWhile partB).length + 1) else if digitB c then (3, (r.takeWhile digitB).length + 1)
    else if 0 < symL (c :: r) then (4, symL (c :: r)) else (5, wrongF r + 1) := by rw [tokF]
  rw [e]
  split
  · exact ⟨Nat.succ_pos _, by simp, by show _ + 1 ≤ _; omega⟩
  · split
    · exact ⟨Nat.succ_pos _, by simp, by show _ + 1 ≤ _; omega⟩
    · split
      · exact ⟨Nat.succ_pos _, by assumption, h4⟩
      · exact ⟨Nat.succ_pos _, by simp, by show _ + 1 ≤ _; omega⟩

theorem nextT_facts (l : List UInt8) (k : Nat) (h : k ≤ l.length) :
    (nextT l k).from_ = k ∧ k ≤ (nextT l k).at_ ∧ (nextT l k).at_ ≤ (nextT l k).end_ ∧ (nextT l k).end_ ≤ l.length ∧
      ((nextT l k).kind = 0 → (nextT l k).at_ = l.length) ∧ ((nextT l k).kind ≠ 0 → (nextT l k).at_ < (nextT l k).end_) := by
  have h1 : k ≤ skipTo l k := by unfold skipTo; omega
  have h2 := skipTo_le l k h
  refine ⟨rfl, h1, Nat.le_add_right _ _, ?_, ?_, ?_⟩
  · show skipTo l k + (tokF (l.drop (skipTo l k))).2 ≤ _
    rcases Nat.lt_or_eq_of_le h2 with h3 | h3
    · rw [drop_get l _ h3]
      have := (tokF_pos (l.getD (skipTo l k) 0) (l.drop (skipTo l k + 1))).2.2
      rw [List.length_drop] at this
      omega
    · rw [h3]; simp [tokF]
  · show (tokF (l.drop (skipTo l k))).1 = 0 → skipTo l k = _
    intro h0
    rcases Nat.lt_or_eq_of_le h2 with h3 | h3
    · rw [drop_get l _ h3] at h0
      have := (tokF_pos (l.getD (skipTo l k) 0) (l.drop (skipTo l k + 1))).1
      omega
    · exact h3
  · show (tokF (l.drop (skipTo l k))).1 ≠ 0 → skipTo l k < skipTo l k + (tokF (l.drop (skipTo l k))).2
    intro h0
    rcases Nat.lt_or_eq_of_le h2 with h3 | h3
    · rw [drop_get l _ h3]
      have := (tokF_pos (l.getD (skipTo l k) 0) (l.drop (skipTo l k + 1))).2.1
      omega
    · rw [h3] at h0; simp [tokF] at h0

def toksF : Nat → List UInt8 → Nat → List Tok
  | 0, _, _ => []
  | f + 1, l, k => nextT l k :: (if (nextT l k).kind = 0 then [] else toksF f l (nextT l k).end_)
/-- The tokens of a text, with names for keywords. -/
def toks (l : List UInt8) : List Tok := toksF (l.length + 1) l 0

/-- The index lies between two marks. -/
def IdxIn (lo S : Nat) (w : World) (b : Nat) (s : ByteArray) : Prop :=
  lo ≤ b ∧ b < S ∧ S ≤ w.heap.size ∧ Idx w b s (feedsOf s.data.toList) ∧ ∀ bf o n cap, w.cell? ⟨b, 1, none⟩ = some (.slice (some ⟨bf, o, none⟩) n cap) → lo ≤ bf ∧ bf < S

theorem IdxIn.of {lo : Nat} {w : World} {b : Nat} {s : ByteArray} (h : Idx w b s (feedsOf s.data.toList)) (hf : IdxFrom lo w b) : IdxIn lo w.heap.size w b s := by
  obtain ⟨bf, cap, h1, h2, h3⟩ := h.feeds
  refine ⟨hf.1, h.own, Nat.le_refl _, h, fun bf' o n cap' hc => ?_⟩
  refine ⟨hf.2 _ _ _ _ hc, ?_⟩
  rw [h2] at hc
  have e : bf = bf' := by simp at hc; exact hc.1.1
  omega

theorem IdxIn.idx {lo S : Nat} {w : World} {b : Nat} {s : ByteArray} (h : IdxIn lo S w b s) : Idx w b s (feedsOf s.data.toList) := by
  obtain ⟨_, _, _, h, _⟩ := h; exact h

theorem IdxIn.mid {lo S : Nat} {w w' : World} {b : Nat} {s : ByteArray} (h : IdxIn lo S w b s) (hm : Mid lo S w w') : IdxIn lo S w' b s := by
  obtain ⟨a1, a2, a3, ⟨h1, h2, h3, hp, h4, h5, bf, cap, h6, h7, h8⟩, a4⟩ := h
  have hz := hm.size
  obtain ⟨b1, b2⟩ := a4 _ _ _ _ h7
  refine ⟨a1, a2, by omega, ⟨h1, h2, h3, hp, by omega, by rw [hm.cell (p := ⟨b, 0, none⟩) a1 a2]; exact h5, bf, cap, by omega, by rw [hm.cell (p := ⟨b, 1, none⟩) a1 a2]; exact h7, fun i hi => by rw [hm.cell (p := ⟨bf, i, none⟩) b1 b2]; exact h8 i hi⟩, fun bf o n cap hc => ?_⟩
  rw [hm.cell (p := ⟨b, 1, none⟩) a1 a2] at hc
  exact a4 _ _ _ _ hc

/-- What split's iterator keeps: the scanner, the token. -/
structure Scan4 (lo H S T b : Nat) (s : ByteArray) (t : Tok) (w : World) : Prop where
  h1 : lo ≤ S
  h2 : S < T
  h3 : T < H
  h4 : H ≤ w.heap.size
  ix : IdxIn lo S w b s
  c0 : w.cell? ⟨S, 0, none⟩ = some (.string s)
  c1 : w.cell? ⟨S, 1, none⟩ = some (.pointer (some ⟨b, 0, none⟩))
  t0 : w.cell? ⟨T, 0, none⟩ = some (.int .i64 t.kind)
  t1 : w.cell? ⟨T, 1, none⟩ = some (.int .i64 t.from_)
  t2 : w.cell? ⟨T, 2, none⟩ = some (.int .i64 t.at_)
  t3 : w.cell? ⟨T, 3, none⟩ = some (.int .i64 t.end_)
  y0 : w.frozen? ⟨T, 0, none⟩ = false
  y1 : w.frozen? ⟨T, 1, none⟩ = false
  y2 : w.frozen? ⟨T, 2, none⟩ = false
  y3 : w.frozen? ⟨T, 3, none⟩ = false

theorem Scan4.mid {lo H S T b : Nat} {s : ByteArray} {t : Tok} {w w' : World} (h : Scan4 lo H S T b s t w) (hm : Mid lo H w w') : Scan4 lo H S T b s t w' := by
  obtain ⟨h1, h2, h3, h4, ix, c0, c1, t0, t1, t2, t3, y0, y1, y2, y3⟩ := h
  have hz := hm.size
  have hl : lo ≤ T := by omega
  have hS : S < H := by omega
  exact ⟨h1, h2, h3, by omega, ix.mid ⟨hm.size, fun k a c => hm.block k a (by omega)⟩, (hm.cell (p := ⟨S, 0, none⟩) h1 hS).trans c0, (hm.cell (p := ⟨S, 1, none⟩) h1 hS).trans c1,
    (hm.cell (p := ⟨T, 0, none⟩) hl h3).trans t0, (hm.cell (p := ⟨T, 1, none⟩) hl h3).trans t1, (hm.cell (p := ⟨T, 2, none⟩) hl h3).trans t2, (hm.cell (p := ⟨T, 3, none⟩) hl h3).trans t3,
    (hm.frozen (p := ⟨T, 0, none⟩) hl h3).trans y0, (hm.frozen (p := ⟨T, 1, none⟩) hl h3).trans y1, (hm.frozen (p := ⟨T, 2, none⟩) hl h3).trans y2, (hm.frozen (p := ⟨T, 3, none⟩) hl h3).trans y3⟩

/-- A token is stored. -/
abbrev putTok (w : World) (T : Nat) (t : Tok) : World :=
  (((w.setCell ⟨T, 0, none⟩ (.int .i64 t.kind)).setCell ⟨T, 1, none⟩ (.int .i64 t.from_)).setCell ⟨T, 2, none⟩ (.int .i64 t.at_)).setCell ⟨T, 3, none⟩ (.int .i64 t.end_)

theorem Scan4.put {lo H S T b : Nat} {s : ByteArray} {t : Tok} {w : World} (h : Scan4 lo H S T b s t w) (t' : Tok) : Scan4 lo H S T b s t' (putTok w T t') := by
  obtain ⟨h1, h2, h3, h4, ix, c0, c1, t0, t1, t2, t3, y0, y1, y2, y3⟩ := h
  have hm : Mid lo (S + 1) w (putTok w T t') := (((Mid.setCell (p := ⟨T, 0, none⟩) _ (.inr h2)).trans (Mid.setCell (p := ⟨T, 1, none⟩) _ (.inr h2))).trans (Mid.setCell (p := ⟨T, 2, none⟩) _ (.inr h2))).trans (Mid.setCell (p := ⟨T, 3, none⟩) _ (.inr h2))
  have hz : (putTok w T t').heap.size = w.heap.size := by simp [putTok, World.setCell]
  refine ⟨h1, h2, h3, by omega, ix.mid ⟨hm.size, fun k a c => hm.block k a (by omega)⟩, (hm.cell (p := ⟨S, 0, none⟩) h1 (by show S < _; omega)).trans c0, (hm.cell (p := ⟨S, 1, none⟩) h1 (by show S < _; omega)).trans c1, ?_, ?_, ?_, ?_, ?_, ?_, ?_, ?_⟩
  · simp [putTok, go_sem, t0]
  · simp [putTok, go_sem, t1]
  · simp [putTok, go_sem, t2]
  · simp [putTok, go_sem, t3]
  · simp [putTok, go_sem, y0]
  · simp [putTok, go_sem, y1]
  · simp [putTok, go_sem, y2]
  · simp [putTok, go_sem, y3]

theorem Scan4.turn {lo H S T b : Nat} {s : ByteArray} {t : Tok} {w : World} (h : Scan4 lo H S T b s t w) (t' : Tok) : Turn lo H w (putTok w T t') := by
  have h1 : lo ≤ T := by have := h.h1; have := h.h2; omega
  exact (((Turn.setCell (p := ⟨T, 0, none⟩) _ h1 h.h3).trans (Turn.setCell (p := ⟨T, 1, none⟩) _ h1 h.h3)).trans (Turn.setCell (p := ⟨T, 2, none⟩) _ h1 h.h3)).trans (Turn.setCell (p := ⟨T, 3, none⟩) _ h1 h.h3)

end Go.Proofs.YtfmoophjdgejeaaGreatDoor
namespace Go.Proofs.YtfmoophjdgejeaaGreatDoor
open Go.RowKit Go.Shelf Go.Lib
attribute [local go_sem] Oper.semAt_some

theorem Scan4.first {lo S b : Nat} {s : ByteArray} {w3 : World} (h1 : lo ≤ S) (h2 : S < w3.heap.size) (ix : IdxIn lo S w3 b s)
    (c0 : w3.cell? ⟨S, 0, none⟩ = some (.string s)) (c1 : w3.cell? ⟨S, 1, none⟩ = some (.pointer (some ⟨b, 0, none⟩))) (t : Tok) :
    Scan4 lo (w3.heap.size + 1) S w3.heap.size b s t (w3.alloc (.cells #[.int .i64 t.kind, .int .i64 t.from_, .int .i64 t.at_, .int .i64 t.end_] 115)) := by
  have hm : Mid lo (S + 1) w3 (w3.alloc (.cells #[.int .i64 t.kind, .int .i64 t.from_, .int .i64 t.at_, .int .i64 t.end_] 115)) := Mid.of_below ((Below.refl w3.heap.size w3).alloc (Nat.le_refl _) _) (by omega)
  refine ⟨h1, h2, Nat.lt_succ_self _, by simp, ix.mid ⟨hm.size, fun k a c => hm.block k a (by omega)⟩, (hm.cell (p := ⟨S, 0, none⟩) h1 (by show S < _; omega)).trans c0, (hm.cell (p := ⟨S, 1, none⟩) h1 (by show S < _; omega)).trans c1, ?_, ?_, ?_, ?_, ?_, ?_, ?_, ?_⟩
  all_goals simp

set_option maxRecDepth 100000 in
set_option maxHeartbeats 1600000 in
theorem split1_any (s : ByteArray) (hs : s.size ≤ 4096) {w : World} {B : Nat} (hB : w.cell? ⟨B, 0, none⟩ = some (.string s)) (hlt : B < w.heap.size) :
    SeqT 0 Tryz.prog 82 #[.pointer (some ⟨B, 0, none⟩)] tokV (toks s.data.toList) w := by
  intro l J Jx W hW hJ hJx h0 hY
  have hc : W.cell? ⟨B, 0, none⟩ = some (.string s) := (hW.cell (p := ⟨B, 0, none⟩) hlt).trans hB
  have hn := newScanner_any s W hs
  have HJ := hidden hJ
  have HJx := hidden hJx
  have H0 := hidden h0
  have HY := hidden hY
  clear hJ hJx h0 hY hW hB hlt
  show Calls Tryz.prog 82 #[.func (.yield l) #[] #[], .pointer (some ⟨B, 0, none⟩)] W _
  refine (callsIn_wide (n := 9)).1 ?_
  refine callsIn_of_wp Tryz.func82 rfl trivial ?_ rfl
  simp only [Tryz.ntmps82, List.size_toArray, List.length_cons, List.length_nil, Nat.reduceAdd, Nat.reduceSub, Array.replicate_succ, Array.replicate_zero, List.push_toArray, List.append_toArray, List.nil_append, List.cons_append]
  gi_wp2_with fail
  refine ⟨trivial, ?_⟩
  (with_reducible refine (callsIn_wide.2 hn).mono ?_)
  rintro e w1 ⟨b, rfl, hI, hB1, hF⟩
  have HI := hidden (IdxIn.of hI hF)
  have HB1 := hidden hB1
  clear hI hF hB1
  gi_wp2_with fail
  obtain ⟨W2, hW2⟩ : ∃ W2, W2 = w1.alloc (.cells #[.string s, .pointer (some ⟨b, 0, none⟩)] 131) := ⟨_, rfl⟩
  rw [← hW2]
  obtain ⟨S, hS⟩ : ∃ S, S = w1.heap.size := ⟨_, rfl⟩
  have hmd : Mid W.heap.size S w1 W2 := by rw [hW2, hS]; exact Mid.of_below ((Below.refl w1.heap.size w1).alloc (Nat.le_refl _) _) (Nat.le_refl _)
  have hix2 : IdxIn W.heap.size S W2 b s := by rw [hS] at hmd ⊢; exact HI.out.mid hmd
  have hB2 : Below W.heap.size W W2 := by rw [hW2]; exact HB1.out.alloc HB1.out.size _
  have hz2 : W2.heap.size = S + 1 := by rw [hW2, hS]; simp
  have c20 : W2.cell? ⟨S, 0, none⟩ = some (.string s) := by rw [hW2, hS]; simp
  have c21 : W2.cell? ⟨S, 1, none⟩ = some (.pointer (some ⟨b, 0, none⟩)) := by rw [hW2, hS]; simp
  have hSlo : W.heap.size ≤ S := by rw [hS]; exact HB1.out.size
  rw [← hS]
  clear HI HB1 hmd hW2 hS
  have hnx := fun (w' : World) (h' : Idx w' b s (feedsOf s.data.toList)) (k : Nat) (hk : k ≤ s.size) => next_any h' k hk
  have HN := hidden hnx
  have hn0 : Calls Tryz.prog 84 #[scanV s b, .int .i64 0] W2 fun e w' => e = .returned (tokV (nextT s.data.toList 0)) ∧ Below W2.heap.size W2 w' := hnx W2 hix2.idx 0 (Nat.zero_le _)
  refine ⟨trivial, ?_⟩
  (with_reducible refine (callsIn_wide.2 hn0).mono ?_)
  obtain ⟨t, ht⟩ : ∃ t, nextT s.data.toList 0 = t := ⟨_, rfl⟩
  rw [ht]
  rintro e w3 ⟨rfl, hB3⟩
  have hs3 : S < w3.heap.size := by have := hB3.size; omega
  have hsc := Scan4.first hSlo hs3 (hix2.mid (Mid.of_below hB3 (by omega))) ((hB3.cell (p := ⟨S, 0, none⟩) (by show S < _; omega)).trans c20) ((hB3.cell (p := ⟨S, 1, none⟩) (by show S < _; omega)).trans c21) t
  have HB4 : Hid (Below W.heap.size W (w3.alloc (.cells #[.int .i64 t.kind, .int .i64 t.from_, .int .i64 t.at_, .int .i64 t.end_] 115))) := (bt hB2 hB3).alloc (by have := hB2.size; have := hB3.size; omega) _
  have HSC := hidden hsc
  have HT := hidden ht
  clear hsc hB2 hB3 hix2 hnx hn0 hz2 c20 c21 ht
  dsimp only [tokV]
  gi_wp2_with fail
  obtain ⟨T, hT⟩ : ∃ T, T = w3.heap.size := ⟨_, rfl⟩
  rw [← hT] at HSC ⊢
  have HJ4 : Hid (J (T + 1) [] (w3.alloc (.cells #[.int .i64 t.kind, .int .i64 t.from_, .int .i64 t.at_, .int .i64 t.end_] 115))) := by
    have h := H0.out _ HB4.out
    rw [World.size_alloc, ← hT] at h
    exact h
  have HL : Hid (s.data.toList.length = s.size) := bytes_len s
  clear hT HB4 H0 hc hn hs3 hSlo
  gi_loopw [] (fun wr => ∃ (pre : List Tok) (k f : Nat) (t : Tok), Hid (toks s.data.toList = pre ++ toksF (f + 1) s.data.toList k ∧ nextT s.data.toList k = t ∧ k ≤ s.size ∧ s.size ≤ k + f) ∧
    Hid (Scan4 W.heap.size (T + 1) S T b s t wr) ∧ Hid (J (T + 1) pre wr)) (fun wr => s.size - (intOf ((wr.cell? ⟨T, 1, none⟩).getD undef)).toNat)
  case atStart => exact ⟨[], 0, s.size, t, ⟨by unfold toks; rw [HL.out]; rfl, HT.out, Nat.zero_le _, by omega⟩, HSC, HJ4⟩
  case round =>
    clear HSC HJ4 HT
    obtain ⟨pre, k, f, t, hk, hsc, hj⟩ := hrel
    obtain ⟨hk1, hk2, hk3, hk4⟩ := hk.out
    have hf := nextT_facts s.data.toList k (by rw [HL.out]; exact hk3)
    rw [hk2, HL.out] at hf
    obtain ⟨f1, f2, f3, f4, f5, f6⟩ := hf
    have hpre : (pre ++ [t]) <+: toks s.data.toList := by rw [hk1, toksF, hk2]; exact ⟨_, by rw [List.append_assoc]; rfl⟩
    obtain ⟨fn, tmps, assign, body, hy, hR⟩ := HY.out (T + 1) pre t wr hj.out (by have := hsc.out.h1; have := hsc.out.h2; omega) hsc.out.h4 hpre
    have t0 := hsc.out.t0
    have t1 := hsc.out.t1
    have t2 := hsc.out.t2
    have t3 := hsc.out.t3
    dsimp only [tokV] at hy
    have HP := hidden hpre
    have HT1 := hidden hsc.out.t1
    by_cases h0 : t.kind = 0
    · have hb : ((t.kind : Int) != 0) = false := by rw [h0]; rfl
      have HE : Hid (toks s.data.toList = pre ++ [t]) := by unfold Hid; rw [hk1, toksF, hk2, if_pos h0]
      clear hk1 hk2 hk3 hk4 f1 f2 f3 f4 f5 f6 hpre h0 hk
      gi_wp2_with fail
      refine (round_any _ hR).mono ?_
      rintro e w5 (⟨rfl, hJ5, hm5, _⟩ | ⟨rfl, hJx5, hm5, _⟩)
      · have hsc5 := hsc.out.mid hm5
        have t50 := hsc5.t0
        have HS5 := hidden hsc5
        have HJ5 := hidden hJ5
        clear hsc5 hJ5 hm5 t0 t1 t2 t3 hy hR hsc hj
        gi_wp2_with fail
        go_end0
        refine ⟨⟨_, rfl⟩, T + 1, by have := HS5.out.h1; have := HS5.out.h2; omega, HS5.out.h4, .inl (by rw [HE.out]; exact HJ5.out)⟩
      · have hsc5 := hsc.out.mid hm5
        have HS5 := hidden hsc5
        have HJ5 := hidden hJx5
        clear hsc5 hJx5 hm5 t0 t1 t2 t3 hy hR hsc hj
        gi_wp2_with fail
        go_end0
        refine ⟨⟨_, rfl⟩, T + 1, by have := HS5.out.h1; have := HS5.out.h2; omega, HS5.out.h4, .inr ⟨pre ++ [t], HP.out, HJ5.out⟩⟩
    · have hb : ((t.kind : Int) != 0) = true := by rw [bne_iff_ne]; omega
      have HE : Hid (toks s.data.toList = (pre ++ [t]) ++ toksF f s.data.toList t.end_) := by unfold Hid; rw [hk1, toksF, hk2, if_neg h0, List.append_assoc]; rfl
      have HF := hidden (And.intro f1 (And.intro f2 (And.intro f3 (And.intro f4 (And.intro (f6 h0) hk4)))))
      clear hk1 hk2 hk3 hk4 f1 f2 f3 f4 f5 f6 hpre h0 hk
      gi_wp2_with fail
      refine (round_any _ hR).mono ?_
      rintro e w5 (⟨rfl, hJ5, hm5, _⟩ | ⟨rfl, hJx5, hm5, _⟩)
      · have hsc5 := hsc.out.mid hm5
        have hnx := HN.out w5 hsc5.ix.idx t.end_ HF.out.2.2.2.1
        have t50 := hsc5.t0
        have t53 := hsc5.t3
        have c50 := hsc5.c0
        have c51 := hsc5.c1
        have HS5 := hidden hsc5
        have HJ5 := hidden hJ5
        have HNX := hidden hnx
        clear hsc5 hJ5 hm5 t0 t1 t2 t3 hy hR hsc hj hnx
        gi_wp2_with fail
        refine ⟨trivial, ?_⟩
        (with_reducible refine (callsIn_wide.2 HNX.out).mono ?_)
        obtain ⟨t', ht'⟩ : ∃ t', nextT s.data.toList t.end_ = t' := ⟨_, rfl⟩
        rw [ht']
        rintro e w6 ⟨rfl, hB6⟩
        have hsc6 := HS5.out.mid (Mid.of_below hB6 HS5.out.h4)
        have q0 := hsc6.t0
        have q1 := hsc6.t1
        have q2 := hsc6.t2
        have q3 := hsc6.t3
        have y0 := hsc6.y0
        have y1 := hsc6.y1
        have y2 := hsc6.y2
        have y3 := hsc6.y3
        have HS6 := hidden hsc6
        have HT' := hidden ht'
        have HJ6 : Hid (J (T + 1) (pre ++ [t]) (putTok w6 T t')) := HJ.out _ _ _ _ HJ5.out ((Turn.of_below hB6).trans (hsc6.turn t'))
        clear hsc6 ht' hB6 HJ5 HNX t50 t53 c50 c51
        dsimp only [tokV]
        gi_wp2_with fail
        go_roundw
        case rel =>
          obtain ⟨e1, e2, e3, e4, e5, e6⟩ := HF.out
          obtain ⟨f', rfl⟩ : ∃ f', f = f' + 1 := ⟨f - 1, by omega⟩
          exact ⟨pre ++ [t], t.end_, f', t', ⟨HE.out, HT'.out, e4, by omega⟩, HS6.out.put t', HJ6⟩
        case measure =>
          obtain ⟨e1, e2, e3, e4, e5, e6⟩ := HF.out
          have g1 := (HS6.out.put t').t1
          have g2 : t'.from_ = t.end_ := by rw [← HT'.out]; rfl
          rw [g1, HT1.out, g2]
          simp only [intOf, Option.getD_some, Int.toNat_natCast]
          omega
      · have hsc5 := hsc.out.mid hm5
        have HS5 := hidden hsc5
        have HJ5 := hidden hJx5
        clear hsc5 hJx5 hm5 t0 t1 t2 t3 hy hR hsc hj
        gi_wp2_with fail
        go_end0
        refine ⟨⟨_, rfl⟩, T + 1, by have := HS5.out.h1; have := HS5.out.h2; omega, HS5.out.h4, .inr ⟨pre ++ [t], HP.out, HJ5.out⟩⟩

theorem split_any (s : ByteArray) (w : World) :
    Calls Tryz.prog 69 #[.string s] w fun e w' => e = .returned (.func (.func 82) #[] #[.pointer (some ⟨w.heap.size, 0, none⟩)]) ∧ w' = w.alloc (.cells #[.string s] 9) := by
  go_enter Tryz.func69, Tryz.ntmps69
  go_wp2_with fail
  go_ret
  exact ⟨rfl, rfl⟩

end Go.Proofs.YtfmoophjdgejeaaGreatDoor
/-
  The words of a text, and words' iterator.
-/
namespace Go.Proofs.YtfmoophjdgejeaaGreatDoor
open Go.RowKit Go.Shelf Go.Lib
attribute [local go_sem] Oper.semAt_some

def wordOf (s : ByteArray) (t : Tok) : ByteArray := s.extract t.at_ t.end_
def wordsT (s : ByteArray) (ts : List Tok) : List ByteArray := (ts.filter fun t => t.kind != 0).map (wordOf s)
/-- The words of a text. -/
def wordsB (s : ByteArray) : List ByteArray := wordsT s (toks s.data.toList)

theorem wordsT_go (s : ByteArray) (p : List Tok) (t : Tok) (h : t.kind ≠ 0) : wordsT s (p ++ [t]) = wordsT s p ++ [wordOf s t] := by
  unfold wordsT; rw [List.filter_append, List.map_append]; simp [h]
theorem wordsT_end (s : ByteArray) (p : List Tok) (t : Tok) (h : t.kind = 0) : wordsT s (p ++ [t]) = wordsT s p := by
  unfold wordsT; rw [List.filter_append, List.map_append]; simp [h]
theorem wordsT_prefix (s : ByteArray) {p q : List Tok} (h : p <+: q) : wordsT s p <+: wordsT s q := by
  obtain ⟨r, rfl⟩ := h
  unfold wordsT; rw [List.filter_append, List.map_append]; exact ⟨_, rfl⟩

theorem toksF_end : ∀ (f : Nat) (l : List UInt8) (k : Nat) (p : List Tok) (x : Tok), (p ++ [x]) <+: toksF f l k → x.kind = 0 → p ++ [x] = toksF f l k
  | 0, l, k, p, x, h, _ => by
    obtain ⟨r, h⟩ := h
    rw [toksF] at h; simp at h
  | f + 1, l, k, p, x, h, h0 => by
    obtain ⟨r, h⟩ := h
    rw [toksF] at h ⊢
    cases p with
    | nil =>
      simp only [List.nil_append, List.cons_append, List.cons.injEq] at h ⊢
      refine ⟨h.1, ?_⟩
      rw [← h.1, if_pos h0]
    | cons a p =>
      simp only [List.cons_append, List.cons.injEq] at h ⊢
      refine ⟨h.1, ?_⟩
      obtain ⟨h1, h2⟩ := h
      by_cases hk : (nextT l k).kind = 0
      · rw [if_pos hk] at h2; simp at h2
      · rw [if_neg hk] at h2 ⊢
        exact toksF_end f l _ p x ⟨r, h2⟩ h0

theorem toksF_has : ∀ (f : Nat) (l : List UInt8) (k : Nat), k ≤ l.length → l.length ≤ k + f → ∃ t ∈ toksF (f + 1) l k, t.kind = 0
  | f, l, k, hk, hf => by
    obtain ⟨_, f2, f3, f4, _, f6⟩ := nextT_facts l k hk
    rw [toksF]
    by_cases h0 : (nextT l k).kind = 0
    · exact ⟨_, List.mem_cons_self, h0⟩
    · have := f6 h0
      cases f with
      | zero => omega
      | succ f =>
        obtain ⟨t, h1, h2⟩ := toksF_has f l (nextT l k).end_ f4 (by omega)
        exact ⟨t, List.mem_cons_of_mem _ (by rw [if_neg h0]; exact h1), h2⟩

theorem toksF_mem : ∀ (f : Nat) (l : List UInt8) (k : Nat), k ≤ l.length → ∀ t ∈ toksF f l k, t.from_ ≤ t.at_ ∧ t.at_ ≤ t.end_ ∧ t.end_ ≤ l.length
  | 0, _, _, _, t, h => by rw [toksF] at h; cases h
  | f + 1, l, k, hk, t, h => by
    obtain ⟨f1, f2, f3, f4, _, _⟩ := nextT_facts l k hk
    rw [toksF] at h
    rcases List.mem_cons.1 h with rfl | h
    · exact ⟨by omega, f3, f4⟩
    · by_cases h0 : (nextT l k).kind = 0
      · rw [if_pos h0] at h; cases h
      · rw [if_neg h0] at h; exact toksF_mem f l _ f4 t h

theorem toks_has (l : List UInt8) : ∃ t ∈ toks l, t.kind = 0 := toksF_has _ _ _ (Nat.zero_le _) (by omega)
theorem toks_mem (l : List UInt8) : ∀ t ∈ toks l, t.from_ ≤ t.at_ ∧ t.at_ ≤ t.end_ ∧ t.end_ ≤ l.length := toksF_mem _ _ _ (Nat.zero_le _)
theorem toks_end (l : List UInt8) {p : List Tok} {x : Tok} (h : (p ++ [x]) <+: toks l) (h0 : x.kind = 0) : p ++ [x] = toks l := toksF_end _ _ _ _ _ h h0

end Go.Proofs.YtfmoophjdgejeaaGreatDoor
