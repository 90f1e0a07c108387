import Derived.Test.YtdcpfpifecnfmaaGreatDoorRc
import Derived.Test.YtdcpfpifecnfmaaGreatDoorMr
/-
  The reference's Scan.
-/
namespace Go.Proofs.YtdcpfpifecnfmaaGreatDoor
open Go.RowKit Go.Shelf Go.Lib

theorem ref_kwT (s : ByteArray) (p : Nat) : kwT s (nextT s.data.toList p) = ⟨refKind s (skipTo s.data.toList p), p, skipTo s.data.toList p, skipTo s.data.toList p + (tokF (s.data.toList.drop (skipTo s.data.toList p))).2⟩ := by
  unfold kwT refKind
  by_cases h : (tokF (s.data.toList.drop (skipTo s.data.toList p))).1 = 1 ∧ (s.extract (skipTo s.data.toList p) (skipTo s.data.toList p + (tokF (s.data.toList.drop (skipTo s.data.toList p))).2)).data.toList ∈ kwords
  · rw [if_pos h]
    exact if_pos h
  · rw [if_neg h]
    exact if_neg h

theorem tok_starts (s : ByteArray) (p : Nat) (h : skipTo s.data.toList p < s.size) : whiteB s[skipTo s.data.toList p] = false ∧ s[skipTo s.data.toList p] ≠ 35 := by
  have hbl := bytes_len s
  have hg := getD_bytes s _ h
  have e : skipTo s.data.toList p = p + skipF false (s.data.toList.drop p) := rfl
  have hdr := drop_get s.data.toList (skipTo s.data.toList p) (by rw [hbl]; exact h)
  have h2 : s.data.toList.drop (skipTo s.data.toList p) = (s.data.toList.drop p).drop (skipTo s.data.toList p - p) := by rw [List.drop_drop]; congr 1; omega
  have hs : skipF false ((s.data.toList.drop p).take (skipTo s.data.toList p - p) ++ s.data.toList.drop (skipTo s.data.toList p)) = ((s.data.toList.drop p).take (skipTo s.data.toList p - p)).length := by
    rw [h2, List.take_append_drop, List.length_take, List.length_drop]
    omega
  rw [hg] at hdr
  generalize s[skipTo s.data.toList p] = c at *
  rw [hdr] at hs
  rcases skip_after false _ _ hs with h1 | h1
  · have := (skip_cons _ _).1 h1
    unfold gapB at this
    simp only [Bool.or_eq_false_iff] at this
    exact ⟨this.1, by simpa using this.2⟩
  · cases h1

theorem own_ge' {w : World} {base e size n : Nat} {v : Value} {xs : List Value} (h : w.ownsRow base e size v n xs) : ∀ k, v.ownBlock = some k → base ≤ k := row_block h

theorem toks_take {s : ByteArray} {k p : Nat} (h : TokHere s k p) : (toksK s).take (k + 1) = (toksK s).take k ++ [kwT s (nextT s.data.toList p)] := by
  have := tokHere_get h
  rw [List.take_add_one, this]; rfl

theorem owns_below {w w' : World} {base e size n : Nat} {v : Value} {xs : List Value} (h : w.ownsRow base e size v n xs) (hb : Below w.heap.size w w') : w'.ownsRow base e size v n xs := by
  refine ⟨h.1, ?_⟩
  rcases h.2 with h | ⟨g, cap, cur, h1, h2, h3, h4⟩
  · exact .inl h
  · exact .inr ⟨g, cap, cur, h1, h2, (hb.block g (Array.getElem?_eq_some_iff.1 h3).1).trans h3, h4⟩

set_option maxRecDepth 100000 in
set_option maxHeartbeats 3200000 in
theorem refScan_any (s : ByteArray) (hs : s.size ≤ 4096) (w : World) :
    Calls Tryz.prog 19 #[.string s] w fun e w' => ∃ v, e = .returned (.tuple #[v, .int .i64 0]) ∧ ToksOf w (toksK s) v w' := by
  obtain ⟨i0, hi, hz0, hz1, hz2⟩ := info_parts infoTok
  have hlen := toksK_len s hs
  have hbl := bytes_len s
  have b1 : ¬ ((4096 : Int) < (s.size : Int)) := by omega
  have hpos : 0 < (toksK s).length := List.length_pos_iff.2 (toksK_ne s)
  go_enter Tryz.func19, Tryz.ntmps19
  go_wp2_with fail
  obtain ⟨w2, hw2⟩ : ∃ w2, w2 = w.alloc (.cells #[] 37) := ⟨_, rfl⟩
  have hB2 : Below w.heap.size w w2 := by rw [hw2]; exact (Below.refl _ _).alloc (Nat.le_refl _) _
  have hown0 : w2.ownsRow w.heap.size 37 4 (.slice (some ⟨w.heap.size, 0, none⟩) 0 0) 0 [] :=
    ⟨rfl, Or.inr ⟨w.heap.size, 0, #[], rfl, Nat.le_refl _, by rw [hw2]; exact World.alloc_heap_new _ _, Nat.le_refl _, Nat.zero_le _, rfl, rfl⟩⟩
  rw [← hw2]
  clear hw2
  go_loopw [4, 5] (fun out fr wr => ∃ k p : Nat, k < (toksK s).length ∧ fr = .int .i64 p ∧ p ≤ s.size ∧ Hid (TokHere s k p ∧ wr.ownsRow w.heap.size 37 4 out k (toksC ((toksK s).take k)) ∧ Below w.heap.size w wr)) (fun _ fr _ => s.size - (intOf fr).toNat)
  case atStart => exact ⟨0, 0, hpos, rfl, Nat.zero_le _, tokHere_first s, hown0, hB2⟩
  case round =>
    obtain ⟨k, p, hk, rfl, hp, hh⟩ := hrel
    clear hown0 hB2
    obtain ⟨ht, hown, hB⟩ := hh.out
    have hz := hB.size
    have hsk := fun w' => refSkip_any s hs p hp w'
    have hkT := ref_kwT s p
    have hfa := nextT_facts s.data.toList p (by rw [hbl]; exact hp)
    rw [hbl] at hfa
    obtain ⟨f1, f2, f3, f4, f5, f6⟩ := hfa
    have e1 : (nextT s.data.toList p).at_ = skipTo s.data.toList p := rfl
    have e2 : (nextT s.data.toList p).end_ = skipTo s.data.toList p + (tokF (s.data.toList.drop (skipTo s.data.toList p))).2 := rfl
    have htk := toks_take ht
    rw [hkT] at htk
    have hst := tok_starts s p
    by_cases h0 : (nextT s.data.toList p).kind = 0
    · obtain ⟨l1, l2, l3⟩ := tokHere_last ht h0
      rw [e1] at l2
      rw [e2, l2] at l3
      rw [kwT_other s _ (by omega)] at hkT
      have hx : (nextT s.data.toList p) = ⟨0, p, s.size, s.size⟩ := by
        rw [hkT]
        have := congrArg Tok.kind hkT
        rw [h0] at this
        simp only at this
        rw [← this, l2, l3]
      have HT : Hid (toksC (toksK s) = toksC ((toksK s).take k) ++ tokC ⟨0, p, s.size, s.size⟩) := by
        rw [← hkT, hx] at htk
        show _ = _
        rw [← toksC_snoc, ← htk, l1, List.take_length]
      rw [l2] at hsk
      have HL : Hid ((toksK s).length = k + 1) := l1.symm
      clear hkT f1 f2 f3 f4 f5 f6 e1 e2 htk hst h0 l1 l2 l3 hx hh ht
      go_wp2_with (first | (go_at_call 31; (with_reducible refine (hsk _).mono ?_); rintro e w1 ⟨rfl, rfl⟩) | (at_builtin; refine wpList_append_own _ rfl (.tmp 37) (.tmp 44) 43 rfl w.heap.size 37 i0 (.agg #[.int .i64 0, .int .i64 0, .int .i64 0, .int .i64 0]) 4 32 Tryz.underlying43 hi hz0 hz1 hz2 rfl (by decide) _ _ _ rfl (hown.alloc _) ⟨wr.heap.size, 0, none⟩ 1 1 (tokC ⟨0, p, s.size, s.size⟩) rfl rfl (tokC_new _ _ _) (tokC_one _) (by unfold maxLen; omega) (by omega) (by simp; omega) ?_; intro v' w5 hown5 hgrow5 _))
      go_ret2
      exact ⟨_, rfl, by rw [HL.out, HT.out]; exact hown5, (hB.alloc hz _).grown hgrow5 (by simp; omega) (own_ge' hown)⟩
    · obtain ⟨l1, l2, l3⟩ := tokHere_next ht h0
      rw [e1, e2] at l2
      rw [e2] at l3
      rw [e1, e2] at f3
      rw [e2] at f4
      have hlt : skipTo s.data.toList p < s.size := by omega
      obtain ⟨hw, hc⟩ := hst hlt
      have htok := fun w' => refToken_any s hs _ hlt hw hc w'
      have HT : Hid (toksC ((toksK s).take (k + 1)) = toksC ((toksK s).take k) ++ tokC ⟨refKind s (skipTo s.data.toList p), p, skipTo s.data.toList p, skipTo s.data.toList p + (tokF (s.data.toList.drop (skipTo s.data.toList p))).2⟩) := by
        show _ = _
        rw [htk, toksC_snoc]
      have HN := hidden l3
      rw [e1] at f2
      generalize refKind s (skipTo s.data.toList p) = kd at *
      generalize skipTo s.data.toList p + (tokF (s.data.toList.drop (skipTo s.data.toList p))).2 = e at *
      generalize skipTo s.data.toList p = a at *
      clear hkT f1 f5 f6 e1 e2 htk hst h0 l3 hh ht hw hc
      go_wp2_with (first | (go_at_call 31; (with_reducible refine (hsk _).mono ?_); rintro e w1 ⟨rfl, rfl⟩) | (go_at_call 32; (with_reducible refine (htok _).mono ?_); rintro e w3 ⟨rfl, hB3⟩; have hown3 := owns_below hown hB3; have hB4 := bt hB hB3) | (at_builtin; refine wpList_append_own _ rfl (.tmp 28) (.tmp 34) 43 rfl w.heap.size 37 i0 (.agg #[.int .i64 0, .int .i64 0, .int .i64 0, .int .i64 0]) 4 32 Tryz.underlying43 hi hz0 hz1 hz2 rfl (by decide) _ _ _ rfl (hown3.alloc _) ⟨w3.heap.size, 0, none⟩ 1 1 (tokC ⟨kd, p, a, e⟩) rfl rfl (tokC_new _ _ _) (tokC_one _) (by unfold maxLen; omega) (by omega) (by simp; have := hB4.size; omega) ?_; intro v' w5 hown5 hgrow5 _))
      go_roundw
      case rel => exact ⟨k + 1, e, l1, rfl, f4, HN.out, by rw [HT.out]; exact hown5, (hB4.alloc hB4.size _).grown hgrow5 (by simp; have := hB4.size; omega) (own_ge' hown)⟩
      case measure => simp [intOf]; omega

end Go.Proofs.YtdcpfpifecnfmaaGreatDoor
