import Derived.Test.YtdcpfpifecnfmaaRd
import Derived.Deep.AppendLies
/-
  The reference's Words.
-/
namespace Go.Proofs.Ytdcpfpifecnfmaa
open Go.RowKit Go.Shelf Go.Lib

theorem toksF_drop (s : ByteArray) : ∀ (f : Nat) (k : Nat), k ≤ s.data.toList.length → s.data.toList.length ≤ k + f →
    ((toksF (f + 1) s.data.toList k).filter fun t => t.kind != 0) = (toksF (f + 1) s.data.toList k).dropLast
  | f, k, hk, hf => by
    obtain ⟨f1, f2, f3, f4, f5, f6⟩ := nextT_facts s.data.toList k hk
    rw [toksF]
    by_cases h0 : (nextT s.data.toList k).kind = 0
    · rw [if_pos h0, List.filter_cons_of_neg (by simp [h0]), List.filter_nil]; rfl
    · have := f6 h0
      rw [if_neg h0, List.filter_cons_of_pos (by simp [h0])]
      cases f with
      | zero => omega
      | succ f =>
        rw [toksF_drop s f _ f4 (by omega), List.dropLast_cons_of_ne_nil]
        rw [toksF]; simp

theorem words_drop (s : ByteArray) : wordsB s = (toks s.data.toList).dropLast.map (wordOf s) := by
  unfold wordsB wordsT
  rw [show ((toks s.data.toList).filter fun t => t.kind != 0) = (toks s.data.toList).dropLast from toksF_drop s _ 0 (Nat.zero_le _) (by omega)]

theorem words_length (s : ByteArray) : (wordsB s).length + 1 = (toksK s).length := by
  have h := List.length_pos_iff.2 (toksK_ne s)
  have e : (toksK s).length = (toks s.data.toList).length := by unfold toksK; rw [List.length_map]
  rw [words_drop, List.length_map, List.length_dropLast]
  omega

/-- Word number k, and its token. -/
theorem words_get (s : ByteArray) (k : Nat) (h : k < (wordsB s).length) : ∃ a e : Nat, a ≤ e ∧ e ≤ s.size ∧ (wordsB s)[k]? = some (s.extract a e) ∧ ∃ t, (toksK s)[k]? = some t ∧ t.at_ = a ∧ t.end_ = e := by
  have h2 : k < (toks s.data.toList).dropLast.length := by rw [words_drop, List.length_map] at h; exact h
  have hk : (toks s.data.toList).dropLast[k]? = some ((toks s.data.toList).dropLast[k]) := List.getElem?_eq_getElem h2
  have hk2 : (toks s.data.toList)[k]? = some ((toks s.data.toList).dropLast[k]) := by
    rw [← hk, List.dropLast_eq_take, List.getElem?_take, if_pos (by rw [List.length_dropLast] at h2; exact h2)]
  obtain ⟨m1, m2, m3⟩ := toks_mem s.data.toList _ (List.mem_of_getElem? hk2)
  rw [bytes_len] at m3
  generalize (toks s.data.toList).dropLast[k] = t at *
  refine ⟨t.at_, t.end_, m2, m3, ?_, kwT s t, ?_, ?_, ?_⟩
  · rw [words_drop, List.getElem?_map, hk]; rfl
  · unfold toksK; rw [List.getElem?_map, hk2]; rfl
  · unfold kwT; split <;> rfl
  · unfold kwT; split <;> rfl

theorem take_more {α : Type} {l : List α} {k : Nat} {x : α} (h : l[k]? = some x) : l.take (k + 1) = l.take k ++ [x] := by rw [List.take_add_one, h]; rfl

theorem cells_grown {w w' : World} {g : Nat} {row : Option Nat} {a b : Nat} {va vb : Value} (h1 : w.cell? ⟨g, a, none⟩ = some va) (h2 : w.cell? ⟨g, b, none⟩ = some vb) (hg : w.grownBy w' row) (hne : some g ≠ row) :
    w'.cell? ⟨g, a, none⟩ = some va ∧ w'.cell? ⟨g, b, none⟩ = some vb := ⟨hg.cell h1 hne, hg.cell h2 hne⟩

set_option maxRecDepth 100000 in
set_option maxHeartbeats 3200000 in
theorem refWords_any (s : ByteArray) (hs : s.size ≤ 4096) (w : World) :
    Calls Try.prog 16 #[.string s] w (RowOf w (wordsB s)) := by
  obtain ⟨i0, hi, hz0, hz1, hz2⟩ := info_parts info9
  have hsc := refScan_any s hs w
  have hlen := toksK_len s hs
  have hwl := words_length s
  unfold RowOf
  go_enter Try.func16, Try.ntmps16
  go_wp2_with fail
  (with_reducible refine hsc.mono ?_)
  rintro e w2 ⟨v, rfl, hr, hB2⟩
  obtain ⟨g, cap, rfl, hg, hat⟩ := tokRow_of hr (toksK_ne s)
  have HA := hidden hat
  have hz2' := hB2.size
  clear hr hsc hat
  generalize hn : (toksK s).length = n at *
  generalize hm : (wordsB s).length = m at *
  have HN : Hid (n = m + 1) := hwl.symm
  have HM := hidden hm
  clear hn hm hwl
  go_wp2_with fail
  have hown0 : (w2.alloc (.cells #[] 9)).ownsRow w2.heap.size 9 1 (.slice (some ⟨w2.heap.size, 0, none⟩) 0 0) 0 [] :=
    ⟨rfl, Or.inr ⟨w2.heap.size, 0, #[], rfl, Nat.le_refl _, World.alloc_heap_new _ _, Nat.le_refl _, Nat.zero_le _, rfl, rfl⟩⟩
  have hB3 : Below w2.heap.size w2 (w2.alloc (.cells #[] 9)) := (Below.refl _ _).alloc (Nat.le_refl _) _
  generalize w2.alloc (.cells #[] 9) = w3 at *
  go_loopw [5, 6] (fun out i wr => ∃ k : Nat, k ≤ m ∧ i = .int .i64 k ∧ Hid (wr.ownsRow w2.heap.size 9 1 out k (((wordsB s).take k).map Value.string) ∧ Below w2.heap.size w2 wr)) (fun _ i _ => m - (intOf i).toNat)
  case atStart => exact ⟨0, Nat.zero_le _, rfl, hown0, hB3⟩
  case round =>
    obtain ⟨k, hk, rfl, hh⟩ := hrel
    have hnm := HN.out
    by_cases hlt : k < m
    · obtain ⟨a, e, hae, hes, hwk, t, htk, ha, he⟩ := words_get s k (by rw [HM.out]; exact hlt)
      obtain ⟨hown, hB⟩ := hh.out
      have htat := (HA.out k t htk).below hB hg
      have x2 := htat.c2
      have x3 := htat.c3
      rw [ha] at x2
      rw [he] at x3
      have hz := hB.size
      have hkn : (k : Int) + 1 < (n : Int) := by omega
      have hkn2 : (k : Int) < (n : Int) := by omega
      have HW : Hid (((wordsB s).take (k + 1)).map Value.string = ((wordsB s).take k).map Value.string ++ [.string (s.extract a e)]) := by
        show _ = _
        rw [take_more hwk, List.map_append]; rfl
      have hOB : ∀ kk, u5.ownBlock = some kk → w2.heap.size ≤ kk := row_block hown
      have hgo : some g ≠ u5.ownBlock := fun h => by have := hOB g h.symm; omega
      have HG := hidden hgo
      have HO := hidden hOB
      clear hwk htk ha he htat hown0 hB3 hnm hgo hOB
      go_wp2_with fail
      go_region_held3 (fun w' => w'.cell? ⟨g, k * 4 + 2, none⟩ = some (.int .i64 a) ∧ w'.cell? ⟨g, k * 4 + 3, none⟩ = some (.int .i64 e))
        (first | assumption | go_keep | (go_split_ands; refine ⟨?_, ?_⟩; (rw [hgrow.cell_far _ (by simp; omega) HG.out]; assumption); (rw [hgrow.cell_far _ (by simp; omega) HG.out]; assumption)))
        ((refine step_append_lies _ (by rfl) _ _ _ (by rfl) w2.heap.size 9 i0 _ 1 16 Try.underlying26 hi hz0 hz1 hz2 rfl (by omega) _ _ _ (by rfl) ((hown.alloc _).drew) ⟨wr.heap.size, 0, none⟩ 1 1 [.string (s.extract a e)] (by rfl) (by rfl) (World.news_of_block (cs := #[.string (s.extract a e)]) (t := 9) (fr := (0, 0)) (heap_alloc_new wr _)) (by simp [Value.oneCell']) (by omega) (by unfold maxLen; omega) (by omega) (by simp; omega) (wr.heap.size + 1) (by simp) ?_; intro gg cap5 w5 hown5 hgrow hat5 hlt5))
      have HN5 : Hid (w5.ownsRow w2.heap.size 9 1 (.slice (some ⟨gg, 0, none⟩) (k + 1) cap5) (k + 1) (((wordsB s).take (k + 1)).map Value.string) ∧ Below w2.heap.size w2 w5) :=
        ⟨by rw [HW.out]; exact hown5, (below_drewN (hB.alloc hz (.cells #[.string (s.extract a e)] 9)) 1).grown hgrow (by simp; omega) HO.out⟩
      clear hown5 hgrow hat5 hlt5 x2 x3 hown hB
      go_wp2_with fail
      go_roundw
      case rel => exact ⟨k + 1, by omega, by go_num, HN5⟩
      case measure => simp [intOf]; omega
    · obtain rfl : k = m := by omega
      have hnm : ¬ ((k : Int) + 1 < (n : Int)) := by have := HN.out; omega
      have HT : Hid ((wordsB s).take k = wordsB s) := by show _ = _; rw [← HM.out, List.take_length]
      clear hlt hown0 hB3
      go_wp2_with fail
      go_ret
      exact ⟨_, rfl, by rw [HT.out] at hh; rw [HM.out]; exact row_mono hh.out.1 (by omega), hB2.trans (hh.out.2.mono (by omega))⟩

end Go.Proofs.Ytdcpfpifecnfmaa
