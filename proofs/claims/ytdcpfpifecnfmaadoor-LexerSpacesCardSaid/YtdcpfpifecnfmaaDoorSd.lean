import Derived.Test.YtdcpfpifecnfmaaDoorRf
import Derived.Test.YtdcpfpifecnfmaaDoorMp
/-
  LexerScans, LexerSeparates.
-/
namespace Go.Proofs.YtdcpfpifecnfmaaDoor
open Go.RowKit Go.Shelf Go.Lib

theorem refScan_large (s : ByteArray) (hs : 4096 < s.size) (hm : s.size ≤ 9223372036854775807) (w : World) :
    Calls Tryd.prog 10 #[.string s] w fun e w' => e = .returned (.tuple #[.slice none 0 0, .int .i64 8]) ∧ w = w' := by
  have b1 : ((4096 : Int) < (s.size : Int)) := by omega
  go_enter Tryd.func10, Tryd.ntmps10
  go_wp2_with fail
  go_ret2
  exact ⟨rfl, rfl⟩

theorem refWords_large (s : ByteArray) (hs : 4096 < s.size) (hm : s.size ≤ 9223372036854775807) (w : World) :
    Calls Tryd.prog 14 #[.string s] w fun e w' => e = .returned (.slice (some ⟨w.heap.size, 0, none⟩) 0 0) ∧ w' = w.alloc (.cells #[] 9) := by
  have hsc := refScan_large s hs hm w
  go_enter Tryd.func14, Tryd.ntmps14
  go_wp2_with fail
  (with_reducible refine hsc.mono ?_)
  rintro e w2 ⟨rfl, rfl⟩
  go_wp2_with fail
  go_loop [5, 6] (fun o i => o = .slice (some ⟨w.heap.size, 0, none⟩) 0 0 ∧ i = .int .i64 0) (fun _ _ => 0)
  case atStart => exact ⟨rfl, rfl⟩
  case round =>
    obtain ⟨rfl, rfl⟩ := hrel
    go_wp2_with fail
    go_ret
    exact ⟨rfl, rfl⟩

set_option maxRecDepth 100000 in
set_option maxHeartbeats 3200000 in
theorem scans_walk (s : ByteArray) (hs : s.size ≤ 9223372036854775807) (w : World) (hA : AsciiAt w) :
    Calls Tryd.prog 3 #[.string s] w fun e w' => e = .returned (.bool true) ∧ Below w.heap.size w w' := by
  have haw := awake_any w
  by_cases hl : 200 < s.size
  · by_cases hb : s.size ≤ 4096
    · have d1 : (200 : Int) < (s.size : Int) := by omega
      have d2 : (s.size : Int) ≤ 4096 := by omega
      clear hl hb
      go_enter Tryd.func3, Tryd.ntmps3
      go_wp2_with fail
      (with_reducible refine haw.mono ?_)
      rintro e w1 ⟨rfl, hB1⟩
      have HB1 := hidden hB1
      clear haw hB1
      go_wp2_with fail
      go_ret
      exact ⟨rfl, HB1.out⟩
    · have h1 := fun w' => scan_large s (by omega) hs w'
      have h2 := fun w' => refScan_large s (by omega) hs w'
      have h3 := fun w' => words_large s (by omega) hs w'
      have h4 := fun w' => refWords_large s (by omega) hs w'
      have h5 := fun w' => same_nil w'
      have d1 : (200 : Int) < (s.size : Int) := by omega
      have d2 : (4096 : Int) < (s.size : Int) := by omega
      clear hl hb
      go_enter Tryd.func3, Tryd.ntmps3
      go_wp2_with fail
      (with_reducible refine haw.mono ?_)
      rintro e w1 ⟨rfl, hB1⟩
      have HB1 := hidden hB1
      have h6 := refStrings_any (w := w1.alloc (.cells #[] 9)) (v := .slice none 0 0) (u := .slice (some ⟨w1.heap.size, 0, none⟩) 0 0) (xs := []) (ys := []) (.inl ⟨rfl, rfl⟩) (.inr ⟨w1.heap.size, 0, rfl, by simp, fun j hj => absurd hj (by simp)⟩) (by simp) (by simp)
      rw [decide_eq_true rfl] at h6
      clear haw hB1
      go_wp2_with (first | (go_at_call 9; (with_reducible refine (h1 _).mono ?_); rintro e w2 ⟨rfl, rfl⟩) | (go_at_call 10; (with_reducible refine (h2 _).mono ?_); rintro e w2 ⟨rfl, rfl⟩) | (go_at_call 11; (with_reducible refine (h5 _).mono ?_); rintro e w2 ⟨rfl, rfl⟩) | (go_at_call 13; (with_reducible refine (h3 _).mono ?_); rintro e w2 ⟨rfl, rfl⟩) | (go_at_call 14; (with_reducible refine (h4 _).mono ?_); rintro e w2 ⟨rfl, rfl⟩) | (go_at_call 12; (with_reducible refine h6.mono ?_); rintro e w2 ⟨rfl, q, rfl⟩))
      go_ret
      exact ⟨rfl, below_drewN (HB1.out.alloc HB1.out.size _) q⟩
  · have d1 : ¬ ((200 : Int) < (s.size : Int)) := by omega
    have h1 := fun w' (h : Below w.heap.size w w') => scan_any s (by omega) w' (hA.keep h)
    clear hA
    have h2 := fun w' => refScan_any s (by omega) w'
    have h3 := fun w' => words_any s (by omega) w'
    have h4 := fun w' => refWords_any s (by omega) w'
    have hlt := toksK_len s (by omega)
    have hlw := wordsB_len s (by omega)
    unfold ToksOf at h1 h2
    unfold RowOf at h3 h4
    have hne := toksK_ne s
    generalize toksK s = ts at *
    generalize wordsB s = ws at *
    clear hl hs
    go_enter Tryd.func3, Tryd.ntmps3
    go_wp2_with fail
    (with_reducible refine haw.mono ?_)
    rintro e w1 ⟨rfl, hB1⟩
    have HB1 := hidden hB1
    clear haw hB1
    go_wp2_with fail
    (with_reducible refine (h1 _ HB1.out).mono ?_)
    rintro e w2 ⟨v1, rfl, hr1, hB2⟩
    have ht1 := tokRow_of hr1 hne
    have HB2 := hidden (bt HB1.out hB2)
    clear hr1 hB2 h1 HB1
    have HT1 := hidden ht1
    clear ht1
    go_wp2_with fail
    (with_reducible refine (h2 _).mono ?_)
    rintro e w3 ⟨v2, rfl, hr2, hB3⟩
    have h5 := same_any (HT1.out.below hB3) (tokRow_of hr2 hne) (by omega)
    have HB3 := hidden (bt HB2.out hB3)
    clear hr2 hB3 h2 HB2 HT1
    go_wp2_with fail
    (with_reducible refine h5.mono ?_)
    rintro e w4 ⟨rfl, q, rfl⟩
    have HB4 := hidden (below_drewN HB3.out q)
    clear h5 HB3
    go_wp2_with fail
    (with_reducible refine (h3 _).mono ?_)
    rintro e w5 ⟨v3, rfl, hr3, hB5⟩
    have HS3 := hidden (Strs.of_row hr3)
    have HB5 := hidden (bt HB4.out hB5)
    clear hr3 hB5 h3 HB4
    go_wp2_with fail
    (with_reducible refine (h4 _).mono ?_)
    rintro e w6 ⟨v4, rfl, hr4, hB6⟩
    have h6 := refStrings_any (HS3.out.below hB6) (Strs.of_row hr4) (by omega) (by omega)
    rw [decide_eq_true rfl] at h6
    have HB6 := hidden (bt HB5.out hB6)
    clear hr4 hB6 h4 HB5 HS3
    go_wp2_with fail
    (with_reducible refine h6.mono ?_)
    rintro e w7 ⟨rfl, q2, rfl⟩
    have HB7 := hidden (below_drewN HB6.out q2)
    clear h6 HB6
    go_wp2_with fail
    go_ret
    exact ⟨rfl, HB7.out⟩

end Go.Proofs.YtdcpfpifecnfmaaDoor
