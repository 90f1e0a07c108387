import Derived.Test.YtdcpfpifecnfmaaRf
/-
  LexerScans, LexerSeparates.
-/
namespace Go.Proofs.Ytdcpfpifecnfmaa
open Go.RowKit Go.Shelf Go.Lib

set_option maxRecDepth 100000 in
set_option maxHeartbeats 3200000 in
theorem separates_walk (a b s : ByteArray) (ha : a.size ≤ 140737488355328) (hb : b.size ≤ 140737488355328) (hs : s.size ≤ 140737488355328) (w : World) :
    Calls Try.prog 3 #[.string a, .string b, .string s] w fun e w' => e = .returned (.bool true) ∧ Below w.heap.size w w' := by
  have haw := awake_any w
  by_cases h1 : 200 < a.size + b.size
  · have d1 : (200 : Int) < (a.size : Int) + (b.size : Int) := by omega
    clear h1
    go_enter Try.func3, Try.ntmps3
    go_wp2_with fail
    (with_reducible refine haw.mono ?_)
    rintro e w1 ⟨rfl, hB1⟩
    have HB1 := hidden hB1
    clear haw hB1
    go_wp2_with fail
    go_ret
    exact ⟨rfl, HB1.out⟩
  · have d1 : ¬ ((200 : Int) < (a.size : Int) + (b.size : Int)) := by omega
    by_cases h2 : 200 < s.size
    · have d2 : (200 : Int) < (s.size : Int) := by omega
      clear h1 h2
      go_enter Try.func3, Try.ntmps3
      go_wp2_with fail
      (with_reducible refine haw.mono ?_)
      rintro e w1 ⟨rfl, hB1⟩
      have HB1 := hidden hB1
      clear haw hB1
      go_wp2_with fail
      go_ret
      exact ⟨rfl, HB1.out⟩
    · have d2 : ¬ ((200 : Int) < (s.size : Int)) := by omega
      have k1 := fun w' => separate_any a b (by rw [ByteArray.size_append]; omega) w'
      have k2 := fun w' => refSeparate_any a b (by rw [ByteArray.size_append]; omega) w'
      have k3 := fun w' => compact_any s (by omega) w'
      have k4 := fun w' => refCompact_any s (by omega) w'
      generalize sepB a b = c at *
      generalize compactB s = t at *
      clear h1 h2
      cases c
      all_goals
        go_enter Try.func3, Try.ntmps3
        go_wp2_with fail
        (with_reducible refine haw.mono ?_)
        rintro e w1 ⟨rfl, hB1⟩
        have HB1 := hidden hB1
        clear haw hB1
        go_wp2_with fail
        (with_reducible refine (k1 _).mono ?_)
        rintro e w2 ⟨rfl, hB2⟩
        have HB2 := hidden (bt HB1.out hB2)
        clear k1 hB2 HB1
        go_wp2_with fail
        (with_reducible refine (k2 _).mono ?_)
        rintro e w3 ⟨rfl, hB3⟩
        have HB3 := hidden (bt HB2.out hB3)
        clear k2 hB3 HB2
        go_wp2_with fail
        (with_reducible refine (k3 _).mono ?_)
        rintro e w4 ⟨rfl, hB4⟩
        have HB4 := hidden (bt HB3.out hB4)
        clear k3 hB4 HB3
        go_wp2_with fail
        (with_reducible refine (k4 _).mono ?_)
        rintro e w5 ⟨rfl, hB5⟩
        have HB5 := hidden (bt HB4.out hB5)
        clear k4 hB5 HB4
        go_wp2_with fail
        go_ret
        exact ⟨rfl, HB5.out⟩

end Go.Proofs.Ytdcpfpifecnfmaa
