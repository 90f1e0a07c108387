import Derived.Test.YtdcpfpifecnfmaaDoorTc
namespace Go.Proofs.YtdcpfpifecnfmaaDoor
open Go.RowKit Go.Shelf Go.Lib

set_option maxHeartbeats 400000 in
theorem offset_any {w : World} {b : Nat} {s : ByteArray} {fs : List Nat} (h : Idx w b s fs) (line col : Int) (hc1 : -9223372036854775808 ≤ col) (hc2 : col ≤ 9223372036854775807) :
    Calls Tryd.prog 95 #[.pointer (some ⟨b, 0, none⟩), .int .i64 line, .int .i64 col] w fun e w' =>
      e = .returned (.tuple #[.int .i64 (offN fs s.size line col).1, .bool (offN fs s.size line col).2]) ∧ w = w' := by
  have hh := has_any h line
  by_cases h1 : 1 ≤ line ∧ line ≤ fs.length + 1
  · have hd : decide (1 ≤ line ∧ line ≤ fs.length + 1) = true := decide_eq_true h1
    rw [hd] at hh
    have hs := start_any h line h1.1 (by omega)
    have he := end_any h line h1.1 h1.2
    have b1 := h.startLe line.toNat
    have b2 := h.endLe line.toNat
    have hsm := h.small
    have hN : (offN fs s.size line col) = if 1 ≤ col ∧ col ≤ (endN fs s.size line.toNat : Int) - startN fs s.size line.toNat + 1 then ((startN fs s.size line.toNat : Int) + col - 1, true) else (0, false) := by
      unfold offN; simp [h1]
    rw [hN]
    generalize endN fs s.size line.toNat = en at *
    generalize startN fs s.size line.toNat = st at *
    clear h hN hd h1
    by_cases h2 : 1 ≤ col
    · by_cases h3 : col ≤ (en : Int) - st + 1
      · rw [if_pos ⟨h2, h3⟩]
        go_enter Tryd.func95, Tryd.ntmps95
        go_wp2_with (first | (go_at_call 110; refine hh.mono ?_; rintro e w' ⟨rfl, rfl⟩) | (go_at_call 109; refine hs.mono ?_; rintro e w'' ⟨rfl, rfl⟩) | (go_at_call 111; refine he.mono ?_; rintro e w'' ⟨rfl, rfl⟩))
        go_ret2
        exact ⟨rfl, rfl⟩
      · rw [if_neg (by omega)]
        have h3' : (en : Int) - st + 1 < col := by omega
        clear h3
        go_enter Tryd.func95, Tryd.ntmps95
        go_wp2_with (first | (go_at_call 110; refine hh.mono ?_; rintro e w' ⟨rfl, rfl⟩) | (go_at_call 109; refine hs.mono ?_; rintro e w'' ⟨rfl, rfl⟩) | (go_at_call 111; refine he.mono ?_; rintro e w'' ⟨rfl, rfl⟩))
        go_ret2
        exact ⟨rfl, rfl⟩
    · rw [if_neg (by omega)]
      have h2' : col < 1 := by omega
      clear h2
      go_enter Tryd.func95, Tryd.ntmps95
      go_wp2_with (first | (go_at_call 110; refine hh.mono ?_; rintro e w' ⟨rfl, rfl⟩) | (go_at_call 109; refine hs.mono ?_; rintro e w'' ⟨rfl, rfl⟩) | (go_at_call 111; refine he.mono ?_; rintro e w'' ⟨rfl, rfl⟩))
      go_ret2
      exact ⟨rfl, rfl⟩
  · have hd : decide (1 ≤ line ∧ line ≤ fs.length + 1) = false := decide_eq_false h1
    rw [hd] at hh
    have hN : offN fs s.size line col = (0, false) := by unfold offN; rw [if_neg (by intro hx; exact h1 hx.1)]
    rw [hN]
    clear h hN hd h1
    go_enter Tryd.func95, Tryd.ntmps95
    go_wp2_with (go_at_call 110; refine hh.mono ?_; rintro e w' ⟨rfl, rfl⟩)
    go_ret2
    exact ⟨rfl, rfl⟩

end Go.Proofs.YtdcpfpifecnfmaaDoor
