import Derived.Test.YtbcolkkhigdmcaaDoorTl
import Derived.Test.YtbcolkkhigdmcaaDoorFr
namespace Go.Proofs.YtbcolkkhigdmcaaDoor
open Go.RowKit Go.Shelf Go.Lib

set_option maxHeartbeats 1600000 in
theorem positions_walk (s : ByteArray) (a line col : Int) (hs : s.size ≤ 9223372036854775807) (hc1 : -9223372036854775808 ≤ col) (hc2 : col ≤ 9223372036854775807) {w : World} (ht : Tab w) :
    Calls Tryd.prog 3 #[.string s, .int .i64 a, .int .i64 line, .int .i64 col] w fun e w' => e = .returned (.bool true) ∧ Below w.heap.size w w' := by
  have haw := awake_any ht
  by_cases hl : (200 : Int) < (s.size : Int)
  · go_enter Tryd.func3, Tryd.ntmps3
    go_wp2_with (go_at_call 10; refine haw.mono ?_; rintro e w1 ⟨rfl, hB1⟩)
    go_ret
    exact ⟨rfl, hB1⟩
  · have hsm : s.size ≤ 1000 := by omega
    have hnew := fun w' => new_any s w' hsm
    have hp2 := fun w' => refPosition_any s a w' hsm
    have ho2 := fun w' => refOffset_any s line col w' hsm
    have hl2 := fun w' => refLines_any s w' hsm
    have hl3 := feedsOf_le s.data.toList
    rw [bytes_len] at hl3
    clear hs
    go_enter Tryd.func3, Tryd.ntmps3
    go_wp2_with (first
      | (go_at_call 10; refine haw.mono ?_; rintro e w1 ⟨rfl, hB1⟩)
      | (go_at_call 11; refine (hnew _).mono ?_; rintro e w2 ⟨b, rfl, hI, hB2⟩; have hp1 := position_any hI a; have ho1 := fun w' hb => offset_any (hI.below (w' := w') hb) line col hc1 hc2; have hl1 := fun w' hb => lines_any (hI.below (w' := w') hb);
          generalize feedsOf s.data.toList = fs at *; generalize posN fs s.size a = p at *; generalize offN fs s.size line col = o at *; generalize fs.length = n at *)
      | (go_at_call 12; refine hp1.mono ?_; rintro e w3 ⟨rfl, hB3⟩)
      | (go_at_call 13; refine (hp2 _).mono ?_; rintro e w4 ⟨rfl, rfl⟩)
      | (go_at_call 14; refine (ho1 _ hB3).mono ?_; rintro e w4 ⟨rfl, rfl⟩)
      | (go_at_call 15; refine (ho2 _).mono ?_; rintro e w4 ⟨rfl, rfl⟩)
      | (go_at_call 16; refine (hl1 _ hB3).mono ?_; rintro e w4 ⟨rfl, rfl⟩)
      | (go_at_call 17; refine (hl2 _).mono ?_; rintro e w4 ⟨rfl, rfl⟩))
    go_ret
    exact ⟨rfl, bt (bt hB1 hB2) hB3⟩

end Go.Proofs.YtbcolkkhigdmcaaDoor
