import Derived.Test.YtdcpfpifecnfmaaSd
import Derived.Lib.ConvBytes
import Derived.Lib.AtoiErrMem
import Derived.Test.YtdcpfpifecnfmaaPc
import Derived.Deep.RegionHeld3
import Derived.IntWalk
/-
  LexerCompacts.
-/
namespace Go.Proofs.Ytdcpfpifecnfmaa
open Go.RowKit Go.Shelf Go.Lib

theorem strs_drew {w : World} {v : Value} {xs : List ByteArray} (h : Strs w v xs) (q : Nat) : Strs (w.drewN q) v xs := h.below (below_drewN (Below.refl _ _) q)

/-- A text without one of its bytes. -/
theorem without_list (c : ByteArray) (j : Nat) : (c.extract 0 j ++ c.extract (j + 1) c.size).data.toList = c.data.toList.take j ++ c.data.toList.drop (j + 1) := by
  rw [ByteArray.data_append, Array.toList_append, Lib.extract_data, Lib.extract_data, List.drop_zero, Nat.sub_zero]
  congr 1
  exact List.take_of_length_le (by rw [List.length_drop, bytes_len]; omega)

theorem with_blank (c : ByteArray) (j : Nat) (hj : j < c.size) (h : c.data.toList.getD j 0 = 32) : c.data.toList = c.data.toList.take j ++ 32 :: c.data.toList.drop (j + 1) := by
  have := drop_get c.data.toList j (by rw [bytes_len]; exact hj)
  rw [h] at this
  rw [← this, List.take_append_drop]

theorem without_words (s : ByteArray) (j : Nat) (hj : j < (compactB s).size) (h : (compactB s).data.toList.getD j 0 = 32) : wordsB ((compactB s).extract 0 j ++ (compactB s).extract (j + 1) (compactB s).size) ≠ wordsB s :=
  compact_blank s _ _ _ (with_blank _ j hj h) (without_list _ j)

theorem without_size (c : ByteArray) (j : Nat) : (c.extract 0 j ++ c.extract (j + 1) c.size).size ≤ 2 * c.size := by
  rw [ByteArray.size_append, ByteArray.size_extract, ByteArray.size_extract]; omega

theorem cmpKeep {w7 w' w'' : World} {v : Value} {xs : List ByteArray} (h : Hid (Below w7.heap.size w7 w') ∧ Strs w' v xs) (hb : Below w'.heap.size w' w'') : Hid (Below w7.heap.size w7 w'') ∧ Strs w'' v xs :=
  ⟨bt h.1.out hb, h.2.below hb⟩
theorem cmpNe {w7 w' : World} {v u : Value} {xs ys : List ByteArray} (h : Hid (Below w7.heap.size w7 w') ∧ Strs w' v xs) (h8 : Strs w' u ys) (hne : Hid (ys ≠ xs)) (hx : Hid (xs.length ≤ 20000 ∧ ys.length ≤ 20000)) :
    Calls Try.prog 11 #[u, v] w' fun e w'' => e = .returned (.bool false) ∧ ∃ q, w'' = w'.drewN q := by
  have := equal_any h8 h.2 hx.out.2 hx.out.1
  rwa [decide_eq_false hne.out] at this

set_option maxRecDepth 100000 in
set_option maxHeartbeats 3200000 in
theorem compacts_walk (s : ByteArray) (hs : s.size ≤ 9223372036854775807) (w : World) :
    Calls Try.prog 4 #[.string s] w fun e w' => e = .returned (.bool true) ∧ Below w.heap.size w w' := by
  have haw := awake_any w
  by_cases hl : (200 : Int) < (s.size : Int)
  · go_enter Try.func4, Try.ntmps4
    go_wp2_with fail
    (with_reducible refine haw.mono ?_)
    rintro e w1 ⟨rfl, hB1⟩
    have HB1 := hidden hB1
    clear haw hB1
    go_wp2_with fail
    go_ret
    exact ⟨rfl, HB1.out⟩
  · have hsm : s.size ≤ 200 := by omega
    have hcs := compact_size s
    have hcb : (compactB s).size ≤ 400 := by omega
    have hlen := wordsB_len s (by omega)
    have hcm := fun w' => compact_any s (by omega) w'
    have hcm2 := fun w' => compact_any (compactB s) (by omega) w'
    have hws := fun w' => words_any s (by omega) w'
    have hws2 := fun w' => words_any (compactB s) (by omega) w'
    rw [compact_twice] at hcm2
    rw [compact_words] at hws2
    have kc := fun (w : World) (x : ByteArray) => Lib.run_convert_string_bytes (P := Try.prog) w 9 29 5 x Try.underlying9 Try.underlying29 Try.underlying5
    have hno := without_words s
    have hnl : ∀ j, Hid (∀ w', Calls Try.prog 10 #[.string ((compactB s).extract 0 j ++ (compactB s).extract (j + 1) (compactB s).size)] w' (RowOf w' (wordsB ((compactB s).extract 0 j ++ (compactB s).extract (j + 1) (compactB s).size)))) := fun j w' => words_any _ (by have := without_size (compactB s) j; omega) w'
    have hlj : ∀ j, (wordsB ((compactB s).extract 0 j ++ (compactB s).extract (j + 1) (compactB s).size)).length ≤ 10000 := fun j => wordsB_len _ (by have := without_size (compactB s) j; omega)
    unfold RowOf at hws hws2
    generalize wordsB s = ws at *
    generalize compactB s = c at *
    have HNO := hidden hno
    have HNL := hidden hnl
    have HLJ := hidden hlj
    clear hno hnl hlj
    go_enter Try.func4, Try.ntmps4
    go_wp2_with fail
    (with_reducible refine haw.mono ?_)
    rintro e w1 ⟨rfl, hB1⟩
    have HB1 := hidden hB1
    clear haw hB1
    go_wp2_with fail
    (with_reducible refine (hcm _).mono ?_)
    rintro e w2 ⟨rfl, hB2⟩
    have HB2 := hidden (bt HB1.out hB2)
    clear hcm hB2 HB1
    go_wp2_with fail
    (with_reducible refine (hws _).mono ?_)
    rintro e w3 ⟨v1, rfl, hr1, hB3⟩
    have hs1 := Strs.of_row hr1
    have HB3 := hidden (bt HB2.out hB3)
    clear hws hB3 HB2 hr1
    have HS1 := hidden hs1
    clear hs1
    go_wp2_with fail
    (with_reducible refine (hws2 _).mono ?_)
    rintro e w4 ⟨v2, rfl, hr2, hB4⟩
    have hs2 := Strs.of_row hr2
    have HB4 := hidden (bt HB3.out hB4)
    have hs1' := HS1.out.below hB4
    have he := equal_any hs2 hs1' (by omega) (by omega)
    rw [decide_eq_true rfl] at he
    have HS4 := hidden hs1'
    clear hws2 hB4 HB3 hr2 HS1 hs2 hs1'
    go_wp2_with fail
    (with_reducible refine he.mono ?_)
    rintro e w5 ⟨rfl, q, rfl⟩
    have HB5 := hidden (below_drewN HB4.out q)
    have HS5 := hidden (strs_drew HS4.out q)
    clear he HB4 HS4
    go_wp2_with fail
    (with_reducible refine (hcm2 _).mono ?_)
    rintro e w6 ⟨rfl, hB6⟩
    have HB6 := hidden (bt HB5.out hB6)
    have HS6 := hidden (HS5.out.below hB6)
    clear hcm2 hB6 HB5 HS5
    go_wp2_with fail
    have hc6 := fun j hj => Lib.bytesWorld_cell w6 5 c j hj
    have hb7 := Lib.bytesWorld_below w6 5 c
    have hz7 := Lib.bytesWorld_size w6 5 c
    have HB7 := hidden (bt HB6.out hb7)
    have HS7 := hidden (HS6.out.below hb7)
    generalize Lib.bytesWorld w6 5 c = w7 at *
    have hlt7 : w6.heap.size < w7.heap.size := by omega
    have HC := hidden hc6
    clear hc6 hb7 hz7 kc HB6 HS6
    go_loopw [30] (fun i wr => ∃ j : Nat, j ≤ c.size ∧ i = .int .i64 j ∧ Hid (Below w7.heap.size w7 wr)) (fun i _ => c.size - (intOf i).toNat)
    case atStart => exact ⟨0, Nat.zero_le _, rfl, Below.refl _ _⟩
    case round =>
      obtain ⟨j, hj, rfl, hb⟩ := hrel
      by_cases hlt : j < c.size
      · have hcell := (hb.out.cell (p := ⟨w6.heap.size, j, none⟩) hlt7).trans (HC.out j hlt)
        have hz := hb.out.size
        by_cases h32 : c.data.toList.getD j 0 = 32
        · have hne := HNO.out j hlt h32
          rw [h32] at hcell
          have hcell' : wr.cell? ⟨w6.heap.size, j, none⟩ = some (.int .u8 32) := hcell
          clear hcell h32
          have hwr : IntKind.i64.wrap ((j : Int) + 1) = (j : Int) + 1 := IntWalk.i64_in _ (by omega)
          have hnat : ((j : Int) + 1).toNat = j + 1 := by omega
          have hjs : (j : Int) + 1 ≤ (c.size : Int) := by omega
          have hj0 : (0 : Int) ≤ (j : Int) + 1 := by omega
          have hif : ¬ (9223372036854775807 < min j c.size + (c.size - (j + 1))) := by omega
          have hif2 : ¬ (9223372036854775807 < j + (c.size - (j + 1))) := by omega
          have hnw := (HNL.out j).out
          have HNE := hidden hne
          have HLN : Hid (ws.length ≤ 20000 ∧ (wordsB (c.extract 0 j ++ c.extract (j + 1) c.size)).length ≤ 20000) := ⟨by omega, by have := HLJ.out j; omega⟩
          have hS : Hid (Below w7.heap.size w7 wr) ∧ Strs wr v1 ws := ⟨hb, HS7.out.below hb.out⟩
          unfold RowOf at hnw
          generalize wordsB (c.extract 0 j ++ c.extract (j + 1) c.size) = ys at *
          clear hne
          go_wp2_with fail
          go_region_held3 (fun w' => Hid (Below w7.heap.size w7 w') ∧ Strs w' v1 ws)
            (first | assumption | (exact cmpKeep (by assumption) (by assumption)) | (exact cmpKeep hS ⟨rfl, rfl, rfl, Nat.le_refl _, fun _ _ => rfl⟩))
            (first | (go_at_call 10; (with_reducible refine (hnw _).mono ?_); rintro e w8 ⟨v8, rfl, hr8, hB8⟩; have hs8 := Strs.of_row hr8; clear hr8) | (go_at_call 11; (with_reducible refine (cmpNe (by assumption) (by assumption) HNE HLN).mono ?_); rintro e w9 ⟨rfl, q9, rfl⟩; have hB9 := below_drewN (Below.refl w8.heap.size w8) q9))
          obtain ⟨z1, z2⟩ : Hid (Below w7.heap.size w7 (w8.drewN q9)) ∧ Strs (w8.drewN q9) v1 ws := by assumption
          clear hS hnw hB8 hs8 hB9
          go_wp2_with fail
          go_roundw
          case rel => exact ⟨j + 1, by omega, by go_num, z1⟩
          case measure => simp [intOf]; omega
        · have d32 : (((c.data.toList.getD j 0).toNat : Int) == 32) = false := byte_ne (c := 32) h32
          generalize c.data.toList.getD j 0 = x at *
          clear h32
          go_wp2_with fail
          go_quiet (fail)
          go_wp2_with fail
          go_roundw
          case rel => exact ⟨j + 1, by omega, by go_num, below_drewN hb.out _⟩
          case measure => simp [intOf]; omega
      · obtain rfl : j = c.size := by omega
        clear hlt
        go_wp2_with fail
        go_ret
        exact ⟨rfl, HB7.out.trans (hb.out.mono HB7.out.size)⟩

end Go.Proofs.Ytdcpfpifecnfmaa
