import Derived.Test.YtdcpfpifecnfmaaDoorSa
import Derived.Lib.ConvBytes
import Derived.Lib.AtoiErrMem
/-
  LexerCovers.
-/
namespace Go.Proofs.YtdcpfpifecnfmaaDoor
open Go.RowKit Go.Shelf Go.Lib

set_option maxRecDepth 100000 in
set_option maxHeartbeats 3200000 in
theorem covers_walk (s : ByteArray) (hs : s.size ≤ 9223372036854775807) (w : World) (hA : AsciiAt w) :
    Calls Tryd.prog 4 #[.string s] w fun e w' => e = .returned (.bool true) ∧ Below w.heap.size w w' := by
  have haw := awake_any w
  by_cases hl : (200 : Int) < (s.size : Int)
  · go_enter Tryd.func4, Tryd.ntmps4
    go_wp2_with fail
    (with_reducible refine haw.mono ?_)
    rintro e w1 ⟨rfl, hB1⟩
    have HB1 := hidden hB1
    clear haw hB1
    go_wp2_with fail
    go_ret
    exact ⟨rfl, HB1.out⟩
  · have hsm : s.size ≤ 200 := by omega
    have hsc := fun w' (h : Below w.heap.size w w') => scan_any s (by omega) w' (hA.keep h)
    clear hA
    have kc := fun (w : World) (x : ByteArray) => Lib.run_convert_string_bytes (P := Tryd.prog) w 9 34 5 x Tryd.underlying9 Tryd.underlying34 Tryd.underlying5
    go_enter Tryd.func4, Tryd.ntmps4
    go_wp2_with fail
    (with_reducible refine haw.mono ?_)
    rintro e w1 ⟨rfl, hB1⟩
    have HB1 := hidden hB1
    clear haw hB1
    go_wp2_with fail
    (with_reducible refine (hsc _ HB1.out).mono ?_)
    rintro e w2 ⟨v, rfl, hr, hB2⟩
    obtain ⟨g, cap, rfl, hg, hat⟩ := tokRow_of hr (toksK_ne s)
    have HB2 := hidden (bt HB1.out hB2)
    have HA := hidden hat
    have hlen := toksK_len s (by omega)
    have hpos : 0 < (toksK s).length := List.length_pos_iff.2 (toksK_ne s)
    have HT : Hid ((∀ k p, TokHere s k p → (nextT s.data.toList p).kind = 0 → k + 1 = (toksK s).length ∧ (nextT s.data.toList p).at_ = s.size ∧ (nextT s.data.toList p).end_ = s.size) ∧ (∀ k p, TokHere s k p → (nextT s.data.toList p).kind ≠ 0 → k + 1 < (toksK s).length ∧ (nextT s.data.toList p).at_ < (nextT s.data.toList p).end_ ∧ TokHere s (k + 1) (nextT s.data.toList p).end_)) :=
      ⟨fun k p h h0 => tokHere_last h h0, fun k p h h0 => tokHere_next h h0⟩
    generalize hn : (toksK s).length = n at *
    have hn0 : ((n : Int) == 0) = false := by rw [beq_eq_false_iff_ne]; omega
    clear hr hB2 hat hsc hn HB1
    go_wp2_with fail
    go_loopw [5, 31] (fun fr i wr => ∃ k p : Nat, k ≤ n ∧ i = .int .i64 k ∧ fr = .int .i64 p ∧ p ≤ s.size ∧ Hid (Below w2.heap.size w2 wr ∧ ((k < n ∧ TokHere s k p) ∨ (k = n ∧ p = s.size)))) (fun _ i _ => n - (intOf i).toNat)
    case atStart => exact ⟨0, 0, Nat.zero_le _, rfl, rfl, Nat.zero_le _, Below.refl _ _, .inl ⟨hpos, tokHere_first s⟩⟩
    case round =>
      obtain ⟨k, p, hk, rfl, rfl, hp, hb⟩ := hrel
      by_cases hlt : k < n
      · have hh : TokHere s k p := by
          rcases hb.out.2 with h | h
          · exact h.2
          · omega
        have ha := (HA.out k _ (tokHere_get hh)).below hb.out.1 hg
        have x0 := ha.c0
        have x1 := ha.c1
        have x2 := ha.c2
        have x3 := ha.c3
        have hz := hb.out.1.size
        obtain ⟨f1, f2, f3, f4, f5, f6⟩ := nextT_facts s.data.toList p (by rw [bytes_len]; exact hp)
        rw [bytes_len] at f4 f5
        have hsk : skipF false (s.data.toList.drop p) = (nextT s.data.toList p).at_ - p := by
          show _ = p + skipF false (s.data.toList.drop p) - p; omega
        have q1 : (kwT s (nextT s.data.toList p)).at_ = (nextT s.data.toList p).at_ := by unfold kwT; split <;> rfl
        have q2 : (kwT s (nextT s.data.toList p)).end_ = (nextT s.data.toList p).end_ := by unfold kwT; split <;> rfl
        have q3 : (kwT s (nextT s.data.toList p)).from_ = p := by unfold kwT; split <;> rfl
        have q0 : ((nextT s.data.toList p).kind = 0 → (kwT s (nextT s.data.toList p)).kind = 0) ∧ ((nextT s.data.toList p).kind ≠ 0 → (kwT s (nextT s.data.toList p)).kind ≠ 0) := by
          unfold kwT
          split
          · rename_i h; refine ⟨fun h' => ?_, fun _ => by simp⟩; omega
          · exact ⟨id, id⟩
        have hl0 := HT.out.1 k p hh
        have hl1 := HT.out.2 k p hh
        rw [q1] at x2
        rw [q2] at x3
        rw [q3] at x1
        generalize (kwT s (nextT s.data.toList p)).kind = kd at *
        generalize (nextT s.data.toList p).kind = kn at *
        generalize (nextT s.data.toList p).at_ = a at *
        generalize (nextT s.data.toList p).end_ = e at *
        obtain ⟨lst, b0, b1, b2, hnx⟩ : ∃ lst : Bool, ((kd : Int) == 0) = lst ∧ ((k : Int) == (n : Int) - 1) = lst ∧ ((a : Int) == (e : Int)) = lst ∧ ((k + 1 < n ∧ TokHere s (k + 1) e) ∨ (k + 1 = n ∧ e = s.size)) := by
          by_cases h0 : kn = 0
          · obtain ⟨e1, e2, e3⟩ := hl0 h0
            refine ⟨true, by rw [q0.1 h0]; rfl, ?_, ?_, .inr ⟨e1, e3⟩⟩
            · rw [beq_iff_eq]; omega
            · rw [beq_iff_eq]; omega
          · obtain ⟨e1, e2, e3⟩ := hl1 h0
            have := q0.2 h0
            refine ⟨false, ?_, ?_, ?_, .inl ⟨e1, e3⟩⟩
            · rw [beq_eq_false_iff_ne]; omega
            · rw [beq_eq_false_iff_ne]; omega
            · rw [beq_eq_false_iff_ne]; omega
        have HNX := hidden hnx
        have b3 : ((p : Int) != (p : Int)) = false := by simp
        have c0 : decide ((a : Int) < (p : Int)) = false := decide_eq_false (by omega)
        have c1 : decide ((e : Int) < (a : Int)) = false := decide_eq_false (by omega)
        have c2 : decide ((s.size : Int) < (e : Int)) = false := decide_eq_false (by omega)
        obtain ⟨x, hx⟩ : ∃ x, s.extract p a = x := ⟨_, rfl⟩
        have hxs : x.size = a - p := by rw [← hx, ByteArray.size_extract]; omega
        have hxb : ∀ j, j < a - p → x.data.toList.getD j 0 = s.data.toList.getD (p + j) 0 := fun j hj => by
          rw [← hx, Lib.extract_data, List.getD_eq_getElem?_getD, List.getElem?_take, if_pos hj, List.getElem?_drop, ← List.getD_eq_getElem?_getD]
        have hcell := fun (w : World) j hj => Lib.bytesWorld_cell w 5 x j hj
        have hbel := fun (w : World) => Lib.bytesWorld_below w 5 x
        obtain ⟨m, hm⟩ : ∃ m, a - p = m := ⟨_, rfl⟩
        rw [hm] at hxs hxb hsk
        rw [hxs] at hcell
        have HC := hidden hcell
        have HX := hidden hxb
        have hmb : m ≤ 4096 := by omega
        clear hm
        have HS := hidden hsk
        have hbl := hidden (hb.out.1.alloc hz (.cells #[.int .i64 kd, .int .i64 p, .int .i64 a, .int .i64 e] 33))
        have hHB := hidden hbel
        clear ha q1 q2 q3 f1 f5 f6 hl0 hl1 q0 hh hnx hsk hxb hcell hbel
        cases lst
        all_goals
          go_wp2_with fail
          obtain ⟨W4, hW4⟩ : ∃ W4, W4 = wr.alloc (.cells #[.int .i64 kd, .int .i64 p, .int .i64 a, .int .i64 e] 33) := ⟨_, rfl⟩
          rw [← hW4]
          have hz4 : W4.heap.size = wr.heap.size + 1 := by rw [hW4]; simp
          have hc4 := HC.out W4
          rw [hz4] at hc4
          have hy3 : (Lib.bytesWorld W4 5 x).cell? ⟨wr.heap.size, 3, none⟩ = some (.int .i64 e) := by rw [Lib.bytesWorld_old W4 _ x _ (by show wr.heap.size < _; omega), hW4]; simp
          have HB5 : Hid (Below w2.heap.size w2 (Lib.bytesWorld W4 5 x)) := bt (by rw [hW4]; exact hbl.out) (hHB.out W4)
          generalize Lib.bytesWorld W4 5 x = W5 at *
          have HC4 := hidden hc4
          clear hc4 hW4 HC hHB kc x0 x1 x2 x3 b0 b1 b2 b3 c0 c1 c2 hx hz4 hbl hxs
          go_loop [9, 90] (fun cmv i => ∃ (j : Nat) (cm : Bool), j ≤ m ∧ i = .int .i64 j ∧ cmv = .bool cm ∧ Hid (skipF cm (s.data.toList.drop (p + j)) = m - j)) (fun _ i => m - (intOf i).toNat)
          case atStart => exact ⟨0, false, Nat.zero_le _, rfl, rfl, HS.out⟩
          case round =>
            obtain ⟨j, cm, hj, rfl, rfl, hsk⟩ := hrel
            by_cases hjl : j < m
            · have hcell := HC4.out j hjl
              rw [HX.out j hjl] at hcell
              have hstep := skip_step cm s.data.toList (p + j) (m - j - 1) (by rw [hsk.out]; omega)
              rw [show p + j + 1 = p + (j + 1) by omega, show m - j - 1 = m - (j + 1) by omega] at hstep
              clear hsk
              rcases hstep.2 with ⟨h10, hn⟩ | ⟨h10, rfl, hn⟩ | ⟨h10, rfl, h35, hn⟩ | ⟨h10, rfl, h35, hw, hn⟩
              · rw [h10] at hcell
                have hcell' : W5.cell? ⟨wr.heap.size + 1, j, none⟩ = some (.int .u8 10) := hcell
                have HN := hidden hn
                clear hstep hcell h10 hn
                cases cm
                all_goals
                  go_wp2_with fail
                  go_round
                  case rel => exact ⟨j + 1, false, by omega, by go_num, rfl, HN⟩
                  case measure => simp [intOf]; omega
              · have d10 : (((s.data.toList.getD (p + j) 0).toNat : Int) == 10) = false := byte_ne (c := 10) h10
                generalize s.data.toList.getD (p + j) 0 = c at *
                have HN := hidden hn
                clear hstep h10 hn
                go_wp2_with fail
                go_round
                case rel => exact ⟨j + 1, true, by omega, by go_num, rfl, HN⟩
                case measure => simp [intOf]; omega
              · rw [h35] at hcell
                have hcell' : W5.cell? ⟨wr.heap.size + 1, j, none⟩ = some (.int .u8 35) := hcell
                have HN := hidden hn
                clear hstep hcell h10 h35 hn
                go_wp2_with fail
                go_round
                case rel => exact ⟨j + 1, true, by omega, by go_num, rfl, HN⟩
                case measure => simp [intOf]; omega
              · have h3 : s.data.toList.getD (p + j) 0 = 9 ∨ s.data.toList.getD (p + j) 0 = 13 ∨ s.data.toList.getD (p + j) 0 = 32 := by
                  unfold whiteB at hw
                  simp only [Bool.or_eq_true, beq_iff_eq] at hw
                  rcases hw with ((h | h) | h) | h
                  · exact .inl h
                  · exact absurd h h10
                  · exact .inr (.inl h)
                  · exact .inr (.inr h)
                have HN := hidden hn
                clear hstep h10 h35 hn hw
                rcases h3 with h | h | h
                · rw [h] at hcell
                  have hcell' : W5.cell? ⟨wr.heap.size + 1, j, none⟩ = some (.int .u8 9) := hcell
                  clear hcell h
                  go_wp2_with fail
                  go_round
                  case rel => exact ⟨j + 1, false, by omega, by go_num, rfl, HN⟩
                  case measure => simp [intOf]; omega
                · rw [h] at hcell
                  have hcell' : W5.cell? ⟨wr.heap.size + 1, j, none⟩ = some (.int .u8 13) := hcell
                  clear hcell h
                  go_wp2_with fail
                  go_round
                  case rel => exact ⟨j + 1, false, by omega, by go_num, rfl, HN⟩
                  case measure => simp [intOf]; omega
                · rw [h] at hcell
                  have hcell' : W5.cell? ⟨wr.heap.size + 1, j, none⟩ = some (.int .u8 32) := hcell
                  clear hcell h
                  go_wp2_with fail
                  go_round
                  case rel => exact ⟨j + 1, false, by omega, by go_num, rfl, HN⟩
                  case measure => simp [intOf]; omega
            · obtain rfl : j = m := by omega
              clear hjl hsk
              go_wp2_with fail
              go_roundw
              case rel => exact ⟨k + 1, e, by omega, by go_num, rfl, f4, HB5.out, HNX.out⟩
              case measure => simp [intOf]; omega
      · obtain rfl : k = n := by omega
        have hps : p = s.size := by
          rcases hb.out.2 with h | h
          · omega
          · exact h.2
        clear hlt
        subst hps
        go_wp2_with fail
        go_ret
        exact ⟨by simp, HB2.out.trans (hb.out.1.mono HB2.out.size)⟩

end Go.Proofs.YtdcpfpifecnfmaaDoor
