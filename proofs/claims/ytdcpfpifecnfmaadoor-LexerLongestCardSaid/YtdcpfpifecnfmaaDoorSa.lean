import Derived.Test.YtdcpfpifecnfmaaDoorPc
import Derived.Test.YtdcpfpifecnfmaaDoorMp
import Derived.Deep.RegionHeld3
/-
  A slice that reads as tokens; LexerLongest.
-/
namespace Go.Proofs.YtdcpfpifecnfmaaDoor
open Go.RowKit Go.Shelf Go.Lib

theorem longKeep {A w' w'' : World} {X : Nat} {a b c : Int} (h : w'.cell? ⟨X, 0, none⟩ = some (.int .i64 a) ∧ w'.cell? ⟨X, 2, none⟩ = some (.int .i64 b) ∧ w'.cell? ⟨X, 3, none⟩ = some (.int .i64 c) ∧ X < w'.heap.size ∧ Hid (Below A.heap.size A w')) (hb : Below w'.heap.size w' w'') :
    w''.cell? ⟨X, 0, none⟩ = some (.int .i64 a) ∧ w''.cell? ⟨X, 2, none⟩ = some (.int .i64 b) ∧ w''.cell? ⟨X, 3, none⟩ = some (.int .i64 c) ∧ X < w''.heap.size ∧ Hid (Below A.heap.size A w'') :=
  ⟨(hb.cell (p := ⟨X, 0, none⟩) h.2.2.2.1).trans h.1, (hb.cell (p := ⟨X, 2, none⟩) h.2.2.2.1).trans h.2.1, (hb.cell (p := ⟨X, 3, none⟩) h.2.2.2.1).trans h.2.2.1, Nat.lt_of_lt_of_le h.2.2.2.1 hb.size, bt h.2.2.2.2.out hb⟩

set_option maxRecDepth 100000 in
set_option maxHeartbeats 3200000 in
theorem longest_walk (s : ByteArray) (hs : s.size ≤ 9223372036854775807) (w : World) (hA : AsciiAt w) (hmax : MaxAt w) :
    Calls Tryd.prog 6 #[.string s] w fun e w' => e = .returned (.bool true) ∧ Below w.heap.size w w' := by
  have haw := awake_any w
  by_cases hl : (200 : Int) < (s.size : Int)
  · go_enter Tryd.func6, Tryd.ntmps6
    go_wp2_with fail
    (with_reducible refine haw.mono ?_)
    rintro e w1 ⟨rfl, hB1⟩
    have HB1 := hidden hB1
    clear haw hB1
    go_wp2_with fail
    go_ret
    exact ⟨rfl, HB1.out⟩
  · have hsm : s.size ≤ 200 := by omega
    have hsc := fun w' (h : Below w.heap.size w w') => scan_any s (by omega) w' (hA.keep h)
    have hki := fun (x : ByteArray) (hx : x.size ≤ 4096) w' (h : Below w.heap.size w w') => kind_any x hx w' (hmax.keep h)
    have HK := hidden hki
    clear hki hA hmax
    go_enter Tryd.func6, Tryd.ntmps6
    go_wp2_with fail
    (with_reducible refine haw.mono ?_)
    rintro e w1 ⟨rfl, hB1⟩
    have HB1 := hidden hB1
    clear haw hB1
    go_wp2_with fail
    (with_reducible refine (hsc _ HB1.out).mono ?_)
    rintro e w2 ⟨v, rfl, hr, hB2⟩
    obtain ⟨g, cap, rfl, hg, hat⟩ := tokRow_of hr (toksK_ne s)
    have HB2 := hidden (bt HB1.out hB2)
    have HA := hidden hat
    have hlen := toksK_len s (by omega)
    have hget := toksK_get s
    generalize hn : (toksK s).length = n at *
    have HG := hidden hget
    clear hr hB2 hat hsc hn hget HB1
    go_wp2_with fail
    go_loopw [20] (fun i wr => ∃ k : Nat, k ≤ n ∧ i = .int .i64 k ∧ Hid (Below w2.heap.size w2 wr)) (fun i _ => n - (intOf i).toNat)
    case atStart => exact ⟨0, Nat.zero_le _, rfl, Below.refl _ _⟩
    case round =>
      obtain ⟨k, hk, rfl, hb⟩ := hrel
      by_cases hlt : k < n
      · obtain ⟨t, ht, he⟩ := HG.out k hlt
        have hp := fun h0 => tok_parts s.data.toList t ht h0
        have hm := toks_mem s.data.toList t ht
        have hk1 := fun h0 => kind_tok s t ht h0
        have hk2 := kind_longer s t ht
        rw [bytes_len] at hm
        obtain ⟨m1, m2, m3⟩ := hm
        have ha := (HA.out k _ he).below hb.out hg
        have x0 := ha.c0
        have x1 := ha.c1
        have x2 := ha.c2
        have x3 := ha.c3
        have hz := hb.out.size
        have q1 : (kwT s t).at_ = t.at_ := by unfold kwT; split <;> rfl
        have q2 : (kwT s t).end_ = t.end_ := by unfold kwT; split <;> rfl
        have q3 : (kwT s t).from_ = t.from_ := by unfold kwT; split <;> rfl
        have q0 : (t.kind = 0 → (kwT s t).kind = 0) ∧ (t.kind ≠ 0 → (kwT s t).kind ≠ 0) ∧ (t.kind = 5 → (kwT s t).kind = 5) ∧ (t.kind ≠ 5 → (kwT s t).kind ≠ 5) := by
          unfold kwT
          split
          · rename_i h; refine ⟨fun h' => ?_, fun _ => by simp, fun h' => ?_, fun _ => by simp⟩ <;> omega
          · exact ⟨id, id, id, id⟩
        rw [q1] at x2
        rw [q2] at x3
        rw [q3] at x1
        unfold wordOf at hk1
        generalize (kwT s t).kind = kd at *
        obtain ⟨i1, i2, i3, i4⟩ := q0
        clear ha he q1 q2 q3 ht
        by_cases h0 : t.kind = 0
        · have hkd := i1 h0
          have b0 : ((kd : Int) == 0) = true := by rw [hkd]; rfl
          clear hk1 hk2 i1 i2 i3 i4 h0 hkd hp
          go_wp2_with fail
          go_roundw
          case rel => exact ⟨k + 1, by omega, by go_num, hb.out.alloc hz _⟩
          case measure => simp [intOf]; omega
        · have hkd := i2 h0
          have b0 : ((kd : Int) == 0) = false := by rw [beq_eq_false_iff_ne]; omega
          have hp := hp h0
          have h12 : t.at_ < t.end_ := hp.1
          have hk1 := hk1 h0
          have HN : Hid (t.kind ≠ 5 → t.end_ < s.size → kindW (s.extract t.at_ (t.end_ + 1)) = 0) := hk2 h0
          have HI5 := hidden (And.intro i3 i4)
          have hka := fun w' (h : Below w.heap.size w w') => HK.out (s.extract t.at_ t.end_) (by rw [ByteArray.size_extract]; omega) w' h
          rw [hk1] at hka
          clear hk1 hk2 i1 i2 i3 i4 h0 hkd hp
          have c1 : decide ((s.size : Int) < (t.end_ : Int)) = false := decide_eq_false (by omega)
          have c2 : decide ((t.end_ : Int) < (t.at_ : Int)) = false := decide_eq_false (by omega)
          have hbd := hidden (hb.out.alloc hz (.cells #[.int .i64 kd, .int .i64 t.from_, .int .i64 t.at_, .int .i64 t.end_] 33))
          have z1 : (wr.alloc (.cells #[.int .i64 kd, .int .i64 t.from_, .int .i64 t.at_, .int .i64 t.end_] 33)).cell? ⟨wr.heap.size, 0, none⟩ = some (.int .i64 kd) ∧ (wr.alloc (.cells #[.int .i64 kd, .int .i64 t.from_, .int .i64 t.at_, .int .i64 t.end_] 33)).cell? ⟨wr.heap.size, 2, none⟩ = some (.int .i64 t.at_) ∧
            (wr.alloc (.cells #[.int .i64 kd, .int .i64 t.from_, .int .i64 t.at_, .int .i64 t.end_] 33)).cell? ⟨wr.heap.size, 3, none⟩ = some (.int .i64 t.end_) ∧ wr.heap.size < (wr.alloc (.cells #[.int .i64 kd, .int .i64 t.from_, .int .i64 t.at_, .int .i64 t.end_] 33)).heap.size ∧ Hid (Below w2.heap.size w2 (wr.alloc (.cells #[.int .i64 kd, .int .i64 t.from_, .int .i64 t.at_, .int .i64 t.end_] 33))) :=
            ⟨by simp, by simp, by simp, by simp, hbd.out⟩
          go_wp2_with fail
          generalize (wr.alloc (.cells #[.int .i64 kd, .int .i64 t.from_, .int .i64 t.at_, .int .i64 t.end_] 33)) = A at *
          go_region_held3 (fun w' => w'.cell? ⟨wr.heap.size, 0, none⟩ = some (.int .i64 kd) ∧ w'.cell? ⟨wr.heap.size, 2, none⟩ = some (.int .i64 t.at_) ∧ w'.cell? ⟨wr.heap.size, 3, none⟩ = some (.int .i64 t.end_) ∧ wr.heap.size < w'.heap.size ∧ Hid (Below w2.heap.size w2 w'))
            (first | assumption | (exact longKeep (by assumption) (by assumption)) | (exact longKeep z1 ⟨rfl, rfl, rfl, Nat.le_refl _, fun _ _ => rfl⟩))
            (first | (go_at_call 18; (with_reducible refine (hka _ (by first | exact bt HB2.out hbd.out | exact (bt HB2.out hbd.out).drew | exact below_drewN (bt HB2.out hbd.out) _)).mono ?_); rintro e w4 ⟨rfl, hB4⟩))
          obtain ⟨z4, z5, z6, z7, z8⟩ : w4.cell? ⟨wr.heap.size, 0, none⟩ = some (.int .i64 kd) ∧ w4.cell? ⟨wr.heap.size, 2, none⟩ = some (.int .i64 t.at_) ∧ w4.cell? ⟨wr.heap.size, 3, none⟩ = some (.int .i64 t.end_) ∧ wr.heap.size < w4.heap.size ∧ Hid (Below w2.heap.size w2 w4) := by assumption
          clear z1 hbd hka hB4 x0 x1 x2 x3
          by_cases h5 : t.kind = 5
          · have h5' := HI5.out.1 h5
            have d1 : ((kd : Int) == 5) = true := by rw [h5']; rfl
            clear h5 h5'
            by_cases he : t.end_ = s.size
            · have d2 : ((t.end_ : Int) == (s.size : Int)) = true := by rw [he]; simp
              clear he
              go_wp2_with fail
              go_roundw
              case rel => exact ⟨k + 1, by omega, by go_num, z8⟩
              case measure => simp [intOf]; omega
            · have d2 : ((t.end_ : Int) == (s.size : Int)) = false := by rw [beq_eq_false_iff_ne]; omega
              clear he
              go_wp2_with fail
              go_roundw
              case rel => exact ⟨k + 1, by omega, by go_num, z8⟩
              case measure => simp [intOf]; omega
          · have h5' := HI5.out.2 h5
            have d1 : ((kd : Int) == 5) = false := by rw [beq_eq_false_iff_ne]; omega
            by_cases he : t.end_ = s.size
            · have d2 : ((t.end_ : Int) == (s.size : Int)) = true := by rw [he]; simp
              clear he h5 h5'
              go_wp2_with fail
              go_roundw
              case rel => exact ⟨k + 1, by omega, by go_num, z8⟩
              case measure => simp [intOf]; omega
            · have d2 : ((t.end_ : Int) == (s.size : Int)) = false := by rw [beq_eq_false_iff_ne]; omega
              have hlt2 : t.end_ < s.size := by omega
              have hk2 := HN.out h5 hlt2
              have hka2 := HK.out (s.extract t.at_ (t.end_ + 1)) (by rw [ByteArray.size_extract]; omega) w4 (bt HB2.out z8.out)
              rw [hk2] at hka2
              have hnat : ((t.end_ : Int) + 1).toNat = t.end_ + 1 := by omega
              clear he h5 h5' hk2
              go_wp2_with fail
              (with_reducible refine hka2.mono ?_)
              rintro e w5 ⟨rfl, hB5⟩
              have HB5 := hidden (bt z8.out hB5)
              clear hka2 hB5
              go_wp2_with fail
              go_roundw
              case rel => exact ⟨k + 1, by omega, by go_num, HB5⟩
              case measure => simp [intOf]; omega
      · obtain rfl : k = n := by omega
        clear hlt
        go_wp2_with fail
        go_ret
        exact ⟨rfl, HB2.out.trans (hb.out.mono HB2.out.size)⟩

end Go.Proofs.YtdcpfpifecnfmaaDoor
