import Derived.Test.YtdcpfpifecnfmaaDoorLd
namespace Go.Proofs.YtdcpfpifecnfmaaDoor
open Go.RowKit Go.Shelf Go.Lib

theorem runTo_tok (p : UInt8 → Bool) (l : List UInt8) (k : Nat) (h : k < l.length) (hp : p (l.getD k 0) = true) : runTo p l k = k + (((l.drop (k + 1)).takeWhile p).length + 1) := by
  unfold runTo; rw [drop_get l k h, List.takeWhile_cons_of_pos hp, List.length_cons]

set_option maxHeartbeats 1600000 in
theorem token_any {w : World} {b : Nat} {s : ByteArray} (h : Idx w b s (feedsOf s.data.toList)) (k : Nat) (hk : k ≤ s.size) :
    Calls Tryd.prog 56 #[scanV s b, .int .i64 k] w fun e w' =>
      e = .returned (.tuple #[.int .i64 ((tokF (s.data.toList.drop k)).1 : Nat), .int .i64 ((k + (tokF (s.data.toList.drop k)).2 : Nat) : Int)]) ∧ Below w.heap.size w w' := by
  have hsm := h.small
  have hbl := bytes_len s
  have hB0 : Below w.heap.size w (w.alloc (.cells #[.string s, .pointer (some ⟨b, 0, none⟩)] 59)) := (Below.refl _ _).alloc (Nat.le_refl _) _
  obtain ⟨W0, hW0⟩ : ∃ W0, W0 = w.alloc (.cells #[.string s, .pointer (some ⟨b, 0, none⟩)] 59) := ⟨_, rfl⟩
  have c0 : W0.cell? ⟨w.heap.size, 0, none⟩ = some (.string s) := by rw [hW0]; simp
  have c1 : W0.cell? ⟨w.heap.size, 1, none⟩ = some (.pointer (some ⟨b, 0, none⟩)) := by rw [hW0]; simp
  have hz : w.heap.size < W0.heap.size := by rw [hW0]; simp
  rw [← hW0] at hB0
  have hI := h.below hB0
  clear h
  by_cases hend : k = s.size
  · subst hend
    rw [show s.data.toList.drop s.size = [] by rw [← hbl]; simp]
    clear hbl hI
    go_enter Tryd.func56, Tryd.ntmps56
    go_wp2_with fail
    go_ret2
    exact ⟨rfl, by rw [← hW0]; exact hB0⟩
  · have hlt : k < s.size := by omega
    have hne : ((k : Int) == (s.size : Int)) = false := by rw [beq_eq_false_iff_ne]; omega
    have hle := fun w' => isLetter_any s[k] w'
    have hdi := fun w' => isDigit_any s[k] w'
    have hrp := run_part hI k hk
    have hrd := run_digit hI k hk
    have hsy := fun w' => symbol_from s k hlt hsm w'
    have hwr := wrong_any hI k hlt
    have hg := getD_bytes s k hlt
    have hdr := drop_get s.data.toList k (by rw [hbl]; exact hlt)
    have hll : s.data.toList.length = s.size := hbl
    rw [hg] at hdr
    clear hI hbl hend
    have HW : Hid (W0 = w.alloc (.cells #[.string s, .pointer (some ⟨b, 0, none⟩)] 59)) := hW0
    clear hW0
    cases hl : letterB s[k] with
    | true =>
      have ht : tokF (s.data.toList.drop k) = (1, ((s.data.toList.drop (k + 1)).takeWhile partB).length + 1) := by rw [hdr, tokF, if_pos hl]
      have hr := runTo_tok partB s.data.toList k (by rw [hll]; exact hlt) (by rw [hg]; unfold partB; rw [hl]; rfl)
      have hru := runTo_le partB s.data.toList k (by rw [hll]; omega)
      rw [ht]
      rw [hr] at hrp
      rw [hl] at hle
      clear ht hdr hg hr hl hrd hwr hsy hdi hru hll
      go_enter Tryd.func56, Tryd.ntmps56
      go_wp2_with (first | (go_at_call 72; (with_reducible refine (hle _).mono ?_); rintro e w1 ⟨rfl, rfl⟩) | (go_at_call 73; rw [← HW.out]; (with_reducible refine hrp.mono ?_); rintro e w1 ⟨rfl, hB1⟩))
      go_ret2
      exact ⟨rfl, bt hB0 hB1⟩
    | false =>
      rw [hl] at hle
      cases hd : digitB s[k] with
      | true =>
        have ht : tokF (s.data.toList.drop k) = (3, ((s.data.toList.drop (k + 1)).takeWhile digitB).length + 1) := by rw [hdr, tokF, if_neg (by rw [hl]; simp), if_pos hd]
        have hr := runTo_tok digitB s.data.toList k (by rw [hll]; exact hlt) (by rw [hg]; exact hd)
        rw [ht]
        rw [hr] at hrd
        rw [hd] at hdi
        clear ht hdr hg hr hl hrp hwr hsy hd hll
        go_enter Tryd.func56, Tryd.ntmps56
        go_wp2_with (first | (go_at_call 72; (with_reducible refine (hle _).mono ?_); rintro e w1 ⟨rfl, rfl⟩) | (go_at_call 75; (with_reducible refine (hdi _).mono ?_); rintro e w1 ⟨rfl, rfl⟩) | (go_at_call 73; rw [← HW.out]; (with_reducible refine hrd.mono ?_); rintro e w1 ⟨rfl, hB1⟩))
        go_ret2
        exact ⟨rfl, bt hB0 hB1⟩
      | false =>
        rw [hd] at hdi
        by_cases hs : 0 < symL (s.data.toList.drop k)
        · have ht : tokF (s.data.toList.drop k) = (4, symL (s.data.toList.drop k)) := by rw [hdr] at hs ⊢; rw [tokF, if_neg (by rw [hl]; simp), if_neg (by rw [hd]; simp), if_pos hs]
          have hsl : symL (s.data.toList.drop k) ≤ 2 := by
            cases s.data.toList.drop k with
            | nil => simp [symL]
            | cons x r => cases r <;> (unfold symL; (repeat' split) <;> omega)
          rw [ht]
          have hs' : (0 : Int) < (symL (s.data.toList.drop k) : Nat) := by omega
          clear ht hdr hg hl hrp hrd hwr hd hll hs
          generalize symL (s.data.toList.drop k) = n at *
          go_enter Tryd.func56, Tryd.ntmps56
          go_wp2_with (first | (go_at_call 72; (with_reducible refine (hle _).mono ?_); rintro e w1 ⟨rfl, rfl⟩) | (go_at_call 75; (with_reducible refine (hdi _).mono ?_); rintro e w1 ⟨rfl, rfl⟩) | (go_at_call 76; (with_reducible refine (hsy _).mono ?_); rintro e w1 ⟨rfl, rfl⟩))
          go_ret2
          exact ⟨by simp, by rw [← HW.out]; exact hB0⟩
        · have ht : tokF (s.data.toList.drop k) = (5, wrongF (s.data.toList.drop (k + 1)) + 1) := by rw [hdr] at hs ⊢; rw [tokF, if_neg (by rw [hl]; simp), if_neg (by rw [hd]; simp), if_neg hs]
          have hw : wrongTo s.data.toList (k + 1) = k + (wrongF (s.data.toList.drop (k + 1)) + 1) := by unfold wrongTo; omega
          have hs0 : symL (s.data.toList.drop k) = 0 := by omega
          rw [ht]
          rw [hw] at hwr
          rw [hs0] at hsy
          clear ht hdr hg hl hrp hrd hd hll hs hw hs0
          go_enter Tryd.func56, Tryd.ntmps56
          go_wp2_with (first | (go_at_call 72; (with_reducible refine (hle _).mono ?_); rintro e w1 ⟨rfl, rfl⟩) | (go_at_call 75; (with_reducible refine (hdi _).mono ?_); rintro e w1 ⟨rfl, rfl⟩) | (go_at_call 76; (with_reducible refine (hsy _).mono ?_); rintro e w1 ⟨rfl, rfl⟩) | (go_at_call 77; rw [← HW.out]; (with_reducible refine hwr.mono ?_); rintro e w1 ⟨rfl, hB1⟩))
          go_ret2
          exact ⟨rfl, bt hB0 hB1⟩

end Go.Proofs.YtdcpfpifecnfmaaDoor
