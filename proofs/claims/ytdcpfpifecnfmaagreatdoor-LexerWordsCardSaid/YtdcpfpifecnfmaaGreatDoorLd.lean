import Derived.Test.YtdcpfpifecnfmaaGreatDoorLc
namespace Go.Proofs.YtdcpfpifecnfmaaGreatDoor
open Go.RowKit Go.Shelf Go.Lib

set_option maxHeartbeats 1600000 in
theorem ends_any (t : ByteArray) (ht : 1 ≤ t.size) (hs : t.size ≤ 4096) (w : World) :
    Calls Tryz.prog 69 #[.string t] w fun e w' => e = .returned (.bool (endsB t.data.toList)) ∧ w = w' := by
  have h0 : 0 < t.size := ht
  obtain ⟨a, ha⟩ : ∃ a, t[0] = a := ⟨_, rfl⟩
  have h3 : (0 : Int) < (t.size : Int) := by omega
  have hsp := fun w' => isSpace_any a w'
  have hle := fun w' => isLetter_any a w'
  have hdi := fun w' => isDigit_any a w'
  have hsy := fun w' => symbol_any t ht hs w'
  have e1 : ((a.toNat : Int) == 35) = (a == 35) := byte_eqI a 35
  have hE : endsB t.data.toList = (whiteB a || a == 35 || letterB a || digitB a || decide (0 < symL t.data.toList)) := by
    cases hl : t.data.toList with
    | nil => have := bytes_len t; rw [hl] at this; simp at this; omega
    | cons c r =>
      have : c = a := by have := getD_bytes t 0 (by omega); rw [hl, ha] at this; exact this
      subst this; rfl
  rw [hE]
  generalize (a == 35) = b2 at *
  generalize whiteB a = b1 at *
  generalize letterB a = b3 at *
  generalize digitB a = b4 at *
  generalize symL t.data.toList = n at *
  clear hE
  cases b1 with
  | true =>
    go_enter Tryz.func69, Tryz.ntmps69
    go_wp2_with (go_at_call 43; (with_reducible refine (hsp _).mono ?_); rintro e w1 ⟨rfl, rfl⟩)
    go_ret
    exact ⟨rfl, rfl⟩
  | false =>
    cases b2 with
    | true =>
      go_enter Tryz.func69, Tryz.ntmps69
      go_wp2_with (go_at_call 43; (with_reducible refine (hsp _).mono ?_); rintro e w1 ⟨rfl, rfl⟩)
      go_ret
      exact ⟨rfl, rfl⟩
    | false =>
      cases b3 with
      | true =>
        go_enter Tryz.func69, Tryz.ntmps69
        go_wp2_with (first | (go_at_call 43; (with_reducible refine (hsp _).mono ?_); rintro e w1 ⟨rfl, rfl⟩) | (go_at_call 45; (with_reducible refine (hle _).mono ?_); rintro e w1 ⟨rfl, rfl⟩))
        go_ret
        exact ⟨rfl, rfl⟩
      | false =>
        cases b4 with
        | true =>
          go_enter Tryz.func69, Tryz.ntmps69
          go_wp2_with (first | (go_at_call 43; (with_reducible refine (hsp _).mono ?_); rintro e w1 ⟨rfl, rfl⟩) | (go_at_call 45; (with_reducible refine (hle _).mono ?_); rintro e w1 ⟨rfl, rfl⟩) | (go_at_call 48; (with_reducible refine (hdi _).mono ?_); rintro e w1 ⟨rfl, rfl⟩))
          go_ret
          exact ⟨rfl, rfl⟩
        | false =>
          go_enter Tryz.func69, Tryz.ntmps69
          go_wp2_with (first | (go_at_call 43; (with_reducible refine (hsp _).mono ?_); rintro e w1 ⟨rfl, rfl⟩) | (go_at_call 45; (with_reducible refine (hle _).mono ?_); rintro e w1 ⟨rfl, rfl⟩) | (go_at_call 48; (with_reducible refine (hdi _).mono ?_); rintro e w1 ⟨rfl, rfl⟩) | (go_at_call 49; (with_reducible refine (hsy _).mono ?_); rintro e w1 ⟨rfl, rfl⟩))
          go_ret
          exact ⟨by congr 2, rfl⟩

def wrongTo (l : List UInt8) (k : Nat) : Nat := k + wrongF (l.drop k)
theorem wrongTo_go (l : List UInt8) (k : Nat) (h : k < l.length) (he : endsB (l.drop k) = false) : wrongTo l k = wrongTo l (k + 1) := by
  unfold wrongTo; rw [drop_get l k h] at he ⊢; rw [wrongF, if_neg (by rw [he]; simp)]; omega
theorem wrongTo_stop (l : List UInt8) (k : Nat) (h : k < l.length) (he : endsB (l.drop k) = true) : wrongTo l k = k := by
  unfold wrongTo; rw [drop_get l k h] at he ⊢; rw [wrongF, if_pos he]; rfl
theorem wrongTo_end (l : List UInt8) : wrongTo l l.length = l.length := by unfold wrongTo; simp [wrongF]

theorem ends_from (s : ByteArray) (k : Nat) (hk : k < s.size) (hs : s.size ≤ 4096) (w : World) :
    Calls Tryz.prog 69 #[.string (s.extract k s.size)] w fun e w' => e = .returned (.bool (endsB (s.data.toList.drop k))) ∧ w = w' := by
  have h1 : (s.extract k s.size).size = s.size - k := by rw [Lib.size_eq, Lib.extract_to_end, List.length_drop, bytes_len]
  have := ends_any (s.extract k s.size) (by omega) (by omega) w
  rwa [Lib.extract_to_end] at this

theorem symbol_from (s : ByteArray) (k : Nat) (hk : k < s.size) (hs : s.size ≤ 4096) (w : World) :
    Calls Tryz.prog 49 #[.string (s.extract k s.size)] w fun e w' => e = .returned (.int .i64 (symL (s.data.toList.drop k) : Nat)) ∧ w = w' := by
  have h1 : (s.extract k s.size).size = s.size - k := by rw [Lib.size_eq, Lib.extract_to_end, List.length_drop, bytes_len]
  have := symbol_any (s.extract k s.size) (by omega) (by omega) w
  rwa [Lib.extract_to_end] at this

set_option maxHeartbeats 800000 in
theorem wrong_any {w : World} {b : Nat} {s : ByteArray} (h : Idx w b s (feedsOf s.data.toList)) (k : Nat) (hk : k < s.size) :
    Calls Tryz.prog 50 #[scanV s b, .int .i64 k] w fun e w' => e = .returned (.int .i64 (wrongTo s.data.toList (k + 1) : Nat)) ∧ Below w.heap.size w w' := by
  have hsm := h.small
  have hbl := bytes_len s
  have hB0 : Below w.heap.size w (w.alloc (.cells #[.string s, .pointer (some ⟨b, 0, none⟩)] 40)) := (Below.refl _ _).alloc (Nat.le_refl _) _
  have c0 : (w.alloc (.cells #[.string s, .pointer (some ⟨b, 0, none⟩)] 40)).cell? ⟨w.heap.size, 0, none⟩ = some (.string s) := by simp
  obtain ⟨W0, hW0⟩ : ∃ W0, W0 = w.alloc (.cells #[.string s, .pointer (some ⟨b, 0, none⟩)] 40) := ⟨_, rfl⟩
  rw [← hW0] at hB0 c0
  have HL : Hid (s.data.toList.length = s.size) := hbl
  clear h hbl
  go_enter Tryz.func50, Tryz.ntmps50
  go_wp2
  rw [← hW0]
  clear hW0
  go_loop [5] (fun i => ∃ j : Nat, j ≤ s.size ∧ i = .int .i64 j ∧ Hid (wrongTo s.data.toList (k + 1) = wrongTo s.data.toList j)) (fun i => s.size - (intOf i).toNat)
  case atStart => exact ⟨k + 1, by omega, by go_num, rfl⟩
  case round =>
    obtain ⟨j, hj, rfl, hs⟩ := hrel
    by_cases hlt : j < s.size
    · have hsp := fun w' => ends_from s j hlt hsm w'
      cases hw : endsB (s.data.toList.drop j) with
      | true =>
        rw [hw] at hsp
        have HS : Hid (wrongTo s.data.toList j = j) := wrongTo_stop _ _ (by rw [HL.out]; exact hlt) hw
        clear hw
        go_wp2_with (go_at_call 69; (with_reducible refine (hsp _).mono ?_); rintro e w1 ⟨rfl, rfl⟩)
        go_ret
        exact ⟨by rw [hs.out, HS.out]; rfl, hB0⟩
      | false =>
        rw [hw] at hsp
        have HS : Hid (wrongTo s.data.toList j = wrongTo s.data.toList (j + 1)) := wrongTo_go _ _ (by rw [HL.out]; exact hlt) hw
        clear hw
        go_wp2_with (go_at_call 69; (with_reducible refine (hsp _).mono ?_); rintro e w1 ⟨rfl, rfl⟩)
        go_round
        case rel => exact ⟨j + 1, by omega, by go_num, hs.out.trans HS.out⟩
        case measure => simp [intOf]; omega
    · obtain rfl : j = s.size := by omega
      have HS : Hid (wrongTo s.data.toList s.size = s.size) := by show _ = _; have := wrongTo_end s.data.toList; rwa [HL.out] at this
      clear hlt
      go_wp2
      go_ret
      exact ⟨by rw [hs.out, HS.out]; rfl, hB0⟩

end Go.Proofs.YtdcpfpifecnfmaaGreatDoor
