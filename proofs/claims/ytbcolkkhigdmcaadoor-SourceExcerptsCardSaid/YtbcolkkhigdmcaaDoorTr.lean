import Derived.Test.YtbcolkkhigdmcaaDoorTq
namespace Go.Proofs.YtbcolkkhigdmcaaDoor
open Go.RowKit Go.Shelf Go.Lib

theorem size_mk (l : List UInt8) : (ByteArray.mk l.toArray).size = l.length := by show l.toArray.size = _; simp

set_option maxHeartbeats 400000 in
theorem blanks_any (n : Int) (hn : n ≤ 100000) (w : World) :
    Calls Tryd.prog 38 #[.int .i64 n] w fun e w' => e = .returned (.string ⟨(List.replicate n.toNat 32).toArray⟩) ∧ w = w' := by
  go_enter Tryd.func38, Tryd.ntmps38
  go_wp2
  go_loop [3, 4] (fun x i => ∃ (k : Nat) (b : ByteArray), k ≤ n.toNat ∧ b.size ≤ 100000 ∧ i = .int .i64 k ∧ x = .string b ∧ Hid (b = ⟨(List.replicate k 32).toArray⟩)) (fun _ i => n.toNat - (intOf i).toNat)
  case atStart => exact ⟨0, ⟨#[]⟩, Nat.zero_le _, by decide, rfl, rfl, rfl⟩
  case round =>
    obtain ⟨k, b, hk, hb, rfl, rfl, hx⟩ := hrel
    by_cases hlt : k < n.toNat
    · have h1 : (k : Int) < n := by omega
      go_wp2
      go_round
      case rel => exact ⟨k + 1, _, by omega, by rw [hx.out, mk_app _ [32], size_mk]; simp; omega, by go_num, rfl, by show _ = _; rw [hx.out, mk_app _ [32], List.replicate_succ']⟩
      case measure => simp [intOf]; omega
    · have h1 : n ≤ (k : Int) := by omega
      have hk2 : k = n.toNat := by omega
      go_wp2
      go_ret
      exact ⟨by show Ending.returned (.string b) = _; rw [hx.out, hk2]; first | rfl | rw [rep_mk], rfl⟩

theorem digit_nat (n : Nat) : (UInt8.ofNat (48 + n % 10)).toNat = 48 + n % 10 := by
  rw [UInt8.toNat_ofNat']; omega

theorem conv_digit (n : Nat) (w : World) : (convert 56 9 (.slice (some ⟨w.heap.size, 0, none⟩) 1 1)).run Tryd.prog (w.alloc (.cells #[.int .u8 (48 + (n : Int) % 10)] 5)) =
    .ok (.string ⟨#[UInt8.ofNat (48 + n % 10)]⟩) (w.alloc (.cells #[.int .u8 (48 + (n : Int) % 10)] 5)) := by
  refine run_convert_bytes_back _ 56 9 5 ⟨w.heap.size, 0, none⟩ 1 [UInt8.ofNat (48 + n % 10)] Tryd.underlying56 Tryd.underlying5 Tryd.underlying9 (fun j hj => ?_)
  obtain rfl : j = 0 := by simp at hj; omega
  have := digit_nat n
  simp [Addr.add]
  omega

theorem decDigits_le (n : Nat) : (Lib.decDigits n).length ≤ n + 1 := by rw [Lib.decDigits_length]; exact nDigits_le n

set_option maxHeartbeats 400000 in
theorem decimal_any : ∀ (d n : Nat), n < 10 ^ d → n ≤ 100000 → ∀ w : World, Calls Tryd.prog 37 #[.int .i64 n] w fun e w' => e = .returned (.string ⟨(Lib.decDigits n).toArray⟩) ∧ Below w.heap.size w w' := by
  intro d
  induction d with
  | zero =>
    intro n hn hm w
    obtain rfl : n = 0 := by simpa using hn
    have kc := conv_digit 0 w
    rw [show ((48 : Int) + ((0 : Nat) : Int) % 10) = 48 from rfl] at kc
    have e : Lib.decDigits 0 = [48] := Lib.decDigits_one (by omega)
    have HE : Hid (Lib.decDigits 0 = [48]) := e
    clear e
    go_enter Tryd.func37, Tryd.ntmps37
    go_wp2_with fail
    go_ret
    exact ⟨by rw [HE.out]; rfl, (Below.refl _ _).alloc (Nat.le_refl _) _⟩
  | succ d ih =>
    intro n hn hm w
    have kc := conv_digit n w
    by_cases h : n < 10
    · have HE : Hid (Lib.decDigits n = [UInt8.ofNat (48 + n % 10)]) := by show _ = _; rw [Lib.decDigits_one h, Nat.mod_eq_of_lt h]
      have h' : (n : Int) < 10 := by omega
      clear h
      generalize UInt8.ofNat (48 + n % 10) = c at *
      go_enter Tryd.func37, Tryd.ntmps37
      go_wp2_with fail
      go_ret
      exact ⟨by rw [HE.out]; rfl, (Below.refl _ _).alloc (Nat.le_refl _) _⟩
    · have HE : Hid (Lib.decDigits n = Lib.decDigits (n / 10) ++ [UInt8.ofNat (48 + n % 10)]) := by show _ = _; rw [Lib.decDigits, dif_neg h]
      have h' : (10 : Int) ≤ (n : Int) := by omega
      have hi := fun w' => ih (n / 10) (by rw [Nat.pow_succ] at hn; omega) (by omega) w'
      have hl := decDigits_le (n / 10)
      rw [show ((n / 10 : Nat) : Int) = (n : Int) / 10 by omega] at hi
      have hl2 : (Lib.decDigits (n / 10)).length ≤ 100000 := by omega
      clear h hl
      generalize UInt8.ofNat (48 + n % 10) = c at *
      generalize Lib.decDigits (n / 10) = ds at *
      have HI : Hid (∀ w' : World, Calls Tryd.prog 37 #[.int .i64 ((n : Int) / 10)] w' fun e w'' => e = .returned (.string ⟨ds.toArray⟩) ∧ Below w'.heap.size w' w'') := hi
      clear hi ih
      go_enter Tryd.func37, Tryd.ntmps37
      go_wp2_with (go_at_call 37; (with_reducible refine (HI.out _).mono ?_); rintro e w1 ⟨rfl, hB1⟩)
      go_ret
      exact ⟨by rw [HE.out]; show Ending.returned (.string (({ data := ds.toArray } : ByteArray) ++ { data := #[c] })) = _; rw [mk_app ds [c]], bt ((Below.refl _ _).alloc (Nat.le_refl _) _) hB1⟩

end Go.Proofs.YtbcolkkhigdmcaaDoor
