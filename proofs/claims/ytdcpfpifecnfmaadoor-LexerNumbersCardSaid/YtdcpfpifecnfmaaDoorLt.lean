import Derived.Test.YtdcpfpifecnfmaaDoorLs
import Derived.Test.YtdcpfpifecnfmaaDoorFr
import Derived.Lib.Repeat
import Derived.Lib.SmallJoins
import Derived.Lib.LaidTab
import Derived.Lib.AppendIntMem
/-
  Number; LexerNumbers.
-/
namespace Go.Proofs.YtdcpfpifecnfmaaDoor
open Go.RowKit Go.Shelf Go.Lib

theorem number_no (s : ByteArray) (hs : s.size ≤ 100) (hk : kindN s ≠ 1) (h : 4 < s.size ∨ kindN s ≠ 3) (w : World) :
    Calls Tryd.prog 21 #[.string s] w fun e w' => e = .returned (.tuple #[.int .i64 0, .bool false]) ∧ Below w.heap.size w w' := by
  have hki := fun w' => kind_plain s (by omega) hk w'
  have hmx : Tryd.prog.follows .mixedOrders = true := by kernel_rfl
  by_cases h4 : 4 < s.size
  · have b1 : ((4 : Int) < (s.size : Int)) := by omega
    clear h hk hki
    go_enter Tryd.func21, Tryd.ntmps21
    go_wp2_with fail
    go_ret2
    exact ⟨rfl, Below.refl _ _⟩
  · have b1 : ¬ ((4 : Int) < (s.size : Int)) := by omega
    have b2 : ((kindN s : Int) != 3) = true := by
      rw [bne_iff_ne]
      rcases h with h | h
      · exact absurd h h4
      · omega
    clear h hk h4
    go_enter Tryd.func21, Tryd.ntmps21
    go_wp2_with fail
    (with_reducible refine (hki _).mono ?_)
    rintro e w1 ⟨rfl, hB1⟩
    clear hki
    have HB1 := hidden hB1
    clear hB1
    go_wp2_with fail
    go_ret2
    exact ⟨rfl, HB1.out⟩

set_option maxHeartbeats 800000 in
theorem number_yes (s : ByteArray) (hs : s.size ≤ 4) (hk : kindN s = 3) (n : Int) (hn : Lib.atoi s.data.toList = some n) (w : World) :
    Calls Tryd.prog 21 #[.string s] w fun e w' => e = .returned (.tuple #[.int .i64 n, .bool true]) ∧ Below w.heap.size w w' := by
  have hki := fun w' => kind_plain s (by omega) (by rw [hk]; decide) w'
  have hat := fun w' => Tryd.strconv_Atoi s n (by omega) hn w'
  rw [hk] at hki
  have b1 : ¬ ((4 : Int) < (s.size : Int)) := by omega
  clear hk hn
  go_enter Tryd.func21, Tryd.ntmps21
  go_wp2_with fail
  (with_reducible refine (hki _).mono ?_)
  rintro e w1 ⟨rfl, hB1⟩
  clear hki
  have HB1 := hidden hB1
  clear hB1
  go_wp2_with fail
  (with_reducible refine (hat _).mono ?_)
  rintro e w2 ⟨rfl, t, rfl⟩
  have HB2 := hidden (bt HB1.out (Lib.bytesWorld_below w1 5 t))
  generalize Lib.bytesWorld w1 5 t = w3 at *
  clear hat HB1
  go_wp2_with fail
  go_quiet (fail)
  go_wp2_with fail
  go_ret2
  exact ⟨rfl, below_drewN HB2.out nq⟩

theorem takeWhile_all (p : UInt8 → Bool) : ∀ l : List UInt8, (∀ x ∈ l, p x = true) → l.takeWhile p = l
  | [], _ => rfl
  | c :: r, h => by rw [List.takeWhile_cons_of_pos (h c List.mem_cons_self), takeWhile_all p r (fun x hx => h x (List.mem_cons_of_mem _ hx))]

theorem takeWhile_only (p : UInt8 → Bool) : ∀ l : List UInt8, l.takeWhile p = l → ∀ x ∈ l, p x = true
  | [], _, x, hx => by cases hx
  | c :: r, h, x, hx => by
    by_cases hc : p c = true
    · rw [List.takeWhile_cons_of_pos hc] at h
      rcases List.mem_cons.1 hx with rfl | hx
      · exact hc
      · exact takeWhile_only p r (List.cons.inj h).2 x hx
    · rw [List.takeWhile_cons_of_neg hc] at h
      cases h

theorem kind_pos {s : ByteArray} (hne : s.data.toList ≠ []) (h : ∀ x ∈ s.data.toList, digitB x = true) : kindN s = 3 := by
  cases hl : s.data.toList with
  | nil => exact absurd hl hne
  | cons c r =>
    rw [hl] at h
    rw [kindN_digits hl (h c List.mem_cons_self), if_pos]
    rw [takeWhile_all digitB r (fun x hx => h x (List.mem_cons_of_mem _ hx))]

theorem kind_neg {s : ByteArray} (z : Nat) (ds : List UInt8) (hd : ds ≠ []) (hl : s.data.toList = List.replicate z 48 ++ 45 :: ds) : kindN s = 0 := by
  cases z with
  | zero => exact kindN_minus (by simpa using hl) hd
  | succ z =>
    rw [List.replicate_succ, List.cons_append] at hl
    rw [kindN_digits hl (by decide), if_neg]
    intro he
    have h1 : ∀ x ∈ List.replicate z 48 ++ 45 :: ds, digitB x = true := by
      have h2 : (List.replicate z (48 : UInt8) ++ 45 :: ds).takeWhile digitB = List.replicate z 48 ++ 45 :: ds := (List.takeWhile_prefix digitB).eq_of_length he
      exact takeWhile_only digitB _ h2
    exact absurd (h1 45 (by simp)) (by decide)

theorem repeat_zeros (c : Nat) : Lib.repeatL [48] c = List.replicate c 48 := by
  induction c with
  | zero => rfl
  | succ c ih => rw [Lib.repeatL, ih, List.replicate_succ]; rfl

theorem nDigits_le : ∀ (m u : Nat), u < 10 ^ m → 0 < m → Lib.nDigits u ≤ m
  | 0, _, _, h => absurd h (by omega)
  | m + 1, u, h, _ => by
    by_cases h10 : u < 10
    · rw [Lib.nDigits_small h10]; omega
    · rw [Lib.nDigits_big h10]
      cases m with
      | zero => simp at h; omega
      | succ m =>
        have := nDigits_le (m + 1) (u / 10) (by rw [Nat.pow_succ] at h; omega) (by omega)
        omega

theorem itoa_len_le (n : Int) (h0 : -9223372036854775808 ≤ n) (h1 : n ≤ 9223372036854775807) : (Lib.itoa n).length ≤ 21 := by
  unfold Lib.itoa
  split
  · rw [List.length_cons, Lib.decDigits_length]
    have := nDigits_le 20 n.natAbs (by omega) (by omega)
    omega
  · rw [Lib.decDigits_length]
    have := nDigits_le 20 n.toNat (by omega) (by omega)
    omega

set_option maxRecDepth 100000 in
set_option maxHeartbeats 1600000 in
theorem numbers_walk (n z : Int) (h0 : -9223372036854775808 ≤ n) (h1 : n ≤ 9223372036854775807) (hz0 : 0 ≤ z) (hz1 : z ≤ 255) {w : World} (ht : Lib.TabBelow Tryd.prog w.heap.size w "internal/strconv.uint64pow10" .u64 Lib.pow10Tab) :
    Calls Tryd.prog 7 #[.int .i64 n, .int .u8 z] w fun e w' => e = .returned (.bool true) ∧ Below w.heap.size w w' := by
  obtain ⟨k, rfl⟩ : ∃ k : Nat, z = k := ⟨z.toNat, by omega⟩
  have haw := awake_any w
  have hrp := fun w' => Tryd.strings_Repeat ⟨#[48]⟩ (k % 6) w' (by omega) (by show 1 * (k % 6) ≤ _; omega)
  have hr : ∀ w', Calls Tryd.prog 19 #[.string ⟨#[48]⟩, .int .i64 ((k : Int) % 6)] w' fun e w'' => e = .returned (.string ⟨(List.replicate (k % 6) (48 : UInt8)).toArray⟩) ∧ Below w'.heap.size w' w'' := fun w' => by
    have h := hrp w'
    rw [show Lib.repeatL (ByteArray.mk #[48]).data.toList (k % 6) = List.replicate (k % 6) 48 from repeat_zeros _, show ((k % 6 : Nat) : Int) = (k : Int) % 6 by omega] at h
    exact h
  have hit : ∀ w', Below w.heap.size w w' → Calls Tryd.prog 20 #[.int .i64 n] w' fun e w'' => e = .returned (.string ⟨(Lib.itoa n).toArray⟩) ∧ Below w'.heap.size w' w'' := fun w' hb =>
    (Tryd.strconv_Itoa n (by omega) (by omega) w' (ht w' hb)).mono fun _ _ ⟨a, k, os, b⟩ => ⟨a, by rw [b]; exact Lib.below_grow _ _ (Nat.le_refl _) _ _⟩
  clear hrp ht
  obtain ⟨zs, hzs⟩ : ∃ zs : ByteArray, zs = ⟨(List.replicate (k % 6) (48 : UInt8)).toArray⟩ := ⟨_, rfl⟩
  obtain ⟨ds, hds⟩ : ∃ ds : ByteArray, ds = ⟨(Lib.itoa n).toArray⟩ := ⟨_, rfl⟩
  have hzl : zs.data.toList = List.replicate (k % 6) 48 := by rw [hzs]
  have hdl : ds.data.toList = Lib.itoa n := by rw [hds]
  have hz5 : zs.size ≤ 5 := by rw [← bytes_len, hzl, List.length_replicate]; omega
  have hd21 : ds.size ≤ 21 := by rw [← bytes_len, hdl]; exact itoa_len_le n h0 h1
  have hsl : (zs ++ ds).data.toList = List.replicate (k % 6) 48 ++ Lib.itoa n := by rw [← hzl, ← hdl]; simp
  have hsz : (zs ++ ds).size = zs.size + ds.size := ByteArray.size_append
  rw [← hzs] at hr
  rw [← hds] at hit
  clear hzs hds hzl hdl
  by_cases hneg : n < 0
  · have hk0 : kindN (zs ++ ds) = 0 := kind_neg (k % 6) (Lib.decDigits n.natAbs) (decDigits_ne _) (by rw [hsl]; unfold Lib.itoa; rw [if_pos hneg])
    have hno := fun w' => number_no (zs ++ ds) (by omega) (by rw [hk0]; decide) (.inr (by rw [hk0]; decide)) w'
    clear hk0 hsl hsz
    go_enter Tryd.func7, Tryd.ntmps7
    go_wp2_with fail
    (with_reducible refine haw.mono ?_)
    rintro e w1 ⟨rfl, hB1⟩
    have HB1 := hidden hB1
    clear haw hB1
    go_wp2_with fail
    (with_reducible refine (hr _).mono ?_)
    rintro e w2 ⟨rfl, hB2⟩
    have HB2 := hidden (bt HB1.out hB2)
    have hi2 := hit w2 HB2.out
    clear hr hB2 HB1 hit
    go_wp2_with fail
    (with_reducible refine hi2.mono ?_)
    rintro e w3 ⟨rfl, hB3⟩
    have HB3 := hidden (bt HB2.out hB3)
    clear hi2 hB3 HB2
    go_wp2_with fail
    (with_reducible refine (hno _).mono ?_)
    rintro e w4 ⟨rfl, hB4⟩
    have HB4 := hidden (bt HB3.out hB4)
    clear hno hB4 HB3
    go_wp2_with fail
    go_ret
    exact ⟨rfl, HB4.out⟩
  · have hall : ∀ x ∈ (zs ++ ds).data.toList, digitB x = true := by
      rw [hsl]
      intro x hx
      rcases List.mem_append.1 hx with hx | hx
      · rw [List.eq_of_mem_replicate hx]; decide
      · unfold Lib.itoa at hx; rw [if_neg hneg] at hx; exact decDigits_digits _ x hx
    have hne : (zs ++ ds).data.toList ≠ [] := by
      rw [hsl]
      unfold Lib.itoa; rw [if_neg hneg]
      intro h
      exact decDigits_ne _ (List.append_eq_nil_iff.1 h).2
    have hk3 : kindN (zs ++ ds) = 3 := kind_pos hne hall
    by_cases hbig : 4 < (zs ++ ds).size
    · have hno := fun w' => number_no (zs ++ ds) (by omega) (by rw [hk3]; decide) (.inl hbig) w'
      have hbi : ((4 : Int) < ((zs ++ ds).size : Int)) := by omega
      have hbi2 : ((4 : Int) < (zs.size : Int) + (ds.size : Int)) := by omega
      clear hk3 hne hall hsl
      go_enter Tryd.func7, Tryd.ntmps7
      go_wp2_with fail
      (with_reducible refine haw.mono ?_)
      rintro e w1 ⟨rfl, hB1⟩
      have HB1 := hidden hB1
      clear haw hB1
      go_wp2_with fail
      (with_reducible refine (hr _).mono ?_)
      rintro e w2 ⟨rfl, hB2⟩
      have HB2 := hidden (bt HB1.out hB2)
      have hi2 := hit w2 HB2.out
      clear hr hB2 HB1 hit
      go_wp2_with fail
      (with_reducible refine hi2.mono ?_)
      rintro e w3 ⟨rfl, hB3⟩
      have HB3 := hidden (bt HB2.out hB3)
      clear hi2 hB3 HB2
      go_wp2_with fail
      (with_reducible refine (hno _).mono ?_)
      rintro e w4 ⟨rfl, hB4⟩
      have HB4 := hidden (bt HB3.out hB4)
      clear hno hB4 HB3
      go_wp2_with fail
      go_ret
      exact ⟨rfl, HB4.out⟩
    · have hat : Lib.atoi (zs ++ ds).data.toList = some n := by
        rw [hsl]
        unfold Lib.itoa; rw [if_neg hneg, atoi_padded]
        congr 1
        omega
      have hyes := fun w' => number_yes (zs ++ ds) (by omega) hk3 n hat w'
      have hki := fun w' => kind_plain (zs ++ ds) (by omega) (by rw [hk3]; decide) w'
      rw [hk3] at hki
      have hbi : ¬ ((4 : Int) < ((zs ++ ds).size : Int)) := by omega
      have hbi2 : ¬ ((4 : Int) < (zs.size : Int) + (ds.size : Int)) := by omega
      clear hk3 hne hall hsl hat hbig
      go_enter Tryd.func7, Tryd.ntmps7
      go_wp2_with fail
      (with_reducible refine haw.mono ?_)
      rintro e w1 ⟨rfl, hB1⟩
      have HB1 := hidden hB1
      clear haw hB1
      go_wp2_with fail
      (with_reducible refine (hr _).mono ?_)
      rintro e w2 ⟨rfl, hB2⟩
      have HB2 := hidden (bt HB1.out hB2)
      have hi2 := hit w2 HB2.out
      clear hr hB2 HB1 hit
      go_wp2_with fail
      (with_reducible refine hi2.mono ?_)
      rintro e w3 ⟨rfl, hB3⟩
      have HB3 := hidden (bt HB2.out hB3)
      clear hi2 hB3 HB2
      go_wp2_with fail
      (with_reducible refine (hyes _).mono ?_)
      rintro e w4 ⟨rfl, hB4⟩
      have HB4 := hidden (bt HB3.out hB4)
      clear hyes hB4 HB3
      go_wp2_with fail
      (with_reducible refine (hki _).mono ?_)
      rintro e w5 ⟨rfl, hB5⟩
      have HB5 := hidden (bt HB4.out hB5)
      clear hki hB5 HB4
      go_wp2_with fail
      go_ret
      exact ⟨rfl, HB5.out⟩

end Go.Proofs.YtdcpfpifecnfmaaDoor
