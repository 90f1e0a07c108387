import Derived.Test.YtdcpfpifecnfmaaGreatDoorRd
import Derived.Test.YtdcpfpifecnfmaaGreatDoorLs
import Derived.Test.YtdcpfpifecnfmaaGreatDoorFr
import Derived.Lib.SmallJoins
import Derived.Lib.AtoiErrMem
/-
  Words: Number, Name; the reference's Kind, Number, Name; LexerWords.
-/
namespace Go.Proofs.YtdcpfpifecnfmaaGreatDoor
open Go.RowKit Go.Shelf Go.Lib

/-- The first token, and what Kind says. -/
theorem kindW_cases (s : ByteArray) : kindW s = if (nextT s.data.toList 0).at_ = 0 ∧ (nextT s.data.toList 0).end_ = s.size then (kwT s (nextT s.data.toList 0)).kind else 0 := by
  unfold kindW kindN
  by_cases h : (nextT s.data.toList 0).at_ = 0 ∧ (nextT s.data.toList 0).end_ = s.size
  · rw [if_pos h, if_pos h]
    have hw : (wordOf s (nextT s.data.toList 0)).data.toList = s.data.toList := by
      unfold wordOf
      rw [h.1, h.2, Lib.extract_data, List.drop_zero, Nat.sub_zero, ← bytes_len, List.take_length]
    unfold kwT
    rw [hw]
    split <;> rfl
  · rw [if_neg h, if_neg h]; simp

theorem second_token (s : ByteArray) (h0 : (nextT s.data.toList 0).kind ≠ 0) (he : (nextT s.data.toList 0).end_ = s.size) : (toksK s).length = 2 := by
  obtain ⟨_, _, h⟩ := tokHere_next (tokHere_first s) h0
  rw [he] at h
  have h2 : (nextT s.data.toList s.size).kind = 0 := by
    show (tokF (s.data.toList.drop (skipTo s.data.toList s.size))).1 = 0
    have := skipTo_end s.data.toList
    rw [bytes_len] at this
    rw [this, List.drop_eq_nil_of_le (by rw [bytes_len]; exact Nat.le_refl _)]
    rfl
  have := (tokHere_last h h2).1
  omega

set_option maxRecDepth 100000 in
set_option maxHeartbeats 1600000 in
theorem refKind_any (s : ByteArray) (hs : s.size ≤ 1000) (w : World) :
    Calls Tryz.prog 8 #[.string s] w fun e w' => e = .returned (.int .i64 (kindW s : Nat)) ∧ Below w.heap.size w w' := by
  have hsc := refScan_any s (by omega) w
  have hlen := toksK_len s (by omega)
  have hpos : 0 < (toksK s).length := List.length_pos_iff.2 (toksK_ne s)
  have hk := kindW_cases s
  have hg0 := tokHere_get (tokHere_first s)
  have hsec := second_token s
  have hone := fun h => (tokHere_last (tokHere_first s) h).1
  have q1 : (kwT s (nextT s.data.toList 0)).at_ = (nextT s.data.toList 0).at_ := by unfold kwT; split <;> rfl
  have q2 : (kwT s (nextT s.data.toList 0)).end_ = (nextT s.data.toList 0).end_ := by unfold kwT; split <;> rfl
  have q0 : (nextT s.data.toList 0).kind = 0 → (kwT s (nextT s.data.toList 0)).kind = 0 := fun h => by rw [kwT_other s _ (by omega)]; exact h
  unfold ToksOf at hsc
  obtain ⟨r, hr⟩ : ∃ r, kindW s = r := ⟨_, rfl⟩
  rw [hr] at hk ⊢
  go_enter Tryz.func8, Tryz.ntmps8
  go_wp2_with fail
  (with_reducible refine hsc.mono ?_)
  rintro e w2 ⟨v, rfl, hrow, hB2⟩
  obtain ⟨g, cap, rfl, hg, hat⟩ := tokRow_of hrow (toksK_ne s)
  have h0 := hat 0 _ hg0
  have x0 := h0.c0
  have x2 := h0.c2
  have x3 := h0.c3
  rw [q1] at x2
  rw [q2] at x3
  rw [Nat.zero_mul] at x0
  have x2' : w2.cell? ⟨g, 2, none⟩ = some (.int .i64 (nextT s.data.toList 0).at_) := by have := x2; rwa [Nat.zero_mul] at this
  have x3' : w2.cell? ⟨g, 3, none⟩ = some (.int .i64 (nextT s.data.toList 0).end_) := by have := x3; rwa [Nat.zero_mul] at this
  generalize (kwT s (nextT s.data.toList 0)).kind = kd at *
  generalize (nextT s.data.toList 0).at_ = a at *
  generalize (nextT s.data.toList 0).end_ = en at *
  generalize (nextT s.data.toList 0).kind = kn at *
  generalize (toksK s).length = n at *
  have HB2 := hidden hB2
  clear hsc hrow hat h0 hg0 q1 q2 hB2 x2 x3
  by_cases h2 : n = 2
  · have b2 : ((n : Int) != 2) = false := by rw [h2]; rfl
    by_cases ha : a = 0
    · have b3 : ((a : Int) != 0) = false := by rw [ha]; rfl
      by_cases he : en = s.size
      · have b4 : ((en : Int) != (s.size : Int)) = false := by rw [he]; simp
        have HV : Hid (r = kd) := by rw [hk, if_pos ⟨ha, he⟩]; rfl
        subst h2
        clear hk hr hsec hone q0 ha he
        go_wp2_with fail
        go_ret
        exact ⟨by rw [HV.out]; rfl, HB2.out⟩
      · have b4 : ((en : Int) != (s.size : Int)) = true := by rw [bne_iff_ne]; omega
        have HV : Hid (r = 0) := by rw [hk, if_neg (fun h => he h.2)]; rfl
        subst h2
        clear hk hr hsec hone q0 ha he
        go_wp2_with fail
        go_ret
        exact ⟨by rw [HV.out]; rfl, HB2.out⟩
    · have b3 : ((a : Int) != 0) = true := by rw [bne_iff_ne]; omega
      have HV : Hid (r = 0) := by rw [hk, if_neg (fun h => ha h.1)]; rfl
      subst h2
      clear hk hr hsec hone q0 ha
      go_wp2_with fail
      go_ret
      exact ⟨by rw [HV.out]; rfl, HB2.out⟩
  · have b2 : ((n : Int) != 2) = true := by rw [bne_iff_ne]; omega
    have HV : Hid (r = 0) := by
      rw [hk]
      show _ = _
      split
      · rename_i h
        by_cases h0 : kn = 0
        · exact q0 h0
        · exact absurd (hsec h0 h.2) h2
      · rfl
    clear hk hr hsec hone q0
    go_wp2_with fail
    go_ret
    exact ⟨by rw [HV.out]; rfl, HB2.out⟩

theorem kindW_three (s : ByteArray) : kindW s = 3 ↔ kindN s = 3 := by
  unfold kindW
  by_cases h : kindN s = 1 ∧ s.data.toList ∈ kwords
  · rw [if_pos h]; constructor
    · intro h2; cases h2
    · intro h2; omega
  · rw [if_neg h]

theorem number_none (s : ByteArray) (hs : s.size ≤ 1000) (h : 4 < s.size ∨ kindW s ≠ 3) (w : World) (hm : MaxAt w) :
    Calls Tryz.prog 5 #[.string s] w fun e w' => e = .returned (.tuple #[.int .i64 0, .bool false]) ∧ Below w.heap.size w w' := by
  have hki := kind_any s (by omega) w hm
  clear hm
  by_cases h4 : 4 < s.size
  · have b1 : ((4 : Int) < (s.size : Int)) := by omega
    clear h hki
    go_enter Tryz.func5, Tryz.ntmps5
    go_wp2_with fail
    go_ret2
    exact ⟨rfl, Below.refl _ _⟩
  · have b1 : ¬ ((4 : Int) < (s.size : Int)) := by omega
    have b2 : ((kindW s : Int) != 3) = true := by
      rw [bne_iff_ne]
      rcases h with h | h
      · exact absurd h h4
      · omega
    generalize kindW s = kd at *
    clear h h4
    go_enter Tryz.func5, Tryz.ntmps5
    go_wp2_with fail
    (with_reducible refine hki.mono ?_)
    rintro e w1 ⟨rfl, hB1⟩
    clear hki
    have HB1 := hidden hB1
    clear hB1
    go_wp2_with fail
    go_ret2
    exact ⟨rfl, HB1.out⟩

set_option maxHeartbeats 800000 in
theorem number_some (s : ByteArray) (hs : s.size ≤ 4) (hk : kindW s = 3) (n : Int) (hn : Lib.atoi s.data.toList = some n) (w : World) (hm : MaxAt w) :
    Calls Tryz.prog 5 #[.string s] w fun e w' => e = .returned (.tuple #[.int .i64 n, .bool true]) ∧ Below w.heap.size w w' := by
  have hki := kind_any s (by omega) w hm
  clear hm
  have hat := fun w' => Tryz.strconv_Atoi s n (by omega) hn w'
  rw [hk] at hki
  have b1 : ¬ ((4 : Int) < (s.size : Int)) := by omega
  clear hk hn
  go_enter Tryz.func5, Tryz.ntmps5
  go_wp2_with fail
  (with_reducible refine hki.mono ?_)
  rintro e w1 ⟨rfl, hB1⟩
  clear hki
  have HB1 := hidden hB1
  clear hB1
  go_wp2_with fail
  (with_reducible refine (hat _).mono ?_)
  rintro e w2 ⟨rfl, t, rfl⟩
  have HB2 := hidden (bt HB1.out (Lib.bytesWorld_below w1 5 t))
  generalize Lib.bytesWorld w1 5 t = w3 at *
  clear hat HB1
  go_wp2_with fail
  go_quiet (fail)
  go_wp2_with fail
  go_ret2
  exact ⟨rfl, below_drewN HB2.out nq⟩

theorem name_any (s : ByteArray) (hs : s.size ≤ 1000) (w : World) (hm : MaxAt w) :
    Calls Tryz.prog 9 #[.string s] w fun e w' => e = .returned (.bool (decide (s.size ≤ 16) && decide (kindW s = 1))) ∧ Below w.heap.size w w' := by
  have hki := kind_any s (by omega) w hm
  clear hm
  have hcmp : ((kindW s : Int) == 1) = decide (kindW s = 1) := by
    by_cases h : kindW s = 1
    · rw [h]; rfl
    · rw [decide_eq_false h, beq_eq_false_iff_ne]; omega
  generalize kindW s = kd at *
  by_cases h : s.size ≤ 16
  · rw [decide_eq_true h, Bool.true_and, ← hcmp]
    have b1 : (s.size : Int) ≤ 16 := by omega
    clear h hcmp
    go_enter Tryz.func9, Tryz.ntmps9
    go_wp2_with fail
    (with_reducible refine hki.mono ?_)
    rintro e w1 ⟨rfl, hB1⟩
    clear hki
    have HB1 := hidden hB1
    clear hB1
    go_wp2_with fail
    go_ret
    exact ⟨rfl, HB1.out⟩
  · rw [decide_eq_false h, Bool.false_and]
    have b1 : ¬ ((s.size : Int) ≤ 16) := by omega
    clear h hcmp hki
    go_enter Tryz.func9, Tryz.ntmps9
    go_wp2_with fail
    go_ret
    exact ⟨rfl, Below.refl _ _⟩

theorem refName_any (s : ByteArray) (hs : s.size ≤ 1000) (w : World) :
    Calls Tryz.prog 10 #[.string s] w fun e w' => e = .returned (.bool (decide (s.size ≤ 16) && decide (kindW s = 1))) ∧ Below w.heap.size w w' := by
  have hki := fun w' => refKind_any s hs w'
  generalize kindW s = kd at *
  by_cases h1 : kd = 1
  · have b2 : ((kd : Int) == 1) = true := by rw [h1]; rfl
    rw [decide_eq_true h1, Bool.and_true]
    have hcmp : decide (s.size ≤ 16) = decide ((s.size : Int) ≤ 16) := by
      by_cases h : s.size ≤ 16
      · rw [decide_eq_true h, decide_eq_true (by omega)]
      · rw [decide_eq_false h, decide_eq_false (by omega)]
    rw [hcmp]
    clear h1 hcmp
    go_enter Tryz.func10, Tryz.ntmps10
    go_wp2_with fail
    (with_reducible refine (hki _).mono ?_)
    rintro e w1 ⟨rfl, hB1⟩
    clear hki
    have HB1 := hidden hB1
    clear hB1
    go_wp2_with fail
    go_ret
    exact ⟨rfl, HB1.out⟩
  · have b2 : ((kd : Int) == 1) = false := by rw [beq_eq_false_iff_ne]; omega
    rw [decide_eq_false h1, Bool.and_false]
    clear h1
    go_enter Tryz.func10, Tryz.ntmps10
    go_wp2_with fail
    (with_reducible refine (hki _).mono ?_)
    rintro e w1 ⟨rfl, hB1⟩
    clear hki
    have HB1 := hidden hB1
    clear hB1
    go_wp2_with fail
    go_ret
    exact ⟨rfl, HB1.out⟩

theorem refNumber_none (s : ByteArray) (hs : s.size ≤ 1000) (h : 4 < s.size ∨ kindW s ≠ 3) (w : World) :
    Calls Tryz.prog 6 #[.string s] w fun e w' => e = .returned (.tuple #[.int .i64 0, .bool false]) ∧ Below w.heap.size w w' := by
  have hki := fun w' => refKind_any s hs w'
  generalize kindW s = kd at *
  by_cases h3 : kd = 3
  · have b2 : ((kd : Int) != 3) = false := by rw [h3]; rfl
    have b1 : ((4 : Int) < (s.size : Int)) := by
      rcases h with h | h
      · omega
      · exact absurd h3 h
    clear h h3
    go_enter Tryz.func6, Tryz.ntmps6
    go_wp2_with fail
    (with_reducible refine (hki _).mono ?_)
    rintro e w1 ⟨rfl, hB1⟩
    clear hki
    have HB1 := hidden hB1
    clear hB1
    go_wp2_with fail
    go_ret2
    exact ⟨rfl, HB1.out⟩
  · have b2 : ((kd : Int) != 3) = true := by rw [bne_iff_ne]; omega
    clear h h3
    go_enter Tryz.func6, Tryz.ntmps6
    go_wp2_with fail
    (with_reducible refine (hki _).mono ?_)
    rintro e w1 ⟨rfl, hB1⟩
    clear hki
    have HB1 := hidden hB1
    clear hB1
    go_wp2_with fail
    go_ret2
    exact ⟨rfl, HB1.out⟩

/-- A word that is a number: digits. -/
theorem kind_digits {s : ByteArray} (h : kindN s = 3) : s.data.toList ≠ [] ∧ ∀ x ∈ s.data.toList, digitB x = true := by
  unfold kindN at h
  by_cases hc : (nextT s.data.toList 0).at_ = 0 ∧ (nextT s.data.toList 0).end_ = s.size
  · rw [if_pos hc] at h
    have e : (tokF s.data.toList) = (3, s.data.toList.length) := by
      have e1 : (nextT s.data.toList 0).kind = (tokF (s.data.toList.drop (nextT s.data.toList 0).at_)).1 := rfl
      have e2 : (nextT s.data.toList 0).end_ = (nextT s.data.toList 0).at_ + (tokF (s.data.toList.drop (nextT s.data.toList 0).at_)).2 := rfl
      rw [hc.1, List.drop_zero] at e1 e2
      rw [h] at e1
      rw [hc.2] at e2
      rw [bytes_len]
      exact Prod.ext e1.symm (by show _ = s.size; omega)
    generalize s.data.toList = l at *
    cases l with
    | nil => simp [tokF] at e
    | cons c u =>
      refine ⟨by simp, ?_⟩
      have e' : tokF (c :: (u ++ [])) = (3, u.length + 1) := by rw [List.append_nil]; exact e
      rw [tok_iff] at e'
      by_cases h1 : letterB c = true
      · rw [if_pos h1] at e'; cases e'.1
      · rw [if_neg h1] at e'
        by_cases h2 : digitB c = true
        · rw [if_pos h2] at e'
          intro x hx
          rcases List.mem_cons.1 hx with rfl | hx
          · exact h2
          · exact e'.2.1 x hx
        · rw [if_neg h2] at e'
          split at e'
          · cases e'.1
          · cases e'.1
  · rw [if_neg hc] at h; cases h

theorem digitVal_some {c : UInt8} (h : digitB c = true) : Lib.digitVal c = some (c.toNat - 48) ∧ 48 ≤ c.toNat ∧ c.toNat ≤ 57 := by
  unfold digitB at h
  simp only [Bool.and_eq_true, decide_eq_true_eq] at h
  exact ⟨by unfold Lib.digitVal; rw [if_pos h], h.1, h.2⟩

theorem decFrom_some : ∀ (l : List UInt8) (acc : Nat), (∀ x ∈ l, digitB x = true) → ∃ n, Lib.decFrom acc l = some n
  | [], acc, _ => ⟨acc, rfl⟩
  | c :: l, acc, h => by
    obtain ⟨n, hn⟩ := decFrom_some l (acc * 10 + (c.toNat - 48)) (fun x hx => h x (List.mem_cons_of_mem _ hx))
    exact ⟨n, by rw [Lib.decFrom, (digitVal_some (h c List.mem_cons_self)).1]; exact hn⟩

theorem atoi_digits (l : List UInt8) (n : Nat) (h0 : l ≠ []) (h : ∀ x ∈ l, digitB x = true) (hn : Lib.decFrom 0 l = some n) : Lib.atoi l = some (n : Int) := by
  cases l with
  | nil => exact absurd rfl h0
  | cons c l =>
    have hc := (digitVal_some (h c List.mem_cons_self)).2
    have h1 : (c == 45) = false := by
      rw [beq_eq_false_iff_ne]; intro e; subst e; exact absurd hc.1 (by decide)
    have h2 : (c == 43) = false := by
      rw [beq_eq_false_iff_ne]; intro e; subst e; exact absurd hc.1 (by decide)
    rw [Lib.atoi, h1, h2]
    simp [Lib.decNat, hn]

set_option maxHeartbeats 800000 in
theorem refNumber_some (s : ByteArray) (hs : s.size ≤ 4) (hk : kindW s = 3) (n : Nat) (hd : ∀ x ∈ s.data.toList, digitB x = true) (hn : Lib.decFrom 0 s.data.toList = some n) (w : World) :
    Calls Tryz.prog 6 #[.string s] w fun e w' => e = .returned (.tuple #[.int .i64 n, .bool true]) ∧ Below w.heap.size w w' := by
  have hki := fun w' => refKind_any s (by omega) w'
  rw [hk] at hki
  have b1 : ¬ ((4 : Int) < (s.size : Int)) := by omega
  have HD := hidden hd
  have HN := hidden hn
  have HL : Hid (s.data.toList.length = s.size) := bytes_len s
  clear hk hn hd
  go_enter Tryz.func6, Tryz.ntmps6
  go_wp2_with fail
  (with_reducible refine (hki _).mono ?_)
  rintro e w1 ⟨rfl, hB1⟩
  clear hki
  have HB1 := hidden hB1
  clear hB1
  go_wp2_with fail
  go_loop [4, 5] (fun nv i => ∃ k m : Nat, k ≤ s.size ∧ m < 10 ^ k ∧ i = .int .i64 k ∧ nv = .int .i64 m ∧ Hid (Lib.decFrom 0 (s.data.toList.take k) = some m)) (fun _ i => s.size - (intOf i).toNat)
  case atStart => exact ⟨0, 0, Nat.zero_le _, by decide, rfl, rfl, rfl⟩
  case round =>
    obtain ⟨k, m, hk, hm, rfl, rfl, hh⟩ := hrel
    by_cases hlt : k < s.size
    · have hg := getD_bytes s k hlt
      have hge : s.data.toList[k]? = some s[k] := by rw [List.getElem?_eq_getElem (by rw [HL.out]; exact hlt)]; rfl
      obtain ⟨d1, d2, d3⟩ := digitVal_some (HD.out _ (List.mem_of_getElem? hge))
      have HS : Hid (Lib.decFrom 0 (s.data.toList.take (k + 1)) = some (m * 10 + (s[k].toNat - 48))) := Lib.decFrom_take _ _ _ _ _ _ hh.out hge d1
      have hm4 : m < 10000 := Nat.lt_of_lt_of_le hm (Nat.pow_le_pow_right (by decide) (by omega : k ≤ 4))
      have hm2 : m * 10 + (s[k].toNat - 48) < 10 ^ (k + 1) := by rw [Nat.pow_succ]; omega
      obtain ⟨c, hc⟩ : ∃ c : Nat, s[k].toNat = c := ⟨_, rfl⟩
      rw [hc] at d2 d3 HS hm2
      have hsub : IntKind.u8.wrap ((c : Int) - 48) = ((c - 48 : Nat) : Int) := by
        have : IntKind.u8.wrap ((c : Int) - 48) = (c : Int) - 48 := by unfold IntKind.wrap; simp [IntKind.bits, IntKind.signed]; omega
        rw [this]; omega
      clear hg hge d1 hh hm
      go_wp2_with fail
      go_round
      case rel => exact ⟨k + 1, m * 10 + (c - 48), by omega, hm2, by go_num, by rw [show ((m * 10 + (c - 48) : Nat) : Int) = 10 * (m : Int) + ((c - 48 : Nat) : Int) by omega], HS⟩
      case measure => simp [intOf]; omega
    · obtain rfl : k = s.size := by omega
      have HM : Hid (m = n) := by
        have h := hh.out
        rw [← HL.out, List.take_length] at h
        rw [HN.out] at h
        exact (Option.some.inj h).symm
      clear hlt hh
      go_wp2_with fail
      go_ret2
      exact ⟨by rw [HM.out]; rfl, HB1.out⟩

theorem numbers_both (s : ByteArray) (hs : s.size ≤ 1000) : ∃ (n : Int) (ok : Bool), (∀ w, MaxAt w → Calls Tryz.prog 5 #[.string s] w fun e w' => e = .returned (.tuple #[.int .i64 n, .bool ok]) ∧ Below w.heap.size w w') ∧
    ∀ w, Calls Tryz.prog 6 #[.string s] w fun e w' => e = .returned (.tuple #[.int .i64 n, .bool ok]) ∧ Below w.heap.size w w' := by
  by_cases h : s.size ≤ 4 ∧ kindW s = 3
  · obtain ⟨h0, hd⟩ := kind_digits ((kindW_three s).1 h.2)
    obtain ⟨n, hn⟩ := decFrom_some s.data.toList 0 hd
    exact ⟨n, true, fun w hm => number_some s h.1 h.2 n (atoi_digits _ n h0 hd hn) w hm, fun w => refNumber_some s h.1 h.2 n hd hn w⟩
  · have h' : 4 < s.size ∨ kindW s ≠ 3 := by
      by_cases h1 : s.size ≤ 4
      · exact .inr fun h2 => h ⟨h1, h2⟩
      · exact .inl (by omega)
    exact ⟨0, false, fun w hm => number_none s hs h' w hm, fun w => refNumber_none s hs h' w⟩

set_option maxRecDepth 100000 in
set_option maxHeartbeats 1600000 in
theorem lexWords_walk (s : ByteArray) (hs : s.size ≤ 9223372036854775807) (w : World) (hmax : MaxAt w) :
    Calls Tryz.prog 3 #[.string s] w fun e w' => e = .returned (.bool true) ∧ Below w.heap.size w w' := by
  have haw := awake_any w
  by_cases hl : 200 < s.size
  · have d1 : (200 : Int) < (s.size : Int) := by omega
    clear hl
    go_enter Tryz.func3, Tryz.ntmps3
    go_wp2_with fail
    (with_reducible refine haw.mono ?_)
    rintro e w1 ⟨rfl, hB1⟩
    have HB1 := hidden hB1
    clear haw hB1
    go_wp2_with fail
    go_ret
    exact ⟨rfl, HB1.out⟩
  · have d1 : ¬ ((200 : Int) < (s.size : Int)) := by omega
    obtain ⟨n, ok, h1, h2⟩ := numbers_both s (by omega)
    have h3 := fun w' h => kind_any s (by omega) w' (hmax.keep h)
    have h4 := fun w' => refKind_any s (by omega) w'
    have h5 := fun w' h => name_any s (by omega) w' (hmax.keep h)
    have h1 := fun w' h => h1 w' (hmax.keep h)
    clear hmax
    have h6 := fun w' => refName_any s (by omega) w'
    generalize (decide (s.size ≤ 16) && decide (kindW s = 1)) = nm at *
    generalize kindW s = kd at *
    clear hl
    cases ok <;> cases nm
    all_goals
      go_enter Tryz.func3, Tryz.ntmps3
      go_wp2_with fail
      (with_reducible refine haw.mono ?_)
      rintro e w1 ⟨rfl, hB1⟩
      have HB1 := hidden hB1
      clear haw hB1
      go_wp2_with fail
      (with_reducible refine (h1 _ HB1.out).mono ?_)
      rintro e w2 ⟨rfl, hB2⟩
      have HB2 := hidden (bt HB1.out hB2)
      clear h1 hB2 HB1
      go_wp2_with fail
      (with_reducible refine (h2 _).mono ?_)
      rintro e w3 ⟨rfl, hB3⟩
      have HB3 := hidden (bt HB2.out hB3)
      clear h2 hB3 HB2
      go_wp2_with fail
      (with_reducible refine (h3 _ HB3.out).mono ?_)
      rintro e w4 ⟨rfl, hB4⟩
      have HB4 := hidden (bt HB3.out hB4)
      clear h3 hB4 HB3
      go_wp2_with fail
      (with_reducible refine (h4 _).mono ?_)
      rintro e w5 ⟨rfl, hB5⟩
      have HB5 := hidden (bt HB4.out hB5)
      clear h4 hB5 HB4
      go_wp2_with fail
      (with_reducible refine (h5 _ HB5.out).mono ?_)
      rintro e w6 ⟨rfl, hB6⟩
      have HB6 := hidden (bt HB5.out hB6)
      clear h5 hB6 HB5
      go_wp2_with fail
      (with_reducible refine (h6 _).mono ?_)
      rintro e w7 ⟨rfl, hB7⟩
      have HB7 := hidden (bt HB6.out hB7)
      clear h6 hB7 HB6
      go_wp2_with fail
      go_ret
      exact ⟨rfl, HB7.out⟩

end Go.Proofs.YtdcpfpifecnfmaaGreatDoor
