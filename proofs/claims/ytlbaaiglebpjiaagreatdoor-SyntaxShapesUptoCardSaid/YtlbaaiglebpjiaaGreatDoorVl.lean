/-
  The reference: numbers, integers, the text of a node. By gen_vl.py.
-/
import Derived.Test.YtlbaaiglebpjiaaGreatDoorJn
import Derived.Test.YtlbaaiglebpjiaaGreatDoorNb
import Derived.Test.YtlbaaiglebpjiaaGreatDoorJo
namespace Go.Proofs.YtlbaaiglebpjiaaGreatDoor
open Go.RowKit Go.Shelf Go.Lib
attribute [local go_sem] Oper.semAt_some
theorem refNum_none (s : ByteArray) (hs : s.size ≤ 4096) (h : 4 < s.size ∨ kindW s ≠ 3) (w : World) :
    Calls Tryz.prog 107 #[.string s] w fun e w' => e = .returned (.tuple #[.int .i64 0, .bool false]) ∧ Below w.heap.size w w' := by
  have hki := fun w' => refKind_any s hs w'
  generalize kindW s = kd at *
  by_cases h3 : kd = 3
  · have b2 : ((kd : Int) != 3) = false := by rw [h3]; rfl
    have b1 : ((4 : Int) < (s.size : Int)) := by
      rcases h with h | h
      · omega
      · exact absurd h3 h
    clear h h3
    go_enter Tryz.func107, Tryz.ntmps107
    go_wp2_with fail
    (with_reducible refine (hki _).mono ?_)
    rintro e w1 ⟨rfl, hB1⟩
    clear hki
    have HB1 := hidden hB1
    clear hB1
    go_wp2_with fail
    go_ret2
    exact ⟨rfl, HB1.out⟩
  · have b2 : ((kd : Int) != 3) = true := by rw [bne_iff_ne]; omega
    clear h h3
    go_enter Tryz.func107, Tryz.ntmps107
    go_wp2_with fail
    (with_reducible refine (hki _).mono ?_)
    rintro e w1 ⟨rfl, hB1⟩
    clear hki
    have HB1 := hidden hB1
    clear hB1
    go_wp2_with fail
    go_ret2
    exact ⟨rfl, HB1.out⟩

theorem digitVal_some {c : UInt8} (h : digitB c = true) : Lib.digitVal c = some (c.toNat - 48) ∧ 48 ≤ c.toNat ∧ c.toNat ≤ 57 := by
  unfold digitB at h
  simp only [Bool.and_eq_true, decide_eq_true_eq] at h
  exact ⟨by unfold Lib.digitVal; rw [if_pos h], h.1, h.2⟩

set_option maxHeartbeats 800000 in
theorem refNum_some (s : ByteArray) (hs : s.size ≤ 4) (hk : kindW s = 3) (n : Nat) (hd : ∀ x ∈ s.data.toList, digitB x = true) (hn : Lib.decFrom 0 s.data.toList = some n) (w : World) :
    Calls Tryz.prog 107 #[.string s] w fun e w' => e = .returned (.tuple #[.int .i64 n, .bool true]) ∧ Below w.heap.size w w' := by
  have hki := fun w' => refKind_any s (by omega) w'
  rw [hk] at hki
  have b1 : ¬ ((4 : Int) < (s.size : Int)) := by omega
  have HD := hidden hd
  have HN := hidden hn
  have HL : Hid (s.data.toList.length = s.size) := bytes_len s
  clear hk hn hd
  go_enter Tryz.func107, Tryz.ntmps107
  go_wp2_with fail
  (with_reducible refine (hki _).mono ?_)
  rintro e w1 ⟨rfl, hB1⟩
  clear hki
  have HB1 := hidden hB1
  clear hB1
  go_wp2_with fail
  go_loop [4, 5] (fun nv i => ∃ k m : Nat, k ≤ s.size ∧ m < 10 ^ k ∧ i = .int .i64 k ∧ nv = .int .i64 m ∧ Hid (Lib.decFrom 0 (s.data.toList.take k) = some m)) (fun _ i => s.size - (intOf i).toNat)
  case atStart => exact ⟨0, 0, Nat.zero_le _, by decide, rfl, rfl, rfl⟩
  case round =>
    obtain ⟨k, m, hk, hm, rfl, rfl, hh⟩ := hrel
    by_cases hlt : k < s.size
    · have hg := getD_bytes s k hlt
      have hge : s.data.toList[k]? = some s[k] := by rw [List.getElem?_eq_getElem (by rw [HL.out]; exact hlt)]; rfl
      obtain ⟨d1, d2, d3⟩ := digitVal_some (HD.out _ (List.mem_of_getElem? hge))
      have HS : Hid (Lib.decFrom 0 (s.data.toList.take (k + 1)) = some (m * 10 + (s[k].toNat - 48))) := Lib.decFrom_take _ _ _ _ _ _ hh.out hge d1
      have hm4 : m < 10000 := Nat.lt_of_lt_of_le hm (Nat.pow_le_pow_right (by decide) (by omega : k ≤ 4))
      have hm2 : m * 10 + (s[k].toNat - 48) < 10 ^ (k + 1) := by rw [Nat.pow_succ]; omega
      obtain ⟨c, hc⟩ : ∃ c : Nat, s[k].toNat = c := ⟨_, rfl⟩
      rw [hc] at d2 d3 HS hm2
      have hsub : IntKind.u8.wrap ((c : Int) - 48) = ((c - 48 : Nat) : Int) := by
        have : IntKind.u8.wrap ((c : Int) - 48) = (c : Int) - 48 := by unfold IntKind.wrap; simp [IntKind.bits, IntKind.signed]; omega
        rw [this]; omega
      clear hg hge d1 hh hm
      go_wp2_with fail
      go_round
      case rel => exact ⟨k + 1, m * 10 + (c - 48), by omega, hm2, by go_num, by rw [show ((m * 10 + (c - 48) : Nat) : Int) = 10 * (m : Int) + ((c - 48 : Nat) : Int) by omega], HS⟩
      case measure => simp [intOf]; omega
    · obtain rfl : k = s.size := by omega
      have HM : Hid (m = n) := by
        have h := hh.out
        rw [← HL.out, List.take_length] at h
        rw [HN.out] at h
        exact (Option.some.inj h).symm
      clear hlt hh
      go_wp2_with fail
      go_ret2
      exact ⟨by rw [HM.out]; rfl, HB1.out⟩



theorem refNum_any (s : ByteArray) (hs : s.size ≤ 4096) (w : World) :
    Calls Tryz.prog 107 #[.string s] w fun e w' => (∃ n : Int, e = .returned (.tuple #[.int .i64 n, .bool (numB s)])) ∧ Below w.heap.size w w' := by
  cases hv : numB s with
  | true =>
    have hv' := hv
    unfold numB at hv'
    simp only [Bool.and_eq_true, decide_eq_true_eq] at hv'
    obtain ⟨c, r, hl, hd⟩ := kindN_three (kindW_one hv'.2)
    rw [← hl] at hd
    obtain ⟨n, hn⟩ := decFrom_some s.data.toList 0 hd
    exact (refNum_some s hv'.1 hv'.2 n hd hn w).mono fun e w' h => ⟨⟨n, h.1⟩, h.2⟩
  | false =>
    have h' : 4 < s.size ∨ kindW s ≠ 3 := by
      unfold numB at hv
      rw [Bool.and_eq_false_iff] at hv
      rcases hv with h | h
      · left; have := of_decide_eq_false h; omega
      · right; exact of_decide_eq_false h
    exact (refNum_none s hs h' w).mono fun e w' h => ⟨⟨0, h.1⟩, h.2⟩

set_option maxHeartbeats 1600000 in
theorem refDigits_any (s : ByteArray) (hs : s.size ≤ 4096) (w : World) :
    Calls Tryz.prog 85 #[.string s] w fun e w' => e = .returned (.bool (isNumB s)) ∧ Below w.heap.size w w' := by
  have hn := refNum_any s hs w
  cases hv : numB s with
  | false =>
    have e1 : isNumB s = false := by unfold isNumB; rw [hv]; rfl
    rw [hv] at hn
    rw [e1]
    clear hv e1
    go_enter Tryz.func85, Tryz.ntmps85
    go_wp2_with fail
    (with_reducible refine hn.mono ?_)
    rintro e w1 ⟨⟨n, rfl⟩, hB1⟩
    have HB1 := hidden hB1
    clear hB1 hn
    go_wp2_with fail
    go_ret
    exact ⟨rfl, HB1.out⟩
  | true =>
    have hk : kindN s = 3 := by
      unfold numB at hv
      simp only [Bool.and_eq_true, decide_eq_true_eq] at hv
      exact kindW_one hv.2
    obtain ⟨c, r, hl, _⟩ := kindN_three hk
    have hz : 0 < s.size := by rw [← bytes_len, hl]; simp
    rw [hv] at hn
    have hg : s[0]'hz = s.data.toList.getD 0 0 := (getD_bytes s 0 hz).symm
    by_cases h1 : s.size = 1
    · have e1 : isNumB s = true := by
        unfold isNumB
        rw [hv, Bool.true_and, Bool.or_eq_true]
        by_cases h0 : s.data.toList.getD 0 0 = 48
        · left
          refine decide_eq_true ?_
          rw [← bytes_len, hl] at h1
          have hr : r = [] := List.length_eq_zero_iff.1 (by simpa using h1)
          rw [hl, hr] at h0
          have hc : c = 48 := by simpa using h0
          rw [hr, hc] at hl
          apply ByteArray.ext
          apply Array.ext'
          rw [hl]
        · exact .inr (decide_eq_true h0)
      rw [e1]
      have b1 : ((s.size : Int) == 1) = true := by rw [h1]; rfl
      clear hv e1 hk hl hg h1
      go_enter Tryz.func85, Tryz.ntmps85
      go_wp2_with fail
      (with_reducible refine hn.mono ?_)
      rintro e w1 ⟨⟨n, rfl⟩, hB1⟩
      have HB1 := hidden hB1
      clear hB1 hn
      go_wp2_with fail
      go_ret
      exact ⟨rfl, HB1.out⟩
    · have b1 : ((s.size : Int) == 1) = false := by rw [beq_eq_false_iff_ne]; omega
      have h0 : s ≠ ⟨#[48]⟩ := fun e => h1 (by rw [e]; rfl)
      have hzi : (0 : Int) < (s.size : Int) := by omega
      obtain ⟨b, hb⟩ : ∃ b, isNumB s = b := ⟨_, rfl⟩
      have hbd : (((s[0]'hz).toNat : Int) != 48) = b := by
        rw [← hb]; unfold isNumB; rw [hv, decide_eq_false h0, ← hg, Bool.true_and, Bool.false_or]
        rw [Bool.eq_iff_iff, bne_iff_ne, decide_eq_true_eq]
        constructor
        · intro h1 h2; apply h1; rw [h2]; rfl
        · intro h1 h2; apply h1; apply UInt8.toNat_inj.1; show (s[0]'hz).toNat = 48; omega
      rw [hb]
      clear hv hk hl h0 hb hg h1
      cases b with
      | true =>
        go_enter Tryz.func85, Tryz.ntmps85
        go_wp2_with fail
        (with_reducible refine hn.mono ?_)
        rintro e w1 ⟨⟨n, rfl⟩, hB1⟩
        have HB1 := hidden hB1
        clear hB1 hn
        go_wp2_with fail
        go_ret
        exact ⟨rfl, HB1.out⟩
      | false =>
        go_enter Tryz.func85, Tryz.ntmps85
        go_wp2_with fail
        (with_reducible refine hn.mono ?_)
        rintro e w1 ⟨⟨n, rfl⟩, hB1⟩
        have HB1 := hidden hB1
        clear hB1 hn
        go_wp2_with fail
        go_ret
        exact ⟨rfl, HB1.out⟩

theorem rest_of {s : ByteArray} (h : Lib.hasPrefix s.data.toList [45] = true) : restB s = s.extract 1 s.size := by
  unfold restB
  apply ByteArray.ext
  apply Array.ext'
  have h1 : (Lib.trimPrefix s.data.toList [45]) = s.data.toList.drop 1 := by
    unfold Lib.trimPrefix
    rw [if_pos h]; rfl
  rw [h1, ByteArray.data_extract, Array.toList_extract]
  show s.data.toList.drop 1 = (s.data.toList.drop 1).take (s.data.size - 1)
  rw [List.take_of_length_le (by simp)]

theorem prefix_first {s : ByteArray} (hz : 0 < s.size) : Lib.hasPrefix s.data.toList [45] = (((s[0]'hz).toNat : Int) == 45) := by
  have hg : s[0]'hz = s.data.toList.getD 0 0 := (getD_bytes s 0 hz).symm
  rw [hg]
  cases hl : s.data.toList with
  | nil => rw [← bytes_len, hl] at hz; exact absurd hz (by simp)
  | cons c r =>
    rw [Bool.eq_iff_iff, beq_iff_eq]
    show Lib.hasPrefix (c :: r) [45] = true ↔ ((c.toNat : Int) = 45)
    unfold Lib.hasPrefix
    simp
    constructor
    · intro h; rw [← h]; rfl
    · intro h; apply UInt8.toNat_inj.1; show 45 = c.toNat; omega

set_option maxHeartbeats 1600000 in
theorem refInteger_any (s : ByteArray) (hs : s.size ≤ 4096) (w : World) :
    Calls Tryz.prog 86 #[.string s] w fun e w' => e = .returned (.bool (intB s)) ∧ Below w.heap.size w w' := by
  have hn1 := refDigits_any s hs w
  by_cases hz : 0 < s.size
  · have hzi : (0 : Int) < (s.size : Int) := by omega
    have h1i : (1 : Int) ≤ (s.size : Int) := by omega
    obtain ⟨b, hb⟩ : ∃ b, (((s[0]'hz).toNat : Int) == 45) = b := ⟨_, rfl⟩
    have hpx := prefix_first hz
    rw [hb] at hpx
    cases b with
    | false =>
      rw [show intB s = isNumB s by unfold intB; rw [hpx]; rfl]
      clear hpx
      go_enter Tryz.func86, Tryz.ntmps86
      go_wp2_with fail
      (with_reducible refine hn1.mono ?_)
      rintro e w1 ⟨rfl, hB1⟩
      have HB1 := hidden hB1
      clear hB1 hn1
      go_wp2_with fail
      go_ret
      exact ⟨rfl, HB1.out⟩
    | true =>
      rw [show intB s = (decide (restB s ≠ ⟨#[48]⟩) && isNumB (restB s)) by unfold intB; rw [hpx]; rfl, rest_of hpx]
      have hn2 := refDigits_any (s.extract 1 s.size) (by rw [ByteArray.size_extract]; omega) w
      clear hn1 hpx
      obtain ⟨q, hq⟩ : ∃ q, isNumB (s.extract 1 s.size) = q := ⟨_, rfl⟩
      rw [hq] at hn2 ⊢
      clear hq
      cases q with
      | false =>
        rw [Bool.and_false]
        go_enter Tryz.func86, Tryz.ntmps86
        go_wp2_with fail
        (with_reducible refine hn2.mono ?_)
        rintro e w1 ⟨rfl, hB1⟩
        have HB1 := hidden hB1
        clear hB1 hn2
        go_wp2_with fail
        go_ret
        exact ⟨rfl, HB1.out⟩
      | true =>
        rw [Bool.and_true]
        obtain ⟨c, hc⟩ : ∃ c, decide (s.extract 1 s.size ≠ ⟨#[48]⟩) = c := ⟨_, rfl⟩
        rw [hc]
        have e2 : ((s.extract 1 s.size).toList == [48]) = !c := by
          rw [← hc]
          by_cases h0 : s.extract 1 s.size = ⟨#[48]⟩
          · rw [decide_eq_false (fun h => h h0), h0]; simp
          · rw [decide_eq_true h0]
            have := str_neq h0
            rwa [show (⟨#[48]⟩ : ByteArray).toList = [48] by simp] at this
        clear hc
        cases c with
        | false =>
          rw [Bool.not_false] at e2
          go_enter Tryz.func86, Tryz.ntmps86
          go_wp2_with fail
          (with_reducible refine hn2.mono ?_)
          rintro e w1 ⟨rfl, hB1⟩
          have HB1 := hidden hB1
          clear hB1 hn2
          go_wp2_with fail
          go_ret
          exact ⟨by (first | rfl | (rw [e2]; rfl)), HB1.out⟩
        | true =>
          rw [Bool.not_true] at e2
          go_enter Tryz.func86, Tryz.ntmps86
          go_wp2_with fail
          (with_reducible refine hn2.mono ?_)
          rintro e w1 ⟨rfl, hB1⟩
          have HB1 := hidden hB1
          clear hB1 hn2
          go_wp2_with fail
          go_ret
          exact ⟨rfl, HB1.out⟩
  · have h0 : s.size = 0 := by omega
    have hzi : ¬ (0 : Int) < (s.size : Int) := by omega
    have e1 : intB s = isNumB s := by
      unfold intB
      have hl : s.data.toList = [] := List.length_eq_zero_iff.1 (by rw [bytes_len]; exact h0)
      rw [hl]; rfl
    rw [e1]
    clear h0 e1 hz
    go_enter Tryz.func86, Tryz.ntmps86
    go_wp2_with fail
    (with_reducible refine hn1.mono ?_)
    rintro e w1 ⟨rfl, hB1⟩
    have HB1 := hidden hB1
    clear hB1 hn1
    go_wp2_with fail
    go_ret
    exact ⟨rfl, HB1.out⟩

end Go.Proofs.YtlbaaiglebpjiaaGreatDoor
