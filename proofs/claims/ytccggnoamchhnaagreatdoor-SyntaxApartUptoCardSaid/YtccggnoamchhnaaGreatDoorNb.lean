import Derived.Test.YtccggnoamchhnaaGreatDoorLs
import Derived.Test.YtccggnoamchhnaaGreatDoorJd
import Derived.Lib.SmallJoins
import Derived.Lib.AppendIntMem
import Derived.Lib.AtoiErrMem
/-
  Number and Name of any word.
-/
namespace Go.Proofs.YtccggnoamchhnaaGreatDoor
open Go.RowKit Go.Shelf Go.Lib

theorem number_no (s : ByteArray) (hs : s.size ≤ 100) (hk : kindN s ≠ 1) (h : 4 < s.size ∨ kindN s ≠ 3) (w : World) :
    Calls Tryz.prog 104 #[.string s] w fun e w' => e = .returned (.tuple #[.int .i64 0, .bool false]) ∧ Below w.heap.size w w' := by
  have hki := fun w' => kind_plain s (by omega) hk w'
  have hmx : Tryz.prog.follows .mixedOrders = true := by kernel_rfl
  by_cases h4 : 4 < s.size
  · have b1 : ((4 : Int) < (s.size : Int)) := by omega
    clear h hk hki
    go_enter Tryz.func104, Tryz.ntmps104
    go_wp2_with fail
    go_ret2
    exact ⟨rfl, Below.refl _ _⟩
  · have b1 : ¬ ((4 : Int) < (s.size : Int)) := by omega
    have b2 : ((kindN s : Int) != 3) = true := by
      rw [bne_iff_ne]
      rcases h with h | h
      · exact absurd h h4
      · omega
    clear h hk h4
    go_enter Tryz.func104, Tryz.ntmps104
    go_wp2_with fail
    (with_reducible refine (hki _).mono ?_)
    rintro e w1 ⟨rfl, hB1⟩
    clear hki
    have HB1 := hidden hB1
    clear hB1
    go_wp2_with fail
    go_ret2
    exact ⟨rfl, HB1.out⟩

set_option maxHeartbeats 800000 in
theorem number_yes (s : ByteArray) (hs : s.size ≤ 4) (hk : kindN s = 3) (n : Int) (hn : Lib.atoi s.data.toList = some n) (w : World) :
    Calls Tryz.prog 104 #[.string s] w fun e w' => e = .returned (.tuple #[.int .i64 n, .bool true]) ∧ Below w.heap.size w w' := by
  have hki := fun w' => kind_plain s (by omega) (by rw [hk]; decide) w'
  have hat := fun w' => Tryz.strconv_Atoi s n (by omega) hn w'
  rw [hk] at hki
  have b1 : ¬ ((4 : Int) < (s.size : Int)) := by omega
  clear hk hn
  go_enter Tryz.func104, Tryz.ntmps104
  go_wp2_with fail
  (with_reducible refine (hki _).mono ?_)
  rintro e w1 ⟨rfl, hB1⟩
  clear hki
  have HB1 := hidden hB1
  clear hB1
  go_wp2_with fail
  (with_reducible refine (hat _).mono ?_)
  rintro e w2 ⟨rfl, t, rfl⟩
  have HB2 := hidden (bt HB1.out (Lib.bytesWorld_below w1 5 t))
  generalize Lib.bytesWorld w1 5 t = w3 at *
  clear hat HB1
  go_wp2_with fail
  go_quiet (fail)
  go_wp2_with fail
  go_ret2
  exact ⟨rfl, below_drewN HB2.out nq⟩


theorem str_neq {x y : ByteArray} (h : ¬ x = y) : (x.toList == y.toList) = false := by
  rw [beq_eq_false_iff_ne, ByteArray.toList_eq, ByteArray.toList_eq]
  intro e
  apply h
  obtain ⟨⟨a⟩⟩ := x
  obtain ⟨⟨b⟩⟩ := y
  simpa using e

theorem takeWhile_only (p : UInt8 → Bool) : ∀ l : List UInt8, (l.takeWhile p).length = l.length → ∀ x ∈ l, p x = true
  | [], _, x, hx => by cases hx
  | c :: r, h, x, hx => by
    by_cases hc : p c = true
    · rw [List.takeWhile_cons_of_pos hc] at h
      rcases List.mem_cons.1 hx with rfl | hx
      · exact hc
      · exact takeWhile_only p r (by simpa using h) x hx
    · rw [List.takeWhile_cons_of_neg hc] at h
      cases h

theorem kindN_three {s : ByteArray} (h : kindN s = 3) : ∃ c r, s.data.toList = c :: r ∧ ∀ x ∈ c :: r, digitB x = true := by
  unfold kindN at h
  by_cases hp : (nextT s.data.toList 0).at_ = 0 ∧ (nextT s.data.toList 0).end_ = s.size
  · rw [if_pos hp] at h
    obtain ⟨h1, h2⟩ := hp
    have e0 : skipTo s.data.toList 0 = 0 := h1
    have hk : (tokF (s.data.toList.drop (skipTo s.data.toList 0))).1 = 3 := h
    have he : skipTo s.data.toList 0 + (tokF (s.data.toList.drop (skipTo s.data.toList 0))).2 = s.size := h2
    rw [e0, List.drop_zero] at hk he
    cases hl : s.data.toList with
    | nil => rw [hl] at hk; simp [tokF] at hk
    | cons c r =>
      have hz : s.size = r.length + 1 := by rw [← bytes_len, hl]; rfl
      rw [hl, tokF] at hk he
      by_cases a : letterB c = true
      · rw [if_pos a] at hk; cases hk
      · rw [if_neg a] at hk he
        by_cases b : digitB c = true
        · rw [if_pos b] at he
          have he' : 0 + ((r.takeWhile digitB).length + 1) = s.size := he
          refine ⟨c, r, rfl, fun x hx => ?_⟩
          rcases List.mem_cons.1 hx with rfl | hx
          · exact b
          · exact takeWhile_only digitB r (by omega) x hx
        · rw [if_neg b] at hk; split at hk <;> cases hk
  · rw [if_neg hp] at h; cases h

theorem digit_val {c : UInt8} (h : digitB c = true) : ∃ d, Lib.digitVal c = some d := by
  unfold digitB at h
  simp only [Bool.and_eq_true, decide_eq_true_eq] at h
  exact ⟨c.toNat - 48, by unfold Lib.digitVal; rw [if_pos h]⟩

theorem decFrom_some : ∀ (l : List UInt8) (acc : Nat), (∀ x ∈ l, digitB x = true) → ∃ n, Lib.decFrom acc l = some n
  | [], acc, _ => ⟨acc, rfl⟩
  | c :: r, acc, h => by
    obtain ⟨d, hd⟩ := digit_val (h c List.mem_cons_self)
    rw [Lib.decFrom, hd]
    exact decFrom_some r _ (fun x hx => h x (List.mem_cons_of_mem _ hx))

theorem atoi_digits {s : ByteArray} (h : kindN s = 3) : ∃ n, Lib.atoi s.data.toList = some n := by
  obtain ⟨c, r, hl, hd⟩ := kindN_three h
  obtain ⟨n, hn⟩ := decFrom_some (c :: r) 0 hd
  have hc := hd c List.mem_cons_self
  have h45 : (c == 45) = false := by
    rw [beq_eq_false_iff_ne]; intro e; rw [e] at hc; revert hc; decide
  have h43 : (c == 43) = false := by
    rw [beq_eq_false_iff_ne]; intro e; rw [e] at hc; revert hc; decide
  refine ⟨(n : Int), ?_⟩
  rw [hl]
  simp [Lib.atoi, h45, h43, Lib.decNat, hn]

theorem kindW_one {s : ByteArray} (h : kindW s = 3) : kindN s = 3 := by
  unfold kindW at h
  by_cases hk : kindN s = 1 ∧ s.data.toList ∈ kwords
  · rw [if_pos hk] at h; cases h
  · rw [if_neg hk] at h; exact h

/-- Whether a word is a valid number. -/
def numB (s : ByteArray) : Bool := decide (s.size ≤ 4) && decide (kindW s = 3)
/-- Whether a word is a name. -/
def nameB (s : ByteArray) : Bool := decide (s.size ≤ 16) && decide (kindW s = 1)
def isNumB (s : ByteArray) : Bool := numB s && (decide (s = ⟨#[48]⟩) || decide (s.data.toList.getD 0 0 ≠ 48))
def restB (s : ByteArray) : ByteArray := ⟨(Lib.trimPrefix s.data.toList [45]).toArray⟩
def intB (s : ByteArray) : Bool := if Lib.hasPrefix s.data.toList [45] then decide (restB s ≠ ⟨#[48]⟩) && isNumB (restB s) else isNumB s

set_option maxHeartbeats 1600000 in
theorem number_any (s : ByteArray) (hs : s.size ≤ 4096) (w : World) :
    Calls Tryz.prog 104 #[.string s] w fun e w' => (∃ n : Int, e = .returned (.tuple #[.int .i64 n, .bool (numB s)])) ∧ Below w.heap.size w w' := by
  have hki := fun w' => kind_any s hs w'
  have hmx : Tryz.prog.follows .mixedOrders = true := by kernel_rfl
  by_cases h4 : 4 < s.size
  · have b1 : ((4 : Int) < (s.size : Int)) := by omega
    have e1 : numB s = false := by unfold numB; rw [decide_eq_false (by omega)]; rfl
    rw [e1]
    clear hki e1
    go_enter Tryz.func104, Tryz.ntmps104
    go_wp2_with fail
    go_ret2
    exact ⟨⟨_, rfl⟩, Below.refl _ _⟩
  · by_cases hk : kindW s = 3
    · have hkn := kindW_one hk
      obtain ⟨n, hn⟩ := atoi_digits hkn
      have e1 : numB s = true := by unfold numB; rw [decide_eq_true (by omega), decide_eq_true hk]; rfl
      rw [e1]
      refine (number_yes s (by omega) hkn n hn w).mono ?_
      rintro e w' ⟨h1, h2⟩
      exact ⟨⟨n, h1⟩, h2⟩
    · have b1 : ¬ ((4 : Int) < (s.size : Int)) := by omega
      have b2 : ((kindW s : Int) != 3) = true := by rw [bne_iff_ne]; omega
      have e1 : numB s = false := by unfold numB; rw [decide_eq_false hk]; simp
      rw [e1]
      clear hk h4 e1
      go_enter Tryz.func104, Tryz.ntmps104
      go_wp2_with fail
      (with_reducible refine (hki _).mono ?_)
      rintro e w1 ⟨rfl, hB1⟩
      clear hki
      have HB1 := hidden hB1
      clear hB1
      go_wp2_with fail
      go_ret2
      exact ⟨⟨_, rfl⟩, HB1.out⟩

set_option maxHeartbeats 1600000 in
theorem name_any (s : ByteArray) (hs : s.size ≤ 4096) (w : World) :
    Calls Tryz.prog 77 #[.string s] w fun e w' => e = .returned (.bool (nameB s)) ∧ Below w.heap.size w w' := by
  have hki := fun w' => kind_any s hs w'
  by_cases h16 : s.size ≤ 16
  · have b1 : ((s.size : Int) ≤ 16) := by omega
    obtain ⟨c, hc⟩ : ∃ c, nameB s = c := ⟨_, rfl⟩
    have hcc : ((kindW s : Int) == 1) = c := by
      rw [← hc]; unfold nameB; rw [decide_eq_true h16, Bool.true_and]
      rw [Bool.eq_iff_iff, beq_iff_eq, decide_eq_true_eq]; omega
    rw [hc]
    clear hc h16
    cases c with
    | true =>
      go_enter Tryz.func77, Tryz.ntmps77
      go_wp2_with fail
      (with_reducible refine (hki _).mono ?_)
      rintro e w1 ⟨rfl, hB1⟩
      clear hki
      have HB1 := hidden hB1
      clear hB1
      go_wp2_with fail
      go_ret
      exact ⟨rfl, HB1.out⟩
    | false =>
      go_enter Tryz.func77, Tryz.ntmps77
      go_wp2_with fail
      (with_reducible refine (hki _).mono ?_)
      rintro e w1 ⟨rfl, hB1⟩
      clear hki
      have HB1 := hidden hB1
      clear hB1
      go_wp2_with fail
      go_ret
      exact ⟨rfl, HB1.out⟩
  · have b1 : ¬ ((s.size : Int) ≤ 16) := by omega
    have e1 : nameB s = false := by unfold nameB; rw [decide_eq_false h16]; rfl
    rw [e1]
    clear hki e1 h16
    go_enter Tryz.func77, Tryz.ntmps77
    go_wp2_with fail
    go_ret
    exact ⟨rfl, Below.refl _ _⟩

set_option maxHeartbeats 1600000 in
theorem isNumber_any (s : ByteArray) (hs : s.size ≤ 4096) (w : World) :
    Calls Tryz.prog 81 #[.string s] w fun e w' => e = .returned (.bool (isNumB s)) ∧ Below w.heap.size w w' := by
  have hn := number_any s hs w
  cases hv : numB s with
  | false =>
    have e1 : isNumB s = false := by unfold isNumB; rw [hv]; rfl
    rw [hv] at hn
    rw [e1]
    clear hv e1
    go_enter Tryz.func81, Tryz.ntmps81
    go_wp2_with fail
    (with_reducible refine hn.mono ?_)
    rintro e w1 ⟨⟨n, rfl⟩, hB1⟩
    have HB1 := hidden hB1
    clear hB1 hn
    go_wp2_with fail
    go_ret
    exact ⟨rfl, HB1.out⟩
  | true =>
    have hk : kindN s = 3 := by
      unfold numB at hv
      simp only [Bool.and_eq_true, decide_eq_true_eq] at hv
      exact kindW_one hv.2
    obtain ⟨c, r, hl, _⟩ := kindN_three hk
    have hz : 0 < s.size := by rw [← bytes_len, hl]; simp
    rw [hv] at hn
    by_cases h0 : s = ⟨#[48]⟩
    · have e1 : isNumB s = true := by unfold isNumB; rw [hv, decide_eq_true h0]; rfl
      rw [e1]
      subst h0
      clear hv e1 hk hl
      go_enter Tryz.func81, Tryz.ntmps81
      go_wp2_with fail
      (with_reducible refine hn.mono ?_)
      rintro e w1 ⟨⟨n, rfl⟩, hB1⟩
      have HB1 := hidden hB1
      clear hB1 hn
      go_wp2_with fail
      go_ret
      exact ⟨rfl, HB1.out⟩
    · have e2 : (s.toList == [48]) = false := by have := str_neq h0; rwa [show (⟨#[48]⟩ : ByteArray).toList = [48] by simp] at this
      have hzi : (0 : Int) < (s.size : Int) := by omega
      have hg : s[0]'hz = s.data.toList.getD 0 0 := (getD_bytes s 0 hz).symm
      obtain ⟨b, hb⟩ : ∃ b, isNumB s = b := ⟨_, rfl⟩
      have hbd : (((s[0]'hz).toNat : Int) != 48) = b := by
        rw [← hb]; unfold isNumB; rw [hv, decide_eq_false h0, ← hg, Bool.true_and, Bool.false_or]
        rw [Bool.eq_iff_iff, bne_iff_ne, decide_eq_true_eq]
        constructor
        · intro h1 h2; apply h1; rw [h2]; rfl
        · intro h1 h2; apply h1; apply UInt8.toNat_inj.1; show (s[0]'hz).toNat = 48; omega
      rw [hb]
      clear hv hk hl h0 hb hg
      cases b with
      | true =>
        go_enter Tryz.func81, Tryz.ntmps81
        go_wp2_with fail
        (with_reducible refine hn.mono ?_)
        rintro e w1 ⟨⟨n, rfl⟩, hB1⟩
        have HB1 := hidden hB1
        clear hB1 hn
        go_wp2_with fail
        go_ret
        exact ⟨rfl, HB1.out⟩
      | false =>
        go_enter Tryz.func81, Tryz.ntmps81
        go_wp2_with fail
        (with_reducible refine hn.mono ?_)
        rintro e w1 ⟨⟨n, rfl⟩, hB1⟩
        have HB1 := hidden hB1
        clear hB1 hn
        go_wp2_with fail
        go_ret
        exact ⟨rfl, HB1.out⟩

theorem trimPrefix_le (l p : List UInt8) : (Lib.trimPrefix l p).length ≤ l.length := by
  unfold Lib.trimPrefix
  split <;> simp

set_option maxHeartbeats 1600000 in
theorem isInteger_any (s : ByteArray) (hs : s.size ≤ 4096) (w : World) :
    Calls Tryz.prog 82 #[.string s] w fun e w' => e = .returned (.bool (intB s)) ∧ Below w.heap.size w w' := by
  have hcp := fun w' => Tryz.strings_CutPrefix s ⟨#[45]⟩ w'
  have hcp2 : ∀ w', Calls Tryz.prog 105 #[.string s, .string ⟨#[45]⟩] w' fun e w2 => e = .returned (.tuple #[.string (restB s), .bool (Lib.hasPrefix s.data.toList [45])]) ∧ w2 = w' := hcp
  have hrs : (restB s).size ≤ 4096 := by
    have h1 := trimPrefix_le s.data.toList [45]
    rw [bytes_len] at h1
    have h2 : (restB s).size = (Lib.trimPrefix s.data.toList [45]).length := by unfold restB; simp [ByteArray.size]
    omega
  have hn1 := fun w' => isNumber_any s hs w'
  have hn2 := fun w' => isNumber_any (restB s) hrs w'
  unfold intB
  clear hcp
  generalize restB s = r at *
  cases hp : Lib.hasPrefix s.data.toList [45] with
  | false =>
    rw [hp] at hcp2
    rw [if_neg (by simp)]
    clear hp
    go_enter Tryz.func82, Tryz.ntmps82
    go_wp2_with fail
    (with_reducible refine (hcp2 _).mono ?_)
    rintro e w1 ⟨rfl, rfl⟩
    go_wp2_with fail
    (with_reducible refine (hn1 _).mono ?_)
    rintro e w2 ⟨rfl, hB1⟩
    have HB1 := hidden hB1
    clear hB1 hn1 hn2 hcp2
    go_wp2_with fail
    go_ret
    exact ⟨rfl, HB1.out⟩
  | true =>
    rw [hp] at hcp2
    rw [if_pos rfl]
    clear hp
    by_cases h0 : r = ⟨#[48]⟩
    · subst h0
      rw [decide_eq_false (by simp)]
      go_enter Tryz.func82, Tryz.ntmps82
      go_wp2_with fail
      (with_reducible refine (hcp2 _).mono ?_)
      rintro e w1 ⟨rfl, rfl⟩
      clear hn1 hn2 hcp2
      go_wp2_with fail
      go_ret
      exact ⟨rfl, Below.refl _ _⟩
    · have e2 : (r.toList == [48]) = false := by have := str_neq h0; rwa [show (⟨#[48]⟩ : ByteArray).toList = [48] by simp] at this
      rw [decide_eq_true h0, Bool.true_and]
      go_enter Tryz.func82, Tryz.ntmps82
      go_wp2_with fail
      (with_reducible refine (hcp2 _).mono ?_)
      rintro e w1 ⟨rfl, rfl⟩
      go_wp2_with fail
      (with_reducible refine (hn2 _).mono ?_)
      rintro e w2 ⟨rfl, hB1⟩
      have HB1 := hidden hB1
      clear hB1 hn1 hn2 hcp2
      go_wp2_with fail
      go_ret
      exact ⟨rfl, HB1.out⟩

end Go.Proofs.YtccggnoamchhnaaGreatDoor
