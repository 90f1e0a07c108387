import Derived.Test.YtlbaaiglebpjiaaGreatDoorLs
import Derived.Test.YtlbaaiglebpjiaaGreatDoorJd
import Derived.Lib.SmallJoins
import Derived.Lib.AppendIntMem
import Derived.Lib.AtoiErrMem
/-
  Number and Name of any word.
-/
namespace Go.Proofs.YtlbaaiglebpjiaaGreatDoor
open Go.RowKit Go.Shelf Go.Lib

theorem number_no (s : ByteArray) (hs : s.size ≤ 100) (hk : kindN s ≠ 1) (h : 4 < s.size ∨ kindN s ≠ 3) (w : World) :
    Calls Tryz.prog 104 #[.string s] w fun e w' => e = .returned (.tuple #[.int .i64 0, .bool false]) ∧ Below w.heap.size w w' := by
  have hki := fun w' => kind_plain s (by omega) hk w'
  have hmx : Tryz.prog.follows .mixedOrders = true := by kernel_rfl
  by_cases h4 : 4 < s.size
  · have b1 : ((4 : Int) < (s.size : Int)) := by omega
    clear h hk hki
    go_enter Tryz.func104, Tryz.ntmps104
    go_wp2_with fail
    go_ret2
    exact ⟨rfl, Below.refl _ _⟩
  · have b1 : ¬ ((4 : Int) < (s.size : Int)) := by omega
    have b2 : ((kindN s : Int) != 3) = true := by
      rw [bne_iff_ne]
      rcases h with h | h
      · exact absurd h h4
      · omega
    clear h hk h4
    go_enter Tryz.func104, Tryz.ntmps104
    go_wp2_with fail
    (with_reducible refine (hki _).mono ?_)
    rintro e w1 ⟨rfl, hB1⟩
    clear hki
    have HB1 := hidden hB1
    clear hB1
    go_wp2_with fail
    go_ret2
    exact ⟨rfl, HB1.out⟩

set_option maxHeartbeats 800000 in
theorem number_yes (s : ByteArray) (hs : s.size ≤ 4) (hk : kindN s = 3) (n : Int) (hn : Lib.atoi s.data.toList = some n) (w : World) :
    Calls Tryz.prog 104 #[.string s] w fun e w' => e = .returned (.tuple #[.int .i64 n, .bool true]) ∧ Below w.heap.size w w' := by
  have hki := fun w' => kind_plain s (by omega) (by rw [hk]; decide) w'
  have hat := fun w' => Tryz.strconv_Atoi s n (by omega) hn w'
  rw [hk] at hki
  have b1 : ¬ ((4 : Int) < (s.size : Int)) := by omega
  clear hk hn
  go_enter Tryz.func104, Tryz.ntmps104
  go_wp2_with fail
  (with_reducible refine (hki _).mono ?_)
  rintro e w1 ⟨rfl, hB1⟩
  clear hki
  have HB1 := hidden hB1
  clear hB1
  go_wp2_with fail
  (with_reducible refine (hat _).mono ?_)
  rintro e w2 ⟨rfl, t, rfl⟩
  have HB2 := hidden (bt HB1.out (Lib.bytesWorld_below w1 5 t))
  generalize Lib.bytesWorld w1 5 t = w3 at *
  clear hat HB1
  go_wp2_with fail
  go_quiet (fail)
  go_wp2_with fail
  go_ret2
  exact ⟨rfl, below_drewN HB2.out nq⟩


theorem str_neq {x y : ByteArray} (h : ¬ x = y) : (x.toList == y.toList) = false := by
  rw [beq_eq_false_iff_ne, ByteArray.toList_eq, ByteArray.toList_eq]
  intro e
  apply h
  obtain ⟨⟨a⟩⟩ := x
  obtain ⟨⟨b⟩⟩ := y
  simpa using e

theorem kindN_three {s : ByteArray} (h : kindN s = 3) : ∃ c r, s.data.toList = c :: r ∧ ∀ x ∈ c :: r, digitB x = true := by
  unfold kindN at h
  by_cases hp : (nextT s.data.toList 0).at_ = 0 ∧ (nextT s.data.toList 0).end_ = s.size
  · rw [if_pos hp] at h
    obtain ⟨h1, h2⟩ := hp
    have e0 : skipTo s.data.toList 0 = 0 := h1
    have hk : (tokF (s.data.toList.drop (skipTo s.data.toList 0))).1 = 3 := h
    have he : skipTo s.data.toList 0 + (tokF (s.data.toList.drop (skipTo s.data.toList 0))).2 = s.size := h2
    rw [e0, List.drop_zero] at hk he
    cases hl : s.data.toList with
    | nil => rw [hl] at hk; simp [tokF] at hk
    | cons c r =>
      have hz : s.size = r.length + 1 := by rw [← bytes_len, hl]; rfl
      rw [hl, tokF] at hk he
      by_cases a : letterB c = true
      · rw [if_pos a] at hk; cases hk
      · rw [if_neg a] at hk he
        by_cases b : digitB c = true
        · rw [if_pos b] at he
          have he' : 0 + ((r.takeWhile digitB).length + 1) = s.size := he
          refine ⟨c, r, rfl, fun x hx => ?_⟩
          rcases List.mem_cons.1 hx with rfl | hx
          · exact b
          · exact takeWhile_only digitB r (by omega) x hx
        · rw [if_neg b] at hk; split at hk <;> cases hk
  · rw [if_neg hp] at h; cases h

theorem digit_val {c : UInt8} (h : digitB c = true) : ∃ d, Lib.digitVal c = some d := by
  unfold digitB at h
  simp only [Bool.and_eq_true, decide_eq_true_eq] at h
  exact ⟨c.toNat - 48, by unfold Lib.digitVal; rw [if_pos h]⟩

theorem decFrom_some : ∀ (l : List UInt8) (acc : Nat), (∀ x ∈ l, digitB x = true) → ∃ n, Lib.decFrom acc l = some n
  | [], acc, _ => ⟨acc, rfl⟩
  | c :: r, acc, h => by
    obtain ⟨d, hd⟩ := digit_val (h c List.mem_cons_self)
    rw [Lib.decFrom, hd]
    exact decFrom_some r _ (fun x hx => h x (List.mem_cons_of_mem _ hx))

theorem atoi_digits {s : ByteArray} (h : kindN s = 3) : ∃ n, Lib.atoi s.data.toList = some n := by
  obtain ⟨c, r, hl, hd⟩ := kindN_three h
  obtain ⟨n, hn⟩ := decFrom_some (c :: r) 0 hd
  have hc := hd c List.mem_cons_self
  have h45 : (c == 45) = false := by
    rw [beq_eq_false_iff_ne]; intro e; rw [e] at hc; revert hc; decide
  have h43 : (c == 43) = false := by
    rw [beq_eq_false_iff_ne]; intro e; rw [e] at hc; revert hc; decide
  refine ⟨(n : Int), ?_⟩
  rw [hl]
  simp [Lib.atoi, h45, h43, Lib.decNat, hn]

theorem kindW_one {s : ByteArray} (h : kindW s = 3) : kindN s = 3 := by
  unfold kindW at h
  by_cases hk : kindN s = 1 ∧ s.data.toList ∈ kwords
  · rw [if_pos hk] at h; cases h
  · rw [if_neg hk] at h; exact h

/-- Whether a word is a valid number. -/
def numB (s : ByteArray) : Bool := decide (s.size ≤ 4) && decide (kindW s = 3)
/-- Whether a word is a name. -/
def nameB (s : ByteArray) : Bool := decide (s.size ≤ 16) && decide (kindW s = 1)
/-- The value of a valid number. -/
def numI (s : ByteArray) : Int := if numB s = true then (Lib.atoi s.data.toList).getD 0 else 0

set_option maxHeartbeats 1600000 in
theorem number_any (s : ByteArray) (hs : s.size ≤ 4096) (w : World) (hm : MaxAt w) :
    Calls Tryz.prog 104 #[.string s] w fun e w' => e = .returned (.tuple #[.int .i64 (numI s), .bool (numB s)]) ∧ Below w.heap.size w w' := by
  have hki := kind_any s hs w hm
  have hmx : Tryz.prog.follows .mixedOrders = true := by kernel_rfl
  by_cases h4 : 4 < s.size
  · have b1 : ((4 : Int) < (s.size : Int)) := by omega
    have e1 : numB s = false := by unfold numB; rw [decide_eq_false (by omega)]; rfl
    have e2 : numI s = 0 := by unfold numI; rw [e1]; rfl
    rw [e1, e2]
    clear hki e1 e2 hm
    go_enter Tryz.func104, Tryz.ntmps104
    go_wp2_with fail
    go_ret2
    exact ⟨rfl, Below.refl _ _⟩
  · by_cases hk : kindW s = 3
    · have hkn := kindW_one hk
      obtain ⟨n, hn⟩ := atoi_digits hkn
      have e1 : numB s = true := by unfold numB; rw [decide_eq_true (by omega), decide_eq_true hk]; rfl
      have e2 : numI s = n := by unfold numI; rw [e1, hn]; rfl
      rw [e1, e2]
      exact number_yes s (by omega) hkn n hn w
    · have b1 : ¬ ((4 : Int) < (s.size : Int)) := by omega
      have b2 : ((kindW s : Int) != 3) = true := by rw [bne_iff_ne]; omega
      have e1 : numB s = false := by unfold numB; rw [decide_eq_false hk]; simp
      have e2 : numI s = 0 := by unfold numI; rw [e1]; rfl
      rw [e1, e2]
      clear hk h4 e1 e2 hm
      go_enter Tryz.func104, Tryz.ntmps104
      go_wp2_with fail
      (with_reducible refine hki.mono ?_)
      rintro e w1 ⟨rfl, hB1⟩
      clear hki
      have HB1 := hidden hB1
      clear hB1
      go_wp2_with fail
      go_ret2
      exact ⟨rfl, HB1.out⟩

set_option maxHeartbeats 1600000 in
theorem name_any (s : ByteArray) (hs : s.size ≤ 4096) (w : World) (hm : MaxAt w) :
    Calls Tryz.prog 77 #[.string s] w fun e w' => e = .returned (.bool (nameB s)) ∧ Below w.heap.size w w' := by
  have hki := kind_any s hs w hm
  clear hm
  by_cases h16 : s.size ≤ 16
  · have b1 : ((s.size : Int) ≤ 16) := by omega
    obtain ⟨c, hc⟩ : ∃ c, nameB s = c := ⟨_, rfl⟩
    have hcc : ((kindW s : Int) == 1) = c := by
      rw [← hc]; unfold nameB; rw [decide_eq_true h16, Bool.true_and]
      rw [Bool.eq_iff_iff, beq_iff_eq, decide_eq_true_eq]; omega
    rw [hc]
    clear hc h16
    cases c with
    | true =>
      go_enter Tryz.func77, Tryz.ntmps77
      go_wp2_with fail
      (with_reducible refine hki.mono ?_)
      rintro e w1 ⟨rfl, hB1⟩
      clear hki
      have HB1 := hidden hB1
      clear hB1
      go_wp2_with fail
      go_ret
      exact ⟨rfl, HB1.out⟩
    | false =>
      go_enter Tryz.func77, Tryz.ntmps77
      go_wp2_with fail
      (with_reducible refine hki.mono ?_)
      rintro e w1 ⟨rfl, hB1⟩
      clear hki
      have HB1 := hidden hB1
      clear hB1
      go_wp2_with fail
      go_ret
      exact ⟨rfl, HB1.out⟩
  · have b1 : ¬ ((s.size : Int) ≤ 16) := by omega
    have e1 : nameB s = false := by unfold nameB; rw [decide_eq_false h16]; rfl
    rw [e1]
    clear hki e1 h16
    go_enter Tryz.func77, Tryz.ntmps77
    go_wp2_with fail
    go_ret
    exact ⟨rfl, Below.refl _ _⟩


end Go.Proofs.YtlbaaiglebpjiaaGreatDoor
