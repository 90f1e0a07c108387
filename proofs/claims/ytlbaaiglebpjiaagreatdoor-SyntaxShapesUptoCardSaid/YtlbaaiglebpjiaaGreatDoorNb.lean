import Derived.Test.YtlbaaiglebpjiaaGreatDoorNc
/-
  Numbers and integers without leading zeros.
-/
namespace Go.Proofs.YtlbaaiglebpjiaaGreatDoor
open Go.RowKit Go.Shelf Go.Lib

def isNumB (s : ByteArray) : Bool := numB s && (decide (s = ⟨#[48]⟩) || decide (s.data.toList.getD 0 0 ≠ 48))
def restB (s : ByteArray) : ByteArray := ⟨(Lib.trimPrefix s.data.toList [45]).toArray⟩
def intB (s : ByteArray) : Bool := if Lib.hasPrefix s.data.toList [45] then decide (restB s ≠ ⟨#[48]⟩) && isNumB (restB s) else isNumB s

set_option maxHeartbeats 1600000 in
theorem isNumber_any (s : ByteArray) (hs : s.size ≤ 4096) (w : World) (hm : MaxAt w) :
    Calls Tryz.prog 81 #[.string s] w fun e w' => e = .returned (.bool (isNumB s)) ∧ Below w.heap.size w w' := by
  have hn : Calls Tryz.prog 104 #[.string s] w fun e w' => (∃ n : Int, e = .returned (.tuple #[.int .i64 n, .bool (numB s)])) ∧ Below w.heap.size w w' := (number_any s hs w hm).mono (fun _ _ h => ⟨⟨_, h.1⟩, h.2⟩)
  clear hm
  cases hv : numB s with
  | false =>
    have e1 : isNumB s = false := by unfold isNumB; rw [hv]; rfl
    rw [hv] at hn
    rw [e1]
    clear hv e1
    go_enter Tryz.func81, Tryz.ntmps81
    go_wp2_with fail
    (with_reducible refine hn.mono ?_)
    rintro e w1 ⟨⟨n, rfl⟩, hB1⟩
    have HB1 := hidden hB1
    clear hB1 hn
    go_wp2_with fail
    go_ret
    exact ⟨rfl, HB1.out⟩
  | true =>
    have hk : kindN s = 3 := by
      unfold numB at hv
      simp only [Bool.and_eq_true, decide_eq_true_eq] at hv
      exact kindW_one hv.2
    obtain ⟨c, r, hl, _⟩ := kindN_three hk
    have hz : 0 < s.size := by rw [← bytes_len, hl]; simp
    rw [hv] at hn
    by_cases h0 : s = ⟨#[48]⟩
    · have e1 : isNumB s = true := by unfold isNumB; rw [hv, decide_eq_true h0]; rfl
      rw [e1]
      subst h0
      clear hv e1 hk hl
      go_enter Tryz.func81, Tryz.ntmps81
      go_wp2_with fail
      (with_reducible refine hn.mono ?_)
      rintro e w1 ⟨⟨n, rfl⟩, hB1⟩
      have HB1 := hidden hB1
      clear hB1 hn
      go_wp2_with fail
      go_ret
      exact ⟨rfl, HB1.out⟩
    · have e2 : (s.toList == [48]) = false := by have := str_neq h0; rwa [show (⟨#[48]⟩ : ByteArray).toList = [48] by simp] at this
      have hzi : (0 : Int) < (s.size : Int) := by omega
      have hg : s[0]'hz = s.data.toList.getD 0 0 := (getD_bytes s 0 hz).symm
      obtain ⟨b, hb⟩ : ∃ b, isNumB s = b := ⟨_, rfl⟩
      have hbd : (((s[0]'hz).toNat : Int) != 48) = b := by
        rw [← hb]; unfold isNumB; rw [hv, decide_eq_false h0, ← hg, Bool.true_and, Bool.false_or]
        rw [Bool.eq_iff_iff, bne_iff_ne, decide_eq_true_eq]
        constructor
        · intro h1 h2; apply h1; rw [h2]; rfl
        · intro h1 h2; apply h1; apply UInt8.toNat_inj.1; show (s[0]'hz).toNat = 48; omega
      rw [hb]
      clear hv hk hl h0 hb hg
      cases b with
      | true =>
        go_enter Tryz.func81, Tryz.ntmps81
        go_wp2_with fail
        (with_reducible refine hn.mono ?_)
        rintro e w1 ⟨⟨n, rfl⟩, hB1⟩
        have HB1 := hidden hB1
        clear hB1 hn
        go_wp2_with fail
        go_ret
        exact ⟨rfl, HB1.out⟩
      | false =>
        go_enter Tryz.func81, Tryz.ntmps81
        go_wp2_with fail
        (with_reducible refine hn.mono ?_)
        rintro e w1 ⟨⟨n, rfl⟩, hB1⟩
        have HB1 := hidden hB1
        clear hB1 hn
        go_wp2_with fail
        go_ret
        exact ⟨rfl, HB1.out⟩

theorem trimPrefix_le (l p : List UInt8) : (Lib.trimPrefix l p).length ≤ l.length := by
  unfold Lib.trimPrefix
  split <;> simp

set_option maxHeartbeats 1600000 in
theorem isInteger_any (s : ByteArray) (hs : s.size ≤ 4096) (w : World) (hm : MaxAt w) :
    Calls Tryz.prog 82 #[.string s] w fun e w' => e = .returned (.bool (intB s)) ∧ Below w.heap.size w w' := by
  have hcp := fun w' => Tryz.strings_CutPrefix s ⟨#[45]⟩ w'
  have hcp2 : ∀ w', Calls Tryz.prog 105 #[.string s, .string ⟨#[45]⟩] w' fun e w2 => e = .returned (.tuple #[.string (restB s), .bool (Lib.hasPrefix s.data.toList [45])]) ∧ w2 = w' := hcp
  have hrs : (restB s).size ≤ 4096 := by
    have h1 := trimPrefix_le s.data.toList [45]
    rw [bytes_len] at h1
    have h2 : (restB s).size = (Lib.trimPrefix s.data.toList [45]).length := by unfold restB; simp [ByteArray.size]
    omega
  have hn1 := isNumber_any s hs w hm
  have hn2 := isNumber_any (restB s) hrs w hm
  clear hm
  unfold intB
  clear hcp
  generalize restB s = r at *
  cases hp : Lib.hasPrefix s.data.toList [45] with
  | false =>
    rw [hp] at hcp2
    rw [if_neg (by simp)]
    clear hp
    go_enter Tryz.func82, Tryz.ntmps82
    go_wp2_with fail
    (with_reducible refine (hcp2 _).mono ?_)
    rintro e w1 ⟨rfl, rfl⟩
    go_wp2_with fail
    (with_reducible refine hn1.mono ?_)
    rintro e w2 ⟨rfl, hB1⟩
    have HB1 := hidden hB1
    clear hB1 hn1 hn2 hcp2
    go_wp2_with fail
    go_ret
    exact ⟨rfl, HB1.out⟩
  | true =>
    rw [hp] at hcp2
    rw [if_pos rfl]
    clear hp
    by_cases h0 : r = ⟨#[48]⟩
    · subst h0
      rw [decide_eq_false (by simp)]
      go_enter Tryz.func82, Tryz.ntmps82
      go_wp2_with fail
      (with_reducible refine (hcp2 _).mono ?_)
      rintro e w1 ⟨rfl, rfl⟩
      clear hn1 hn2 hcp2
      go_wp2_with fail
      go_ret
      exact ⟨rfl, Below.refl _ _⟩
    · have e2 : (r.toList == [48]) = false := by have := str_neq h0; rwa [show (⟨#[48]⟩ : ByteArray).toList = [48] by simp] at this
      rw [decide_eq_true h0, Bool.true_and]
      go_enter Tryz.func82, Tryz.ntmps82
      go_wp2_with fail
      (with_reducible refine (hcp2 _).mono ?_)
      rintro e w1 ⟨rfl, rfl⟩
      go_wp2_with fail
      (with_reducible refine hn2.mono ?_)
      rintro e w2 ⟨rfl, hB1⟩
      have HB1 := hidden hB1
      clear hB1 hn1 hn2 hcp2
      go_wp2_with fail
      go_ret
      exact ⟨rfl, HB1.out⟩

end Go.Proofs.YtlbaaiglebpjiaaGreatDoor
