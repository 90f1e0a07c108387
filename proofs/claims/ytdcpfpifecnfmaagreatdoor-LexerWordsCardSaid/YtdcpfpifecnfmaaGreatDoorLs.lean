import Derived.Test.YtdcpfpifecnfmaaGreatDoorLr
import Derived.Lib.ItoaNum
import Derived.Lib.Atoi
/-
  The kind of digits; plain facts.
-/
namespace Go.Proofs.YtdcpfpifecnfmaaGreatDoor
open Go.RowKit Go.Shelf Go.Lib

theorem digit_facts (c : UInt8) (h : digitB c = true) : whiteB c = false ∧ c ≠ 35 ∧ letterB c = false := by
  unfold digitB at h
  simp only [Bool.and_eq_true, decide_eq_true_eq] at h
  obtain ⟨h1, h2⟩ := h
  refine ⟨?_, ?_, ?_⟩
  · unfold whiteB
    have e1 : c ≠ 9 := by rintro rfl; exact absurd h1 (by decide)
    have e2 : c ≠ 10 := by rintro rfl; exact absurd h1 (by decide)
    have e3 : c ≠ 13 := by rintro rfl; exact absurd h1 (by decide)
    have e4 : c ≠ 32 := by rintro rfl; exact absurd h1 (by decide)
    simp [e1, e2, e3, e4]
  · rintro rfl; exact absurd h1 (by decide)
  · unfold letterB
    simp only [Bool.and_eq_false_iff, decide_eq_false_iff_not]
    exact .inl (by omega)

theorem skipTo_stays (c : UInt8) (r : List UInt8) (h1 : whiteB c = false) (h2 : c ≠ 35) : skipTo (c :: r) 0 = 0 := by
  unfold skipTo
  rw [List.drop_zero, skipF, if_neg (by rw [h1]; simp), if_neg h2]

theorem nextT_digit (c : UInt8) (r : List UInt8) (h : digitB c = true) : nextT (c :: r) 0 = ⟨3, 0, 0, (r.takeWhile digitB).length + 1⟩ := by
  obtain ⟨h1, h2, h3⟩ := digit_facts c h
  have e : tokF (c :: r) = (3, (r.takeWhile digitB).length + 1) := by rw [tokF, if_neg (by rw [h3]; simp), if_pos h]
  unfold nextT
  rw [skipTo_stays c r h1 h2, List.drop_zero, e]
  simp

theorem nextT_minus (r : List UInt8) : nextT (45 :: r) 0 = ⟨4, 0, 0, 1⟩ := by
  have h1 : symL (45 :: r) = 1 := by
    cases r with
    | nil => rfl
    | cons b r =>
      have h2 : twoB 45 b = false := by
        unfold twoB
        have a1 : ((45 : UInt8) == 61) = false := by decide
        have a2 : ((45 : UInt8) == 33) = false := by decide
        have a3 : ((45 : UInt8) == 60) = false := by decide
        have a4 : ((45 : UInt8) == 62) = false := by decide
        have a5 : ((45 : UInt8) == 46) = false := by decide
        rw [a1, a2, a3, a4, a5]
        simp
      rw [symL, if_neg (by rw [h2]; simp), if_pos (by decide)]
  have e : tokF (45 :: r) = (4, 1) := by rw [tokF, if_neg (by decide), if_neg (by decide), if_pos (by rw [h1]; decide), h1]
  unfold nextT
  rw [skipTo_stays 45 r (by decide) (by decide), List.drop_zero, e]
  simp

theorem kindN_digits {s : ByteArray} {c : UInt8} {r : List UInt8} (hl : s.data.toList = c :: r) (h : digitB c = true) : kindN s = if (r.takeWhile digitB).length = r.length then 3 else 0 := by
  have hz : s.size = r.length + 1 := by rw [← bytes_len, hl]; rfl
  unfold kindN
  rw [hl, nextT_digit c r h, hz]
  by_cases he : (r.takeWhile digitB).length = r.length
  · rw [if_pos he, if_pos ⟨rfl, by show _ + 1 = _; omega⟩]
  · rw [if_neg he, if_neg (fun hh => he (by have := hh.2; simpa using this))]

theorem kindN_minus {s : ByteArray} {r : List UInt8} (hl : s.data.toList = 45 :: r) (hr : r ≠ []) : kindN s = 0 := by
  have hz : s.size = r.length + 1 := by rw [← bytes_len, hl]; rfl
  have hp : 0 < r.length := List.length_pos_iff.2 hr
  unfold kindN
  rw [hl, nextT_minus r, hz, if_neg (fun hh => by have h2 : 1 = r.length + 1 := hh.2; omega)]

theorem digit_of (d : Nat) (h : d < 10) : digitB (UInt8.ofNat (48 + d)) = true := by
  have : ∀ d : Fin 10, digitB (UInt8.ofNat (48 + d.1)) = true := by decide
  exact this ⟨d, h⟩

theorem decDigits_digits (u : Nat) : ∀ x ∈ Lib.decDigits u, digitB x = true := by
  induction u using Nat.strongRecOn with
  | ind u ih =>
    intro x hx
    rw [Lib.decDigits] at hx
    split at hx
    · next h => rw [List.mem_singleton.1 hx]; exact digit_of u h
    · next h =>
      rcases List.mem_append.1 hx with hx | hx
      · exact ih (u / 10) (by omega) x hx
      · rw [List.mem_singleton.1 hx]; exact digit_of _ (by omega)

theorem decDigits_ne (u : Nat) : Lib.decDigits u ≠ [] := by
  rw [Lib.decDigits]; split <;> simp

theorem digitVal_of (d : Nat) (h : d < 10) : Lib.digitVal (UInt8.ofNat (48 + d)) = some d := by
  have : ∀ d : Fin 10, Lib.digitVal (UInt8.ofNat (48 + d.1)) = some d.1 := by decide
  exact this ⟨d, h⟩

theorem decFrom_append : ∀ (a b : List UInt8) (acc m : Nat), Lib.decFrom acc a = some m → Lib.decFrom acc (a ++ b) = Lib.decFrom m b
  | [], b, acc, m, h => by rw [Lib.decFrom] at h; cases h; rfl
  | x :: a, b, acc, m, h => by
    rw [List.cons_append, Lib.decFrom]
    rw [Lib.decFrom] at h
    cases hd : Lib.digitVal x with
    | none => rw [hd] at h; cases h
    | some d => rw [hd] at h; exact decFrom_append a b _ m h

theorem decFrom_digits (u : Nat) : Lib.decFrom 0 (Lib.decDigits u) = some u := by
  induction u using Nat.strongRecOn with
  | ind u ih =>
    rw [Lib.decDigits]
    split
    · next h => rw [Lib.decFrom, digitVal_of u h]; simp [Lib.decFrom]
    · next h =>
      rw [decFrom_append _ _ _ _ (ih (u / 10) (by omega)), Lib.decFrom, digitVal_of _ (by omega)]
      simp only [Lib.decFrom]
      congr 1
      omega

theorem decFrom_zeros : ∀ (z : Nat), Lib.decFrom 0 (List.replicate z 48) = some 0
  | 0 => rfl
  | z + 1 => by
    rw [List.replicate_succ, Lib.decFrom, show Lib.digitVal 48 = some 0 by decide]
    exact decFrom_zeros z

theorem atoi_padded (z u : Nat) : Lib.atoi (List.replicate z 48 ++ Lib.decDigits u) = some (u : Int) := by
  have h1 : Lib.decFrom 0 (List.replicate z 48 ++ Lib.decDigits u) = some u := by rw [decFrom_append _ _ _ _ (decFrom_zeros z), decFrom_digits]
  have h2 : ∀ x ∈ List.replicate z 48 ++ Lib.decDigits u, digitB x = true := by
    intro x hx
    rcases List.mem_append.1 hx with hx | hx
    · rw [List.eq_of_mem_replicate hx]; decide
    · exact decDigits_digits u x hx
  cases hl : List.replicate z 48 ++ Lib.decDigits u with
  | nil =>
    have := decDigits_ne u
    simp at hl
    exact absurd hl.2 this
  | cons c r =>
    rw [hl] at h1 h2
    have hc := h2 c List.mem_cons_self
    have e1 : (c == 45) = false := by rw [beq_eq_false_iff_ne]; rintro rfl; exact absurd hc (by decide)
    have e2 : (c == 43) = false := by rw [beq_eq_false_iff_ne]; rintro rfl; exact absurd hc (by decide)
    rw [Lib.atoi, e1, e2]
    simp [Lib.decNat, h1]

end Go.Proofs.YtdcpfpifecnfmaaGreatDoor
