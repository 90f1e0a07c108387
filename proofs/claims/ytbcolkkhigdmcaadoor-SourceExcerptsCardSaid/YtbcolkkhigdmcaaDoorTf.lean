import Derived.Test.YtbcolkkhigdmcaaDoorTe
namespace Go.Proofs.YtbcolkkhigdmcaaDoor
open Go.RowKit Go.Shelf Go.Lib

set_option maxHeartbeats 800000 in
theorem refOffset_any (s : ByteArray) (line col : Int) (w : World) (hs : s.size ≤ 1000) :
    Calls Tryd.prog 15 #[.string s, .int .i64 line, .int .i64 col] w fun e w' =>
      e = .returned (.tuple #[.int .i64 (offN (feedsOf s.data.toList) s.size line col).1, .bool (offN (feedsOf s.data.toList) s.size line col).2]) ∧ w = w' := by
  have hsz : s.data.toList.length = s.size := by simp
  have hfound : ∀ k : Nat, k ≤ s.size → posN (feedsOf s.data.toList) s.size k = (line, col) → offN (feedsOf s.data.toList) s.size line col = ((k : Int), true) := by
    intro k hk e
    have := off_pos s.data.toList k (by omega)
    rw [hsz, e] at this
    exact this
  have hnone : (∀ k : Nat, k < s.size + 1 → posN (feedsOf s.data.toList) s.size k ≠ (line, col)) → offN (feedsOf s.data.toList) s.size line col = (0, false) := by
    intro hall
    cases hb : (offN (feedsOf s.data.toList) s.size line col).2 with
    | false =>
      unfold offN at hb ⊢
      split at hb
      · cases hb
      · rename_i hc; rw [if_neg hc]
    | true =>
      have := pos_off s.data.toList line col (by rw [hsz]; exact hb)
      rw [hsz] at this
      obtain ⟨k, hk, _, e⟩ := this
      exact absurd e (hall k (by omega))
  have hpos := fun k : Nat => refPosition_any s (k : Int) w hs
  generalize hP : (fun k : Nat => posN (feedsOf s.data.toList) s.size (k : Int)) = P
  have eP : ∀ k : Nat, posN (feedsOf s.data.toList) s.size (k : Int) = P k := fun k => by rw [← hP]
  simp only [eP] at hfound hnone hpos
  generalize offN (feedsOf s.data.toList) s.size line col = r at *
  clear hP eP hsz
  have HF : Hid (∀ k : Nat, k ≤ s.size → P k = (line, col) → r = ((k : Int), true)) := hfound
  have HN : Hid ((∀ k : Nat, k < s.size + 1 → P k ≠ (line, col)) → r = (0, false)) := hnone
  have HP : Hid (∀ k : Nat, Calls Tryd.prog 13 #[.string s, .int .i64 k] w fun e w' => e = .returned (.tuple #[.int .i64 (P k).1, .int .i64 (P k).2]) ∧ w = w') := hpos
  clear hfound hnone hpos
  go_enter Tryd.func15, Tryd.ntmps15
  go_wp2
  go_loop [8] (fun i => ∃ k : Nat, k ≤ s.size + 1 ∧ i = .int .i64 k ∧ Hid (∀ j : Nat, j < k → P j ≠ (line, col)))
    (fun i => s.size + 1 - (intOf i).toNat)
  case atStart => exact ⟨0, Nat.zero_le _, rfl, fun j hj => by omega⟩
  case round =>
    obtain ⟨k, hk, rfl, hall⟩ := hrel
    by_cases hlt : k < s.size + 1
    · have hp := HP.out k
      have hle : (k : Int) ≤ (s.size : Int) := by omega
      by_cases e : P k = (line, col)
      · have hr : r = ((k : Int), true) := HF.out k (by omega) e
        rw [e] at hp
        have HR : Hid (r = ((k : Int), true)) := hr
        clear e hr
        go_wp2_with (go_at_call 13; refine hp.mono ?_; rintro e w' ⟨rfl, rfl⟩)
        go_ret2
        exact ⟨by rw [HR.out]; rfl, rfl⟩
      · have hne : ¬ ((P k).1 = line ∧ (P k).2 = col) := fun h => e (Prod.ext h.1 h.2)
        generalize hu : (P k).1 = u at *
        generalize hv : (P k).2 = v at *
        have HA : Hid (∀ j : Nat, j < k + 1 → P j ≠ (line, col)) := fun j hj => by
          rcases Nat.lt_or_eq_of_le (Nat.le_of_lt_succ hj) with h | rfl
          · exact hall.out j h
          · exact e
        clear e hall hu hv
        by_cases h1 : u = line
        · have h2 : (v == col) = false := beq_eq_false_iff_ne.2 fun h => hne ⟨h1, h⟩
          subst h1
          clear hne
          go_wp2_with (go_at_call 13; refine hp.mono ?_; rintro e w' ⟨rfl, rfl⟩)
          go_round
          case rel => exact ⟨k + 1, by omega, by go_num, HA⟩
          case measure => simp [intOf]; omega
        · have h2 : (u == line) = false := beq_eq_false_iff_ne.2 h1
          clear hne h1
          go_wp2_with (go_at_call 13; refine hp.mono ?_; rintro e w' ⟨rfl, rfl⟩)
          go_round
          case rel => exact ⟨k + 1, by omega, by go_num, HA⟩
          case measure => simp [intOf]; omega
    · obtain rfl : k = s.size + 1 := by omega
      have HR : Hid (r = (0, false)) := HN.out hall.out
      clear hlt hall
      go_wp2
      go_ret2
      exact ⟨by rw [HR.out]; rfl, rfl⟩

end Go.Proofs.YtbcolkkhigdmcaaDoor
