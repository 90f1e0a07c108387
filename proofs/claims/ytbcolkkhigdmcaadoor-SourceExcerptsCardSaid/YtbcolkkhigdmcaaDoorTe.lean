import Derived.Test.YtbcolkkhigdmcaaDoorTd
namespace Go.Proofs.YtbcolkkhigdmcaaDoor
open Go.RowKit Go.Shelf Go.Lib

set_option maxHeartbeats 400000 in
theorem refLines_any (s : ByteArray) (w : World) (hs : s.size ≤ 1000) :
    Calls Tryd.prog 17 #[.string s] w fun e w' => e = .returned (.int .i64 ((feedsOf s.data.toList).length + 1)) ∧ w = w' := by
  have hfe : feedsOf s.data.toList = feedsTo s.data.toList s.size := by unfold feedsOf; simp
  have HF : Hid (feedsOf s.data.toList = feedsTo s.data.toList s.size) := hfe
  clear hfe
  go_enter Tryd.func17, Tryd.ntmps17
  go_wp2
  go_loop [3, 4] (fun n i => ∃ k m : Nat, k ≤ s.size ∧ m = (feedsTo s.data.toList k).length ∧ m ≤ k ∧ i = .int .i64 k ∧ n = .int .i64 (m + 1))
    (fun _ i => s.size - (intOf i).toNat)
  case atStart => exact ⟨0, 0, Nat.zero_le _, rfl, Nat.le_refl _, rfl, rfl⟩
  case round =>
    obtain ⟨k, m, hk, hm, hmk, rfl, rfl⟩ := hrel
    by_cases hlt : k < s.size
    · have hsucc := feedsTo_succ s.data.toList k
      rw [getD_bytes s k hlt] at hsucc
      have HM : Hid (m = (feedsTo s.data.toList k).length) := hm; clear hm
      by_cases hb : s[k] = 10
      · have e10 : ((s[k].toNat : Int) == 10) = true := by rw [hb]; rfl
        simp only [hb, beq_self_eq_true, if_true] at hsucc
        have HS : Hid (feedsTo s.data.toList (k + 1) = feedsTo s.data.toList k ++ [k]) := hsucc; clear hsucc
        clear hb
        go_wp2
        go_round
        case rel => exact ⟨k + 1, m + 1, by omega, by rw [HS.out, HM.out]; simp, by omega, by go_num, by go_num⟩
        case measure => simp [intOf]; omega
      · have e10 : ((s[k].toNat : Int) == 10) = false := byte_ne hb
        simp only [beq_eq_false_iff_ne.2 hb, Bool.false_eq_true, if_false, List.append_nil] at hsucc
        have HS : Hid (feedsTo s.data.toList (k + 1) = feedsTo s.data.toList k) := hsucc; clear hsucc
        clear hb
        go_wp2
        go_round
        case rel => exact ⟨k + 1, m, by omega, by rw [HS.out, HM.out], by omega, by go_num, rfl⟩
        case measure => simp [intOf]; omega
    · obtain rfl : k = s.size := by omega
      clear hlt
      have HM : Hid (m = (feedsTo s.data.toList s.size).length) := hm; clear hm
      go_wp2
      go_ret
      exact ⟨by show Ending.returned (.int .i64 ((m : Int) + 1)) = _; rw [HF.out, ← HM.out], rfl⟩

set_option maxHeartbeats 800000 in
theorem refPosition_any (s : ByteArray) (a : Int) (w : World) (hs : s.size ≤ 1000) :
    Calls Tryd.prog 13 #[.string s, .int .i64 a] w fun e w' =>
      e = .returned (.tuple #[.int .i64 (posN (feedsOf s.data.toList) s.size a).1, .int .i64 (posN (feedsOf s.data.toList) s.size a).2]) ∧ w = w' := by
  by_cases h1 : a < 0
  · have e : posN (feedsOf s.data.toList) s.size a = (0, 0) := by unfold posN; rw [if_pos (Or.inl h1)]
    rw [e]
    clear e
    go_enter Tryd.func13, Tryd.ntmps13
    go_wp2
    go_ret2
    exact ⟨rfl, rfl⟩
  · by_cases h2 : (s.size : Int) < a
    · have e : posN (feedsOf s.data.toList) s.size a = (0, 0) := by unfold posN; rw [if_pos (Or.inr h2)]
      rw [e]
      clear e
      go_enter Tryd.func13, Tryd.ntmps13
      go_wp2
      go_ret2
      exact ⟨rfl, rfl⟩
    · obtain ⟨n, rfl⟩ : ∃ n : Nat, a = n := ⟨a.toNat, by omega⟩
      have hn : n ≤ s.size := by omega
      have e : posN (feedsOf s.data.toList) s.size n = (((lineN (feedsOf s.data.toList) n : Nat) : Int), (n : Int) - (startN (feedsOf s.data.toList) s.size (lineN (feedsOf s.data.toList) n) : Nat) + 1) := by unfold posN; rw [if_neg (by omega)]
      rw [e]
      clear e
      have hsz : s.data.toList.length = s.size := by simp
      have hlen : ∀ k : Nat, lineN (feedsOf s.data.toList) k ≤ s.size + 1 := fun k => by
        have := lineN_le (feedsOf s.data.toList) k; have := feedsOf_le s.data.toList; omega
      have hstart : ∀ k : Nat, k ≤ s.size → startN (feedsOf s.data.toList) s.size (lineN (feedsOf s.data.toList) k) ≤ k := fun k hk => startN_le _ _ _ (by omega)
      have hnext : ∀ k : Nat, k < s.size → lineN (feedsOf s.data.toList) ((k + 1 : Nat) : Int) = lineN (feedsOf s.data.toList) (k : Int) + (if s.data.toList.getD k 0 = 10 then 1 else 0) ∧
          startN (feedsOf s.data.toList) s.size (lineN (feedsOf s.data.toList) ((k + 1 : Nat) : Int)) = if s.data.toList.getD k 0 = 10 then k + 1 else startN (feedsOf s.data.toList) s.size (lineN (feedsOf s.data.toList) (k : Int)) :=
        fun k hk => ⟨lineN_succ _ k (by omega), startN_succ _ _ k (by omega)⟩
      have hline0 := lineN_zero (feedsOf s.data.toList)
      have hstart0 := startN_zero (feedsOf s.data.toList) s.size
      generalize hL : (fun k : Nat => lineN (feedsOf s.data.toList) (k : Int)) = L
      generalize hS : (fun k : Nat => startN (feedsOf s.data.toList) s.size (lineN (feedsOf s.data.toList) (k : Int))) = S
      have eL : ∀ k : Nat, lineN (feedsOf s.data.toList) (k : Int) = L k := fun k => by rw [← hL]
      have eS : ∀ k : Nat, startN (feedsOf s.data.toList) s.size (L k) = S k := fun k => by rw [← hS, ← hL]
      simp only [eL, eS] at hlen hstart hnext hline0 hstart0 ⊢
      clear hL hS eL eS hsz
      have HH := And.intro hlen (And.intro hstart hnext)
      have H : Hid ((∀ k, L k ≤ s.size + 1) ∧ (∀ k, k ≤ s.size → S k ≤ k) ∧ (∀ k, k < s.size → L (k + 1) = L k + (if s.data.toList.getD k 0 = 10 then 1 else 0) ∧ S (k + 1) = if s.data.toList.getD k 0 = 10 then k + 1 else S k)) := HH
      have H0 : Hid (L 0 = 1 ∧ S 0 = 0) := ⟨hline0, hstart0⟩
      clear HH hlen hstart hnext hline0 hstart0
      go_enter Tryd.func13, Tryd.ntmps13
      go_wp2
      go_loop [6, 7, 8] (fun line col i => ∃ k u v : Nat, k ≤ n ∧ u ≤ 1001 ∧ v ≤ k + 1 ∧ i = .int .i64 k ∧ line = .int .i64 u ∧ col = .int .i64 v ∧ u = L k ∧ v + S k = k + 1)
        (fun _ _ i => n - (intOf i).toNat)
      case atStart => exact ⟨0, 1, 1, Nat.zero_le _, by omega, by omega, rfl, rfl, rfl, H0.out.1.symm, by rw [H0.out.2]⟩
      case round =>
        obtain ⟨k, u, v, hk, hu, hv, rfl, rfl, rfl, e1, e2⟩ := hrel
        have E : Hid (u = L k ∧ v + S k = k + 1) := ⟨e1, e2⟩
        clear e1 e2
        by_cases hlt : k < n
        · have hks : k < s.size := by omega
          have hx := H.out.2.2 k hks
          have hy := H.out.1 (k + 1)
          rw [getD_bytes s k hks] at hx
          by_cases hb : s[k] = 10
          · have e10 : ((s[k].toNat : Int) == 10) = true := by rw [hb]; rfl
            simp only [hb, if_true] at hx
            have hu' : u + 1 ≤ 1001 := by have := E.out.1; omega
            have HX : Hid (L (k + 1) = L k + 1 ∧ S (k + 1) = k + 1) := hx
            clear hx hb hy
            go_wp2
            go_round
            case rel => exact ⟨k + 1, u + 1, 1, by omega, by omega, by omega, by go_num, by go_num, rfl, by rw [HX.out.1, E.out.1], by rw [HX.out.2]; omega⟩
            case measure => simp [intOf]; omega
          · have e10 : ((s[k].toNat : Int) == 10) = false := byte_ne hb
            simp only [hb, if_false, Nat.add_zero] at hx
            have HX : Hid (L (k + 1) = L k ∧ S (k + 1) = S k) := hx
            clear hx hb hy
            go_wp2
            go_round
            case rel => exact ⟨k + 1, u, v + 1, by omega, by omega, by omega, by go_num, rfl, by go_num, by rw [HX.out.1, E.out.1], by rw [HX.out.2]; have := E.out.2; omega⟩
            case measure => simp [intOf]; omega
        · obtain rfl : k = n := by omega
          clear hlt
          go_wp2
          go_ret2
          have h1 := E.out.1
          have h2 := E.out.2
          exact ⟨by show Ending.returned (.tuple #[.int .i64 (u : Nat), .int .i64 (v : Nat)]) = _; rw [← h1, show (k : Int) - (S k : Nat) + 1 = (v : Nat) by omega], rfl⟩

end Go.Proofs.YtbcolkkhigdmcaaDoor
