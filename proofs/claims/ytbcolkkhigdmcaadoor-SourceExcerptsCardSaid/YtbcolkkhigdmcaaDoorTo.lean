import Derived.Test.YtbcolkkhigdmcaaDoorTn
namespace Go.Proofs.YtbcolkkhigdmcaaDoor
open Go.RowKit Go.Shelf Go.Lib

set_option maxHeartbeats 800000 in
theorem order_walk (s : ByteArray) (hs : s.size ≤ 9223372036854775807) {w : World} (ht : Tab w) :
    Calls Tryd.prog 7 #[.string s] w fun e w' => e = .returned (.bool true) ∧ Below w.heap.size w w' := by
  have haw := awake_any ht
  by_cases hl : (200 : Int) < (s.size : Int)
  · go_enter Tryd.func7, Tryd.ntmps7
    go_wp2_with (go_at_call 10; refine haw.mono ?_; rintro e w1 ⟨rfl, hB1⟩)
    go_ret
    exact ⟨rfl, hB1⟩
  · have hsm : s.size ≤ 1000 := by omega
    have hnew := fun w' => new_any s w' hsm
    clear hs
    have hpn := fun k (hk : k ≤ s.size) => pos_nat s.data.toList k (by rw [bytes_len]; exact hk)
    have hnx := fun k (hk : k < s.size) => pos_next s.data.toList k (by rw [bytes_len]; exact hk)
    rw [bytes_len] at hpn
    have hub := posU_bd s.data.toList
    have hvb := posV_bd s.data.toList
    have hend := posU_end s.data.toList
    rw [bytes_len] at hend
    have h0 : posU s.data.toList 0 = 1 ∧ posV s.data.toList 0 = 1 := ⟨by unfold posU; exact lineN_zero _, by unfold posV; omega⟩
    have HP : Hid ((∀ k, k ≤ s.size → posN (feedsOf s.data.toList) s.size k = (((posU s.data.toList k : Nat) : Int), ((posV s.data.toList k : Nat) : Int))) ∧
        (∀ k, k < s.size → (s.data.toList.getD k 0 = 10 → posU s.data.toList (k + 1) = posU s.data.toList k + 1 ∧ posV s.data.toList (k + 1) = 1) ∧ (s.data.toList.getD k 0 ≠ 10 → posU s.data.toList (k + 1) = posU s.data.toList k ∧ posV s.data.toList (k + 1) = posV s.data.toList k + 1)) ∧
        (∀ k, 1 ≤ posU s.data.toList k ∧ posU s.data.toList k ≤ (feedsOf s.data.toList).length + 1) ∧ (∀ k, 1 ≤ posV s.data.toList k ∧ posV s.data.toList k ≤ k + 1) ∧ posU s.data.toList s.size = (feedsOf s.data.toList).length + 1 ∧ posU s.data.toList 0 = 1 ∧ posV s.data.toList 0 = 1) := ⟨hpn, hnx, hub, hvb, hend, h0⟩
    have hfl := feedsOf_le s.data.toList
    rw [bytes_len] at hfl
    have hp0 : posN (feedsOf s.data.toList) s.size 0 = (1, 1) := by
      have := hpn 0 (Nat.zero_le _)
      rw [h0.1, h0.2] at this; exact this
    clear hpn hnx hub hvb hend h0
    go_enter Tryd.func7, Tryd.ntmps7
    go_wp2_with (first
      | (go_at_call 10; refine haw.mono ?_; rintro e w1 ⟨rfl, hB1⟩)
      | (go_at_call 11; refine (hnew _).mono ?_; rintro e w2 ⟨b, rfl, hI0, hB2⟩; have hp := position_any hI0 0; rw [hp0] at hp)
      | (go_at_call 12; refine hp.mono ?_; rintro e w3 ⟨rfl, hB3⟩))
    have hB := bt (bt hB1 hB2) hB3
    have HI : Hid (Idx w3 b s (feedsOf s.data.toList)) := hI0.below hB3
    clear hI0 hB1 hB2 hB3 haw hnew hp hp0
    go_loopw [4, 5, 33] (fun line col i wr => ∃ k u v : Nat, k ≤ s.size ∧ i = .int .i64 k ∧ line = .int .i64 u ∧ col = .int .i64 v ∧ u ≤ 1001 ∧ v ≤ 1001 ∧ Hid (u = posU s.data.toList k ∧ v = posV s.data.toList k) ∧ Below w3.heap.size w3 wr) (fun _ _ i _ => s.size - (intOf i).toNat)
    case atStart => exact ⟨0, 1, 1, Nat.zero_le _, rfl, rfl, rfl, by omega, by omega, ⟨HP.out.2.2.2.2.2.1.symm, HP.out.2.2.2.2.2.2.symm⟩, Below.refl _ _⟩
    case round =>
      obtain ⟨k, u, v, hk, rfl, rfl, rfl, hu, hv, hh, hnx⟩ := hrel
      by_cases hlt : k < s.size
      · have hIr := HI.out.below hnx
        have hp := position_any hIr ((k + 1 : Nat) : Int)
        rw [HP.out.1 (k + 1) (by omega)] at hp
        have hub := HP.out.2.2.1 (k + 1)
        have hvb := HP.out.2.2.2.1 (k + 1)
        have hnext := HP.out.2.1 k hlt
        rw [← hh.out.1, ← hh.out.2, getD_bytes s k hlt] at hnext
        generalize hu' : posU s.data.toList (k + 1) = u' at *
        generalize hv' : posV s.data.toList (k + 1) = v' at *
        have HH : Hid (u' = posU s.data.toList (k + 1) ∧ v' = posV s.data.toList (k + 1)) := ⟨hu'.symm, hv'.symm⟩
        have hub2 := hub.2
        have hvb2 := hvb.2
        clear hu' hv' hub hvb hh
        by_cases hb : s[k] = 10
        · have e10 : ((s[k].toNat : Int) == 10) = true := (byte_eqs hb).1
          have e11 : ((s[k].toNat : Int) != 10) = false := (byte_eqs hb).2
          obtain ⟨rfl, rfl⟩ := hnext.1 hb
          clear hnext hb
          go_wp2_with (go_at_call 12; refine hp.mono ?_; rintro e w4 ⟨rfl, hB4⟩)
          go_roundw
          case rel => exact ⟨k + 1, u + 1, 1, by omega, by go_num, by go_num, rfl, by omega, by omega, HH, bt hnx hB4⟩
          case measure => simp [intOf]; omega
        · have e10 : ((s[k].toNat : Int) == 10) = false := (byte_nes hb).1
          have e11 : ((s[k].toNat : Int) != 10) = true := (byte_nes hb).2
          obtain ⟨rfl, rfl⟩ := hnext.2 hb
          clear hnext hb
          go_wp2_with (go_at_call 12; refine hp.mono ?_; rintro e w4 ⟨rfl, hB4⟩)
          go_roundw
          case rel => exact ⟨k + 1, _, v + 1, by omega, by go_num, rfl, by go_num, by omega, by omega, HH, bt hnx hB4⟩
          case measure => simp [intOf]; omega
      · obtain rfl : k = s.size := by omega
        clear hlt
        have hIr := HI.out.below hnx
        have hp1 := position_any hIr ((s.size : Int) + 1)
        rw [show posN (feedsOf s.data.toList) s.size ((s.size : Int) + 1) = (0, 0) by unfold posN; rw [if_pos (by omega)]] at hp1
        have hp2 := fun w' hb => position_any (hIr.below (w' := w') hb) (-1)
        rw [show posN (feedsOf s.data.toList) s.size (-1) = (0, 0) by unfold posN; rw [if_pos (by omega)]] at hp2
        have hli := fun w' hb => lines_any (hIr.below (w' := w') hb)
        have hue : u = (feedsOf s.data.toList).length + 1 := hh.out.1.trans HP.out.2.2.2.2.1
        generalize (feedsOf s.data.toList).length = n at *
        subst hue
        clear hh
        go_wp2_with (first
          | (go_at_call 12; (with_reducible refine (hp2 _ hB4).mono ?_); rintro e w5 ⟨rfl, hB5⟩; have hB6 := bt hB4 hB5)
          | (go_at_call 12; (with_reducible refine hp1.mono ?_); rintro e w4 ⟨rfl, hB4⟩)
          | (go_at_call 16; refine (hli _ hB6).mono ?_; rintro e w6 ⟨rfl, rfl⟩))
        go_ret
        exact ⟨rfl, hB.trans ((bt hnx hB6).mono hB.size)⟩

end Go.Proofs.YtbcolkkhigdmcaaDoor
