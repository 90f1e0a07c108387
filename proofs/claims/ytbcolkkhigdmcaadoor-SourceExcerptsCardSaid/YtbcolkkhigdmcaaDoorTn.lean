import Derived.Test.YtbcolkkhigdmcaaDoorTm
namespace Go.Proofs.YtbcolkkhigdmcaaDoor
open Go.RowKit Go.Shelf Go.Lib

def posU (l : List UInt8) (k : Nat) : Nat := lineN (feedsOf l) (k : Int)
def posV (l : List UInt8) (k : Nat) : Nat := k - startN (feedsOf l) l.length (lineN (feedsOf l) (k : Int)) + 1

theorem pos_nat (l : List UInt8) (k : Nat) (h : k ≤ l.length) : posN (feedsOf l) l.length k = (((posU l k : Nat) : Int), ((posV l k : Nat) : Int)) := by
  have := startN_le l l.length k h
  unfold posN posU posV
  rw [if_neg (by omega)]
  congr 1; omega

theorem posU_bd (l : List UInt8) (k : Nat) : 1 ≤ posU l k ∧ posU l k ≤ (feedsOf l).length + 1 := ⟨lineN_ge _ _, lineN_le _ _⟩
theorem posV_bd (l : List UInt8) (k : Nat) : 1 ≤ posV l k ∧ posV l k ≤ k + 1 := by unfold posV; omega

theorem off_nat (l : List UInt8) (k : Nat) (h : k ≤ l.length) : offN (feedsOf l) l.length (posU l k : Nat) (posV l k : Nat) = ((k : Int), true) := by
  have := off_pos l k h
  rwa [pos_nat l k h] at this

theorem pos_next (l : List UInt8) (k : Nat) (h : k < l.length) : (l.getD k 0 = 10 → posU l (k + 1) = posU l k + 1 ∧ posV l (k + 1) = 1) ∧ (l.getD k 0 ≠ 10 → posU l (k + 1) = posU l k ∧ posV l (k + 1) = posV l k + 1) := by
  have h1 := lineN_succ l k h
  have h2 := startN_succ l l.length k h
  have h3 := startN_le l l.length k (by omega)
  unfold posU posV
  refine ⟨fun e => ?_, fun e => ?_⟩
  · rw [if_pos e] at h1 h2
    rw [h2, h1]; omega
  · rw [if_neg e] at h1 h2
    rw [h2, h1]; omega

theorem posU_end (l : List UInt8) : posU l l.length = (feedsOf l).length + 1 := by
  unfold posU
  rw [lineN_feeds l _ (Nat.le_refl _)]; unfold feedsOf; omega

set_option maxHeartbeats 1600000 in
theorem contents_walk (s : ByteArray) (line : Int) (hs : s.size ≤ 9223372036854775807) {w : World} (ht : Tab w) :
    Calls Tryd.prog 4 #[.string s, .int .i64 line] w fun e w' => e = .returned (.bool true) ∧ Below w.heap.size w w' := by
  have haw := awake_any ht
  by_cases hl : (200 : Int) < (s.size : Int)
  · go_enter Tryd.func4, Tryd.ntmps4
    go_wp2_with (go_at_call 10; refine haw.mono ?_; rintro e w1 ⟨rfl, hB1⟩)
    go_ret
    exact ⟨rfl, hB1⟩
  · have hsm : s.size ≤ 1000 := by omega
    have hnew := fun w' => new_any s w' hsm
    have hc2 := fun w' => refContent_any s line w' hsm
    clear hs
    go_enter Tryd.func4, Tryd.ntmps4
    go_wp2_with (first
      | (go_at_call 10; refine haw.mono ?_; rintro e w1 ⟨rfl, hB1⟩)
      | (go_at_call 11; refine (hnew _).mono ?_; rintro e w2 ⟨b, rfl, hI, hB2⟩; have hc1 := content_any hI line; generalize contentL s.data.toList (feedsOf s.data.toList) line = c at *)
      | (go_at_call 18; refine hc1.mono ?_; rintro e w3 ⟨rfl, q, rfl⟩)
      | (go_at_call 19; refine (hc2 _).mono ?_; rintro e w4 ⟨rfl, rfl⟩))
    go_ret
    exact ⟨rfl, bt (bt hB1 hB2) (bq _ q)⟩

set_option maxHeartbeats 3200000 in
theorem inverse_walk (s : ByteArray) (line col : Int) (hs : s.size ≤ 9223372036854775807) (hc1 : -9223372036854775808 ≤ col) (hc2 : col ≤ 9223372036854775807) {w : World} (ht : Tab w) :
    Calls Tryd.prog 6 #[.string s, .int .i64 line, .int .i64 col] w fun e w' => e = .returned (.bool true) ∧ Below w.heap.size w w' := by
  have haw := awake_any ht
  by_cases hl : (200 : Int) < (s.size : Int)
  · go_enter Tryd.func6, Tryd.ntmps6
    go_wp2_with (go_at_call 10; refine haw.mono ?_; rintro e w1 ⟨rfl, hB1⟩)
    go_ret
    exact ⟨rfl, hB1⟩
  · have hsm : s.size ≤ 1000 := by omega
    have hnew := fun w' => new_any s w' hsm
    clear hs
    have hlast : offN (feedsOf s.data.toList) s.size line col = (0, false) ∨ ∃ k : Nat, k ≤ s.size ∧ offN (feedsOf s.data.toList) s.size line col = ((k : Int), true) ∧ posN (feedsOf s.data.toList) s.size k = (line, col) := by
      cases hb : (offN (feedsOf s.data.toList) s.size line col).2 with
      | false =>
        left
        unfold offN at hb ⊢
        split at hb
        · cases hb
        · rename_i hc; rw [if_neg hc]
      | true =>
        right
        have := pos_off s.data.toList line col (by rw [bytes_len]; exact hb)
        rw [bytes_len] at this
        obtain ⟨k, hk, e1, e2⟩ := this
        exact ⟨k, hk, Prod.ext e1 hb, e2⟩
    have hpn := fun k (hk : k ≤ s.size) => pos_nat s.data.toList k (by rw [bytes_len]; exact hk)
    have hon := fun k (hk : k ≤ s.size) => off_nat s.data.toList k (by rw [bytes_len]; exact hk)
    rw [bytes_len] at hpn hon
    have hub := posU_bd s.data.toList
    have hvb := posV_bd s.data.toList
    have HL : Hid (offN (feedsOf s.data.toList) s.size line col = (0, false) ∨ ∃ k : Nat, k ≤ s.size ∧ offN (feedsOf s.data.toList) s.size line col = ((k : Int), true) ∧ posN (feedsOf s.data.toList) s.size k = (line, col)) := hlast
    have HP : Hid ((∀ k, k ≤ s.size → posN (feedsOf s.data.toList) s.size k = (((posU s.data.toList k : Nat) : Int), ((posV s.data.toList k : Nat) : Int))) ∧ (∀ k, k ≤ s.size → offN (feedsOf s.data.toList) s.size (posU s.data.toList k : Nat) (posV s.data.toList k : Nat) = ((k : Int), true)) ∧ (∀ k, 1 ≤ posU s.data.toList k ∧ posU s.data.toList k ≤ (feedsOf s.data.toList).length + 1) ∧ ∀ k, 1 ≤ posV s.data.toList k ∧ posV s.data.toList k ≤ k + 1) := ⟨hpn, hon, hub, hvb⟩
    have hfl := feedsOf_le s.data.toList
    rw [bytes_len] at hfl
    clear hlast hpn hon hub hvb
    go_enter Tryd.func6, Tryd.ntmps6
    go_wp2_with (first
      | (go_at_call 10; refine haw.mono ?_; rintro e w1 ⟨rfl, hB1⟩)
      | (go_at_call 11; refine (hnew _).mono ?_; rintro e w2 ⟨b, rfl, hI0, hB2⟩))
    have hB := bt hB1 hB2
    have HI : Hid (Idx w2 b s (feedsOf s.data.toList)) := hI0
    clear hI0 hB1 hB2 haw hnew
    go_loopw [27] (fun i wr => ∃ k : Nat, k ≤ s.size + 1 ∧ i = .int .i64 k ∧ Below w2.heap.size w2 wr) (fun i _ => s.size + 1 - (intOf i).toNat)
    case atStart => exact ⟨0, Nat.zero_le _, rfl, Below.refl _ _⟩
    case round =>
      obtain ⟨k, hk, rfl, hnx⟩ := hrel
      by_cases hlt : k < s.size + 1
      · have hIr := HI.out.below hnx
        have hp := position_any hIr (k : Int)
        have hle : k ≤ s.size := by omega
        rw [HP.out.1 k hle] at hp
        have hub := HP.out.2.2.1 k
        have hvb := HP.out.2.2.2 k
        have ho := fun w' hb => offset_any (hIr.below (w' := w') hb) (posU s.data.toList k : Nat) (posV s.data.toList k : Nat) (by omega) (by omega)
        rw [HP.out.2.1 k hle] at ho
        have hli := fun w' hb => lines_any (hIr.below (w' := w') hb)
        generalize posU s.data.toList k = u at *
        generalize posV s.data.toList k = v at *
        obtain ⟨hu1, hu2⟩ := hub
        obtain ⟨hv1, hv2⟩ := hvb
        generalize (feedsOf s.data.toList).length = n at *
        go_wp2_with (first
          | (go_at_call 12; refine hp.mono ?_; rintro e w3 ⟨rfl, hB3⟩)
          | (go_at_call 14; refine (ho _ hB3).mono ?_; rintro e w4 ⟨rfl, rfl⟩)
          | (go_at_call 16; refine (hli _ hB3).mono ?_; rintro e w4 ⟨rfl, rfl⟩))
        go_roundw
        case rel => exact ⟨k + 1, by omega, by go_num, bt hnx hB3⟩
        case measure => simp [intOf]; omega
      · obtain rfl : k = s.size + 1 := by omega
        clear hlt
        have hIr := HI.out.below hnx
        have ho := offset_any hIr line col hc1 hc2
        have hp := fun k : Nat => position_any hIr (k : Int)
        rcases HL.out with e | ⟨j, hj, e, e2⟩
        · rw [e] at ho
          clear e hp
          go_wp2_with (go_at_call 14; refine ho.mono ?_; rintro e w4 ⟨rfl, rfl⟩)
          go_ret
          exact ⟨rfl, hB.trans (hnx.mono hB.size)⟩
        · rw [e] at ho
          have hpj := hp j
          rw [e2] at hpj
          clear e e2 hp
          go_wp2_with (first
            | (go_at_call 14; refine ho.mono ?_; rintro e w4 ⟨rfl, rfl⟩)
            | (go_at_call 12; refine hpj.mono ?_; rintro e w3 ⟨rfl, hB3⟩))
          go_ret
          exact ⟨rfl, hB.trans ((bt hnx hB3).mono hB.size)⟩

end Go.Proofs.YtbcolkkhigdmcaaDoor
