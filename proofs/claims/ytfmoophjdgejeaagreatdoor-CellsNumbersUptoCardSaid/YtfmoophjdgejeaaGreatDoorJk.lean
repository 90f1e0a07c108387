import Derived.Test.YtfmoophjdgejeaaGreatDoorJd
import Derived.Test.YtfmoophjdgejeaaGreatDoorJh
import Derived.IntWalk
/-
  The reference: classes of bytes, what is skipped.
-/
namespace Go.Proofs.YtfmoophjdgejeaaGreatDoor
open Go.RowKit Go.Shelf Go.Lib

set_option maxHeartbeats 400000 in
theorem refWhite_any (c : UInt8) (w : World) : Calls Tryz.prog 100 #[.int .u8 c.toNat] w fun e w' => e = .returned (.bool (whiteB c)) ∧ w = w' := by
  have e1 : ((c.toNat : Int) == 9) = (c == 9) := byte_eqI c 9
  have e2 : ((c.toNat : Int) == 10) = (c == 10) := byte_eqI c 10
  have e3 : ((c.toNat : Int) == 13) = (c == 13) := byte_eqI c 13
  have e4 : ((c.toNat : Int) == 32) = (c == 32) := byte_eqI c 32
  unfold whiteB
  generalize (c == 9) = b1 at *
  generalize (c == 10) = b2 at *
  generalize (c == 13) = b3 at *
  generalize (c == 32) = b4 at *
  cases b1 <;> cases b2 <;> cases b3 <;> cases b4 <;> (go_enter Tryz.func100, Tryz.ntmps100; go_wp2; go_ret; exact ⟨rfl, rfl⟩)

set_option maxHeartbeats 400000 in
theorem refLetter_any (c : UInt8) (w : World) : Calls Tryz.prog 101 #[.int .u8 c.toNat] w fun e w' => e = .returned (.bool (letterB c)) ∧ w = w' := by
  unfold letterB
  by_cases h1 : 97 ≤ c.toNat
  · by_cases h2 : c.toNat ≤ 122
    · rw [decide_eq_true h1, decide_eq_true h2]
      have g1 : (97 : Int) ≤ (c.toNat : Int) := by omega
      have g2 : (c.toNat : Int) ≤ 122 := by omega
      clear h1 h2
      go_enter Tryz.func101, Tryz.ntmps101
      go_wp2
      go_ret
      exact ⟨rfl, rfl⟩
    · rw [decide_eq_true h1, decide_eq_false h2]
      have g1 : (97 : Int) ≤ (c.toNat : Int) := by omega
      have g2 : (122 : Int) < (c.toNat : Int) := by omega
      clear h1 h2
      go_enter Tryz.func101, Tryz.ntmps101
      go_wp2
      go_ret
      exact ⟨by show Ending.returned (.bool (decide ((c.toNat : Int) ≤ 122))) = _; rw [decide_eq_false (by omega)]; rfl, rfl⟩
  · rw [decide_eq_false h1]
    have g1 : (c.toNat : Int) < 97 := by omega
    clear h1
    go_enter Tryz.func101, Tryz.ntmps101
    go_wp2
    go_ret
    exact ⟨rfl, rfl⟩

set_option maxHeartbeats 400000 in
theorem refDigit_any (c : UInt8) (w : World) : Calls Tryz.prog 102 #[.int .u8 c.toNat] w fun e w' => e = .returned (.bool (digitB c)) ∧ w = w' := by
  unfold digitB
  by_cases h1 : 48 ≤ c.toNat
  · by_cases h2 : c.toNat ≤ 57
    · rw [decide_eq_true h1, decide_eq_true h2]
      have g1 : (48 : Int) ≤ (c.toNat : Int) := by omega
      have g2 : (c.toNat : Int) ≤ 57 := by omega
      clear h1 h2
      go_enter Tryz.func102, Tryz.ntmps102
      go_wp2
      go_ret
      exact ⟨rfl, rfl⟩
    · rw [decide_eq_true h1, decide_eq_false h2]
      have g1 : (48 : Int) ≤ (c.toNat : Int) := by omega
      have g2 : (57 : Int) < (c.toNat : Int) := by omega
      clear h1 h2
      go_enter Tryz.func102, Tryz.ntmps102
      go_wp2
      go_ret
      exact ⟨by show Ending.returned (.bool (decide ((c.toNat : Int) ≤ 57))) = _; rw [decide_eq_false (by omega)]; rfl, rfl⟩
  · rw [decide_eq_false h1]
    have g1 : (c.toNat : Int) < 48 := by omega
    clear h1
    go_enter Tryz.func102, Tryz.ntmps102
    go_wp2
    go_ret
    exact ⟨rfl, rfl⟩

theorem skipTo_comment (l : List UInt8) (k d : Nat) (h1 : k < l.length) (hc : l.getD k 0 = 35) (hd : k < d) (hl : d ≤ l.length) (hno : ∀ i, k < i → i < d → l.getD i 0 ≠ 10) (he : d = l.length ∨ l.getD d 0 = 10) :
    skipTo l k = skipTo l d := by
  have h := skip_comment (l.drop (k + 1)) (d - (k + 1)) (by rw [List.length_drop]; omega)
    (fun i hi => by rw [List.getD_eq_getElem?_getD, List.getElem?_drop, ← List.getD_eq_getElem?_getD]; exact hno _ (by omega) (by omega))
    (by
      rcases he with h | h
      · left; rw [List.length_drop]; omega
      · right; rw [List.getD_eq_getElem?_getD, List.getElem?_drop, ← List.getD_eq_getElem?_getD, show k + 1 + (d - (k + 1)) = d by omega]; exact h)
  rw [List.drop_drop, show k + 1 + (d - (k + 1)) = d by omega] at h
  unfold skipTo
  rw [drop_get l k h1, hc]
  have e : skipF false ((35 : UInt8) :: l.drop (k + 1)) = skipF true (l.drop (k + 1)) + 1 := by rw [skipF]; simp [whiteB]
  rw [e, h]
  omega

set_option maxHeartbeats 1600000 in
theorem refSkip_any (s : ByteArray) (hs : s.size ≤ 4096) (k : Nat) (hk : k ≤ s.size) (w : World) :
    Calls Tryz.prog 90 #[.string s, .int .i64 k] w fun e w' => e = .returned (.int .i64 (skipTo s.data.toList k : Nat)) ∧ w = w' := by
  have HL : Hid (s.data.toList.length = s.size) := bytes_len s
  go_enter Tryz.func90, Tryz.ntmps90
  go_wp2
  go_loop [1] (fun i => ∃ j : Nat, j ≤ s.size ∧ i = .int .i64 j ∧ Hid (skipTo s.data.toList k = skipTo s.data.toList j)) (fun i => s.size - (intOf i).toNat)
  case atStart => exact ⟨k, hk, rfl, rfl⟩
  case round =>
    obtain ⟨j, hj, rfl, hr⟩ := hrel
    by_cases hlt : j < s.size
    · have hwh := fun w' => refWhite_any s[j] w'
      have hg := getD_bytes s j hlt
      cases hw : whiteB s[j] with
      | true =>
        rw [hw] at hwh
        have HS : Hid (skipTo s.data.toList j = skipTo s.data.toList (j + 1)) := skipTo_white _ _ (by rw [HL.out]; exact hlt) (by rw [hg]; exact hw)
        have b1 : ((s[j].toNat : Int) == 35) = false := by
          refine byte_ne (c := 35) fun e => ?_
          rw [e] at hw
          exact absurd hw (by decide)
        clear hg hw
        go_wp2_with (go_at_call 100; (with_reducible refine (hwh _).mono ?_); rintro e w1 ⟨rfl, rfl⟩)
        go_round
        case rel => exact ⟨j + 1, by omega, by go_num, hr.out.trans HS.out⟩
        case measure => simp [intOf]; omega
      | false =>
        rw [hw] at hwh
        by_cases hc : s[j] = 35
        · have b1 : ((s[j].toNat : Int) == 35) = true := by rw [hc]; rfl
          have hg35 : s.data.toList.getD j 0 = 35 := by rw [hg, hc]
          have HG := hidden hg35
          clear hg hw hc hg35
          go_wp2_with (go_at_call 100; (with_reducible refine (hwh _).mono ?_); rintro e w1 ⟨rfl, rfl⟩)
          go_loop [1] (fun i => ∃ d : Nat, j ≤ d ∧ d ≤ s.size ∧ i = .int .i64 d ∧ Hid (∀ i, j < i → i < d → s.data.toList.getD i 0 ≠ 10)) (fun i => s.size - (intOf i).toNat)
          case atStart => exact ⟨j, Nat.le_refl _, by omega, rfl, fun i h1 h2 => by omega⟩
          case round =>
            obtain ⟨d, hd1, hd2, rfl, hno⟩ := hrel
            by_cases hdl : d < s.size
            · have hgd := getD_bytes s d hdl
              by_cases h10 : s[d] = 10
              · have b2 : ((s[d].toNat : Int) != 10) = false := by rw [h10]; rfl
                have hjd : j < d := by
                  rcases Nat.lt_or_eq_of_le hd1 with h | h
                  · exact h
                  · subst h
                    have h := HG.out
                    rw [hgd, h10] at h
                    exact absurd h (by decide)
                have HS : Hid (skipTo s.data.toList j = skipTo s.data.toList d) := skipTo_comment _ j d (by rw [HL.out]; exact hlt) HG.out hjd (by rw [HL.out]; exact hd2) hno.out (.inr (by rw [hgd, h10]))
                clear hgd h10
                go_wp2
                go_round
                case rel => exact ⟨d, by omega, rfl, hr.out.trans HS.out⟩
                case measure => simp [intOf]; omega
              · have b2 : ((s[d].toNat : Int) != 10) = true := by
                  show (!((s[d].toNat : Int) == 10)) = true
                  rw [show ((s[d].toNat : Int) == 10) = false from byte_ne (c := 10) h10]; rfl
                have HN : Hid (∀ i, j < i → i < d + 1 → s.data.toList.getD i 0 ≠ 10) := fun i h1 h2 => by
                  rcases Nat.lt_or_eq_of_le (Nat.le_of_lt_succ h2) with h | h
                  · exact hno.out i h1 h
                  · rw [h, hgd]; exact h10
                clear hgd h10
                go_wp2
                go_round
                case rel => exact ⟨d + 1, by omega, by omega, by go_num, HN⟩
                case measure => simp [intOf]; omega
            · obtain rfl : d = s.size := by omega
              have HS : Hid (skipTo s.data.toList j = skipTo s.data.toList s.size) := skipTo_comment _ j s.size (by rw [HL.out]; exact hlt) HG.out hlt (by rw [HL.out]; exact hd2) hno.out (.inl HL.out.symm)
              clear hdl
              go_wp2
              go_round
              case rel => exact ⟨s.size, Nat.le_refl _, rfl, hr.out.trans HS.out⟩
              case measure => simp [intOf]; omega
        · have b1 : ((s[j].toNat : Int) == 35) = false := byte_ne (c := 35) hc
          have HS : Hid (skipTo s.data.toList j = j) := skipTo_stop _ _ (by rw [HL.out]; exact hlt) (by rw [hg]; exact hw) (by rw [hg]; exact hc)
          clear hg hw hc
          go_wp2_with (go_at_call 100; (with_reducible refine (hwh _).mono ?_); rintro e w1 ⟨rfl, rfl⟩)
          go_ret
          exact ⟨by rw [hr.out, HS.out]; rfl, rfl⟩
    · obtain rfl : j = s.size := by omega
      have HS : Hid (skipTo s.data.toList s.size = s.size) := by show _ = _; have := skipTo_end s.data.toList; rwa [HL.out] at this
      clear hlt
      go_wp2
      go_ret
      exact ⟨by rw [hr.out, HS.out]; rfl, rfl⟩

end Go.Proofs.YtfmoophjdgejeaaGreatDoor
/-
  The reference: lists of words, symbols.
-/
namespace Go.Proofs.YtfmoophjdgejeaaGreatDoor
open Go.RowKit Go.Shelf Go.Lib

/-- The symbols, those with two bytes first. -/
def syms : List ByteArray := [⟨#[61, 61]⟩, ⟨#[33, 61]⟩, ⟨#[60, 61]⟩, ⟨#[62, 61]⟩, ⟨#[46, 46]⟩, ⟨#[60]⟩, ⟨#[62]⟩, ⟨#[61]⟩, ⟨#[43]⟩, ⟨#[45]⟩, ⟨#[42]⟩, ⟨#[40]⟩, ⟨#[41]⟩, ⟨#[123]⟩, ⟨#[125]⟩, ⟨#[44]⟩, ⟨#[58]⟩, ⟨#[59]⟩]

theorem symbols_any (w : World) :
    Calls Tryz.prog 121 #[] w fun e w' => e = .returned (.slice (some ⟨w.heap.size, 0, none⟩) 18 18) ∧ w' = w.alloc (.cells (syms.map Value.string).toArray 9) := by
  go_enter Tryz.func121, Tryz.ntmps121
  go_wp2_with fail
  go_ret
  exact ⟨rfl, rfl⟩

def kwBytes : List ByteArray := kwords.map fun k => ⟨k.toArray⟩

theorem refKeywords_any (w : World) :
    Calls Tryz.prog 104 #[] w fun e w' => e = .returned (.slice (some ⟨w.heap.size, 0, none⟩) 35 35) ∧ w' = w.alloc (.cells (kwBytes.map Value.string).toArray 9) := by
  go_enter Tryz.func104, Tryz.ntmps104
  go_wp2_with fail
  go_ret
  exact ⟨rfl, rfl⟩

theorem str_ne {x y : ByteArray} (h : ¬ x = y) : (x.toList == y.toList) = false := by
  rw [beq_eq_false_iff_ne, ByteArray.toList_eq, ByteArray.toList_eq]
  intro e
  apply h
  obtain ⟨⟨a⟩⟩ := x
  obtain ⟨⟨b⟩⟩ := y
  simpa using e

def hasB (xs : List ByteArray) (y : ByteArray) : Bool := xs.any fun z => decide (z = y)
theorem hasB_yes {xs : List ByteArray} {y : ByteArray} (h : y ∈ xs) : hasB xs y = true := List.any_eq_true.2 ⟨y, h, decide_eq_true rfl⟩
theorem hasB_no {xs : List ByteArray} {y : ByteArray} (h : y ∉ xs) : hasB xs y = false := by
  cases he : hasB xs y with
  | false => rfl
  | true =>
    obtain ⟨z, hz, e⟩ := List.any_eq_true.1 he
    exact absurd (of_decide_eq_true e ▸ hz) h

set_option maxHeartbeats 800000 in
theorem refHas_any {w : World} {v : Value} {xs : List ByteArray} (h : Strs w v xs) (hx : xs.length ≤ 4096) (h0 : xs ≠ []) (y : ByteArray) :
    Calls Tryz.prog 103 #[v, .string y] w fun e w' => e = .returned (.bool (hasB xs y)) ∧ w = w' := by
  rcases h with ⟨_, h⟩ | ⟨g, cap, rfl, hg, hc⟩
  · exact absurd h h0
  have hmem : ∀ k, k < xs.length → xs.getD k ByteArray.empty = y → y ∈ xs := fun k hk e => by
    rw [List.getD_eq_getElem?_getD, List.getElem?_eq_getElem hk] at e
    exact e ▸ List.getElem_mem hk
  have hnone : (∀ j, j < xs.length → xs.getD j ByteArray.empty ≠ y) → y ∉ xs := fun h hy => by
    obtain ⟨i, hi, e⟩ := List.mem_iff_getElem.1 hy
    exact h i hi (by rw [List.getD_eq_getElem?_getD, List.getElem?_eq_getElem hi]; exact e)
  have HM : Hid ((∀ k, k < xs.length → xs.getD k ByteArray.empty = y → hasB xs y = true) ∧ ((∀ j, j < xs.length → xs.getD j ByteArray.empty ≠ y) → hasB xs y = false)) :=
    ⟨fun k hk e => hasB_yes (hmem k hk e), fun h => hasB_no (hnone h)⟩
  clear hmem hnone h0
  generalize hasB xs y = r at *
  have HC := hidden hc
  clear hc
  generalize hn : xs.length = n at *
  clear hn
  go_enter Tryz.func103, Tryz.ntmps103
  go_wp2
  go_loop [5] (fun i => ∃ k : Nat, k ≤ n ∧ i = .int .i64 k ∧ Hid (∀ j, j < k → xs.getD j ByteArray.empty ≠ y)) (fun i => n - (intOf i).toNat)
  case atStart => exact ⟨0, Nat.zero_le _, rfl, fun j hj => by omega⟩
  case round =>
    obtain ⟨k, hk, rfl, hno⟩ := hrel
    by_cases hlt : k < n
    · have hcell := HC.out k hlt
      have hm := HM.out.1 k hlt
      have HN : xs.getD k ByteArray.empty ≠ y → Hid (∀ j, j < k + 1 → xs.getD j ByteArray.empty ≠ y) := fun h j hj => by
        rcases Nat.lt_or_eq_of_le (Nat.le_of_lt_succ hj) with h' | rfl
        · exact hno.out j h'
        · exact h
      generalize xs.getD k ByteArray.empty = x at *
      rw [Nat.zero_add] at hcell
      clear hno
      by_cases e : x = y
      · have HB : Hid (r = true) := hm e
        subst e
        clear hm HN
        go_wp2
        go_ret
        exact ⟨by rw [HB.out]; rfl, rfl⟩
      · have e1 : (x.toList == y.toList) = false := str_ne e
        have HS := HN e
        clear hm HN e
        go_wp2
        go_round
        case rel => exact ⟨k + 1, by omega, by go_num, HS⟩
        case measure => simp [intOf]; omega
    · obtain rfl : k = n := by omega
      have HB : Hid (r = false) := HM.out.2 hno.out
      clear hlt hno
      go_wp2
      go_ret
      exact ⟨by rw [HB.out]; rfl, rfl⟩

/-- Symbol number k stands at the beginning. -/
def symAt (k : Nat) (l : List UInt8) : Prop := l.take (syms.getD k ByteArray.empty).size = (syms.getD k ByteArray.empty).data.toList

theorem two_at {a b : UInt8} (r : List UInt8) (h : twoB a b = true) : ∃ k, k < 5 ∧ symAt k (a :: b :: r) := by
  unfold twoB at h
  simp only [Bool.or_eq_true, Bool.and_eq_true, beq_iff_eq] at h
  rcases h with ⟨rfl, ((rfl | rfl) | rfl) | rfl⟩ | ⟨rfl, rfl⟩
  · exact ⟨0, by omega, rfl⟩
  · exact ⟨1, by omega, rfl⟩
  · exact ⟨2, by omega, rfl⟩
  · exact ⟨3, by omega, rfl⟩
  · exact ⟨4, by omega, rfl⟩

theorem one_at {a : UInt8} (r : List UInt8) (h : oneB a = true) : ∃ k, 5 ≤ k ∧ k < 18 ∧ symAt k (a :: r) := by
  unfold oneB at h
  have h := of_decide_eq_true h
  simp only [List.mem_cons, List.not_mem_nil, or_false] at h
  rcases h with rfl | rfl | rfl | rfl | rfl | rfl | rfl | rfl | rfl | rfl | rfl | rfl | rfl
  · exact ⟨5, by omega, by omega, rfl⟩
  · exact ⟨6, by omega, by omega, rfl⟩
  · exact ⟨7, by omega, by omega, rfl⟩
  · exact ⟨8, by omega, by omega, rfl⟩
  · exact ⟨9, by omega, by omega, rfl⟩
  · exact ⟨10, by omega, by omega, rfl⟩
  · exact ⟨11, by omega, by omega, rfl⟩
  · exact ⟨12, by omega, by omega, rfl⟩
  · exact ⟨13, by omega, by omega, rfl⟩
  · exact ⟨14, by omega, by omega, rfl⟩
  · exact ⟨15, by omega, by omega, rfl⟩
  · exact ⟨16, by omega, by omega, rfl⟩
  · exact ⟨17, by omega, by omega, rfl⟩

theorem sym_none {l : List UInt8} (h : ∀ j, j < 18 → ¬ symAt j l) : symL l = 0 := by
  cases l with
  | nil => rfl
  | cons a t =>
    have h1 : oneB a = false := by
      cases ho : oneB a with
      | false => rfl
      | true => obtain ⟨k, _, h2, h3⟩ := one_at t ho; exact absurd h3 (h k h2)
    cases t with
    | nil => rw [symL, if_neg (by rw [h1]; simp)]
    | cons b t =>
      have h2 : twoB a b = false := by
        cases ho : twoB a b with
        | false => rfl
        | true => obtain ⟨k, h2, h3⟩ := two_at t ho; exact absurd h3 (h k (by omega))
      rw [symL, if_neg (by rw [h2]; simp), if_neg (by rw [h1]; simp)]

theorem sym_hit2 {l : List UInt8} (a b : UInt8) (hl : l.take 2 = [a, b]) (h2 : twoB a b = true) : symL l = 2 := by
  match l, hl with
  | x :: y :: t, hl =>
    simp at hl
    obtain ⟨rfl, rfl⟩ := hl
    rw [symL, if_pos h2]

theorem sym_hit1 {l : List UInt8} (a : UInt8) (hl : l.take 1 = [a]) (h1 : oneB a = true) (hno : ∀ j, j < 5 → ¬ symAt j l) : symL l = 1 := by
  match l, hl with
  | [x], hl =>
    simp at hl
    subst hl
    rw [symL, if_pos h1]
  | x :: y :: t, hl =>
    simp at hl
    subst hl
    have h2 : twoB x y = false := by
      cases ho : twoB x y with
      | false => rfl
      | true => obtain ⟨k, h2, h3⟩ := two_at t ho; exact absurd h3 (hno k (by omega))
    rw [symL, if_neg (by rw [h2]; simp), if_pos h1]

theorem sym_hit {l : List UInt8} (k : Nat) (hk : k < 18) (h : symAt k l) (hno : ∀ j, j < k → ¬ symAt j l) : symL l = (syms.getD k ByteArray.empty).size := by
  have hno5 : 5 ≤ k → ∀ j, j < 5 → ¬ symAt j l := fun h5 j hj => hno j (by omega)
  clear hno
  rcases k with _ | _ | _ | _ | _ | _ | _ | _ | _ | _ | _ | _ | _ | _ | _ | _ | _ | _ | k
  · exact sym_hit2 61 61 h rfl
  · exact sym_hit2 33 61 h rfl
  · exact sym_hit2 60 61 h rfl
  · exact sym_hit2 62 61 h rfl
  · exact sym_hit2 46 46 h rfl
  · exact sym_hit1 60 h rfl (hno5 (by omega))
  · exact sym_hit1 62 h rfl (hno5 (by omega))
  · exact sym_hit1 61 h rfl (hno5 (by omega))
  · exact sym_hit1 43 h rfl (hno5 (by omega))
  · exact sym_hit1 45 h rfl (hno5 (by omega))
  · exact sym_hit1 42 h rfl (hno5 (by omega))
  · exact sym_hit1 40 h rfl (hno5 (by omega))
  · exact sym_hit1 41 h rfl (hno5 (by omega))
  · exact sym_hit1 123 h rfl (hno5 (by omega))
  · exact sym_hit1 125 h rfl (hno5 (by omega))
  · exact sym_hit1 44 h rfl (hno5 (by omega))
  · exact sym_hit1 58 h rfl (hno5 (by omega))
  · exact sym_hit1 59 h rfl (hno5 (by omega))
  · omega

theorem syms_size (k : Nat) : (syms.getD k ByteArray.empty).size ≤ 2 := by
  rcases k with _ | _ | _ | _ | _ | _ | _ | _ | _ | _ | _ | _ | _ | _ | _ | _ | _ | _ | k <;> first | decide | exact Nat.zero_le _

/-- A symbol at an offset, as the reference asks. -/
theorem symAt_iff (s x : ByteArray) (k at_ : Nat) (hx : syms.getD k ByteArray.empty = x) : symAt k (s.data.toList.drop at_) ↔ s.extract at_ (at_ + x.size) = x := by
  unfold symAt
  rw [hx]
  constructor
  · intro e
    apply ByteArray.ext
    apply Array.ext'
    rw [Lib.extract_data, show at_ + x.size - at_ = x.size by omega]
    exact e
  · intro e
    have := congrArg (fun z : ByteArray => z.data.toList) e
    simp only [Lib.extract_data] at this
    rw [show at_ + x.size - at_ = x.size by omega] at this
    exact this

set_option maxRecDepth 100000 in
set_option maxHeartbeats 1600000 in
theorem refSymbol_any (s : ByteArray) (hs : s.size ≤ 4096) (at_ : Nat) (ha : at_ ≤ s.size) (w : World) :
    Calls Tryz.prog 105 #[.string s, .int .i64 at_] w fun e w' => e = .returned (.int .i64 (symL (s.data.toList.drop at_) : Nat)) ∧ Below w.heap.size w w' := by
  have hsy := symbols_any w
  obtain ⟨w0, hw0⟩ : ∃ w0, w0 = w.alloc (.cells (syms.map Value.string).toArray 9) := ⟨_, rfl⟩
  have hst : Strs w0 (.slice (some ⟨w.heap.size, 0, none⟩) 18 18) syms := by rw [hw0]; exact Strs.lit w syms
  have hB0 : Below w.heap.size w w0 := by rw [hw0]; exact (Below.refl _ _).alloc (Nat.le_refl _) _
  rw [← hw0] at hsy
  obtain ⟨_, h⟩ | ⟨g, cap, hv, hg, hc⟩ := hst
  · cases h
  have hgw : g = w.heap.size := by injection hv with h1; injection h1 with h1; injection h1 with h1; exact h1.symm
  subst hgw
  have hc' : ∀ k, k < 18 → ∀ q, (w0.drewN q).cell? ⟨w.heap.size, k, none⟩ = some (.string (syms.getD k ByteArray.empty)) := fun k hk q => by have := hc k hk; rw [Nat.zero_add] at this; exact this
  have HC := hidden hc'
  have HB0 := hidden hB0
  have HL : Hid (s.data.toList.length = s.size) := bytes_len s
  clear hw0 hc hc' hv hB0
  go_enter Tryz.func105, Tryz.ntmps105
  go_wp2_with (go_at_call 121; (with_reducible refine hsy.mono ?_); rintro e w1 ⟨rfl, rfl⟩)
  go_loopw [6] (fun i wr => ∃ k q : Nat, k ≤ 18 ∧ i = .int .i64 k ∧ wr = w1.drewN q ∧ Hid (∀ j, j < k → ¬ symAt j (s.data.toList.drop at_))) (fun i _ => 18 - (intOf i).toNat)
  case atStart => exact ⟨0, 0, Nat.zero_le _, rfl, rfl, fun j hj => by omega⟩
  case round =>
    obtain ⟨k, q, hk, rfl, rfl, hno⟩ := hrel
    by_cases hlt : k < 18
    · have hcell := HC.out k hlt
      have hsz := syms_size k
      have hit := fun h => sym_hit (l := s.data.toList.drop at_) k hlt h hno.out
      obtain ⟨x, hx⟩ : ∃ x, syms.getD k ByteArray.empty = x := ⟨_, rfl⟩
      have hiff := symAt_iff s x k at_ hx
      have hfar : s.size < at_ + x.size → ¬ symAt k (s.data.toList.drop at_) := fun h e => by
        unfold symAt at e
        rw [hx] at e
        have := congrArg List.length e
        rw [List.length_take, List.length_drop, bytes_len, bytes_len] at this
        omega
      rw [hx] at hcell hsz hit
      have HN : ¬ symAt k (s.data.toList.drop at_) → Hid (∀ j, j < k + 1 → ¬ symAt j (s.data.toList.drop at_)) := fun h j hj => by
        rcases Nat.lt_or_eq_of_le (Nat.le_of_lt_succ hj) with h' | rfl
        · exact hno.out j h'
        · exact h
      clear hno
      by_cases hfit : at_ + x.size ≤ s.size
      · by_cases he : s.extract at_ (at_ + x.size) = x
        · have HV := hidden (hit (hiff.2 he))
          have hfi : decide ((at_ : Int) + (x.size : Int) ≤ (s.size : Int)) = true := decide_eq_true (by omega)
          have hwr : IntKind.i64.wrap ((at_ : Int) + (x.size : Int)) = (at_ : Int) + (x.size : Int) := IntWalk.i64_in _ (by omega)
          have hnat : ((at_ : Int) + (x.size : Int)).toNat = at_ + x.size := by omega
          clear HN hfar hiff hit hx
          go_wp2
          go_quiet (fail)
          go_wp2
          go_ret
          exact ⟨by rw [HV.out]; rfl, below_drewN (below_drewN HB0.out q) nq⟩
        · have HS := HN (fun h => he (hiff.1 h))
          have hfi : decide ((at_ : Int) + (x.size : Int) ≤ (s.size : Int)) = true := decide_eq_true (by omega)
          have hwr : IntKind.i64.wrap ((at_ : Int) + (x.size : Int)) = (at_ : Int) + (x.size : Int) := IntWalk.i64_in _ (by omega)
          have hnat : ((at_ : Int) + (x.size : Int)).toNat = at_ + x.size := by omega
          have hne : ((s.extract at_ (at_ + x.size)).toList == x.toList) = false := str_ne he
          clear HN hfar hiff hit hx he
          go_wp2
          go_quiet (fail)
          go_wp2
          go_roundw
          case rel => exact ⟨k + 1, _, by omega, by go_num, rfl, HS⟩
          case measure => simp [intOf]; omega
      · have HS := HN (hfar (by omega))
        have hfi : decide ((at_ : Int) + (x.size : Int) ≤ (s.size : Int)) = false := decide_eq_false (by omega)
        have hwr : IntKind.i64.wrap ((at_ : Int) + (x.size : Int)) = (at_ : Int) + (x.size : Int) := IntWalk.i64_in _ (by omega)
        clear HN hfar hiff hit hx
        go_wp2
        go_quiet (fail)
        go_wp2
        go_roundw
        case rel => exact ⟨k + 1, _, by omega, by go_num, rfl, HS⟩
        case measure => simp [intOf]; omega
    · obtain rfl : k = 18 := by omega
      have HV := hidden (sym_none hno.out)
      clear hno hlt
      go_wp2
      go_ret
      exact ⟨by rw [HV.out]; rfl, below_drewN HB0.out q⟩

end Go.Proofs.YtfmoophjdgejeaaGreatDoor
