import Derived.Test.YtlbaaiglebpjiaaGreatDoorJc
import Derived.Test.YtlbaaiglebpjiaaGreatDoorJd
import Derived.IntWalk
import Derived.Test.YtlbaaiglebpjiaaGreatDoorJm
import Derived.Deep.RegionHeld3
import Derived.Test.YtlbaaiglebpjiaaGreatDoorNc
/-
  The reference: classes of bytes, what is skipped.
-/
namespace Go.Proofs.YtlbaaiglebpjiaaGreatDoor
open Go.RowKit Go.Shelf Go.Lib

set_option maxHeartbeats 400000 in
theorem refWhite_any (c : UInt8) (w : World) : Calls Tryz.prog 139 #[.int .u8 c.toNat] w fun e w' => e = .returned (.bool (whiteB c)) ∧ w = w' := by
  have e1 : ((c.toNat : Int) == 9) = (c == 9) := byte_eqI c 9
  have e2 : ((c.toNat : Int) == 10) = (c == 10) := byte_eqI c 10
  have e3 : ((c.toNat : Int) == 13) = (c == 13) := byte_eqI c 13
  have e4 : ((c.toNat : Int) == 32) = (c == 32) := byte_eqI c 32
  unfold whiteB
  generalize (c == 9) = b1 at *
  generalize (c == 10) = b2 at *
  generalize (c == 13) = b3 at *
  generalize (c == 32) = b4 at *
  cases b1 <;> cases b2 <;> cases b3 <;> cases b4 <;> (go_enter Tryz.func139, Tryz.ntmps139; go_wp2; go_ret; exact ⟨rfl, rfl⟩)

set_option maxHeartbeats 400000 in
theorem refLetter_any (c : UInt8) (w : World) : Calls Tryz.prog 140 #[.int .u8 c.toNat] w fun e w' => e = .returned (.bool (letterB c)) ∧ w = w' := by
  unfold letterB
  by_cases h1 : 97 ≤ c.toNat
  · by_cases h2 : c.toNat ≤ 122
    · rw [decide_eq_true h1, decide_eq_true h2]
      have g1 : (97 : Int) ≤ (c.toNat : Int) := by omega
      have g2 : (c.toNat : Int) ≤ 122 := by omega
      clear h1 h2
      go_enter Tryz.func140, Tryz.ntmps140
      go_wp2
      go_ret
      exact ⟨rfl, rfl⟩
    · rw [decide_eq_true h1, decide_eq_false h2]
      have g1 : (97 : Int) ≤ (c.toNat : Int) := by omega
      have g2 : (122 : Int) < (c.toNat : Int) := by omega
      clear h1 h2
      go_enter Tryz.func140, Tryz.ntmps140
      go_wp2
      go_ret
      exact ⟨by show Ending.returned (.bool (decide ((c.toNat : Int) ≤ 122))) = _; rw [decide_eq_false (by omega)]; rfl, rfl⟩
  · rw [decide_eq_false h1]
    have g1 : (c.toNat : Int) < 97 := by omega
    clear h1
    go_enter Tryz.func140, Tryz.ntmps140
    go_wp2
    go_ret
    exact ⟨rfl, rfl⟩

set_option maxHeartbeats 400000 in
theorem refDigit_any (c : UInt8) (w : World) : Calls Tryz.prog 141 #[.int .u8 c.toNat] w fun e w' => e = .returned (.bool (digitB c)) ∧ w = w' := by
  unfold digitB
  by_cases h1 : 48 ≤ c.toNat
  · by_cases h2 : c.toNat ≤ 57
    · rw [decide_eq_true h1, decide_eq_true h2]
      have g1 : (48 : Int) ≤ (c.toNat : Int) := by omega
      have g2 : (c.toNat : Int) ≤ 57 := by omega
      clear h1 h2
      go_enter Tryz.func141, Tryz.ntmps141
      go_wp2
      go_ret
      exact ⟨rfl, rfl⟩
    · rw [decide_eq_true h1, decide_eq_false h2]
      have g1 : (48 : Int) ≤ (c.toNat : Int) := by omega
      have g2 : (57 : Int) < (c.toNat : Int) := by omega
      clear h1 h2
      go_enter Tryz.func141, Tryz.ntmps141
      go_wp2
      go_ret
      exact ⟨by show Ending.returned (.bool (decide ((c.toNat : Int) ≤ 57))) = _; rw [decide_eq_false (by omega)]; rfl, rfl⟩
  · rw [decide_eq_false h1]
    have g1 : (c.toNat : Int) < 48 := by omega
    clear h1
    go_enter Tryz.func141, Tryz.ntmps141
    go_wp2
    go_ret
    exact ⟨rfl, rfl⟩

theorem skipTo_comment (l : List UInt8) (k d : Nat) (h1 : k < l.length) (hc : l.getD k 0 = 35) (hd : k < d) (hl : d ≤ l.length) (hno : ∀ i, k < i → i < d → l.getD i 0 ≠ 10) (he : d = l.length ∨ l.getD d 0 = 10) :
    skipTo l k = skipTo l d := by
  have h := skip_comment (l.drop (k + 1)) (d - (k + 1)) (by rw [List.length_drop]; omega)
    (fun i hi => by rw [List.getD_eq_getElem?_getD, List.getElem?_drop, ← List.getD_eq_getElem?_getD]; exact hno _ (by omega) (by omega))
    (by
      rcases he with h | h
      · left; rw [List.length_drop]; omega
      · right; rw [List.getD_eq_getElem?_getD, List.getElem?_drop, ← List.getD_eq_getElem?_getD, show k + 1 + (d - (k + 1)) = d by omega]; exact h)
  rw [List.drop_drop, show k + 1 + (d - (k + 1)) = d by omega] at h
  unfold skipTo
  rw [drop_get l k h1, hc]
  have e : skipF false ((35 : UInt8) :: l.drop (k + 1)) = skipF true (l.drop (k + 1)) + 1 := by rw [skipF]; simp [whiteB]
  rw [e, h]
  omega

set_option maxHeartbeats 1600000 in
theorem refSkip_any (s : ByteArray) (hs : s.size ≤ 4096) (k : Nat) (hk : k ≤ s.size) (w : World) :
    Calls Tryz.prog 122 #[.string s, .int .i64 k] w fun e w' => e = .returned (.int .i64 (skipTo s.data.toList k : Nat)) ∧ w = w' := by
  have HL : Hid (s.data.toList.length = s.size) := bytes_len s
  go_enter Tryz.func122, Tryz.ntmps122
  go_wp2
  go_loop [1] (fun i => ∃ j : Nat, j ≤ s.size ∧ i = .int .i64 j ∧ Hid (skipTo s.data.toList k = skipTo s.data.toList j)) (fun i => s.size - (intOf i).toNat)
  case atStart => exact ⟨k, hk, rfl, rfl⟩
  case round =>
    obtain ⟨j, hj, rfl, hr⟩ := hrel
    by_cases hlt : j < s.size
    · have hwh := fun w' => refWhite_any s[j] w'
      have hg := getD_bytes s j hlt
      cases hw : whiteB s[j] with
      | true =>
        rw [hw] at hwh
        have HS : Hid (skipTo s.data.toList j = skipTo s.data.toList (j + 1)) := skipTo_white _ _ (by rw [HL.out]; exact hlt) (by rw [hg]; exact hw)
        have b1 : ((s[j].toNat : Int) == 35) = false := by
          refine byte_ne (c := 35) fun e => ?_
          rw [e] at hw
          exact absurd hw (by decide)
        clear hg hw
        go_wp2_with (go_at_call 139; (with_reducible refine (hwh _).mono ?_); rintro e w1 ⟨rfl, rfl⟩)
        go_round
        case rel => exact ⟨j + 1, by omega, by go_num, hr.out.trans HS.out⟩
        case measure => simp [intOf]; omega
      | false =>
        rw [hw] at hwh
        by_cases hc : s[j] = 35
        · have b1 : ((s[j].toNat : Int) == 35) = true := by rw [hc]; rfl
          have hg35 : s.data.toList.getD j 0 = 35 := by rw [hg, hc]
          have HG := hidden hg35
          clear hg hw hc hg35
          go_wp2_with (go_at_call 139; (with_reducible refine (hwh _).mono ?_); rintro e w1 ⟨rfl, rfl⟩)
          go_loop [1] (fun i => ∃ d : Nat, j ≤ d ∧ d ≤ s.size ∧ i = .int .i64 d ∧ Hid (∀ i, j < i → i < d → s.data.toList.getD i 0 ≠ 10)) (fun i => s.size - (intOf i).toNat)
          case atStart => exact ⟨j, Nat.le_refl _, by omega, rfl, fun i h1 h2 => by omega⟩
          case round =>
            obtain ⟨d, hd1, hd2, rfl, hno⟩ := hrel
            by_cases hdl : d < s.size
            · have hgd := getD_bytes s d hdl
              by_cases h10 : s[d] = 10
              · have b2 : ((s[d].toNat : Int) != 10) = false := by rw [h10]; rfl
                have hjd : j < d := by
                  rcases Nat.lt_or_eq_of_le hd1 with h | h
                  · exact h
                  · subst h
                    have h := HG.out
                    rw [hgd, h10] at h
                    exact absurd h (by decide)
                have HS : Hid (skipTo s.data.toList j = skipTo s.data.toList d) := skipTo_comment _ j d (by rw [HL.out]; exact hlt) HG.out hjd (by rw [HL.out]; exact hd2) hno.out (.inr (by rw [hgd, h10]))
                clear hgd h10
                go_wp2
                go_round
                case rel => exact ⟨d, by omega, rfl, hr.out.trans HS.out⟩
                case measure => simp [intOf]; omega
              · have b2 : ((s[d].toNat : Int) != 10) = true := by
                  show (!((s[d].toNat : Int) == 10)) = true
                  rw [show ((s[d].toNat : Int) == 10) = false from byte_ne (c := 10) h10]; rfl
                have HN : Hid (∀ i, j < i → i < d + 1 → s.data.toList.getD i 0 ≠ 10) := fun i h1 h2 => by
                  rcases Nat.lt_or_eq_of_le (Nat.le_of_lt_succ h2) with h | h
                  · exact hno.out i h1 h
                  · rw [h, hgd]; exact h10
                clear hgd h10
                go_wp2
                go_round
                case rel => exact ⟨d + 1, by omega, by omega, by go_num, HN⟩
                case measure => simp [intOf]; omega
            · obtain rfl : d = s.size := by omega
              have HS : Hid (skipTo s.data.toList j = skipTo s.data.toList s.size) := skipTo_comment _ j s.size (by rw [HL.out]; exact hlt) HG.out hlt (by rw [HL.out]; exact hd2) hno.out (.inl HL.out.symm)
              clear hdl
              go_wp2
              go_round
              case rel => exact ⟨s.size, Nat.le_refl _, rfl, hr.out.trans HS.out⟩
              case measure => simp [intOf]; omega
        · have b1 : ((s[j].toNat : Int) == 35) = false := byte_ne (c := 35) hc
          have HS : Hid (skipTo s.data.toList j = j) := skipTo_stop _ _ (by rw [HL.out]; exact hlt) (by rw [hg]; exact hw) (by rw [hg]; exact hc)
          clear hg hw hc
          go_wp2_with (go_at_call 139; (with_reducible refine (hwh _).mono ?_); rintro e w1 ⟨rfl, rfl⟩)
          go_ret
          exact ⟨by rw [hr.out, HS.out]; rfl, rfl⟩
    · obtain rfl : j = s.size := by omega
      have HS : Hid (skipTo s.data.toList s.size = s.size) := by show _ = _; have := skipTo_end s.data.toList; rwa [HL.out] at this
      clear hlt
      go_wp2
      go_ret
      exact ⟨by rw [hr.out, HS.out]; rfl, rfl⟩

end Go.Proofs.YtlbaaiglebpjiaaGreatDoor
/-
  The reference: lists of words, symbols.
-/
namespace Go.Proofs.YtlbaaiglebpjiaaGreatDoor
open Go.RowKit Go.Shelf Go.Lib

/-- The symbols, those with two bytes first. -/
def syms : List ByteArray := [⟨#[61, 61]⟩, ⟨#[33, 61]⟩, ⟨#[60, 61]⟩, ⟨#[62, 61]⟩, ⟨#[46, 46]⟩, ⟨#[60]⟩, ⟨#[62]⟩, ⟨#[61]⟩, ⟨#[43]⟩, ⟨#[45]⟩, ⟨#[42]⟩, ⟨#[40]⟩, ⟨#[41]⟩, ⟨#[123]⟩, ⟨#[125]⟩, ⟨#[44]⟩, ⟨#[58]⟩, ⟨#[59]⟩]

theorem symbols_any (w : World) :
    Calls Tryz.prog 155 #[] w fun e w' => e = .returned (.slice (some ⟨w.heap.size, 0, none⟩) 18 18) ∧ w' = w.alloc (.cells (syms.map Value.string).toArray 9) := by
  go_enter Tryz.func155, Tryz.ntmps155
  go_wp2_with fail
  go_ret
  exact ⟨rfl, rfl⟩

def kwBytes : List ByteArray := kwords.map fun k => ⟨k.toArray⟩

theorem refKeywords_any (w : World) :
    Calls Tryz.prog 142 #[] w fun e w' => e = .returned (.slice (some ⟨w.heap.size, 0, none⟩) 35 35) ∧ w' = w.alloc (.cells (kwBytes.map Value.string).toArray 9) := by
  go_enter Tryz.func142, Tryz.ntmps142
  go_wp2_with fail
  go_ret
  exact ⟨rfl, rfl⟩

theorem str_ne {x y : ByteArray} (h : ¬ x = y) : (x.toList == y.toList) = false := by
  rw [beq_eq_false_iff_ne, ByteArray.toList_eq, ByteArray.toList_eq]
  intro e
  apply h
  obtain ⟨⟨a⟩⟩ := x
  obtain ⟨⟨b⟩⟩ := y
  simpa using e

def hasB (xs : List ByteArray) (y : ByteArray) : Bool := xs.any fun z => decide (z = y)
theorem hasB_yes {xs : List ByteArray} {y : ByteArray} (h : y ∈ xs) : hasB xs y = true := List.any_eq_true.2 ⟨y, h, decide_eq_true rfl⟩
theorem hasB_no {xs : List ByteArray} {y : ByteArray} (h : y ∉ xs) : hasB xs y = false := by
  cases he : hasB xs y with
  | false => rfl
  | true =>
    obtain ⟨z, hz, e⟩ := List.any_eq_true.1 he
    exact absurd (of_decide_eq_true e ▸ hz) h

set_option maxHeartbeats 800000 in
theorem refHas_any {w : World} {v : Value} {xs : List ByteArray} (h : Strs w v xs) (hx : xs.length ≤ 4096) (h0 : xs ≠ []) (y : ByteArray) :
    Calls Tryz.prog 87 #[v, .string y] w fun e w' => e = .returned (.bool (hasB xs y)) ∧ w = w' := by
  rcases h with ⟨_, h⟩ | ⟨g, cap, rfl, hg, hc⟩
  · exact absurd h h0
  have hmem : ∀ k, k < xs.length → xs.getD k ByteArray.empty = y → y ∈ xs := fun k hk e => by
    rw [List.getD_eq_getElem?_getD, List.getElem?_eq_getElem hk] at e
    exact e ▸ List.getElem_mem hk
  have hnone : (∀ j, j < xs.length → xs.getD j ByteArray.empty ≠ y) → y ∉ xs := fun h hy => by
    obtain ⟨i, hi, e⟩ := List.mem_iff_getElem.1 hy
    exact h i hi (by rw [List.getD_eq_getElem?_getD, List.getElem?_eq_getElem hi]; exact e)
  have HM : Hid ((∀ k, k < xs.length → xs.getD k ByteArray.empty = y → hasB xs y = true) ∧ ((∀ j, j < xs.length → xs.getD j ByteArray.empty ≠ y) → hasB xs y = false)) :=
    ⟨fun k hk e => hasB_yes (hmem k hk e), fun h => hasB_no (hnone h)⟩
  clear hmem hnone h0
  generalize hasB xs y = r at *
  have HC := hidden hc
  clear hc
  generalize hn : xs.length = n at *
  clear hn
  go_enter Tryz.func87, Tryz.ntmps87
  go_wp2
  go_loop [5] (fun i => ∃ k : Nat, k ≤ n ∧ i = .int .i64 k ∧ Hid (∀ j, j < k → xs.getD j ByteArray.empty ≠ y)) (fun i => n - (intOf i).toNat)
  case atStart => exact ⟨0, Nat.zero_le _, rfl, fun j hj => by omega⟩
  case round =>
    obtain ⟨k, hk, rfl, hno⟩ := hrel
    by_cases hlt : k < n
    · have hcell := HC.out k hlt
      have hm := HM.out.1 k hlt
      have HN : xs.getD k ByteArray.empty ≠ y → Hid (∀ j, j < k + 1 → xs.getD j ByteArray.empty ≠ y) := fun h j hj => by
        rcases Nat.lt_or_eq_of_le (Nat.le_of_lt_succ hj) with h' | rfl
        · exact hno.out j h'
        · exact h
      generalize xs.getD k ByteArray.empty = x at *
      rw [Nat.zero_add] at hcell
      clear hno
      by_cases e : x = y
      · have HB : Hid (r = true) := hm e
        subst e
        clear hm HN
        go_wp2
        go_ret
        exact ⟨by rw [HB.out]; rfl, rfl⟩
      · have e1 : (x.toList == y.toList) = false := str_ne e
        have HS := HN e
        clear hm HN e
        go_wp2
        go_round
        case rel => exact ⟨k + 1, by omega, by go_num, HS⟩
        case measure => simp [intOf]; omega
    · obtain rfl : k = n := by omega
      have HB : Hid (r = false) := HM.out.2 hno.out
      clear hlt hno
      go_wp2
      go_ret
      exact ⟨by rw [HB.out]; rfl, rfl⟩

/-- Symbol number k stands at the beginning. -/
def symAt (k : Nat) (l : List UInt8) : Prop := l.take (syms.getD k ByteArray.empty).size = (syms.getD k ByteArray.empty).data.toList

theorem two_at {a b : UInt8} (r : List UInt8) (h : twoB a b = true) : ∃ k, k < 5 ∧ symAt k (a :: b :: r) := by
  unfold twoB at h
  simp only [Bool.or_eq_true, Bool.and_eq_true, beq_iff_eq] at h
  rcases h with ⟨rfl, ((rfl | rfl) | rfl) | rfl⟩ | ⟨rfl, rfl⟩
  · exact ⟨0, by omega, rfl⟩
  · exact ⟨1, by omega, rfl⟩
  · exact ⟨2, by omega, rfl⟩
  · exact ⟨3, by omega, rfl⟩
  · exact ⟨4, by omega, rfl⟩

theorem one_at {a : UInt8} (r : List UInt8) (h : oneB a = true) : ∃ k, 5 ≤ k ∧ k < 18 ∧ symAt k (a :: r) := by
  unfold oneB at h
  have h := of_decide_eq_true h
  simp only [List.mem_cons, List.not_mem_nil, or_false] at h
  rcases h with rfl | rfl | rfl | rfl | rfl | rfl | rfl | rfl | rfl | rfl | rfl | rfl | rfl
  · exact ⟨5, by omega, by omega, rfl⟩
  · exact ⟨6, by omega, by omega, rfl⟩
  · exact ⟨7, by omega, by omega, rfl⟩
  · exact ⟨8, by omega, by omega, rfl⟩
  · exact ⟨9, by omega, by omega, rfl⟩
  · exact ⟨10, by omega, by omega, rfl⟩
  · exact ⟨11, by omega, by omega, rfl⟩
  · exact ⟨12, by omega, by omega, rfl⟩
  · exact ⟨13, by omega, by omega, rfl⟩
  · exact ⟨14, by omega, by omega, rfl⟩
  · exact ⟨15, by omega, by omega, rfl⟩
  · exact ⟨16, by omega, by omega, rfl⟩
  · exact ⟨17, by omega, by omega, rfl⟩

theorem sym_none {l : List UInt8} (h : ∀ j, j < 18 → ¬ symAt j l) : symL l = 0 := by
  cases l with
  | nil => rfl
  | cons a t =>
    have h1 : oneB a = false := by
      cases ho : oneB a with
      | false => rfl
      | true => obtain ⟨k, _, h2, h3⟩ := one_at t ho; exact absurd h3 (h k h2)
    cases t with
    | nil => rw [symL, if_neg (by rw [h1]; simp)]
    | cons b t =>
      have h2 : twoB a b = false := by
        cases ho : twoB a b with
        | false => rfl
        | true => obtain ⟨k, h2, h3⟩ := two_at t ho; exact absurd h3 (h k (by omega))
      rw [symL, if_neg (by rw [h2]; simp), if_neg (by rw [h1]; simp)]

theorem sym_hit2 {l : List UInt8} (a b : UInt8) (hl : l.take 2 = [a, b]) (h2 : twoB a b = true) : symL l = 2 := by
  match l, hl with
  | x :: y :: t, hl =>
    simp at hl
    obtain ⟨rfl, rfl⟩ := hl
    rw [symL, if_pos h2]

theorem sym_hit1 {l : List UInt8} (a : UInt8) (hl : l.take 1 = [a]) (h1 : oneB a = true) (hno : ∀ j, j < 5 → ¬ symAt j l) : symL l = 1 := by
  match l, hl with
  | [x], hl =>
    simp at hl
    subst hl
    rw [symL, if_pos h1]
  | x :: y :: t, hl =>
    simp at hl
    subst hl
    have h2 : twoB x y = false := by
      cases ho : twoB x y with
      | false => rfl
      | true => obtain ⟨k, h2, h3⟩ := two_at t ho; exact absurd h3 (hno k (by omega))
    rw [symL, if_neg (by rw [h2]; simp), if_pos h1]

theorem sym_hit {l : List UInt8} (k : Nat) (hk : k < 18) (h : symAt k l) (hno : ∀ j, j < k → ¬ symAt j l) : symL l = (syms.getD k ByteArray.empty).size := by
  have hno5 : 5 ≤ k → ∀ j, j < 5 → ¬ symAt j l := fun h5 j hj => hno j (by omega)
  clear hno
  rcases k with _ | _ | _ | _ | _ | _ | _ | _ | _ | _ | _ | _ | _ | _ | _ | _ | _ | _ | k
  · exact sym_hit2 61 61 h rfl
  · exact sym_hit2 33 61 h rfl
  · exact sym_hit2 60 61 h rfl
  · exact sym_hit2 62 61 h rfl
  · exact sym_hit2 46 46 h rfl
  · exact sym_hit1 60 h rfl (hno5 (by omega))
  · exact sym_hit1 62 h rfl (hno5 (by omega))
  · exact sym_hit1 61 h rfl (hno5 (by omega))
  · exact sym_hit1 43 h rfl (hno5 (by omega))
  · exact sym_hit1 45 h rfl (hno5 (by omega))
  · exact sym_hit1 42 h rfl (hno5 (by omega))
  · exact sym_hit1 40 h rfl (hno5 (by omega))
  · exact sym_hit1 41 h rfl (hno5 (by omega))
  · exact sym_hit1 123 h rfl (hno5 (by omega))
  · exact sym_hit1 125 h rfl (hno5 (by omega))
  · exact sym_hit1 44 h rfl (hno5 (by omega))
  · exact sym_hit1 58 h rfl (hno5 (by omega))
  · exact sym_hit1 59 h rfl (hno5 (by omega))
  · omega

theorem syms_size (k : Nat) : (syms.getD k ByteArray.empty).size ≤ 2 := by
  rcases k with _ | _ | _ | _ | _ | _ | _ | _ | _ | _ | _ | _ | _ | _ | _ | _ | _ | _ | k <;> first | decide | exact Nat.zero_le _

/-- A symbol at an offset, as the reference asks. -/
theorem symAt_iff (s x : ByteArray) (k at_ : Nat) (hx : syms.getD k ByteArray.empty = x) : symAt k (s.data.toList.drop at_) ↔ s.extract at_ (at_ + x.size) = x := by
  unfold symAt
  rw [hx]
  constructor
  · intro e
    apply ByteArray.ext
    apply Array.ext'
    rw [Lib.extract_data, show at_ + x.size - at_ = x.size by omega]
    exact e
  · intro e
    have := congrArg (fun z : ByteArray => z.data.toList) e
    simp only [Lib.extract_data] at this
    rw [show at_ + x.size - at_ = x.size by omega] at this
    exact this

set_option maxRecDepth 100000 in
set_option maxHeartbeats 1600000 in
theorem refSymbol_any (s : ByteArray) (hs : s.size ≤ 4096) (at_ : Nat) (ha : at_ ≤ s.size) (w : World) :
    Calls Tryz.prog 143 #[.string s, .int .i64 at_] w fun e w' => e = .returned (.int .i64 (symL (s.data.toList.drop at_) : Nat)) ∧ Below w.heap.size w w' := by
  have hsy := symbols_any w
  obtain ⟨w0, hw0⟩ : ∃ w0, w0 = w.alloc (.cells (syms.map Value.string).toArray 9) := ⟨_, rfl⟩
  have hst : Strs w0 (.slice (some ⟨w.heap.size, 0, none⟩) 18 18) syms := by rw [hw0]; exact Strs.lit w syms
  have hB0 : Below w.heap.size w w0 := by rw [hw0]; exact (Below.refl _ _).alloc (Nat.le_refl _) _
  rw [← hw0] at hsy
  obtain ⟨_, h⟩ | ⟨g, cap, hv, hg, hc⟩ := hst
  · cases h
  have hgw : g = w.heap.size := by injection hv with h1; injection h1 with h1; injection h1 with h1; exact h1.symm
  subst hgw
  have hc' : ∀ k, k < 18 → ∀ q, (w0.drewN q).cell? ⟨w.heap.size, k, none⟩ = some (.string (syms.getD k ByteArray.empty)) := fun k hk q => by have := hc k hk; rw [Nat.zero_add] at this; exact this
  have HC := hidden hc'
  have HB0 := hidden hB0
  have HL : Hid (s.data.toList.length = s.size) := bytes_len s
  clear hw0 hc hc' hv hB0
  go_enter Tryz.func143, Tryz.ntmps143
  go_wp2_with (go_at_call 155; (with_reducible refine hsy.mono ?_); rintro e w1 ⟨rfl, rfl⟩)
  go_loopw [6] (fun i wr => ∃ k q : Nat, k ≤ 18 ∧ i = .int .i64 k ∧ wr = w1.drewN q ∧ Hid (∀ j, j < k → ¬ symAt j (s.data.toList.drop at_))) (fun i _ => 18 - (intOf i).toNat)
  case atStart => exact ⟨0, 0, Nat.zero_le _, rfl, rfl, fun j hj => by omega⟩
  case round =>
    obtain ⟨k, q, hk, rfl, rfl, hno⟩ := hrel
    by_cases hlt : k < 18
    · have hcell := HC.out k hlt
      have hsz := syms_size k
      have hit := fun h => sym_hit (l := s.data.toList.drop at_) k hlt h hno.out
      obtain ⟨x, hx⟩ : ∃ x, syms.getD k ByteArray.empty = x := ⟨_, rfl⟩
      have hiff := symAt_iff s x k at_ hx
      have hfar : s.size < at_ + x.size → ¬ symAt k (s.data.toList.drop at_) := fun h e => by
        unfold symAt at e
        rw [hx] at e
        have := congrArg List.length e
        rw [List.length_take, List.length_drop, bytes_len, bytes_len] at this
        omega
      rw [hx] at hcell hsz hit
      have HN : ¬ symAt k (s.data.toList.drop at_) → Hid (∀ j, j < k + 1 → ¬ symAt j (s.data.toList.drop at_)) := fun h j hj => by
        rcases Nat.lt_or_eq_of_le (Nat.le_of_lt_succ hj) with h' | rfl
        · exact hno.out j h'
        · exact h
      clear hno
      by_cases hfit : at_ + x.size ≤ s.size
      · by_cases he : s.extract at_ (at_ + x.size) = x
        · have HV := hidden (hit (hiff.2 he))
          have hfi : decide ((at_ : Int) + (x.size : Int) ≤ (s.size : Int)) = true := decide_eq_true (by omega)
          have hwr : IntKind.i64.wrap ((at_ : Int) + (x.size : Int)) = (at_ : Int) + (x.size : Int) := IntWalk.i64_in _ (by omega)
          have hnat : ((at_ : Int) + (x.size : Int)).toNat = at_ + x.size := by omega
          clear HN hfar hiff hit hx
          go_wp2
          go_quiet (fail)
          go_wp2
          go_ret
          exact ⟨by rw [HV.out]; rfl, below_drewN (below_drewN HB0.out q) nq⟩
        · have HS := HN (fun h => he (hiff.1 h))
          have hfi : decide ((at_ : Int) + (x.size : Int) ≤ (s.size : Int)) = true := decide_eq_true (by omega)
          have hwr : IntKind.i64.wrap ((at_ : Int) + (x.size : Int)) = (at_ : Int) + (x.size : Int) := IntWalk.i64_in _ (by omega)
          have hnat : ((at_ : Int) + (x.size : Int)).toNat = at_ + x.size := by omega
          have hne : ((s.extract at_ (at_ + x.size)).toList == x.toList) = false := str_ne he
          clear HN hfar hiff hit hx he
          go_wp2
          go_quiet (fail)
          go_wp2
          go_roundw
          case rel => exact ⟨k + 1, _, by omega, by go_num, rfl, HS⟩
          case measure => simp [intOf]; omega
      · have HS := HN (hfar (by omega))
        have hfi : decide ((at_ : Int) + (x.size : Int) ≤ (s.size : Int)) = false := decide_eq_false (by omega)
        have hwr : IntKind.i64.wrap ((at_ : Int) + (x.size : Int)) = (at_ : Int) + (x.size : Int) := IntWalk.i64_in _ (by omega)
        clear HN hfar hiff hit hx
        go_wp2
        go_quiet (fail)
        go_wp2
        go_roundw
        case rel => exact ⟨k + 1, _, by omega, by go_num, rfl, HS⟩
        case measure => simp [intOf]; omega
    · obtain rfl : k = 18 := by omega
      have HV := hidden (sym_none hno.out)
      clear hno hlt
      go_wp2
      go_ret
      exact ⟨by rw [HV.out]; rfl, below_drewN HB0.out q⟩

end Go.Proofs.YtlbaaiglebpjiaaGreatDoor
/-
  The reference's token.
-/
namespace Go.Proofs.YtlbaaiglebpjiaaGreatDoor
open Go.RowKit Go.Shelf Go.Lib

/-- Has, of the keywords. -/
theorem hasKw_any (y : ByteArray) (w : World) :
    Calls Tryz.prog 87 #[.slice (some ⟨w.heap.size, 0, none⟩) 35 35, .string y] (w.alloc (.cells (kwBytes.map Value.string).toArray 9)).drew fun e w' => e = .returned (.bool (decide (y.data.toList ∈ kwords))) ∧ (w.alloc (.cells (kwBytes.map Value.string).toArray 9)).drew = w' := by
  have h := refHas_any ((Strs.lit w kwBytes).below (below_drewN (Below.refl _ _) 1)) (by decide) (by decide) y
  have e : hasB kwBytes y = decide (y.data.toList ∈ kwords) := by
    by_cases hy : y.data.toList ∈ kwords
    · rw [decide_eq_true hy]
      refine hasB_yes (List.mem_map.2 ⟨_, hy, ?_⟩)
      simp
    · rw [decide_eq_false hy]
      refine hasB_no fun h => ?_
      obtain ⟨k, hk, rfl⟩ := List.mem_map.1 h
      simp at hy
      exact hy hk
  rw [e] at h
  exact h

/-- The kind that the reference gives. -/
def refKind (s : ByteArray) (k : Nat) : Nat := if (tokF (s.data.toList.drop k)).1 = 1 ∧ (s.extract k (k + (tokF (s.data.toList.drop k)).2)).data.toList ∈ kwords then 2 else (tokF (s.data.toList.drop k)).1

theorem tokKeep {w w' w'' : World} (h : Hid (Below w.heap.size w w')) (hb : Below w'.heap.size w' w'') : Hid (Below w.heap.size w w'') := bt h.out hb

set_option maxRecDepth 100000 in
set_option maxHeartbeats 3200000 in
theorem refToken_letter (s : ByteArray) (hs : s.size ≤ 4096) (k : Nat) (hk : k < s.size) (hl : letterB s[k] = true) (w : World) :
    Calls Tryz.prog 123 #[.string s, .int .i64 k] w fun e w' =>
      e = .returned (.tuple #[.int .i64 (refKind s k : Nat), .int .i64 ((k + (tokF (s.data.toList.drop k)).2 : Nat) : Int)]) ∧ Below w.heap.size w w' := by
  have hg := getD_bytes s k hk
  have hbl := bytes_len s
  have hdr := drop_get s.data.toList k (by rw [hbl]; exact hk)
  rw [hg] at hdr
  have ht : tokF (s.data.toList.drop k) = (1, ((s.data.toList.drop (k + 1)).takeWhile partB).length + 1) := by rw [hdr, tokF, if_pos hl]
  have hr := runTo_tok partB s.data.toList k (by rw [hbl]; exact hk) (by rw [hg]; unfold partB; rw [hl]; rfl)
  have hru := runTo_le partB s.data.toList k (by rw [hbl]; omega)
  rw [hbl] at hru
  have hrk : refKind s k = if (s.extract k (runTo partB s.data.toList k)).data.toList ∈ kwords then 2 else 1 := by
    unfold refKind
    rw [ht, hr]
    by_cases h : (s.extract k (k + (((s.data.toList.drop (k + 1)).takeWhile partB).length + 1))).data.toList ∈ kwords
    · rw [if_pos ⟨rfl, h⟩, if_pos h]
    · rw [if_neg (fun hh => h hh.2), if_neg h]
  rw [ht]
  rw [← hr, hrk]
  have hle0 := fun w' => refLetter_any s[k] w'
  rw [hl] at hle0
  have hkr : k ≤ runTo partB s.data.toList k := by unfold runTo; omega
  have hkw := fun w' => refKeywords_any w'
  have hhas := fun w' => hasKw_any (s.extract k (runTo partB s.data.toList k)) w'
  obtain ⟨c, hc⟩ : ∃ c, decide ((s.extract k (runTo partB s.data.toList k)).data.toList ∈ kwords) = c := ⟨_, rfl⟩
  have HV : Hid ((if (s.extract k (runTo partB s.data.toList k)).data.toList ∈ kwords then 2 else 1) = if c = true then 2 else 1) := by
    rw [← hc]
    show _ = _
    by_cases h : (s.extract k (runTo partB s.data.toList k)).data.toList ∈ kwords
    · rw [if_pos h, decide_eq_true h]; rfl
    · rw [if_neg h, decide_eq_false h]; rfl
  rw [hc] at hhas
  rw [HV.out]
  have HL : Hid (s.data.toList.length = s.size) := hbl
  clear hrk ht hr hdr hg hbl hc HV hl
  obtain ⟨R, hR⟩ : ∃ R, runTo partB s.data.toList k = R := ⟨_, rfl⟩
  rw [hR] at hhas hru hkr ⊢
  have HR := hidden hR
  clear hR
  go_enter Tryz.func123, Tryz.ntmps123
  go_wp2_with (go_at_call 140; (with_reducible refine (hle0 _).mono ?_); rintro e w1 ⟨rfl, rfl⟩)
  go_loop [6] (fun i => ∃ j : Nat, j ≤ s.size ∧ i = .int .i64 j ∧ Hid (R = runTo partB s.data.toList j)) (fun i => s.size - (intOf i).toNat)
  case atStart => exact ⟨k, by omega, rfl, HR.out.symm⟩
  case round =>
    obtain ⟨j, hj, rfl, hr⟩ := hrel
    clear hle0
    by_cases hlt : j < s.size
    · have hle := fun w' => refLetter_any s[j] w'
      have hdi := fun w' => refDigit_any s[j] w'
      have hg := getD_bytes s j hlt
      have hgo : partB s[j] = true → Hid (R = runTo partB s.data.toList (j + 1)) := fun h => hr.out.trans (runTo_yes _ _ _ (by rw [HL.out]; exact hlt) (by rw [hg]; exact h))
      have hno : partB s[j] = false → R = j := fun h => hr.out.trans (runTo_no _ _ _ (by rw [HL.out]; exact hlt) (by rw [hg]; exact h))
      unfold partB at hgo hno
      cases h1 : letterB s[j] with
      | true =>
        rw [h1] at hle hgo
        have HS := hgo rfl
        clear hgo hno h1 hg hdi
        go_wp2_with (go_at_call 140; (with_reducible refine (hle _).mono ?_); rintro e w1 ⟨rfl, rfl⟩)
        go_round
        case rel => exact ⟨j + 1, by omega, by go_num, HS⟩
        case measure => simp [intOf]; omega
      | false =>
        rw [h1] at hle hgo hno
        cases h2 : digitB s[j] with
        | true =>
          rw [h2] at hdi hgo
          have HS := hgo rfl
          clear hgo hno h1 h2 hg
          go_wp2_with (first | (go_at_call 140; (with_reducible refine (hle _).mono ?_); rintro e w1 ⟨rfl, rfl⟩) | (go_at_call 141; (with_reducible refine (hdi _).mono ?_); rintro e w1 ⟨rfl, rfl⟩))
          go_round
          case rel => exact ⟨j + 1, by omega, by go_num, HS⟩
          case measure => simp [intOf]; omega
        | false =>
          rw [h2] at hdi hgo hno
          by_cases h3 : s[j] = 95
          · have b3 : ((s[j].toNat : Int) == 95) = true := by rw [h3]; rfl
            have HS := hgo (by rw [h3]; rfl)
            clear hgo hno h1 h2 h3 hg
            go_wp2_with (first | (go_at_call 140; (with_reducible refine (hle _).mono ?_); rintro e w1 ⟨rfl, rfl⟩) | (go_at_call 141; (with_reducible refine (hdi _).mono ?_); rintro e w1 ⟨rfl, rfl⟩))
            go_round
            case rel => exact ⟨j + 1, by omega, by go_num, HS⟩
            case measure => simp [intOf]; omega
          · have b3 : ((s[j].toNat : Int) == 95) = false := byte_ne (c := 95) h3
            have hRj := hno (by simpa using h3)
            subst hRj
            clear hgo hno h1 h2 h3 hg
            go_wp2_with (first | (go_at_call 140; (with_reducible refine (hle _).mono ?_); rintro e w1 ⟨rfl, rfl⟩) | (go_at_call 141; (with_reducible refine (hdi _).mono ?_); rintro e w1 ⟨rfl, rfl⟩))
            cases c
            all_goals
              go_region_held3 (fun w' => Hid (Below w.heap.size w w'))
                (first | assumption | (exact tokKeep (by assumption) (by assumption)) | (exact (Below.refl _ _ : Below w.heap.size w w)) | (exact below_drewN (Below.refl w.heap.size w) 1) | (exact below_drewN ((Below.refl w.heap.size w).alloc (Nat.le_refl _) _) 1))
                (first | (go_at_call 142; (with_reducible refine (hkw _).mono ?_); rintro e w4 ⟨rfl, rfl⟩) | (go_at_call 87; (with_reducible refine (hhas _).mono ?_); rintro e w5 ⟨rfl, rfl⟩))
              go_wp2_with fail
              go_ret2
              exact ⟨rfl, below_drewN ((Below.refl w.heap.size w).alloc (Nat.le_refl _) _) 1⟩
    · have hRj : R = s.size := by
        have : j = s.size := by omega
        rw [hr.out, this]
        have := runTo_end partB s.data.toList
        rwa [HL.out] at this
      have hjs : j = s.size := by omega
      subst hjs
      subst hRj
      clear hlt hr
      go_wp2_with fail
      cases c
      all_goals
        go_region_held3 (fun w' => Hid (Below w.heap.size w w'))
          (first | assumption | (exact tokKeep (by assumption) (by assumption)) | (exact (Below.refl _ _ : Below w.heap.size w w)) | (exact below_drewN (Below.refl w.heap.size w) 1) | (exact below_drewN ((Below.refl w.heap.size w).alloc (Nat.le_refl _) _) 1))
          (first | (go_at_call 142; (with_reducible refine (hkw _).mono ?_); rintro e w4 ⟨rfl, rfl⟩) | (go_at_call 87; (with_reducible refine (hhas _).mono ?_); rintro e w5 ⟨rfl, rfl⟩))
        go_wp2_with fail
        go_ret2
        exact ⟨rfl, below_drewN ((Below.refl w.heap.size w).alloc (Nat.le_refl _) _) 1⟩

set_option maxRecDepth 100000 in
set_option maxHeartbeats 3200000 in
theorem refToken_digit (s : ByteArray) (hs : s.size ≤ 4096) (k : Nat) (hk : k < s.size) (hl : letterB s[k] = false) (hd : digitB s[k] = true) (w : World) :
    Calls Tryz.prog 123 #[.string s, .int .i64 k] w fun e w' =>
      e = .returned (.tuple #[.int .i64 (refKind s k : Nat), .int .i64 ((k + (tokF (s.data.toList.drop k)).2 : Nat) : Int)]) ∧ Below w.heap.size w w' := by
  have hg := getD_bytes s k hk
  have hbl := bytes_len s
  have hdr := drop_get s.data.toList k (by rw [hbl]; exact hk)
  rw [hg] at hdr
  have ht : tokF (s.data.toList.drop k) = (3, ((s.data.toList.drop (k + 1)).takeWhile digitB).length + 1) := by rw [hdr, tokF, if_neg (by rw [hl]; simp), if_pos hd]
  have hr := runTo_tok digitB s.data.toList k (by rw [hbl]; exact hk) (by rw [hg]; exact hd)
  have hru := runTo_le digitB s.data.toList k (by rw [hbl]; omega)
  rw [hbl] at hru
  have hrk : refKind s k = 3 := by unfold refKind; rw [ht]; simp
  rw [hrk, ht]
  rw [← hr]
  have hle0 := fun w' => refLetter_any s[k] w'
  have hdi0 := fun w' => refDigit_any s[k] w'
  rw [hl] at hle0
  rw [hd] at hdi0
  have HL : Hid (s.data.toList.length = s.size) := hbl
  clear hrk ht hr hdr hg hbl hl hd
  obtain ⟨R, hR⟩ : ∃ R, runTo digitB s.data.toList k = R := ⟨_, rfl⟩
  rw [hR] at hru ⊢
  have HR := hidden hR
  clear hR
  go_enter Tryz.func123, Tryz.ntmps123
  go_wp2_with (first | (go_at_call 140; (with_reducible refine (hle0 _).mono ?_); rintro e w1 ⟨rfl, rfl⟩) | (go_at_call 141; (with_reducible refine (hdi0 _).mono ?_); rintro e w1 ⟨rfl, rfl⟩))
  go_loop [6] (fun i => ∃ j : Nat, j ≤ s.size ∧ i = .int .i64 j ∧ Hid (R = runTo digitB s.data.toList j)) (fun i => s.size - (intOf i).toNat)
  case atStart => exact ⟨k, by omega, rfl, HR.out.symm⟩
  case round =>
    obtain ⟨j, hj, rfl, hr⟩ := hrel
    clear hle0 hdi0
    by_cases hlt : j < s.size
    · have hdi := fun w' => refDigit_any s[j] w'
      have hg := getD_bytes s j hlt
      have hgo : digitB s[j] = true → Hid (R = runTo digitB s.data.toList (j + 1)) := fun h => hr.out.trans (runTo_yes _ _ _ (by rw [HL.out]; exact hlt) (by rw [hg]; exact h))
      have hno : digitB s[j] = false → R = j := fun h => hr.out.trans (runTo_no _ _ _ (by rw [HL.out]; exact hlt) (by rw [hg]; exact h))
      cases h2 : digitB s[j] with
      | true =>
        rw [h2] at hdi
        have HS := hgo h2
        clear hgo hno h2 hg
        go_wp2_with (go_at_call 141; (with_reducible refine (hdi _).mono ?_); rintro e w1 ⟨rfl, rfl⟩)
        go_round
        case rel => exact ⟨j + 1, by omega, by go_num, HS⟩
        case measure => simp [intOf]; omega
      | false =>
        rw [h2] at hdi
        have hRj := hno h2
        subst hRj
        clear hgo hno h2 hg
        go_wp2_with (go_at_call 141; (with_reducible refine (hdi _).mono ?_); rintro e w1 ⟨rfl, rfl⟩)
        go_ret2
        exact ⟨rfl, Below.refl _ _⟩
    · have hRj : R = s.size := by
        have : j = s.size := by omega
        rw [hr.out, this]
        have := runTo_end digitB s.data.toList
        rwa [HL.out] at this
      have hjs : j = s.size := by omega
      subst hjs
      subst hRj
      clear hlt hr
      go_wp2_with fail
      go_ret2
      exact ⟨rfl, Below.refl _ _⟩

set_option maxRecDepth 100000 in
set_option maxHeartbeats 3200000 in
theorem refToken_symbol (s : ByteArray) (hs : s.size ≤ 4096) (k : Nat) (hk : k < s.size) (hl : letterB s[k] = false) (hd : digitB s[k] = false) (h0 : 0 < symL (s.data.toList.drop k)) (w : World) :
    Calls Tryz.prog 123 #[.string s, .int .i64 k] w fun e w' =>
      e = .returned (.tuple #[.int .i64 (refKind s k : Nat), .int .i64 ((k + (tokF (s.data.toList.drop k)).2 : Nat) : Int)]) ∧ Below w.heap.size w w' := by
  have hg := getD_bytes s k hk
  have hbl := bytes_len s
  have hdr := drop_get s.data.toList k (by rw [hbl]; exact hk)
  rw [hg] at hdr
  have hsl := symL_le (s.data.toList.drop k)
  rw [List.length_drop, hbl] at hsl
  have hsy := fun w' => refSymbol_any s hs k (by omega) w'
  have ht : tokF (s.data.toList.drop k) = (4, symL (s.data.toList.drop k)) := by rw [hdr] at h0 ⊢; rw [tokF, if_neg (by rw [hl]; simp), if_neg (by rw [hd]; simp), if_pos h0]
  have hrk : refKind s k = 4 := by unfold refKind; rw [ht]; simp
  rw [hrk, ht]
  have hle0 := fun w' => refLetter_any s[k] w'
  have hdi0 := fun w' => refDigit_any s[k] w'
  rw [hl] at hle0
  rw [hd] at hdi0
  generalize symL (s.data.toList.drop k) = n at *
  have hp : (0 : Int) < (n : Int) := by omega
  clear hrk ht hdr hg hbl hl hd h0
  go_enter Tryz.func123, Tryz.ntmps123
  go_wp2_with (first | (go_at_call 140; (with_reducible refine (hle0 _).mono ?_); rintro e w1 ⟨rfl, rfl⟩) | (go_at_call 141; (with_reducible refine (hdi0 _).mono ?_); rintro e w1 ⟨rfl, rfl⟩) | (go_at_call 143; (with_reducible refine (hsy _).mono ?_); rintro e w1 ⟨rfl, hB1⟩))
  go_ret2
  exact ⟨by congr 3, hB1⟩

set_option maxRecDepth 100000 in
set_option maxHeartbeats 3200000 in
theorem refToken_wrong (s : ByteArray) (hs : s.size ≤ 4096) (k : Nat) (hk : k < s.size) (hw : whiteB s[k] = false) (hc : s[k] ≠ 35) (hl : letterB s[k] = false) (hd : digitB s[k] = false) (h0 : symL (s.data.toList.drop k) = 0) (w : World) :
    Calls Tryz.prog 123 #[.string s, .int .i64 k] w fun e w' =>
      e = .returned (.tuple #[.int .i64 (refKind s k : Nat), .int .i64 ((k + (tokF (s.data.toList.drop k)).2 : Nat) : Int)]) ∧ Below w.heap.size w w' := by
  have hg := getD_bytes s k hk
  have hbl := bytes_len s
  have hdr := drop_get s.data.toList k (by rw [hbl]; exact hk)
  rw [hg] at hdr
  have hsy := fun w' => refSymbol_any s hs k (by omega) w'
  have ht : tokF (s.data.toList.drop k) = (5, wrongF (s.data.toList.drop (k + 1)) + 1) := by rw [hdr] at h0 ⊢; rw [tokF, if_neg (by rw [hl]; simp), if_neg (by rw [hd]; simp), if_neg (by omega)]
  have hr : wrongTo s.data.toList k = k + (wrongF (s.data.toList.drop (k + 1)) + 1) := by
    unfold wrongTo
    have he : endsB (s.data.toList.drop k) = false := by
      rw [hdr] at h0 ⊢
      show (whiteB s[k] || s[k] == 35 || letterB s[k] || digitB s[k] || decide (0 < symL (s[k] :: s.data.toList.drop (k + 1)))) = false
      rw [hw, hl, hd, h0]
      simpa using hc
    rw [hdr] at he ⊢
    rw [wrongF, if_neg (by rw [he]; simp)]
  have hru : wrongTo s.data.toList k ≤ s.size := by
    unfold wrongTo
    have := wrongF_le (s.data.toList.drop k)
    rw [List.length_drop, hbl] at this
    omega
  have hrk : refKind s k = 5 := by unfold refKind; rw [ht]; simp
  rw [hrk, ht]
  rw [← hr]
  have hle0 := fun w' => refLetter_any s[k] w'
  have hdi0 := fun w' => refDigit_any s[k] w'
  rw [hl] at hle0
  rw [hd] at hdi0
  rw [h0] at hsy
  have HL : Hid (s.data.toList.length = s.size) := hbl
  clear hrk ht hr hdr hg hbl hl hd h0 hw hc
  obtain ⟨R, hR⟩ : ∃ R, wrongTo s.data.toList k = R := ⟨_, rfl⟩
  rw [hR] at hru ⊢
  have HR := hidden hR
  clear hR
  go_enter Tryz.func123, Tryz.ntmps123
  go_wp2_with (first | (go_at_call 140; (with_reducible refine (hle0 _).mono ?_); rintro e w1 ⟨rfl, rfl⟩) | (go_at_call 141; (with_reducible refine (hdi0 _).mono ?_); rintro e w1 ⟨rfl, rfl⟩) | (go_at_call 143; (with_reducible refine (hsy _).mono ?_); rintro e w1 ⟨rfl, hB1⟩))
  have HB1 := hidden hB1
  clear hle0 hdi0 hsy hB1
  go_loopw [6] (fun i wr => ∃ j : Nat, j ≤ s.size ∧ i = .int .i64 j ∧ Hid (R = wrongTo s.data.toList j) ∧ Hid (Below w.heap.size w wr)) (fun i _ => s.size - (intOf i).toNat)
  case atStart => exact ⟨k, by omega, rfl, HR.out.symm, HB1⟩
  case round =>
    obtain ⟨j, hj, rfl, hr, hb⟩ := hrel
    by_cases hlt : j < s.size
    · have hwh := fun w' => refWhite_any s[j] w'
      have hle := fun w' => refLetter_any s[j] w'
      have hdi := fun w' => refDigit_any s[j] w'
      have hsy := fun w' => refSymbol_any s hs j (by omega) w'
      have hg := getD_bytes s j hlt
      have hdj := drop_get s.data.toList j (by rw [HL.out]; exact hlt)
      rw [hg] at hdj
      have hgo : endsB (s.data.toList.drop j) = false → Hid (R = wrongTo s.data.toList (j + 1)) := fun h => hr.out.trans (wrongTo_go _ _ (by rw [HL.out]; exact hlt) h)
      have hno : endsB (s.data.toList.drop j) = true → R = j := fun h => hr.out.trans (wrongTo_stop _ _ (by rw [HL.out]; exact hlt) h)
      have he : endsB (s.data.toList.drop j) = (whiteB s[j] || s[j] == 35 || letterB s[j] || digitB s[j] || decide (0 < symL (s.data.toList.drop j))) := by rw [hdj]; rfl
      rw [he] at hgo hno
      clear he hdj hg
      have hz := hb.out.size
      cases h1 : whiteB s[j] with
      | true =>
        rw [h1] at hwh
        have hRj := hno (by rw [h1]; simp)
        subst hRj
        clear hgo hno h1 hr
        go_wp2_with (first | (go_at_call 139; (with_reducible refine (hwh _).mono ?_); rintro e w2 ⟨rfl, rfl⟩))
        go_ret2
        exact ⟨rfl, hb.out⟩
      | false =>
        rw [h1] at hwh hgo hno
        by_cases h2 : s[j] = 35
        · have hRj := hno (by rw [h2]; simp)
          have b2 : ((s[j].toNat : Int) != 35) = false := by rw [h2]; rfl
          subst hRj
          clear hgo hno h1 hr h2
          go_wp2_with (first | (go_at_call 139; (with_reducible refine (hwh _).mono ?_); rintro e w2 ⟨rfl, rfl⟩))
          go_ret2
          exact ⟨rfl, hb.out⟩
        · have b2 : ((s[j].toNat : Int) != 35) = true := by
            show (!((s[j].toNat : Int) == 35)) = true
            rw [show ((s[j].toNat : Int) == 35) = false from byte_ne (c := 35) h2]; rfl
          have b2' : (s[j] == 35) = false := by simpa using h2
          rw [b2'] at hgo hno
          clear h2 b2'
          cases h3 : letterB s[j] with
          | true =>
            rw [h3] at hle
            have hRj := hno (by rw [h3]; simp)
            subst hRj
            clear hgo hno h1 hr h3
            go_wp2_with (first | (go_at_call 139; (with_reducible refine (hwh _).mono ?_); rintro e w2 ⟨rfl, rfl⟩) | (go_at_call 140; (with_reducible refine (hle _).mono ?_); rintro e w2 ⟨rfl, rfl⟩))
            go_ret2
            exact ⟨rfl, hb.out⟩
          | false =>
            rw [h3] at hle hgo hno
            cases h4 : digitB s[j] with
            | true =>
              rw [h4] at hdi
              have hRj := hno (by rw [h4]; simp)
              subst hRj
              clear hgo hno h1 hr h3 h4
              go_wp2_with (first | (go_at_call 139; (with_reducible refine (hwh _).mono ?_); rintro e w2 ⟨rfl, rfl⟩) | (go_at_call 140; (with_reducible refine (hle _).mono ?_); rintro e w2 ⟨rfl, rfl⟩) | (go_at_call 141; (with_reducible refine (hdi _).mono ?_); rintro e w2 ⟨rfl, rfl⟩))
              go_ret2
              exact ⟨rfl, hb.out⟩
            | false =>
              rw [h4] at hdi hgo hno
              by_cases h5 : symL (s.data.toList.drop j) = 0
              · rw [h5] at hsy
                have HS := hgo (by rw [h5]; rfl)
                clear hgo hno h1 h3 h4 h5
                go_wp2_with (first | (go_at_call 139; (with_reducible refine (hwh _).mono ?_); rintro e w2 ⟨rfl, rfl⟩) | (go_at_call 140; (with_reducible refine (hle _).mono ?_); rintro e w2 ⟨rfl, rfl⟩) | (go_at_call 141; (with_reducible refine (hdi _).mono ?_); rintro e w2 ⟨rfl, rfl⟩) | (go_at_call 143; (with_reducible refine (hsy _).mono ?_); rintro e w3 ⟨rfl, hB3⟩))
                go_roundw
                case rel => exact ⟨j + 1, by omega, by go_num, HS, bt hb.out hB3⟩
                case measure => simp [intOf]; omega
              · have hRj := hno (by simp; omega)
                generalize symL (s.data.toList.drop j) = n at *
                have b5 : ((n : Int) == 0) = false := by rw [beq_eq_false_iff_ne]; omega
                subst hRj
                clear hgo hno h1 h3 h4 h5 hr
                go_wp2_with (first | (go_at_call 139; (with_reducible refine (hwh _).mono ?_); rintro e w2 ⟨rfl, rfl⟩) | (go_at_call 140; (with_reducible refine (hle _).mono ?_); rintro e w2 ⟨rfl, rfl⟩) | (go_at_call 141; (with_reducible refine (hdi _).mono ?_); rintro e w2 ⟨rfl, rfl⟩) | (go_at_call 143; (with_reducible refine (hsy _).mono ?_); rintro e w3 ⟨rfl, hB3⟩))
                go_ret2
                exact ⟨rfl, bt hb.out hB3⟩
    · have hjs : j = s.size := by omega
      subst hjs
      have hRj : R = s.size := by
        rw [hr.out]
        have := wrongTo_end s.data.toList
        rwa [HL.out] at this
      subst hRj
      clear hlt hr
      go_wp2_with fail
      go_ret2
      exact ⟨rfl, hb.out⟩

theorem refToken_any (s : ByteArray) (hs : s.size ≤ 4096) (k : Nat) (hk : k < s.size) (hw : whiteB s[k] = false) (hc : s[k] ≠ 35) (w : World) :
    Calls Tryz.prog 123 #[.string s, .int .i64 k] w fun e w' =>
      e = .returned (.tuple #[.int .i64 (refKind s k : Nat), .int .i64 ((k + (tokF (s.data.toList.drop k)).2 : Nat) : Int)]) ∧ Below w.heap.size w w' := by
  cases hl : letterB s[k] with
  | true => exact refToken_letter s hs k hk hl w
  | false =>
    cases hd : digitB s[k] with
    | true => exact refToken_digit s hs k hk hl hd w
    | false =>
      by_cases h0 : symL (s.data.toList.drop k) = 0
      · exact refToken_wrong s hs k hk hw hc hl hd h0 w
      · exact refToken_symbol s hs k hk hl hd (by omega) w

end Go.Proofs.YtlbaaiglebpjiaaGreatDoor
/-
  The reference's Scan.
-/
namespace Go.Proofs.YtlbaaiglebpjiaaGreatDoor
open Go.RowKit Go.Shelf Go.Lib

theorem ref_kwT (s : ByteArray) (p : Nat) : kwT s (nextT s.data.toList p) = ⟨refKind s (skipTo s.data.toList p), p, skipTo s.data.toList p, skipTo s.data.toList p + (tokF (s.data.toList.drop (skipTo s.data.toList p))).2⟩ := by
  unfold kwT refKind
  by_cases h : (tokF (s.data.toList.drop (skipTo s.data.toList p))).1 = 1 ∧ (s.extract (skipTo s.data.toList p) (skipTo s.data.toList p + (tokF (s.data.toList.drop (skipTo s.data.toList p))).2)).data.toList ∈ kwords
  · rw [if_pos h]
    exact if_pos h
  · rw [if_neg h]
    exact if_neg h

theorem tok_starts (s : ByteArray) (p : Nat) (h : skipTo s.data.toList p < s.size) : whiteB s[skipTo s.data.toList p] = false ∧ s[skipTo s.data.toList p] ≠ 35 := by
  have hbl := bytes_len s
  have hg := getD_bytes s _ h
  have e : skipTo s.data.toList p = p + skipF false (s.data.toList.drop p) := rfl
  have hdr := drop_get s.data.toList (skipTo s.data.toList p) (by rw [hbl]; exact h)
  have h2 : s.data.toList.drop (skipTo s.data.toList p) = (s.data.toList.drop p).drop (skipTo s.data.toList p - p) := by rw [List.drop_drop]; congr 1; omega
  have hs : skipF false ((s.data.toList.drop p).take (skipTo s.data.toList p - p) ++ s.data.toList.drop (skipTo s.data.toList p)) = ((s.data.toList.drop p).take (skipTo s.data.toList p - p)).length := by
    rw [h2, List.take_append_drop, List.length_take, List.length_drop]
    omega
  rw [hg] at hdr
  generalize s[skipTo s.data.toList p] = c at *
  rw [hdr] at hs
  rcases skip_after false _ _ hs with h1 | h1
  · have := (skip_cons _ _).1 h1
    unfold gapB at this
    simp only [Bool.or_eq_false_iff] at this
    exact ⟨this.1, by simpa using this.2⟩
  · cases h1

theorem own_ge' {w : World} {base e size n : Nat} {v : Value} {xs : List Value} (h : w.ownsRow base e size v n xs) : ∀ k, v.ownBlock = some k → base ≤ k := row_block h

theorem toks_take {s : ByteArray} {k p : Nat} (h : TokHere s k p) : (toksK s).take (k + 1) = (toksK s).take k ++ [kwT s (nextT s.data.toList p)] := by
  have := tokHere_get h
  rw [List.take_add_one, this]; rfl

theorem owns_below {w w' : World} {base e size n : Nat} {v : Value} {xs : List Value} (h : w.ownsRow base e size v n xs) (hb : Below w.heap.size w w') : w'.ownsRow base e size v n xs := by
  refine ⟨h.1, ?_⟩
  rcases h.2 with h | ⟨g, cap, cur, h1, h2, h3, h4⟩
  · exact .inl h
  · exact .inr ⟨g, cap, cur, h1, h2, (hb.block g (Array.getElem?_eq_some_iff.1 h3).1).trans h3, h4⟩

set_option maxRecDepth 100000 in
set_option maxHeartbeats 3200000 in
theorem refScan_any (s : ByteArray) (hs : s.size ≤ 4096) (w : World) :
    Calls Tryz.prog 114 #[.string s] w fun e w' => ∃ v, e = .returned (.tuple #[v, .int .i64 0]) ∧ ToksOf w (toksK s) v w' := by
  obtain ⟨i0, hi, hz0, hz1, hz2⟩ := info_parts infoTok
  have hlen := toksK_len s hs
  have hbl := bytes_len s
  have b1 : ¬ ((4096 : Int) < (s.size : Int)) := by omega
  have hpos : 0 < (toksK s).length := List.length_pos_iff.2 (toksK_ne s)
  go_enter Tryz.func114, Tryz.ntmps114
  go_wp2_with fail
  obtain ⟨w2, hw2⟩ : ∃ w2, w2 = w.alloc (.cells #[] 96) := ⟨_, rfl⟩
  have hB2 : Below w.heap.size w w2 := by rw [hw2]; exact (Below.refl _ _).alloc (Nat.le_refl _) _
  have hown0 : w2.ownsRow w.heap.size 96 4 (.slice (some ⟨w.heap.size, 0, none⟩) 0 0) 0 [] :=
    ⟨rfl, Or.inr ⟨w.heap.size, 0, #[], rfl, Nat.le_refl _, by rw [hw2]; exact World.alloc_heap_new _ _, Nat.le_refl _, Nat.zero_le _, rfl, rfl⟩⟩
  rw [← hw2]
  clear hw2
  go_loopw [4, 5] (fun out fr wr => ∃ k p : Nat, k < (toksK s).length ∧ fr = .int .i64 p ∧ p ≤ s.size ∧ Hid (TokHere s k p ∧ wr.ownsRow w.heap.size 96 4 out k (toksC ((toksK s).take k)) ∧ Below w.heap.size w wr)) (fun _ fr _ => s.size - (intOf fr).toNat)
  case atStart => exact ⟨0, 0, hpos, rfl, Nat.zero_le _, tokHere_first s, hown0, hB2⟩
  case round =>
    obtain ⟨k, p, hk, rfl, hp, hh⟩ := hrel
    clear hown0 hB2
    obtain ⟨ht, hown, hB⟩ := hh.out
    have hz := hB.size
    have hsk := fun w' => refSkip_any s hs p hp w'
    have hkT := ref_kwT s p
    have hfa := nextT_facts s.data.toList p (by rw [hbl]; exact hp)
    rw [hbl] at hfa
    obtain ⟨f1, f2, f3, f4, f5, f6⟩ := hfa
    have e1 : (nextT s.data.toList p).at_ = skipTo s.data.toList p := rfl
    have e2 : (nextT s.data.toList p).end_ = skipTo s.data.toList p + (tokF (s.data.toList.drop (skipTo s.data.toList p))).2 := rfl
    have htk := toks_take ht
    rw [hkT] at htk
    have hst := tok_starts s p
    by_cases h0 : (nextT s.data.toList p).kind = 0
    · obtain ⟨l1, l2, l3⟩ := tokHere_last ht h0
      rw [e1] at l2
      rw [e2, l2] at l3
      rw [kwT_other s _ (by omega)] at hkT
      have hx : (nextT s.data.toList p) = ⟨0, p, s.size, s.size⟩ := by
        rw [hkT]
        have := congrArg Tok.kind hkT
        rw [h0] at this
        simp only at this
        rw [← this, l2, l3]
      have HT : Hid (toksC (toksK s) = toksC ((toksK s).take k) ++ tokC ⟨0, p, s.size, s.size⟩) := by
        rw [← hkT, hx] at htk
        show _ = _
        rw [← toksC_snoc, ← htk, l1, List.take_length]
      rw [l2] at hsk
      have HL : Hid ((toksK s).length = k + 1) := l1.symm
      clear hkT f1 f2 f3 f4 f5 f6 e1 e2 htk hst h0 l1 l2 l3 hx hh ht
      go_wp2_with (first | (go_at_call 122; (with_reducible refine (hsk _).mono ?_); rintro e w1 ⟨rfl, rfl⟩) | (at_builtin; refine wpList_append_own _ rfl (.tmp 37) (.tmp 44) 106 rfl w.heap.size 96 i0 (.agg #[.int .i64 0, .int .i64 0, .int .i64 0, .int .i64 0]) 4 32 Tryz.underlying106 hi hz0 hz1 hz2 rfl (by decide) _ _ _ rfl (hown.alloc _) ⟨wr.heap.size, 0, none⟩ 1 1 (tokC ⟨0, p, s.size, s.size⟩) rfl rfl (tokC_new _ _ _) (tokC_one _) (by unfold maxLen; omega) (by omega) (by simp; omega) ?_; intro v' w5 hown5 hgrow5 _))
      go_ret2
      exact ⟨_, rfl, by rw [HL.out, HT.out]; exact hown5, (hB.alloc hz _).grown hgrow5 (by simp; omega) (own_ge' hown)⟩
    · obtain ⟨l1, l2, l3⟩ := tokHere_next ht h0
      rw [e1, e2] at l2
      rw [e2] at l3
      rw [e1, e2] at f3
      rw [e2] at f4
      have hlt : skipTo s.data.toList p < s.size := by omega
      obtain ⟨hw, hc⟩ := hst hlt
      have htok := fun w' => refToken_any s hs _ hlt hw hc w'
      have HT : Hid (toksC ((toksK s).take (k + 1)) = toksC ((toksK s).take k) ++ tokC ⟨refKind s (skipTo s.data.toList p), p, skipTo s.data.toList p, skipTo s.data.toList p + (tokF (s.data.toList.drop (skipTo s.data.toList p))).2⟩) := by
        show _ = _
        rw [htk, toksC_snoc]
      have HN := hidden l3
      rw [e1] at f2
      generalize refKind s (skipTo s.data.toList p) = kd at *
      generalize skipTo s.data.toList p + (tokF (s.data.toList.drop (skipTo s.data.toList p))).2 = e at *
      generalize skipTo s.data.toList p = a at *
      clear hkT f1 f5 f6 e1 e2 htk hst h0 l3 hh ht hw hc
      go_wp2_with (first | (go_at_call 122; (with_reducible refine (hsk _).mono ?_); rintro e w1 ⟨rfl, rfl⟩) | (go_at_call 123; (with_reducible refine (htok _).mono ?_); rintro e w3 ⟨rfl, hB3⟩; have hown3 := owns_below hown hB3; have hB4 := bt hB hB3) | (at_builtin; refine wpList_append_own _ rfl (.tmp 28) (.tmp 34) 106 rfl w.heap.size 96 i0 (.agg #[.int .i64 0, .int .i64 0, .int .i64 0, .int .i64 0]) 4 32 Tryz.underlying106 hi hz0 hz1 hz2 rfl (by decide) _ _ _ rfl (hown3.alloc _) ⟨w3.heap.size, 0, none⟩ 1 1 (tokC ⟨kd, p, a, e⟩) rfl rfl (tokC_new _ _ _) (tokC_one _) (by unfold maxLen; omega) (by omega) (by simp; have := hB4.size; omega) ?_; intro v' w5 hown5 hgrow5 _))
      go_roundw
      case rel => exact ⟨k + 1, e, l1, rfl, f4, HN.out, by rw [HT.out]; exact hown5, (hB4.alloc hB4.size _).grown hgrow5 (by simp; have := hB4.size; omega) (own_ge' hown)⟩
      case measure => simp [intOf]; omega

end Go.Proofs.YtlbaaiglebpjiaaGreatDoor
namespace Go.Proofs.YtlbaaiglebpjiaaGreatDoor
open Go.RowKit Go.Shelf Go.Lib
attribute [local go_sem] Oper.semAt_some

theorem kindW_toks (s : ByteArray) : ∃ t r, toksK s = t :: r ∧ kindW s = if (toksK s).length = 2 ∧ t.at_ = 0 ∧ t.end_ = s.size then t.kind else 0 := by
  have hg := tokHere_get (tokHere_first s)
  obtain ⟨r, hr⟩ : ∃ r, toksK s = kwT s (nextT s.data.toList 0) :: r := by
    cases h : toksK s with
    | nil => exact absurd h (toksK_ne s)
    | cons a r =>
      rw [h] at hg
      simp at hg
      exact ⟨r, by rw [hg]⟩
  refine ⟨_, r, hr, ?_⟩
  have hk1 : (kwT s (nextT s.data.toList 0)).at_ = (nextT s.data.toList 0).at_ := by unfold kwT; split <;> rfl
  have hk2 : (kwT s (nextT s.data.toList 0)).end_ = (nextT s.data.toList 0).end_ := by unfold kwT; split <;> rfl
  rw [hk1, hk2]
  by_cases h0 : (nextT s.data.toList 0).kind = 0
  · obtain ⟨h1, _, _⟩ := tokHere_last (tokHere_first s) h0
    rw [if_neg (by omega)]
    have hN : kindN s = 0 := by unfold kindN; split <;> simp [h0]
    unfold kindW
    rw [hN]; simp
  · obtain ⟨h1, h2, h3⟩ := tokHere_next (tokHere_first s) h0
    by_cases hc : (nextT s.data.toList 0).at_ = 0 ∧ (nextT s.data.toList 0).end_ = s.size
    · rw [hc.2] at h3
      have hk : (nextT s.data.toList s.size).kind = 0 := by
        have h4 := nextT_facts s.data.toList s.size (by rw [bytes_len]; exact Nat.le_refl _)
        rw [bytes_len] at h4
        rcases Nat.eq_zero_or_pos (nextT s.data.toList s.size).kind with h5 | h5
        · exact h5
        · have := h4.2.2.2.2.2 (by omega)
          omega
      obtain ⟨h4, _, _⟩ := tokHere_last h3 hk
      rw [if_pos ⟨by omega, hc.1, hc.2⟩]
      have hN : kindN s = (nextT s.data.toList 0).kind := by unfold kindN; rw [if_pos hc]
      have hw : wordOf s (nextT s.data.toList 0) = s := by
        unfold wordOf
        rw [hc.1, hc.2]
        simp
      unfold kindW kwT
      rw [hN, hw]
      split <;> rfl
    · rw [if_neg (fun h => hc ⟨h.2.1, h.2.2⟩)]
      have hN : kindN s = 0 := by unfold kindN; rw [if_neg hc]
      unfold kindW
      rw [hN]; simp

set_option maxRecDepth 100000 in
set_option maxHeartbeats 1600000 in
theorem refKind_any (s : ByteArray) (hs : s.size ≤ 4096) (w : World) :
    Calls Tryz.prog 106 #[.string s] w fun e w' => e = .returned (.int .i64 (kindW s : Nat)) ∧ Below w.heap.size w w' := by
  obtain ⟨t, r, hcons, hkw⟩ := kindW_toks s
  have hsc : Calls Tryz.prog 114 #[.string s] w fun e w' => ∃ g cap, e = .returned (.tuple #[.slice (some ⟨g, 0, none⟩) (toksK s).length cap, .int .i64 0]) ∧ TokAt w' g 0 t ∧ Below w.heap.size w w' :=
    (refScan_any s hs w).mono (by
      rintro e w' ⟨v, rfl, h1, h2⟩
      obtain ⟨g, cap, rfl, hg, hc⟩ := tokRow_of h1 (toksK_ne s)
      exact ⟨g, cap, rfl, by have := hc 0 t (by rw [hcons]; rfl); rwa [Nat.zero_mul] at this, h2⟩)
  have hlen : (toksK s).length ≤ 10000 := toksK_len s hs
  have hpos : 0 < (toksK s).length := by rw [hcons]; simp
  obtain ⟨K, hK⟩ : ∃ K, kindW s = K := ⟨_, rfl⟩
  rw [hK] at hkw ⊢
  generalize (toksK s).length = n at *
  have HKW := hidden hkw
  clear hkw hcons hK
  by_cases h2 : n = 2
  · subst h2
    by_cases h3 : t.at_ = 0
    · have b3 : ((t.at_ : Int) != 0) = false := by rw [h3]; rfl
      have b3' : ((t.at_ : Int) == 0) = true := by rw [h3]; rfl
      by_cases h4 : t.end_ = s.size
      · have b4 : ((t.end_ : Int) != (s.size : Int)) = false := by rw [h4]; simp
        have b4' : ((t.end_ : Int) == (s.size : Int)) = true := by rw [h4]; simp
        have HF : Hid (K = t.kind) := by show _ = _; rw [HKW.out, if_pos ⟨rfl, h3, h4⟩]
        clear h3 h4
        go_enter Tryz.func106, Tryz.ntmps106
        go_wp2_with fail
        (with_reducible refine hsc.mono ?_)
        rintro e w1 ⟨g, cap, rfl, ht, hB⟩
        have c0 := ht.c0
        have c2 := ht.c2
        have c3 := ht.c3
        rw [Nat.zero_add] at c2 c3
        have HB := hidden hB
        clear ht hB hsc
        go_wp2_with fail
        go_ret
        exact ⟨by rw [HF.out]; rfl, HB.out⟩
      · have b4 : ((t.end_ : Int) != (s.size : Int)) = true := by rw [bne_iff_ne]; omega
        have b4' : ((t.end_ : Int) == (s.size : Int)) = false := by rw [beq_eq_false_iff_ne]; omega
        have HF : Hid (K = 0) := by show _ = _; rw [HKW.out, if_neg (fun h => h4 h.2.2)]
        clear h3 h4
        go_enter Tryz.func106, Tryz.ntmps106
        go_wp2_with fail
        (with_reducible refine hsc.mono ?_)
        rintro e w1 ⟨g, cap, rfl, ht, hB⟩
        have c0 := ht.c0
        have c2 := ht.c2
        have c3 := ht.c3
        rw [Nat.zero_add] at c2 c3
        have HB := hidden hB
        clear ht hB hsc
        go_wp2_with fail
        go_ret
        exact ⟨by rw [HF.out]; rfl, HB.out⟩
    · have b3 : ((t.at_ : Int) != 0) = true := by rw [bne_iff_ne]; omega
      have b3' : ((t.at_ : Int) == 0) = false := by rw [beq_eq_false_iff_ne]; omega
      have HF : Hid (K = 0) := by show _ = _; rw [HKW.out, if_neg (fun h => h3 h.2.1)]
      clear h3
      go_enter Tryz.func106, Tryz.ntmps106
      go_wp2_with fail
      (with_reducible refine hsc.mono ?_)
      rintro e w1 ⟨g, cap, rfl, ht, hB⟩
      have c0 := ht.c0
      have c2 := ht.c2
      have c3 := ht.c3
      rw [Nat.zero_add] at c2 c3
      have HB := hidden hB
      clear ht hB hsc
      go_wp2_with fail
      go_ret
      exact ⟨by rw [HF.out]; rfl, HB.out⟩
  · have b2 : ((n : Int) != 2) = true := by rw [bne_iff_ne]; omega
    have b2' : ((n : Int) == 2) = false := by rw [beq_eq_false_iff_ne]; omega
    have HF : Hid (K = 0) := by show _ = _; rw [HKW.out, if_neg (fun h => h2 h.1)]
    clear h2
    go_enter Tryz.func106, Tryz.ntmps106
    go_wp2_with fail
    (with_reducible refine hsc.mono ?_)
    rintro e w1 ⟨g, cap, rfl, ht, hB⟩
    have HB := hidden hB
    clear ht hB hsc
    go_wp2_with fail
    go_ret
    exact ⟨by rw [HF.out]; rfl, HB.out⟩

set_option maxRecDepth 100000 in
set_option maxHeartbeats 1600000 in
theorem refName_any (s : ByteArray) (hs : s.size ≤ 4096) (w : World) :
    Calls Tryz.prog 84 #[.string s] w fun e w' => e = .returned (.bool (nameB s)) ∧ Below w.heap.size w w' := by
  have hk := refKind_any s hs w
  obtain ⟨r, hr⟩ : ∃ r, nameB s = r := ⟨_, rfl⟩
  rw [hr]
  have HR := hidden hr
  obtain ⟨K, hK⟩ : ∃ K, kindW s = K := ⟨_, rfl⟩
  rw [hK] at hk
  have HK := hidden hK
  clear hr hK
  by_cases h1 : K = 1
  · subst h1
    by_cases h2 : s.size ≤ 16
    · have HF : Hid (r = true) := by show _ = _; rw [← HR.out]; unfold nameB; rw [HK.out, decide_eq_true h2]; rfl
      have h2z : (s.size : Int) ≤ 16 := by omega
      clear h2
      go_enter Tryz.func84, Tryz.ntmps84
      go_wp2_with fail
      (with_reducible refine hk.mono ?_)
      rintro e w1 ⟨rfl, hB⟩
      have HB := hidden hB
      clear hB hk
      go_wp2_with fail
      go_ret
      exact ⟨by rw [HF.out]; (first | rfl | (simp; done) | (simp; omega)), HB.out⟩
    · have HF : Hid (r = false) := by show _ = _; rw [← HR.out]; unfold nameB; rw [decide_eq_false h2]; rfl
      have h2z : ¬ (s.size : Int) ≤ 16 := by omega
      clear h2
      go_enter Tryz.func84, Tryz.ntmps84
      go_wp2_with fail
      (with_reducible refine hk.mono ?_)
      rintro e w1 ⟨rfl, hB⟩
      have HB := hidden hB
      clear hB hk
      go_wp2_with fail
      go_ret
      exact ⟨by rw [HF.out]; (first | rfl | (simp; done) | (simp; omega)), HB.out⟩
  · have b1 : ((K : Int) == 1) = false := by rw [beq_eq_false_iff_ne]; omega
    have HF : Hid (r = false) := by show _ = _; rw [← HR.out]; unfold nameB; rw [HK.out, decide_eq_false h1]; simp
    clear h1
    go_enter Tryz.func84, Tryz.ntmps84
    go_wp2_with fail
    (with_reducible refine hk.mono ?_)
    rintro e w1 ⟨rfl, hB⟩
    have HB := hidden hB
    clear hB hk
    go_wp2_with fail
    go_ret
    exact ⟨by rw [HF.out]; rfl, HB.out⟩

end Go.Proofs.YtlbaaiglebpjiaaGreatDoor
