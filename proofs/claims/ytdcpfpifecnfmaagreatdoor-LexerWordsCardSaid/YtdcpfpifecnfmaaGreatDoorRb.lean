import Derived.Test.YtdcpfpifecnfmaaGreatDoorLr
import Derived.Test.YtdcpfpifecnfmaaGreatDoorRa
import Derived.Test.YtdcpfpifecnfmaaGreatDoorKx
import Derived.IntWalk
/-
  The reference: lists of words, symbols.
-/
namespace Go.Proofs.YtdcpfpifecnfmaaGreatDoor
open Go.RowKit Go.Shelf Go.Lib

/-- The symbols, those with two bytes first. -/
def syms : List ByteArray := [⟨#[61, 61]⟩, ⟨#[33, 61]⟩, ⟨#[60, 61]⟩, ⟨#[62, 61]⟩, ⟨#[46, 46]⟩, ⟨#[60]⟩, ⟨#[62]⟩, ⟨#[61]⟩, ⟨#[43]⟩, ⟨#[45]⟩, ⟨#[42]⟩, ⟨#[40]⟩, ⟨#[41]⟩, ⟨#[123]⟩, ⟨#[125]⟩, ⟨#[44]⟩, ⟨#[58]⟩, ⟨#[59]⟩]

theorem symbols_any (w : World) :
    Calls Tryz.prog 71 #[] w fun e w' => e = .returned (.slice (some ⟨w.heap.size, 0, none⟩) 18 18) ∧ w' = w.alloc (.cells (syms.map Value.string).toArray 9) := by
  go_enter Tryz.func71, Tryz.ntmps71
  go_wp2_with fail
  go_ret
  exact ⟨rfl, rfl⟩

def kwBytes : List ByteArray := kwords.map fun k => ⟨k.toArray⟩

theorem refKeywords_any (w : World) :
    Calls Tryz.prog 56 #[] w fun e w' => e = .returned (.slice (some ⟨w.heap.size, 0, none⟩) 35 35) ∧ w' = w.alloc (.cells (kwBytes.map Value.string).toArray 9) := by
  go_enter Tryz.func56, Tryz.ntmps56
  go_wp2_with fail
  go_ret
  exact ⟨rfl, rfl⟩

theorem str_ne {x y : ByteArray} (h : ¬ x = y) : (x.toList == y.toList) = false := by
  rw [beq_eq_false_iff_ne, ByteArray.toList_eq, ByteArray.toList_eq]
  intro e
  apply h
  obtain ⟨⟨a⟩⟩ := x
  obtain ⟨⟨b⟩⟩ := y
  simpa using e

def hasB (xs : List ByteArray) (y : ByteArray) : Bool := xs.any fun z => decide (z = y)
theorem hasB_yes {xs : List ByteArray} {y : ByteArray} (h : y ∈ xs) : hasB xs y = true := List.any_eq_true.2 ⟨y, h, decide_eq_true rfl⟩
theorem hasB_no {xs : List ByteArray} {y : ByteArray} (h : y ∉ xs) : hasB xs y = false := by
  cases he : hasB xs y with
  | false => rfl
  | true =>
    obtain ⟨z, hz, e⟩ := List.any_eq_true.1 he
    exact absurd (of_decide_eq_true e ▸ hz) h

set_option maxHeartbeats 800000 in
theorem refHas_any {w : World} {v : Value} {xs : List ByteArray} (h : Strs w v xs) (hx : xs.length ≤ 4096) (h0 : xs ≠ []) (y : ByteArray) :
    Calls Tryz.prog 55 #[v, .string y] w fun e w' => e = .returned (.bool (hasB xs y)) ∧ w = w' := by
  rcases h with ⟨_, h⟩ | ⟨g, cap, rfl, hg, hc⟩
  · exact absurd h h0
  have hmem : ∀ k, k < xs.length → xs.getD k ByteArray.empty = y → y ∈ xs := fun k hk e => by
    rw [List.getD_eq_getElem?_getD, List.getElem?_eq_getElem hk] at e
    exact e ▸ List.getElem_mem hk
  have hnone : (∀ j, j < xs.length → xs.getD j ByteArray.empty ≠ y) → y ∉ xs := fun h hy => by
    obtain ⟨i, hi, e⟩ := List.mem_iff_getElem.1 hy
    exact h i hi (by rw [List.getD_eq_getElem?_getD, List.getElem?_eq_getElem hi]; exact e)
  have HM : Hid ((∀ k, k < xs.length → xs.getD k ByteArray.empty = y → hasB xs y = true) ∧ ((∀ j, j < xs.length → xs.getD j ByteArray.empty ≠ y) → hasB xs y = false)) :=
    ⟨fun k hk e => hasB_yes (hmem k hk e), fun h => hasB_no (hnone h)⟩
  clear hmem hnone h0
  generalize hasB xs y = r at *
  have HC := hidden hc
  clear hc
  generalize hn : xs.length = n at *
  clear hn
  go_enter Tryz.func55, Tryz.ntmps55
  go_wp2
  go_loop [5] (fun i => ∃ k : Nat, k ≤ n ∧ i = .int .i64 k ∧ Hid (∀ j, j < k → xs.getD j ByteArray.empty ≠ y)) (fun i => n - (intOf i).toNat)
  case atStart => exact ⟨0, Nat.zero_le _, rfl, fun j hj => by omega⟩
  case round =>
    obtain ⟨k, hk, rfl, hno⟩ := hrel
    by_cases hlt : k < n
    · have hcell := HC.out k hlt
      have hm := HM.out.1 k hlt
      have HN : xs.getD k ByteArray.empty ≠ y → Hid (∀ j, j < k + 1 → xs.getD j ByteArray.empty ≠ y) := fun h j hj => by
        rcases Nat.lt_or_eq_of_le (Nat.le_of_lt_succ hj) with h' | rfl
        · exact hno.out j h'
        · exact h
      generalize xs.getD k ByteArray.empty = x at *
      rw [Nat.zero_add] at hcell
      clear hno
      by_cases e : x = y
      · have HB : Hid (r = true) := hm e
        subst e
        clear hm HN
        go_wp2
        go_ret
        exact ⟨by rw [HB.out]; rfl, rfl⟩
      · have e1 : (x.toList == y.toList) = false := str_ne e
        have HS := HN e
        clear hm HN e
        go_wp2
        go_round
        case rel => exact ⟨k + 1, by omega, by go_num, HS⟩
        case measure => simp [intOf]; omega
    · obtain rfl : k = n := by omega
      have HB : Hid (r = false) := HM.out.2 hno.out
      clear hlt hno
      go_wp2
      go_ret
      exact ⟨by rw [HB.out]; rfl, rfl⟩

/-- Symbol number k stands at the beginning. -/
def symAt (k : Nat) (l : List UInt8) : Prop := l.take (syms.getD k ByteArray.empty).size = (syms.getD k ByteArray.empty).data.toList

theorem two_at {a b : UInt8} (r : List UInt8) (h : twoB a b = true) : ∃ k, k < 5 ∧ symAt k (a :: b :: r) := by
  unfold twoB at h
  simp only [Bool.or_eq_true, Bool.and_eq_true, beq_iff_eq] at h
  rcases h with ⟨rfl, ((rfl | rfl) | rfl) | rfl⟩ | ⟨rfl, rfl⟩
  · exact ⟨0, by omega, rfl⟩
  · exact ⟨1, by omega, rfl⟩
  · exact ⟨2, by omega, rfl⟩
  · exact ⟨3, by omega, rfl⟩
  · exact ⟨4, by omega, rfl⟩

theorem one_at {a : UInt8} (r : List UInt8) (h : oneB a = true) : ∃ k, 5 ≤ k ∧ k < 18 ∧ symAt k (a :: r) := by
  unfold oneB at h
  have h := of_decide_eq_true h
  simp only [List.mem_cons, List.not_mem_nil, or_false] at h
  rcases h with rfl | rfl | rfl | rfl | rfl | rfl | rfl | rfl | rfl | rfl | rfl | rfl | rfl
  · exact ⟨5, by omega, by omega, rfl⟩
  · exact ⟨6, by omega, by omega, rfl⟩
  · exact ⟨7, by omega, by omega, rfl⟩
  · exact ⟨8, by omega, by omega, rfl⟩
  · exact ⟨9, by omega, by omega, rfl⟩
  · exact ⟨10, by omega, by omega, rfl⟩
  · exact ⟨11, by omega, by omega, rfl⟩
  · exact ⟨12, by omega, by omega, rfl⟩
  · exact ⟨13, by omega, by omega, rfl⟩
  · exact ⟨14, by omega, by omega, rfl⟩
  · exact ⟨15, by omega, by omega, rfl⟩
  · exact ⟨16, by omega, by omega, rfl⟩
  · exact ⟨17, by omega, by omega, rfl⟩

theorem sym_none {l : List UInt8} (h : ∀ j, j < 18 → ¬ symAt j l) : symL l = 0 := by
  cases l with
  | nil => rfl
  | cons a t =>
    have h1 : oneB a = false := by
      cases ho : oneB a with
      | false => rfl
      | true => obtain ⟨k, _, h2, h3⟩ := one_at t ho; exact absurd h3 (h k h2)
    cases t with
    | nil => rw [symL, if_neg (by rw [h1]; simp)]
    | cons b t =>
      have h2 : twoB a b = false := by
        cases ho : twoB a b with
        | false => rfl
        | true => obtain ⟨k, h2, h3⟩ := two_at t ho; exact absurd h3 (h k (by omega))
      rw [symL, if_neg (by rw [h2]; simp), if_neg (by rw [h1]; simp)]

theorem sym_hit2 {l : List UInt8} (a b : UInt8) (hl : l.take 2 = [a, b]) (h2 : twoB a b = true) : symL l = 2 := by
  match l, hl with
  | x :: y :: t, hl =>
    simp at hl
    obtain ⟨rfl, rfl⟩ := hl
    rw [symL, if_pos h2]

theorem sym_hit1 {l : List UInt8} (a : UInt8) (hl : l.take 1 = [a]) (h1 : oneB a = true) (hno : ∀ j, j < 5 → ¬ symAt j l) : symL l = 1 := by
  match l, hl with
  | [x], hl =>
    simp at hl
    subst hl
    rw [symL, if_pos h1]
  | x :: y :: t, hl =>
    simp at hl
    subst hl
    have h2 : twoB x y = false := by
      cases ho : twoB x y with
      | false => rfl
      | true => obtain ⟨k, h2, h3⟩ := two_at t ho; exact absurd h3 (hno k (by omega))
    rw [symL, if_neg (by rw [h2]; simp), if_pos h1]

theorem sym_hit {l : List UInt8} (k : Nat) (hk : k < 18) (h : symAt k l) (hno : ∀ j, j < k → ¬ symAt j l) : symL l = (syms.getD k ByteArray.empty).size := by
  have hno5 : 5 ≤ k → ∀ j, j < 5 → ¬ symAt j l := fun h5 j hj => hno j (by omega)
  clear hno
  rcases k with _ | _ | _ | _ | _ | _ | _ | _ | _ | _ | _ | _ | _ | _ | _ | _ | _ | _ | k
  · exact sym_hit2 61 61 h rfl
  · exact sym_hit2 33 61 h rfl
  · exact sym_hit2 60 61 h rfl
  · exact sym_hit2 62 61 h rfl
  · exact sym_hit2 46 46 h rfl
  · exact sym_hit1 60 h rfl (hno5 (by omega))
  · exact sym_hit1 62 h rfl (hno5 (by omega))
  · exact sym_hit1 61 h rfl (hno5 (by omega))
  · exact sym_hit1 43 h rfl (hno5 (by omega))
  · exact sym_hit1 45 h rfl (hno5 (by omega))
  · exact sym_hit1 42 h rfl (hno5 (by omega))
  · exact sym_hit1 40 h rfl (hno5 (by omega))
  · exact sym_hit1 41 h rfl (hno5 (by omega))
  · exact sym_hit1 123 h rfl (hno5 (by omega))
  · exact sym_hit1 125 h rfl (hno5 (by omega))
  · exact sym_hit1 44 h rfl (hno5 (by omega))
  · exact sym_hit1 58 h rfl (hno5 (by omega))
  · exact sym_hit1 59 h rfl (hno5 (by omega))
  · omega

theorem syms_size (k : Nat) : (syms.getD k ByteArray.empty).size ≤ 2 := by
  rcases k with _ | _ | _ | _ | _ | _ | _ | _ | _ | _ | _ | _ | _ | _ | _ | _ | _ | _ | k <;> first | decide | exact Nat.zero_le _

/-- A symbol at an offset, as the reference asks. -/
theorem symAt_iff (s x : ByteArray) (k at_ : Nat) (hx : syms.getD k ByteArray.empty = x) : symAt k (s.data.toList.drop at_) ↔ s.extract at_ (at_ + x.size) = x := by
  unfold symAt
  rw [hx]
  constructor
  · intro e
    apply ByteArray.ext
    apply Array.ext'
    rw [Lib.extract_data, show at_ + x.size - at_ = x.size by omega]
    exact e
  · intro e
    have := congrArg (fun z : ByteArray => z.data.toList) e
    simp only [Lib.extract_data] at this
    rw [show at_ + x.size - at_ = x.size by omega] at this
    exact this

set_option maxRecDepth 100000 in
set_option maxHeartbeats 1600000 in
theorem refSymbol_any (s : ByteArray) (hs : s.size ≤ 4096) (at_ : Nat) (ha : at_ ≤ s.size) (w : World) :
    Calls Tryz.prog 57 #[.string s, .int .i64 at_] w fun e w' => e = .returned (.int .i64 (symL (s.data.toList.drop at_) : Nat)) ∧ Below w.heap.size w w' := by
  have hsy := symbols_any w
  obtain ⟨w0, hw0⟩ : ∃ w0, w0 = w.alloc (.cells (syms.map Value.string).toArray 9) := ⟨_, rfl⟩
  have hst : Strs w0 (.slice (some ⟨w.heap.size, 0, none⟩) 18 18) syms := by rw [hw0]; exact Strs.lit w syms
  have hB0 : Below w.heap.size w w0 := by rw [hw0]; exact (Below.refl _ _).alloc (Nat.le_refl _) _
  rw [← hw0] at hsy
  obtain ⟨_, h⟩ | ⟨g, cap, hv, hg, hc⟩ := hst
  · cases h
  have hgw : g = w.heap.size := by injection hv with h1; injection h1 with h1; injection h1 with h1; exact h1.symm
  subst hgw
  have hc' : ∀ k, k < 18 → ∀ q, (w0.drewN q).cell? ⟨w.heap.size, k, none⟩ = some (.string (syms.getD k ByteArray.empty)) := fun k hk q => by have := hc k hk; rw [Nat.zero_add] at this; exact this
  have HC := hidden hc'
  have HB0 := hidden hB0
  have HL : Hid (s.data.toList.length = s.size) := bytes_len s
  clear hw0 hc hc' hv hB0
  go_enter Tryz.func57, Tryz.ntmps57
  go_wp2_with (go_at_call 71; (with_reducible refine hsy.mono ?_); rintro e w1 ⟨rfl, rfl⟩)
  go_loopw [6] (fun i wr => ∃ k q : Nat, k ≤ 18 ∧ i = .int .i64 k ∧ wr = w1.drewN q ∧ Hid (∀ j, j < k → ¬ symAt j (s.data.toList.drop at_))) (fun i _ => 18 - (intOf i).toNat)
  case atStart => exact ⟨0, 0, Nat.zero_le _, rfl, rfl, fun j hj => by omega⟩
  case round =>
    obtain ⟨k, q, hk, rfl, rfl, hno⟩ := hrel
    by_cases hlt : k < 18
    · have hcell := HC.out k hlt
      have hsz := syms_size k
      have hit := fun h => sym_hit (l := s.data.toList.drop at_) k hlt h hno.out
      obtain ⟨x, hx⟩ : ∃ x, syms.getD k ByteArray.empty = x := ⟨_, rfl⟩
      have hiff := symAt_iff s x k at_ hx
      have hfar : s.size < at_ + x.size → ¬ symAt k (s.data.toList.drop at_) := fun h e => by
        unfold symAt at e
        rw [hx] at e
        have := congrArg List.length e
        rw [List.length_take, List.length_drop, bytes_len, bytes_len] at this
        omega
      rw [hx] at hcell hsz hit
      have HN : ¬ symAt k (s.data.toList.drop at_) → Hid (∀ j, j < k + 1 → ¬ symAt j (s.data.toList.drop at_)) := fun h j hj => by
        rcases Nat.lt_or_eq_of_le (Nat.le_of_lt_succ hj) with h' | rfl
        · exact hno.out j h'
        · exact h
      clear hno
      by_cases hfit : at_ + x.size ≤ s.size
      · by_cases he : s.extract at_ (at_ + x.size) = x
        · have HV := hidden (hit (hiff.2 he))
          have hfi : decide ((at_ : Int) + (x.size : Int) ≤ (s.size : Int)) = true := decide_eq_true (by omega)
          have hwr : IntKind.i64.wrap ((at_ : Int) + (x.size : Int)) = (at_ : Int) + (x.size : Int) := IntWalk.i64_in _ (by omega)
          have hnat : ((at_ : Int) + (x.size : Int)).toNat = at_ + x.size := by omega
          clear HN hfar hiff hit hx
          go_wp2
          go_quiet (fail)
          go_wp2
          go_ret
          exact ⟨by rw [HV.out]; rfl, below_drewN (below_drewN HB0.out q) nq⟩
        · have HS := HN (fun h => he (hiff.1 h))
          have hfi : decide ((at_ : Int) + (x.size : Int) ≤ (s.size : Int)) = true := decide_eq_true (by omega)
          have hwr : IntKind.i64.wrap ((at_ : Int) + (x.size : Int)) = (at_ : Int) + (x.size : Int) := IntWalk.i64_in _ (by omega)
          have hnat : ((at_ : Int) + (x.size : Int)).toNat = at_ + x.size := by omega
          have hne : ((s.extract at_ (at_ + x.size)).toList == x.toList) = false := str_ne he
          clear HN hfar hiff hit hx he
          go_wp2
          go_quiet (fail)
          go_wp2
          go_roundw
          case rel => exact ⟨k + 1, _, by omega, by go_num, rfl, HS⟩
          case measure => simp [intOf]; omega
      · have HS := HN (hfar (by omega))
        have hfi : decide ((at_ : Int) + (x.size : Int) ≤ (s.size : Int)) = false := decide_eq_false (by omega)
        have hwr : IntKind.i64.wrap ((at_ : Int) + (x.size : Int)) = (at_ : Int) + (x.size : Int) := IntWalk.i64_in _ (by omega)
        clear HN hfar hiff hit hx
        go_wp2
        go_quiet (fail)
        go_wp2
        go_roundw
        case rel => exact ⟨k + 1, _, by omega, by go_num, rfl, HS⟩
        case measure => simp [intOf]; omega
    · obtain rfl : k = 18 := by omega
      have HV := hidden (sym_none hno.out)
      clear hno hlt
      go_wp2
      go_ret
      exact ⟨by rw [HV.out]; rfl, below_drewN HB0.out q⟩

end Go.Proofs.YtdcpfpifecnfmaaGreatDoor
