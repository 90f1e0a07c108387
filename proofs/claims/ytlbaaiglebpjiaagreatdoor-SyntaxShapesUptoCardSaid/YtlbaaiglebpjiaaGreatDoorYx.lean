/-
  The reference of layer 1: Strings, Ints.
-/
import Derived.Test.YtlbaaiglebpjiaaGreatDoorYw
namespace Go.Proofs.YtlbaaiglebpjiaaGreatDoor
open Go.RowKit Go.Shelf Go.Lib

/-- A slice value that reads as a list of strings. -/
def StrRow (w : World) (v : Value) (xs : List ByteArray) : Prop :=
  ∃ p cap, v = .slice p xs.length cap ∧ ∀ i, i < xs.length → ∃ b o, p = some ⟨b, o, none⟩ ∧ w.cell? ⟨b, o + i, none⟩ = some (.string (xs.getD i ByteArray.empty))

set_option maxHeartbeats 800000 in
theorem refStrings_row {w : World} {v u : Value} {xs ys : List ByteArray} (hx : StrRow w v xs) (hy : StrRow w u ys) (hlx : xs.length ≤ 100000) (hly : ys.length ≤ 100000) :
    Calls Tryz.prog 33 #[v, u] w fun e w' => e = .returned (.bool (decide (xs = ys))) ∧ ∃ q, w' = w.drewN q := by
  obtain ⟨p1, c1, rfl, hx⟩ := hx
  obtain ⟨p2, c2, rfl, hy⟩ := hy
  by_cases hl : xs.length = ys.length
  · by_cases h0 : xs.length = 0
    · have e1 : xs = [] := List.eq_nil_of_length_eq_zero h0
      have e2 : ys = [] := List.eq_nil_of_length_eq_zero (by omega)
      subst e1; subst e2
      clear hl h0 hx hy
      go_enter Tryz.func33, Tryz.ntmps33
      go_wp2
      go_loop [5] (fun i => i = .int .i64 0) (fun _ => 0)
      case atStart => rfl
      case round =>
        subst hrel
        go_wp2
        go_ret
        exact ⟨rfl, 0, rfl⟩
    · obtain ⟨b1, o1, rfl, _⟩ := hx 0 (by omega)
      obtain ⟨b2, o2, rfl, _⟩ := hy 0 (by omega)
      have hx' : ∀ i, i < xs.length → ∀ q, (w.drewN q).cell? ⟨b1, o1 + i, none⟩ = some (.string (xs.getD i ByteArray.empty)) := fun i hi q => by
        obtain ⟨b, o, e, h⟩ := hx i hi
        cases e; exact h
      have hy' : ∀ i, i < xs.length → ∀ q, (w.drewN q).cell? ⟨b2, o2 + i, none⟩ = some (.string (ys.getD i ByteArray.empty)) := fun i hi q => by
        obtain ⟨b, o, e, h⟩ := hy i (by omega)
        cases e; exact h
      have hfin : (∀ j, j < xs.length → xs.getD j ByteArray.empty = ys.getD j ByteArray.empty) → decide (xs = ys) = true := fun h => decide_eq_true (by
        apply List.ext_getElem hl
        intro i h1 h2
        have := h i h1
        rwa [List.getD_eq_getElem?_getD, List.getD_eq_getElem?_getD, List.getElem?_eq_getElem h1, List.getElem?_eq_getElem h2] at this)
      have hbad : ∀ j, xs.getD j ByteArray.empty ≠ ys.getD j ByteArray.empty → decide (xs = ys) = false := fun j h => decide_eq_false fun e => h (by rw [e])
      rw [← hl]
      generalize decide (xs = ys) = r at *
      generalize hn : xs.length = n at *
      have HX := Hid.out (p := ∀ i, i < n → ∀ q, (w.drewN q).cell? ⟨b1, o1 + i, none⟩ = some (.string (xs.getD i ByteArray.empty))) hx'
      have HF : Hid (((∀ j, j < n → xs.getD j ByteArray.empty = ys.getD j ByteArray.empty) → r = true) ∧ ∀ j, xs.getD j ByteArray.empty ≠ ys.getD j ByteArray.empty → r = false) := ⟨hfin, hbad⟩
      have HC : Hid ((∀ i, i < n → ∀ q, (w.drewN q).cell? ⟨b1, o1 + i, none⟩ = some (.string (xs.getD i ByteArray.empty))) ∧ ∀ i, i < n → ∀ q, (w.drewN q).cell? ⟨b2, o2 + i, none⟩ = some (.string (ys.getD i ByteArray.empty))) := ⟨hx', hy'⟩
      clear hx hy hx' hy' HX hfin hbad hl hn h0
      go_enter Tryz.func33, Tryz.ntmps33
      go_wp2
      go_loopw [5] (fun i wr => ∃ k q : Nat, k ≤ n ∧ i = .int .i64 k ∧ wr = w.drewN q ∧ Hid (∀ j, j < k → xs.getD j ByteArray.empty = ys.getD j ByteArray.empty)) (fun i _ => n - (intOf i).toNat)
      case atStart => exact ⟨0, 0, Nat.zero_le _, rfl, rfl, fun j hj => by omega⟩
      case round =>
        obtain ⟨k, q, hk, rfl, rfl, hall⟩ := hrel
        by_cases hlt : k < n
        · have g1 := HC.out.1 k hlt
          have g2 := HC.out.2 k hlt
          have hlz : (k : Int) < (n : Int) := by omega
          have hs : xs.getD k ByteArray.empty = ys.getD k ByteArray.empty → Hid (∀ j, j < k + 1 → xs.getD j ByteArray.empty = ys.getD j ByteArray.empty) := fun e j hj => by
            rcases Nat.lt_or_eq_of_le (Nat.le_of_lt_succ hj) with h | rfl
            · exact hall.out j h
            · exact e
          have hb := HF.out.2 k
          generalize xs.getD k ByteArray.empty = x at *
          generalize ys.getD k ByteArray.empty = y at *
          clear hall
          by_cases e : x = y
          · have HS := hs e
            subst e
            clear hs hb
            go_wp2
            go_quiet (fail)
            go_wp2
            go_roundw
            case rel => exact ⟨k + 1, _, by omega, by go_num, rfl, HS⟩
            case measure => simp [intOf]; omega
          · have HB : Hid (r = false) := hb e
            have e1 : (x.toList == y.toList) = false := str_neq e
            clear hs hb e
            go_wp2
            go_quiet (fail)
            go_wp2
            go_ret
            exact ⟨by rw [HB.out]; rfl, _, World.drewN_drewN _ _ _⟩
        · obtain rfl : k = n := by omega
          have HB : Hid (r = true) := HF.out.1 hall.out
          clear hlt hall
          go_wp2
          go_ret
          exact ⟨by rw [HB.out]; rfl, _, rfl⟩
  · have e : decide (xs = ys) = false := decide_eq_false fun h => hl (by rw [h])
    rw [e]
    have hne : ((xs.length : Int) != (ys.length : Int)) = true := by rw [bne_iff_ne]; omega
    have hne' : ((xs.length : Int) == (ys.length : Int)) = false := by rw [beq_eq_false_iff_ne]; omega
    generalize xs.length = n at *
    generalize ys.length = m at *
    clear e hl hx hy
    go_enter Tryz.func33, Tryz.ntmps33
    go_wp2
    go_ret
    exact ⟨rfl, 0, rfl⟩


/-- A slice value that reads as a list of integers. -/
def IntRow (w : World) (v : Value) (xs : List Int) : Prop :=
  ∃ p cap, v = .slice p xs.length cap ∧ ∀ i, i < xs.length → ∃ b o, p = some ⟨b, o, none⟩ ∧ w.cell? ⟨b, o + i, none⟩ = some (.int .i64 (xs.getD i 0))

theorem IntsV.row {w : World} {v : Value} {l : List Int} (h : IntsV w v l) : IntRow w v l := by
  obtain ⟨p, cap, g, o, rfl, hp, hc⟩ := h
  refine ⟨p, cap, rfl, fun i hi => ⟨g, o, (hp (fun e => by rw [e] at hi; exact absurd hi (Nat.not_lt_zero _))).1, ?_⟩⟩
  refine hc i _ ?_
  rw [List.getD_eq_getElem?_getD, List.getElem?_eq_getElem hi]; rfl

set_option maxHeartbeats 800000 in
theorem refInts_row {w : World} {v u : Value} {xs ys : List Int} (hx : IntRow w v xs) (hy : IntRow w u ys) (hlx : xs.length ≤ 100000) (hly : ys.length ≤ 100000) :
    Calls Tryz.prog 28 #[v, u] w fun e w' => e = .returned (.bool (decide (xs = ys))) ∧ ∃ q, w' = w.drewN q := by
  obtain ⟨p1, c1, rfl, hx⟩ := hx
  obtain ⟨p2, c2, rfl, hy⟩ := hy
  by_cases hl : xs.length = ys.length
  · by_cases h0 : xs.length = 0
    · have e1 : xs = [] := List.eq_nil_of_length_eq_zero h0
      have e2 : ys = [] := List.eq_nil_of_length_eq_zero (by omega)
      subst e1; subst e2
      clear hl h0 hx hy
      go_enter Tryz.func28, Tryz.ntmps28
      go_wp2
      go_loop [5] (fun i => i = .int .i64 0) (fun _ => 0)
      case atStart => rfl
      case round =>
        subst hrel
        go_wp2
        go_ret
        exact ⟨rfl, 0, rfl⟩
    · obtain ⟨b1, o1, rfl, _⟩ := hx 0 (by omega)
      obtain ⟨b2, o2, rfl, _⟩ := hy 0 (by omega)
      have hx' : ∀ i, i < xs.length → ∀ q, (w.drewN q).cell? ⟨b1, o1 + i, none⟩ = some (.int .i64 (xs.getD i 0)) := fun i hi q => by
        obtain ⟨b, o, e, h⟩ := hx i hi
        cases e; exact h
      have hy' : ∀ i, i < xs.length → ∀ q, (w.drewN q).cell? ⟨b2, o2 + i, none⟩ = some (.int .i64 (ys.getD i 0)) := fun i hi q => by
        obtain ⟨b, o, e, h⟩ := hy i (by omega)
        cases e; exact h
      have hfin : (∀ j, j < xs.length → xs.getD j 0 = ys.getD j 0) → decide (xs = ys) = true := fun h => decide_eq_true (by
        apply List.ext_getElem hl
        intro i h1 h2
        have := h i h1
        rwa [List.getD_eq_getElem?_getD, List.getD_eq_getElem?_getD, List.getElem?_eq_getElem h1, List.getElem?_eq_getElem h2] at this)
      have hbad : ∀ j, xs.getD j 0 ≠ ys.getD j 0 → decide (xs = ys) = false := fun j h => decide_eq_false fun e => h (by rw [e])
      rw [← hl]
      generalize decide (xs = ys) = r at *
      generalize hn : xs.length = n at *
      have HX := Hid.out (p := ∀ i, i < n → ∀ q, (w.drewN q).cell? ⟨b1, o1 + i, none⟩ = some (.int .i64 (xs.getD i 0))) hx'
      have HF : Hid (((∀ j, j < n → xs.getD j 0 = ys.getD j 0) → r = true) ∧ ∀ j, xs.getD j 0 ≠ ys.getD j 0 → r = false) := ⟨hfin, hbad⟩
      have HC : Hid ((∀ i, i < n → ∀ q, (w.drewN q).cell? ⟨b1, o1 + i, none⟩ = some (.int .i64 (xs.getD i 0))) ∧ ∀ i, i < n → ∀ q, (w.drewN q).cell? ⟨b2, o2 + i, none⟩ = some (.int .i64 (ys.getD i 0))) := ⟨hx', hy'⟩
      clear hx hy hx' hy' HX hfin hbad hl hn h0
      go_enter Tryz.func28, Tryz.ntmps28
      go_wp2
      go_loopw [5] (fun i wr => ∃ k q : Nat, k ≤ n ∧ i = .int .i64 k ∧ wr = w.drewN q ∧ Hid (∀ j, j < k → xs.getD j 0 = ys.getD j 0)) (fun i _ => n - (intOf i).toNat)
      case atStart => exact ⟨0, 0, Nat.zero_le _, rfl, rfl, fun j hj => by omega⟩
      case round =>
        obtain ⟨k, q, hk, rfl, rfl, hall⟩ := hrel
        by_cases hlt : k < n
        · have g1 := HC.out.1 k hlt
          have g2 := HC.out.2 k hlt
          have hlz : (k : Int) < (n : Int) := by omega
          have hs : xs.getD k 0 = ys.getD k 0 → Hid (∀ j, j < k + 1 → xs.getD j 0 = ys.getD j 0) := fun e j hj => by
            rcases Nat.lt_or_eq_of_le (Nat.le_of_lt_succ hj) with h | rfl
            · exact hall.out j h
            · exact e
          have hb := HF.out.2 k
          generalize xs.getD k 0 = x at *
          generalize ys.getD k 0 = y at *
          clear hall
          by_cases e : x = y
          · have HS := hs e
            subst e
            clear hs hb
            go_wp2
            go_quiet (fail)
            go_wp2
            go_roundw
            case rel => exact ⟨k + 1, _, by omega, by go_num, rfl, HS⟩
            case measure => simp [intOf]; omega
          · have HB : Hid (r = false) := hb e
            have e1 : (x != y) = true := by rw [bne_iff_ne]; exact e
            clear hs hb e
            go_wp2
            go_quiet (fail)
            go_wp2
            go_ret
            exact ⟨by rw [HB.out]; rfl, _, World.drewN_drewN _ _ _⟩
        · obtain rfl : k = n := by omega
          have HB : Hid (r = true) := HF.out.1 hall.out
          clear hlt hall
          go_wp2
          go_ret
          exact ⟨by rw [HB.out]; rfl, _, rfl⟩
  · have e : decide (xs = ys) = false := decide_eq_false fun h => hl (by rw [h])
    rw [e]
    have hne : ((xs.length : Int) != (ys.length : Int)) = true := by rw [bne_iff_ne]; omega
    have hne' : ((xs.length : Int) == (ys.length : Int)) = false := by rw [beq_eq_false_iff_ne]; omega
    generalize xs.length = n at *
    generalize ys.length = m at *
    clear e hl hx hy
    go_enter Tryz.func28, Tryz.ntmps28
    go_wp2
    go_ret
    exact ⟨rfl, 0, rfl⟩


end Go.Proofs.YtlbaaiglebpjiaaGreatDoor
