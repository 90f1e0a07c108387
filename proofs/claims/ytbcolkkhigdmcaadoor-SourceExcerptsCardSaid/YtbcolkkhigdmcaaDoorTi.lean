import Derived.Test.YtbcolkkhigdmcaaDoorTh
namespace Go.Proofs.YtbcolkkhigdmcaaDoor
open Go.RowKit Go.Shelf Go.Lib

theorem str_ne {x y : ByteArray} (h : ¬ x = y) : (x.toList == y.toList) = false := by
  rw [beq_eq_false_iff_ne, ByteArray.toList_eq, ByteArray.toList_eq]
  intro e
  apply h
  obtain ⟨⟨a⟩⟩ := x
  obtain ⟨⟨b⟩⟩ := y
  simpa using e

/-- A slice value that reads as a list of strings. -/
def StrRow (w : World) (v : Value) (xs : List ByteArray) : Prop :=
  ∃ p cap, v = .slice p xs.length cap ∧ ∀ i, i < xs.length → ∃ b o, p = some ⟨b, o, none⟩ ∧ w.cell? ⟨b, o + i, none⟩ = some (.string (xs.getD i ByteArray.empty))

set_option maxHeartbeats 800000 in
theorem strings_any {w : World} {v u : Value} {xs ys : List ByteArray} (hx : StrRow w v xs) (hy : StrRow w u ys) (hlx : xs.length ≤ 100000) (hly : ys.length ≤ 100000) :
    Calls Tryd.prog 20 #[v, u] w fun e w' => e = .returned (.bool (decide (xs = ys))) ∧ ∃ q, w' = w.drewN q := by
  obtain ⟨p1, c1, rfl, hx⟩ := hx
  obtain ⟨p2, c2, rfl, hy⟩ := hy
  by_cases hl : xs.length = ys.length
  · by_cases h0 : xs.length = 0
    · have e1 : xs = [] := List.eq_nil_of_length_eq_zero h0
      have e2 : ys = [] := List.eq_nil_of_length_eq_zero (by omega)
      subst e1; subst e2
      clear hl h0 hx hy
      go_enter Tryd.func20, Tryd.ntmps20
      go_wp2
      go_loop [5] (fun i => i = .int .i64 0) (fun _ => 0)
      case atStart => rfl
      case round =>
        subst hrel
        go_wp2
        go_ret
        exact ⟨rfl, 0, rfl⟩
    · obtain ⟨b1, o1, rfl, _⟩ := hx 0 (by omega)
      obtain ⟨b2, o2, rfl, _⟩ := hy 0 (by omega)
      have hx' : ∀ i, i < xs.length → ∀ q, (w.drewN q).cell? ⟨b1, o1 + i, none⟩ = some (.string (xs.getD i ByteArray.empty)) := fun i hi q => by
        obtain ⟨b, o, e, h⟩ := hx i hi
        cases e; exact h
      have hy' : ∀ i, i < xs.length → ∀ q, (w.drewN q).cell? ⟨b2, o2 + i, none⟩ = some (.string (ys.getD i ByteArray.empty)) := fun i hi q => by
        obtain ⟨b, o, e, h⟩ := hy i (by omega)
        cases e; exact h
      have hfin : (∀ j, j < xs.length → xs.getD j ByteArray.empty = ys.getD j ByteArray.empty) → decide (xs = ys) = true := fun h => decide_eq_true (by
        apply List.ext_getElem hl
        intro i h1 h2
        have := h i h1
        rwa [List.getD_eq_getElem?_getD, List.getD_eq_getElem?_getD, List.getElem?_eq_getElem h1, List.getElem?_eq_getElem h2] at this)
      have hbad : ∀ j, xs.getD j ByteArray.empty ≠ ys.getD j ByteArray.empty → decide (xs = ys) = false := fun j h => decide_eq_false fun e => h (by rw [e])
      rw [← hl]
      generalize decide (xs = ys) = r at *
      generalize hn : xs.length = n at *
      have HX := Hid.out (p := ∀ i, i < n → ∀ q, (w.drewN q).cell? ⟨b1, o1 + i, none⟩ = some (.string (xs.getD i ByteArray.empty))) hx'
      have HF : Hid (((∀ j, j < n → xs.getD j ByteArray.empty = ys.getD j ByteArray.empty) → r = true) ∧ ∀ j, xs.getD j ByteArray.empty ≠ ys.getD j ByteArray.empty → r = false) := ⟨hfin, hbad⟩
      have HC : Hid ((∀ i, i < n → ∀ q, (w.drewN q).cell? ⟨b1, o1 + i, none⟩ = some (.string (xs.getD i ByteArray.empty))) ∧ ∀ i, i < n → ∀ q, (w.drewN q).cell? ⟨b2, o2 + i, none⟩ = some (.string (ys.getD i ByteArray.empty))) := ⟨hx', hy'⟩
      clear hx hy hx' hy' HX hfin hbad hl hn h0
      go_enter Tryd.func20, Tryd.ntmps20
      go_wp2
      go_loopw [5] (fun i wr => ∃ k q : Nat, k ≤ n ∧ i = .int .i64 k ∧ wr = w.drewN q ∧ Hid (∀ j, j < k → xs.getD j ByteArray.empty = ys.getD j ByteArray.empty)) (fun i _ => n - (intOf i).toNat)
      case atStart => exact ⟨0, 0, Nat.zero_le _, rfl, rfl, fun j hj => by omega⟩
      case round =>
        obtain ⟨k, q, hk, rfl, rfl, hall⟩ := hrel
        by_cases hlt : k < n
        · have g1 := HC.out.1 k hlt
          have g2 := HC.out.2 k hlt
          have hlz : (k : Int) < (n : Int) := by omega
          have hs : xs.getD k ByteArray.empty = ys.getD k ByteArray.empty → Hid (∀ j, j < k + 1 → xs.getD j ByteArray.empty = ys.getD j ByteArray.empty) := fun e j hj => by
            rcases Nat.lt_or_eq_of_le (Nat.le_of_lt_succ hj) with h | rfl
            · exact hall.out j h
            · exact e
          have hb := HF.out.2 k
          generalize xs.getD k ByteArray.empty = x at *
          generalize ys.getD k ByteArray.empty = y at *
          clear hall
          by_cases e : x = y
          · have HS := hs e
            subst e
            clear hs hb
            go_wp2
            go_quiet (fail)
            go_wp2
            go_roundw
            case rel => exact ⟨k + 1, _, by omega, by go_num, rfl, HS⟩
            case measure => simp [intOf]; omega
          · have HB : Hid (r = false) := hb e
            have e1 : (x.toList == y.toList) = false := str_ne e
            clear hs hb e
            go_wp2
            go_quiet (fail)
            go_wp2
            go_ret
            exact ⟨by rw [HB.out]; rfl, _, World.drewN_drewN _ _ _⟩
        · obtain rfl : k = n := by omega
          have HB : Hid (r = true) := HF.out.1 hall.out
          clear hlt hall
          go_wp2
          go_ret
          exact ⟨by rw [HB.out]; rfl, _, rfl⟩
  · have e : decide (xs = ys) = false := decide_eq_false fun h => hl (by rw [h])
    rw [e]
    have hne : ((xs.length : Int) != (ys.length : Int)) = true := by rw [bne_iff_ne]; omega
    have hne' : ((xs.length : Int) == (ys.length : Int)) = false := by rw [beq_eq_false_iff_ne]; omega
    generalize xs.length = n at *
    generalize ys.length = m at *
    clear e hl hx hy
    go_enter Tryd.func20, Tryd.ntmps20
    go_wp2
    go_ret
    exact ⟨rfl, 0, rfl⟩

end Go.Proofs.YtbcolkkhigdmcaaDoor
