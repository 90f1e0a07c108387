import Derived.Test.YtdcpfpifecnfmaaDoorRe
import Derived.IntWalk
/-
  The reference's Strings, Same, Separate, Compact.
-/
namespace Go.Proofs.YtdcpfpifecnfmaaDoor
open Go.RowKit Go.Shelf Go.Lib

/-- A slice value that reads as a list of strings. -/
def StrRow (w : World) (v : Value) (xs : List ByteArray) : Prop :=
  ∃ p cap, v = .slice p xs.length cap ∧ ∀ i, i < xs.length → ∃ b o, p = some ⟨b, o, none⟩ ∧ w.cell? ⟨b, o + i, none⟩ = some (.string (xs.getD i ByteArray.empty))

set_option maxHeartbeats 800000 in
theorem refStrings_row {w : World} {v u : Value} {xs ys : List ByteArray} (hx : StrRow w v xs) (hy : StrRow w u ys) (hlx : xs.length ≤ 100000) (hly : ys.length ≤ 100000) :
    Calls Tryd.prog 12 #[v, u] w fun e w' => e = .returned (.bool (decide (xs = ys))) ∧ ∃ q, w' = w.drewN q := by
  obtain ⟨p1, c1, rfl, hx⟩ := hx
  obtain ⟨p2, c2, rfl, hy⟩ := hy
  by_cases hl : xs.length = ys.length
  · by_cases h0 : xs.length = 0
    · have e1 : xs = [] := List.eq_nil_of_length_eq_zero h0
      have e2 : ys = [] := List.eq_nil_of_length_eq_zero (by omega)
      subst e1; subst e2
      clear hl h0 hx hy
      go_enter Tryd.func12, Tryd.ntmps12
      go_wp2
      go_loop [5] (fun i => i = .int .i64 0) (fun _ => 0)
      case atStart => rfl
      case round =>
        subst hrel
        go_wp2
        go_ret
        exact ⟨rfl, 0, rfl⟩
    · obtain ⟨b1, o1, rfl, _⟩ := hx 0 (by omega)
      obtain ⟨b2, o2, rfl, _⟩ := hy 0 (by omega)
      have hx' : ∀ i, i < xs.length → ∀ q, (w.drewN q).cell? ⟨b1, o1 + i, none⟩ = some (.string (xs.getD i ByteArray.empty)) := fun i hi q => by
        obtain ⟨b, o, e, h⟩ := hx i hi
        cases e; exact h
      have hy' : ∀ i, i < xs.length → ∀ q, (w.drewN q).cell? ⟨b2, o2 + i, none⟩ = some (.string (ys.getD i ByteArray.empty)) := fun i hi q => by
        obtain ⟨b, o, e, h⟩ := hy i (by omega)
        cases e; exact h
      have hfin : (∀ j, j < xs.length → xs.getD j ByteArray.empty = ys.getD j ByteArray.empty) → decide (xs = ys) = true := fun h => decide_eq_true (by
        apply List.ext_getElem hl
        intro i h1 h2
        have := h i h1
        rwa [List.getD_eq_getElem?_getD, List.getD_eq_getElem?_getD, List.getElem?_eq_getElem h1, List.getElem?_eq_getElem h2] at this)
      have hbad : ∀ j, xs.getD j ByteArray.empty ≠ ys.getD j ByteArray.empty → decide (xs = ys) = false := fun j h => decide_eq_false fun e => h (by rw [e])
      rw [← hl]
      generalize decide (xs = ys) = r at *
      generalize hn : xs.length = n at *
      have HX := Hid.out (p := ∀ i, i < n → ∀ q, (w.drewN q).cell? ⟨b1, o1 + i, none⟩ = some (.string (xs.getD i ByteArray.empty))) hx'
      have HF : Hid (((∀ j, j < n → xs.getD j ByteArray.empty = ys.getD j ByteArray.empty) → r = true) ∧ ∀ j, xs.getD j ByteArray.empty ≠ ys.getD j ByteArray.empty → r = false) := ⟨hfin, hbad⟩
      have HC : Hid ((∀ i, i < n → ∀ q, (w.drewN q).cell? ⟨b1, o1 + i, none⟩ = some (.string (xs.getD i ByteArray.empty))) ∧ ∀ i, i < n → ∀ q, (w.drewN q).cell? ⟨b2, o2 + i, none⟩ = some (.string (ys.getD i ByteArray.empty))) := ⟨hx', hy'⟩
      clear hx hy hx' hy' HX hfin hbad hl hn h0
      go_enter Tryd.func12, Tryd.ntmps12
      go_wp2
      go_loopw [5] (fun i wr => ∃ k q : Nat, k ≤ n ∧ i = .int .i64 k ∧ wr = w.drewN q ∧ Hid (∀ j, j < k → xs.getD j ByteArray.empty = ys.getD j ByteArray.empty)) (fun i _ => n - (intOf i).toNat)
      case atStart => exact ⟨0, 0, Nat.zero_le _, rfl, rfl, fun j hj => by omega⟩
      case round =>
        obtain ⟨k, q, hk, rfl, rfl, hall⟩ := hrel
        by_cases hlt : k < n
        · have g1 := HC.out.1 k hlt
          have g2 := HC.out.2 k hlt
          have hlz : (k : Int) < (n : Int) := by omega
          have hs : xs.getD k ByteArray.empty = ys.getD k ByteArray.empty → Hid (∀ j, j < k + 1 → xs.getD j ByteArray.empty = ys.getD j ByteArray.empty) := fun e j hj => by
            rcases Nat.lt_or_eq_of_le (Nat.le_of_lt_succ hj) with h | rfl
            · exact hall.out j h
            · exact e
          have hb := HF.out.2 k
          generalize xs.getD k ByteArray.empty = x at *
          generalize ys.getD k ByteArray.empty = y at *
          clear hall
          by_cases e : x = y
          · have HS := hs e
            subst e
            clear hs hb
            go_wp2
            go_quiet (fail)
            go_wp2
            go_roundw
            case rel => exact ⟨k + 1, _, by omega, by go_num, rfl, HS⟩
            case measure => simp [intOf]; omega
          · have HB : Hid (r = false) := hb e
            have e1 : (x.toList == y.toList) = false := str_ne e
            clear hs hb e
            go_wp2
            go_quiet (fail)
            go_wp2
            go_ret
            exact ⟨by rw [HB.out]; rfl, _, World.drewN_drewN _ _ _⟩
        · obtain rfl : k = n := by omega
          have HB : Hid (r = true) := HF.out.1 hall.out
          clear hlt hall
          go_wp2
          go_ret
          exact ⟨by rw [HB.out]; rfl, _, rfl⟩
  · have e : decide (xs = ys) = false := decide_eq_false fun h => hl (by rw [h])
    rw [e]
    have hne : ((xs.length : Int) != (ys.length : Int)) = true := by rw [bne_iff_ne]; omega
    have hne' : ((xs.length : Int) == (ys.length : Int)) = false := by rw [beq_eq_false_iff_ne]; omega
    generalize xs.length = n at *
    generalize ys.length = m at *
    clear e hl hx hy
    go_enter Tryd.func12, Tryd.ntmps12
    go_wp2
    go_ret
    exact ⟨rfl, 0, rfl⟩


theorem Strs.row {w : World} {v : Value} {xs : List ByteArray} (h : Strs w v xs) : StrRow w v xs := by
  rcases h with ⟨rfl, rfl⟩ | ⟨g, cap, rfl, h2, h3⟩
  · exact ⟨none, 0, rfl, fun i hi => absurd hi (by simp)⟩
  · exact ⟨_, _, rfl, fun i hi => ⟨g, 0, rfl, h3 i hi⟩⟩

theorem refStrings_any {w : World} {v u : Value} {xs ys : List ByteArray} (hx : Strs w v xs) (hy : Strs w u ys) (hlx : xs.length ≤ 100000) (hly : ys.length ≤ 100000) :
    Calls Tryd.prog 12 #[v, u] w fun e w' => e = .returned (.bool (decide (xs = ys))) ∧ ∃ q, w' = w.drewN q := refStrings_row hx.row hy.row hlx hly

theorem same_nil (w : World) : Calls Tryd.prog 11 #[.slice none 0 0, .slice none 0 0] w fun e w' => e = .returned (.bool true) ∧ w = w' := by
  go_enter Tryd.func11, Tryd.ntmps11
  go_wp2_with fail
  go_loop [5] (fun i => i = .int .i64 0) (fun _ => 0)
  case atStart => rfl
  case round =>
    subst hrel
    go_wp2_with fail
    go_ret
    exact ⟨rfl, rfl⟩

set_option maxHeartbeats 1600000 in
theorem same_any {w : World} {v u : Value} {ts : List Tok} (hx : TokRow w v ts) (hy : TokRow w u ts) (hl : ts.length ≤ 20000) :
    Calls Tryd.prog 11 #[v, u] w fun e w' => e = .returned (.bool true) ∧ ∃ q, w' = w.drewN q := by
  obtain ⟨g1, c1, rfl, z1, h1⟩ := hx
  obtain ⟨g2, c2, rfl, z2, h2⟩ := hy
  have hg : ∀ k, k < ts.length → ∃ t, ts[k]? = some t := fun k hk => ⟨_, List.getElem?_eq_getElem hk⟩
  have HC : Hid (∀ k, k < ts.length → ∃ t : Tok, ∀ q, TokAt (w.drewN q) g1 (k * 4) t ∧ TokAt (w.drewN q) g2 (k * 4) t) := fun k hk => by
    obtain ⟨t, ht⟩ := hg k hk
    exact ⟨t, fun q => ⟨(h1 k t ht).below (below_drewN (Below.refl w.heap.size w) q) z1, (h2 k t ht).below (below_drewN (Below.refl w.heap.size w) q) z2⟩⟩
  clear h1 h2 hg z1 z2
  generalize ts.length = n at *
  go_enter Tryd.func11, Tryd.ntmps11
  go_wp2_with fail
  go_loopw [5] (fun i wr => ∃ k q : Nat, k ≤ n ∧ i = .int .i64 k ∧ wr = w.drewN q) (fun i _ => n - (intOf i).toNat)
  case atStart => exact ⟨0, 0, Nat.zero_le _, rfl, rfl⟩
  case round =>
    obtain ⟨k, q, hk, rfl, rfl⟩ := hrel
    by_cases hlt : k < n
    · obtain ⟨t, ht⟩ := HC.out k hlt
      have a0 := fun q => (ht q).1.c0
      have a1 := fun q => (ht q).1.c1
      have a2 := fun q => (ht q).1.c2
      have a3 := fun q => (ht q).1.c3
      have b0 := fun q => (ht q).2.c0
      have b1 := fun q => (ht q).2.c1
      have b2 := fun q => (ht q).2.c2
      have b3 := fun q => (ht q).2.c3
      have hkn : (k : Int) < (n : Int) := by omega
      clear ht
      go_wp2_with fail
      go_quiet (fail)
      go_wp2_with fail
      go_roundw
      case rel => exact ⟨k + 1, _, by omega, by go_num, rfl⟩
      case measure => simp [intOf]; omega
    · obtain rfl : k = n := by omega
      clear hlt
      go_wp2_with fail
      go_ret
      exact ⟨rfl, _, rfl⟩

/-- What the reference's Compact has written. -/
theorem cB_step (ws : List ByteArray) (k : Nat) (x : ByteArray) (hx : ws.getD k ByteArray.empty = x) (b : ByteArray) (hb : b = ⟨(cB ws k).toArray⟩) :
    (¬ (0 < k ∧ sepB (lastW ws k) x = true) → b ++ x = ⟨(cB ws (k + 1)).toArray⟩) ∧ ((0 < k ∧ sepB (lastW ws k) x = true) → b ++ (⟨#[32]⟩ : ByteArray) ++ x = ⟨(cB ws (k + 1)).toArray⟩) := by
  constructor
  · intro h
    apply ByteArray.ext; apply Array.ext'
    rw [cB, hx, if_neg h, hb]
    simp
  · intro h
    apply ByteArray.ext; apply Array.ext'
    rw [cB, hx, if_pos h, hb]
    simp

theorem ba_size (l : List UInt8) : (⟨l.toArray⟩ : ByteArray).size = l.length := by show l.toArray.size = _; simp

theorem wordsKeep {w3 w' w'' : World} {g i j : Nat} {x y : ByteArray} (h : w'.cell? ⟨g, i, none⟩ = some (.string x) ∧ w'.cell? ⟨g, j, none⟩ = some (.string y) ∧ g < w'.heap.size ∧ Hid (Below w3.heap.size w3 w')) (hb : Below w'.heap.size w' w'') :
    w''.cell? ⟨g, i, none⟩ = some (.string x) ∧ w''.cell? ⟨g, j, none⟩ = some (.string y) ∧ g < w''.heap.size ∧ Hid (Below w3.heap.size w3 w'') :=
  ⟨(hb.cell (p := ⟨g, i, none⟩) h.2.2.1).trans h.1, (hb.cell (p := ⟨g, j, none⟩) h.2.2.1).trans h.2.1, Nat.lt_of_lt_of_le h.2.2.1 hb.size, bt h.2.2.2.out hb⟩

end Go.Proofs.YtdcpfpifecnfmaaDoor
