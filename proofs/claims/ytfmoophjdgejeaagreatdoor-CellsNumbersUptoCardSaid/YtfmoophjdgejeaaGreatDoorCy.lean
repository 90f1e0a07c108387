import Derived.Test.YtfmoophjdgejeaaGreatDoorCx
/-
  slices.Compare of numbers.
-/
namespace Go.Proofs.YtfmoophjdgejeaaGreatDoor
open Go.RowKit Go.Shelf
attribute [local go_sem] Oper.semAt_some

/-- The order of two lists of one length. -/
def cmpL : List Nat → List Nat → Int
  | x :: xs, y :: ys => if x < y then -1 else if y < x then 1 else cmpL xs ys
  | _, _ => 0

theorem cmpL_eq : ∀ (l m : List Nat) (k : Nat), l.take k = m.take k → cmpL l m = cmpL (l.drop k) (m.drop k)
  | _, _, 0, _ => rfl
  | [], [], k + 1, _ => by simp
  | x :: l, y :: m, k + 1, h => by
    simp only [List.take_succ_cons, List.cons.injEq] at h
    obtain ⟨rfl, h⟩ := h
    rw [cmpL, if_neg (Nat.lt_irrefl x), if_neg (Nat.lt_irrefl x), List.drop_succ_cons, List.drop_succ_cons]
    exact cmpL_eq l m k h
  | [], _ :: _, k + 1, h => by simp at h
  | _ :: _, [], k + 1, h => by simp at h

/-- Tuples in their order. -/
theorem cmp_horn : ∀ {ss a b : List Nat}, InL ss a → InL ss b → hornL ss a < hornL ss b → cmpL a b = -1
  | [], [], [], _, _, h => by simp [hornL] at h
  | n :: ns, x :: a, y :: b, ha, hb, h => by
    have h1 := horn_lt ha.2
    have h2 := horn_lt hb.2
    simp only [hornL] at h
    rw [cmpL]
    rcases Nat.lt_trichotomy x y with hxy | rfl | hxy
    · rw [if_pos hxy]
    · rw [if_neg (Nat.lt_irrefl x), if_neg (Nat.lt_irrefl x)]
      exact cmp_horn ha.2 hb.2 (by omega)
    · have : (y + 1) * prodL ns ≤ x * prodL ns := Nat.mul_le_mul_right _ hxy
      rw [Nat.add_mul, Nat.one_mul] at this
      omega
  | [], _ :: _, _, h, _, _ => h.elim
  | _ :: _, [], _, h, _, _ => h.elim
  | [], [], _ :: _, _, h, _ => h.elim
  | _ :: _, _ :: _, [], _, h, _ => h.elim

theorem tups_cmp {ss : List Nat} (hp : Pos ss) {k : Nat} (hk : k + 1 < prodL ss) : cmpL (tupN ss k) (tupN ss (k + 1)) = -1 := by
  refine cmp_horn (tup_in hp k) (tup_in hp (k + 1)) ?_
  rw [horn_tup hp, horn_tup hp, Nat.mod_eq_of_lt (by omega), Nat.mod_eq_of_lt hk]
  omega

set_option maxRecDepth 100000 in
set_option maxHeartbeats 3200000 in
theorem intsCompare_any {l m : List Nat} (lv mv : Value) (w : World) (h1 : IntsV w lv (natL l)) (h2 : IntsV w mv (natL m)) (hlm : l.length = m.length) (hl : l.length ≤ 10000) :
    Calls Tryz.prog 28 #[lv, mv] w fun e w' => e = .returned (.int .i64 (cmpL l m)) ∧ w' = w := by
  obtain ⟨p, cap, g, o, rfl, hp, hc⟩ := h1
  obtain ⟨p', cap', g', o', rfl, hp', hc'⟩ := h2
  rw [natL_len, natL_len]
  have hcm := fun x y w' => Tryz.cmp_Compare_int x y w'
  obtain ⟨r, hr⟩ : ∃ r, cmpL l m = r := ⟨_, rfl⟩
  rw [hr]
  have HP := hidden hp
  have HC := hidden hc
  have HP' := hidden hp'
  have HC' := hidden hc'
  have HL := hidden hl
  have HLM := hidden hlm
  have HR := hidden hr
  clear hp hc hp' hc' hl hlm hr
  go_enter Tryz.func28, Tryz.ntmps28
  go_wp2_with fail
  go_loopw [11] (fun i wr => ∃ k : Nat, k ≤ l.length ∧ i = .int .i64 k ∧ Hid (wr = w) ∧ Hid (l.take k = m.take k)) (fun i _ => l.length - (intOf i).toNat)
  case atStart => exact ⟨0, Nat.zero_le _, rfl, rfl, rfl⟩
  case round =>
    obtain ⟨k, hk, rfl, hw, hh⟩ := hrel
    obtain rfl := hw.out
    have hl1 := HL.out
    have hl2 := HLM.out
    by_cases hlt : k < l.length
    · have hx : l[k]? = some l[k] := List.getElem?_eq_getElem hlt
      generalize l[k] = x at hx
      have hlt2 : k < m.length := by omega
      have hy : m[k]? = some m[k] := List.getElem?_eq_getElem hlt2
      generalize m[k] = y at hy
      obtain ⟨rfl, hg⟩ := HP.out (fun h => by rw [← List.length_eq_zero_iff, natL_len] at h; omega)
      obtain ⟨rfl, hg'⟩ := HP'.out (fun h => by rw [← List.length_eq_zero_iff, natL_len] at h; omega)
      have c0 : wr.cell? ⟨g, o + k, none⟩ = some (.int .i64 (x : Int)) := HC.out k _ (natL_get hx)
      have c1 : wr.cell? ⟨g', o' + k, none⟩ = some (.int .i64 (y : Int)) := HC'.out k _ (natL_get hy)
      have hkz : (k : Int) < (l.length : Int) := by omega
      have hkz2 : (k : Int) < (m.length : Int) := by omega
      have hkz3 : ¬ (m.length : Int) ≤ (k : Int) := by omega
      have hd : cmpL l m = cmpL (x :: l.drop (k + 1)) (y :: m.drop (k + 1)) := by
        rw [cmpL_eq l m k hh.out, drop_step hx, drop_step hy]
      rw [HR.out, cmpL] at hd
      have hst : x = y → l.take (k + 1) = m.take (k + 1) := fun e => by rw [take_step hx, take_step hy, hh.out, e]
      have HST := hidden hst
      rcases Nat.lt_trichotomy x y with hxy | hxy | hxy
      · rw [if_pos hxy] at hd
        have hci : Calls Tryz.prog 55 #[.int .i64 (x : Int), .int .i64 (y : Int)] wr fun e w' => e = .returned (.int .i64 (-1)) ∧ w' = wr := by
          have h := hcm x y wr
          rw [show Lib.compareInt (x : Int) (y : Int) = -1 from by unfold Lib.compareInt; rw [if_pos (by omega)]] at h
          exact h
        subst hd
        clear hx hy hxy hcm hst hh hlt hlt2 hl2 hw
        go_wp2_with fail
        (with_reducible refine hci.mono ?_)
        rintro e w2 ⟨rfl, rfl⟩
        go_wp2_with fail
        go_ret
        exact ⟨rfl, rfl⟩
      · subst hxy
        have hci : Calls Tryz.prog 55 #[.int .i64 (x : Int), .int .i64 (x : Int)] wr fun e w' => e = .returned (.int .i64 0) ∧ w' = wr := by
          have h := hcm x x wr
          rw [show Lib.compareInt (x : Int) (x : Int) = 0 from by unfold Lib.compareInt; rw [if_neg (by omega), if_neg (by omega)]] at h
          exact h
        clear hx hy hcm hst hh hlt2 hd hl2 hw
        go_wp2_with fail
        (with_reducible refine hci.mono ?_)
        rintro e w2 ⟨rfl, rfl⟩
        go_wp2_with fail
        go_roundw
        case rel => exact ⟨k + 1, hlt, rfl, trivial, HST.out trivial⟩
        case measure => simp [intOf]; omega
      · rw [if_neg (by omega), if_pos hxy] at hd
        have hci : Calls Tryz.prog 55 #[.int .i64 (x : Int), .int .i64 (y : Int)] wr fun e w' => e = .returned (.int .i64 1) ∧ w' = wr := by
          have h := hcm x y wr
          rw [show Lib.compareInt (x : Int) (y : Int) = 1 from by unfold Lib.compareInt; rw [if_neg (by omega), if_pos (by omega)]] at h
          exact h
        subst hd
        clear hx hy hxy hcm hst hh hlt hlt2 hl2 hw
        go_wp2_with fail
        (with_reducible refine hci.mono ?_)
        rintro e w2 ⟨rfl, rfl⟩
        go_wp2_with fail
        go_ret
        exact ⟨rfl, rfl⟩
    · obtain rfl : k = l.length := by omega
      have hkz : ¬ (l.length : Int) < (l.length : Int) := by omega
      have hkz2 : ¬ (l.length : Int) < (m.length : Int) := by omega
      have hd := cmpL_eq l m l.length hh.out
      rw [HR.out, List.drop_length, show m.drop l.length = [] by rw [HLM.out, List.drop_length]] at hd
      have hd0 : r = 0 := hd
      subst hd0
      clear hlt hh hd hl2 hw
      go_wp2_with fail
      go_ret
      exact ⟨rfl, rfl⟩

end Go.Proofs.YtfmoophjdgejeaaGreatDoor
