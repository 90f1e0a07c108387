/-
  slices.Compare of two paths, the first one being less.
-/
import Derived.Test.YtlbaaiglebpjiaaGreatDoorQa
import Derived.Test.YtlbaaiglebpjiaaGreatDoorYx
namespace Go.Proofs.YtlbaaiglebpjiaaGreatDoor
open Go.RowKit Go.Shelf Go.Lib

theorem isNaN_any (a : Int) (w : World) : Calls Tryz.prog 73 #[.int .i64 a] w fun e w' => e = .returned (.bool false) ∧ w = w' := by
  have h0 : (a != a) = false := by simp
  go_enter Tryz.func73, Tryz.ntmps73
  go_wp2_with fail
  go_ret
  exact ⟨by simp, rfl⟩

theorem cmp_lt (a b : Int) (h : a < b) (w : World) : Calls Tryz.prog 62 #[.int .i64 a, .int .i64 b] w fun e w' => e = .returned (.int .i64 (-1)) ∧ w = w' := by
  have ha := fun w => isNaN_any a w
  have hb := fun w => isNaN_any b w
  go_enter Tryz.func62, Tryz.ntmps62
  go_wp2_with (first | (go_at_call 73; (with_reducible refine (ha _).mono ?_); rintro e w' ⟨rfl, rfl⟩) | (go_at_call 73; (with_reducible refine (hb _).mono ?_); rintro e w' ⟨rfl, rfl⟩))
  go_ret
  exact ⟨rfl, rfl⟩

theorem cmp_eq (a : Int) (w : World) : Calls Tryz.prog 62 #[.int .i64 a, .int .i64 a] w fun e w' => e = .returned (.int .i64 0) ∧ w = w' := by
  have ha := fun w => isNaN_any a w
  go_enter Tryz.func62, Tryz.ntmps62
  go_wp2_with (go_at_call 73; (with_reducible refine (ha _).mono ?_); rintro e w' ⟨rfl, rfl⟩)
  go_ret
  exact ⟨rfl, rfl⟩

theorem lex_split {p q : List Nat} {k : Nat} (h : Tree.lexB (p.drop k) (q.drop k) = true) : (p.length ≤ k ∧ k < q.length) ∨
    ∃ a b, p[k]? = some a ∧ q[k]? = some b ∧ (a < b ∨ (a = b ∧ Tree.lexB (p.drop (k + 1)) (q.drop (k + 1)) = true)) := by
  cases hp : p[k]? with
  | none =>
    have h1 := List.getElem?_eq_none_iff.1 hp
    left
    refine ⟨h1, ?_⟩
    rcases Nat.lt_or_ge k q.length with h2 | h2
    · exact h2
    · rw [List.drop_eq_nil_of_le h1, List.drop_eq_nil_of_le h2, Tree.lexB] at h; cases h
  | some a =>
    right
    cases hq : q[k]? with
    | none =>
      rw [drop_step hp, List.drop_eq_nil_of_le (List.getElem?_eq_none_iff.1 hq), Tree.lexB] at h; cases h
    | some b =>
      rw [drop_step hp, drop_step hq, Tree.lexB] at h
      refine ⟨a, b, rfl, rfl, ?_⟩
      rcases Nat.lt_or_ge a b with hab | hab
      · exact .inl hab
      · have h1 : decide (a < b) = false := by simp; omega
        rw [h1, Bool.false_or, Bool.and_eq_true] at h
        exact .inr ⟨of_decide_eq_true h.1, h.2⟩

set_option maxRecDepth 100000 in
set_option maxHeartbeats 3200000 in
theorem compare_lt {w : World} {v1 v2 : Value} {p q : List Nat} (h1 : IntsV w v1 (Tree.ints p)) (h2 : IntsV w v2 (Tree.ints q)) (hl : Tree.lexB p q = true) (hlp : p.length ≤ 4194304) (hlq : q.length ≤ 4194304) :
    Calls Tryz.prog 38 #[v1, v2] w fun e w' => e = .returned (.int .i64 (-1)) ∧ w = w' := by
  obtain ⟨p1, c1, g1, o1, rfl, ha1, hb1⟩ := h1
  obtain ⟨p2, c2, g2, o2, rfl, ha2, hb2⟩ := h2
  have HA1 := hidden ha1
  have HB1 := hidden hb1
  have HA2 := hidden ha2
  have HB2 := hidden hb2
  have HL1 := hidden (Tree.ints_len p)
  have HL2 := hidden (Tree.ints_len q)
  have HLX := hidden hl
  have hz1 : (Tree.ints p).length ≤ 4194304 := by rw [Tree.ints_len]; exact hlp
  have hz2 : (Tree.ints q).length ≤ 4194304 := by rw [Tree.ints_len]; exact hlq
  have hgp : ∀ (k a : Nat), p[k]? = some a → (Tree.ints p)[k]? = some (a : Int) := fun k a h => by unfold Tree.ints; rw [List.getElem?_map, h]; rfl
  have hgq : ∀ (k a : Nat), q[k]? = some a → (Tree.ints q)[k]? = some (a : Int) := fun k a h => by unfold Tree.ints; rw [List.getElem?_map, h]; rfl
  have HGP := hidden hgp
  have HGQ := hidden hgq
  clear ha1 hb1 ha2 hb2 hl hgp hgq hlp hlq
  generalize hxs : Tree.ints p = xs at *
  generalize hys : Tree.ints q = ys at *
  clear hxs hys
  go_enter Tryz.func38, Tryz.ntmps38
  go_wp2_with fail
  go_loop [11] (fun i => ∃ k : Nat, k ≤ xs.length ∧ i = .int .i64 k ∧ Hid (Tree.lexB (p.drop k) (q.drop k) = true)) (fun i => xs.length - (intOf i).toNat)
  case atStart => exact ⟨0, Nat.zero_le _, rfl, by rw [List.drop_zero, List.drop_zero]; exact HLX.out⟩
  case round =>
    obtain ⟨k, hk, rfl, hh⟩ := hrel
    rcases lex_split hh.out with ⟨e1, e2⟩ | ⟨a, b, e1, e2, e3⟩
    · have hge : ¬ ((k : Int) < (xs.length : Int)) := by have := HL1.out; omega
      have hll : (xs.length : Int) < (ys.length : Int) := by have := HL1.out; have := HL2.out; omega
      clear hh e1 e2
      go_wp2_with fail
      go_ret
      exact ⟨rfl, rfl⟩
    · have x1 := HGP.out k a e1
      have x2 := HGQ.out k b e2
      have l1 : (k : Int) < (xs.length : Int) := by have := (List.getElem?_eq_some_iff.1 x1).1; omega
      have l2 : (k : Int) < (ys.length : Int) := by have := (List.getElem?_eq_some_iff.1 x2).1; omega
      have l3 : ¬ ((ys.length : Int) ≤ (k : Int)) := by omega
      obtain ⟨rfl, _⟩ := HA1.out (fun h => by rw [h] at x1; simp at x1)
      obtain ⟨rfl, _⟩ := HA2.out (fun h => by rw [h] at x2; simp at x2)
      have d1 := HB1.out k _ x1
      have d2 := HB2.out k _ x2
      clear e1 e2 x1 x2 hh
      rcases e3 with e3 | ⟨rfl, e3⟩
      · have hc := fun w => cmp_lt (a : Int) (b : Int) (by omega) w
        clear e3
        go_wp2_with (go_at_call 62; (with_reducible refine (hc _).mono ?_); rintro e w' ⟨rfl, rfl⟩)
        go_ret
        exact ⟨rfl, rfl⟩
      · have hc := fun w => cmp_eq (a : Int) w
        have HE := hidden e3
        clear e3
        go_wp2_with (go_at_call 62; (with_reducible refine (hc _).mono ?_); rintro e w' ⟨rfl, rfl⟩)
        go_round
        case rel => exact ⟨k + 1, by omega, by go_num, HE.out⟩
        case measure => simp [intOf]; omega

theorem IntsV.of_row {w : World} {B : Nat} {e : TypeId} {v : Value} {q : List Nat} (h : w.ownsRow B e 1 v q.length (q.map natI)) : IntsV w v (Tree.ints q) := by
  rcases h.2 with ⟨rfl, h0⟩ | ⟨g, cap, cur, rfl, h2, h3, h4⟩
  · have : q = [] := List.length_eq_zero_iff.1 h0
    subst this
    exact ⟨none, 0, 0, 0, rfl, fun h => absurd rfl h, fun i z h => by simp [Tree.ints] at h⟩
  · refine ⟨some ⟨g, 0, none⟩, cap, g, 0, by rw [Tree.ints_len], fun _ => ⟨rfl, (Array.getElem?_eq_some_iff.1 h3).1⟩, fun i z hz => ?_⟩
    have hc := h.cells (g := g) rfl i
    have hz' : (q.map natI)[i]? = some (.int .i64 z) := by
      unfold Tree.ints at hz
      rw [List.getElem?_map] at hz ⊢
      cases hq : q[i]? with
      | none => rw [hq] at hz; cases hz
      | some k => rw [hq] at hz; cases hz; rfl
    have := hc _ hz'
    have hadd : (⟨g, 0, none⟩ : Addr).add i = ⟨g, i, none⟩ := by unfold Addr.add; split <;> simp_all
    rw [hadd] at this
    rw [Nat.zero_add]; exact this

end Go.Proofs.YtlbaaiglebpjiaaGreatDoor
