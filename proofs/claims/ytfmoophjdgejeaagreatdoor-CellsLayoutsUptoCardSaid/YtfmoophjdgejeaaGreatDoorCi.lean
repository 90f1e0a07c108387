import Derived.Test.YtfmoophjdgejeaaGreatDoorCd
import Derived.Test.YtfmoophjdgejeaaGreatDoorJf

/-
  Tables: what only reads.
-/
namespace Go.Proofs.YtfmoophjdgejeaaGreatDoor
open Go.RowKit Go.Shelf

/-- Whether a table is strict. -/
def strictB (k : Int) : Bool := k == 0 || k == 1
/-- Whether a table has a kind that there is, and a range that this kind can have. -/
def rangeB (t : Tab) : Bool := if t.kind = 0 ∨ t.kind = 2 ∨ t.kind = 3 then t.lo == 0 && t.hi == 1 else if t.kind = 1 ∨ t.kind = 4 ∨ t.kind = 5 then decide (-9999 ≤ t.lo) && decide (t.lo ≤ t.hi) && decide (t.hi ≤ 9999) else false

theorem strict_any (t : Tab) (p : Option Addr) (n c : Nat) (w : World) :
    Calls Tryz.prog 58 #[tabV t (.slice p n c)] w fun e w' => e = .returned (.bool (strictB t.kind)) ∧ Below w.heap.size w w' := by
  simp only [tabV]
  by_cases h0 : t.kind = 0
  · have b0 : ((t.kind : Int) == 0) = true := by rw [h0]; rfl
    have e : strictB t.kind = true := by unfold strictB; rw [b0]; rfl
    rw [e]
    clear h0 e
    go_enter Tryz.func58, Tryz.ntmps58
    go_wp2_with fail
    go_ret
    exact ⟨rfl, (Below.refl _ _).alloc (Nat.le_refl _) _⟩
  · have b0 : ((t.kind : Int) == 0) = false := by rw [beq_eq_false_iff_ne]; exact h0
    obtain ⟨r, hr⟩ : ∃ r, (t.kind == 1) = r := ⟨_, rfl⟩
    have e : strictB t.kind = r := by unfold strictB; rw [b0, ← hr]; rfl
    rw [e]
    clear h0 e
    cases r with
    | true =>
      go_enter Tryz.func58, Tryz.ntmps58
      go_wp2_with fail
      go_ret
      exact ⟨rfl, (Below.refl _ _).alloc (Nat.le_refl _) _⟩
    | false =>
      go_enter Tryz.func58, Tryz.ntmps58
      go_wp2_with fail
      go_ret
      exact ⟨rfl, (Below.refl _ _).alloc (Nat.le_refl _) _⟩

set_option maxRecDepth 100000 in
set_option maxHeartbeats 3200000 in
theorem validRange_any (t : Tab) (p : Option Addr) (n c : Nat) (w : World) :
    Calls Tryz.prog 76 #[tabV t (.slice p n c)] w fun e w' => e = .returned (.bool (rangeB t)) ∧ Below w.heap.size w w' := by
  simp only [tabV]
  obtain ⟨nm, kind, cols, lo, hi, first⟩ := t
  unfold rangeB
  dsimp only
  have b2 : ∀ z : Int, kind = z → (kind == z) = true := fun z h => by rw [h]; simp
  have b3 : ∀ z : Int, kind ≠ z → (kind == z) = false := fun z h => beq_eq_false_iff_ne.2 h
  by_cases h1 : kind = 0 ∨ kind = 2 ∨ kind = 3
  · rw [if_pos h1]
    have key : ∀ (q0 q2 q3 : Bool), (kind == 0) = q0 → (kind == 2) = q2 → (kind == 3) = q3 → (q0 || q2 || q3) = true → Calls Tryz.prog 76 #[.agg #[.string nm, .int .i64 kind, .slice p n c, .int .i64 lo, .int .i64 hi, .int .i64 first]] w fun e w' => e = .returned (.bool (lo == 0 && hi == 1)) ∧ Below w.heap.size w w' := by
      clear b2 b3 h1
      intro q0 q2 q3 h0 h2 h3 hq
      obtain ⟨r, hr⟩ : ∃ r, (lo == 0) = r := ⟨_, rfl⟩
      obtain ⟨s, hs⟩ : ∃ s, (hi == 1) = s := ⟨_, rfl⟩
      rw [hr, hs]
      cases q0 <;> cases q2 <;> cases q3 <;> first | (exact absurd hq (by decide)) | (clear hq; cases r <;> cases s <;> (go_enter Tryz.func76, Tryz.ntmps76; go_wp2_with fail; go_ret; exact ⟨rfl, (Below.refl _ _).alloc (Nat.le_refl _) _⟩))
    rcases h1 with h | h | h
    · exact key _ _ _ (b2 0 h) (b3 2 (by omega)) (b3 3 (by omega)) rfl
    · exact key _ _ _ (b3 0 (by omega)) (b2 2 h) (b3 3 (by omega)) rfl
    · exact key _ _ _ (b3 0 (by omega)) (b3 2 (by omega)) (b2 3 h) rfl
  · rw [if_neg h1]
    have k0 := b3 0 (by omega)
    have k2 := b3 2 (by omega)
    have k3 := b3 3 (by omega)
    by_cases h4 : kind = 1 ∨ kind = 4 ∨ kind = 5
    · rw [if_pos h4]
      have key : ∀ (q0 q2 q3 : Bool), (kind == 1) = q0 → (kind == 4) = q2 → (kind == 5) = q3 → (q0 || q2 || q3) = true → Calls Tryz.prog 76 #[.agg #[.string nm, .int .i64 kind, .slice p n c, .int .i64 lo, .int .i64 hi, .int .i64 first]] w fun e w' => e = .returned (.bool (decide (-9999 ≤ lo) && decide (lo ≤ hi) && decide (hi ≤ 9999))) ∧ Below w.heap.size w w' := by
        clear b2 b3 h1 h4
        intro q0 q2 q3 h0 h2 h3 hq
        by_cases l1 : -9999 ≤ lo
        · rw [decide_eq_true l1]
          by_cases l2 : lo ≤ hi
          · rw [decide_eq_true l2]
            by_cases l3 : hi ≤ 9999
            · rw [decide_eq_true l3]
              cases q0 <;> cases q2 <;> cases q3 <;> first | (exact absurd hq (by decide)) | (clear hq; (go_enter Tryz.func76, Tryz.ntmps76; go_wp2_with fail; go_ret; exact ⟨rfl, (Below.refl _ _).alloc (Nat.le_refl _) _⟩))
            · rw [decide_eq_false l3]
              cases q0 <;> cases q2 <;> cases q3 <;> first | (exact absurd hq (by decide)) | (clear hq; (go_enter Tryz.func76, Tryz.ntmps76; go_wp2_with fail; go_ret; exact ⟨rfl, (Below.refl _ _).alloc (Nat.le_refl _) _⟩))
          · rw [decide_eq_false l2]
            cases q0 <;> cases q2 <;> cases q3 <;> first | (exact absurd hq (by decide)) | (clear hq; (go_enter Tryz.func76, Tryz.ntmps76; go_wp2_with fail; go_ret; exact ⟨rfl, (Below.refl _ _).alloc (Nat.le_refl _) _⟩))
        · rw [decide_eq_false l1]
          cases q0 <;> cases q2 <;> cases q3 <;> first | (exact absurd hq (by decide)) | (clear hq; (go_enter Tryz.func76, Tryz.ntmps76; go_wp2_with fail; go_ret; exact ⟨rfl, (Below.refl _ _).alloc (Nat.le_refl _) _⟩))
      rcases h4 with h | h | h
      · exact key _ _ _ (b2 1 h) (b3 4 (by omega)) (b3 5 (by omega)) rfl
      · exact key _ _ _ (b3 1 (by omega)) (b2 4 h) (b3 5 (by omega)) rfl
      · exact key _ _ _ (b3 1 (by omega)) (b3 4 (by omega)) (b2 5 h) rfl
    · rw [if_neg h4]
      have k1 := b3 1 (by omega)
      have k4 := b3 4 (by omega)
      have k5 := b3 5 (by omega)
      clear b2 b3 h1 h4
      go_enter Tryz.func76, Tryz.ntmps76
      go_wp2_with fail
      go_ret
      exact ⟨rfl, (Below.refl _ _).alloc (Nat.le_refl _) _⟩

end Go.Proofs.YtfmoophjdgejeaaGreatDoor
