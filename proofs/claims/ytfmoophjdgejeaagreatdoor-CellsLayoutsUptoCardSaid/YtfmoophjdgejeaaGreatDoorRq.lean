import Derived.BigQuiet
import Derived.Deep.QuietTactic
import Derived.StillTail
/-
  A region that draws its order, all of whose operations but the last leave a world of a class, where the last one waits for all others and may write. No program stands here.
-/
namespace Go.Proofs.YtfmoophjdgejeaaGreatDoor
open Go

/-- A world of a class. -/
structure Cls (S : World → Prop) where
  val : World
  prop : S val

section
variable {P : Program} {ops : Array Oper} {md : Region.Mode} {C : World → Prop}

/-- All but the last operation, in any order; then what is asked of the state before the last one. -/
def LastW (P : Program) (md : Region.Mode) (ops : Array Oper) (C : World → Prop) (n : Nat) (L : Act → Prop) : Nat → Array Bool → Act → Prop
  | 0, listed, a => Region.ready md ops listed = [n] ∧ Region.ready md ops (listed.setIfInBounds n true) = [] ∧ L a
  | f + 1, listed, a => Region.ready md ops listed ≠ [] ∧ ∀ i ∈ Region.ready md ops listed, i < n ∧ qOp P ops C i (LastW P md ops C n L f (listed.setIfInBounds i true)) a

theorem LastW.any {n : Nat} {L : Act → Prop} {Q : Exit → Act → World → Prop} (hL : ∀ a w, C w → L a → wpOp P ops Q n (fun a' w' => Q .normal a' w') a w) :
    ∀ (f : Nat) (listed : Array Bool) (a : Act) (w : World), C w → LastW P md ops C n L f listed a → wpAny P md ops Q (f + 1) listed a w
  | 0, listed, a, w, hC, ⟨h1, h2, h3⟩ => by
    refine ⟨fun h0 => (by rw [h1] at h0; cases h0), fun i hi => ?_⟩
    rw [h1] at hi
    obtain rfl := List.mem_singleton.1 hi
    exact wpOp_mono (fun a' w' h => ⟨h2, h⟩) (hL a w hC h3)
  | f + 1, listed, a, w, hC, ⟨h1, h2⟩ =>
    ⟨fun h0 => absurd h0 h1, fun i hi => wpOp_of_qOp hC (fun a' w' hw h => LastW.any hL f _ a' w' hw h) (h2 i hi).2⟩

/-- The last operation does not come up while another one has not. -/
theorem last_late {n i : Nat} {listed : Array Bool} (hw : ∀ k, k < n → Region.waitsFor md ops n k = true) (hi : i < n) (hu : listed.getD i true = false) : n ∉ Region.ready md ops listed := by
  intro h
  obtain ⟨_, o, ho, hall⟩ := mem_ready.1 h
  obtain ⟨o', ho', e, he, hb, hon⟩ := Region.waitsFor_spec (hw i hi)
  obtain rfl : o' = o := Option.some.inj (ho'.symm.trans ho)
  have h2 := hall e he hb
  rw [hon, getD_both hu] at h2
  cases h2

theorem LastW.first {n i : Nat} {L : Act → Prop} {oi : Oper} {v : Value} (hz : ops.size = n + 1) (hw : ∀ k, k < n → Region.waitsFor md ops n k = true) (hi : ops[i]? = some oi) (hin : i < n) (hsel : Region.noSelect ops = true) :
    ∀ (f : Nat) (listed : Array Bool) (a : Act),
      (∀ (j : Nat) (oj : Oper), ops[j]? = some oj → j ≠ i → listed.getD j true = false → (∀ e ∈ oj.after, Region.binds md e = true → e.on ≠ i) → oi.apart ops oj = true) →
      i ∈ Region.ready md ops listed → YieldsIn P ops C oi v a → LastW P md ops C n L f (listed.setIfInBounds i true) (a.put oi.dst v) → LastW P md ops C n L (f + 1) listed a := by
  intro f
  have hs := Region.noSelect_spec hsel
  have below : ∀ {j : Nat} {listed : Array Bool}, i ∈ Region.ready md ops listed → j ∈ Region.ready md ops listed → j < n := fun {j listed} hr hj => by
    obtain ⟨_, oj, hoj, _⟩ := mem_ready.1 hj
    have h1 := (Array.getElem?_eq_some_iff.1 hoj).1
    rcases Nat.lt_or_ge j n with h | h
    · exact h
    · obtain rfl : j = n := by omega
      exact absurd hj (last_late hw hin (mem_ready.1 hr).1)
  induction f with
  | zero =>
    intro listed a _ hr hy H
    refine ⟨fun h => (by rw [h] at hr; cases hr), fun j hj => ⟨below hr hj, ?_⟩⟩
    by_cases hji : j = i
    · subst hji; exact hy.qOp hi H
    · have h1 := ready_mono (i := i) hj hji
      rw [H.1] at h1
      have := below hr hj
      have := List.mem_singleton.1 h1
      omega
  | succ f ih =>
    intro listed a hfree hr hy H
    refine ⟨fun h => (by rw [h] at hr; cases hr), fun j hj => ⟨below hr hj, ?_⟩⟩
    by_cases hji : j = i
    · subst hji; exact hy.qOp hi H
    · obtain ⟨hju, oj, hoj, hall⟩ := mem_ready.1 hj
      have hno : ∀ e ∈ oj.after, Region.binds md e = true → e.on ≠ i := fun e he hb heq => by
        have h1 := hall e he hb
        rw [heq, getD_both (mem_ready.1 hr).1] at h1
        cases h1
      have h2 := qOp_put hoj (hfree j oj hoj hji hju hno) (fun cs b => hs i oi cs b hi) (fun cs b => hs j oj cs b hoj) hy (H.2 j (ready_mono hj hji)).2
      refine qOp_mono (fun a' h3 => ih (listed.setIfInBounds j true) a' (fun k ok hk hki hun hn => hfree k ok hk hki ?_ hn) (ready_mono hr (Ne.symm hji)) h3.1 ?_) h2
      · by_cases hjk : j = k
        · subst hjk; exact hju
        · rwa [getD_set_ne true hjk] at hun
      · rw [Array.setIfInBounds_comm _ _ hji]; exact h3.2

/-- The order of the text, all but the last: to be computed. -/
def headB (md : Region.Mode) (ops : Array Oper) (n : Nat) : Nat → Nat → Array Bool → Bool
  | 0, k, listed => decide (k = n) && (decide (Region.ready md ops listed = [n]) && decide (Region.ready md ops (listed.setIfInBounds n true) = []))
  | f + 1, k, listed => (Region.ready md ops listed).contains k && (Region.free md ops listed k && headB md ops n f (k + 1) (listed.setIfInBounds k true))

theorem LastW.lex {n : Nat} {L : Act → Prop} (hz : ops.size = n + 1) (hw : ∀ k, k < n → Region.waitsFor md ops n k = true) (hsel : Region.noSelect ops = true) :
    ∀ (l : List Oper) (k : Nat) (listed : Array Bool) (a : Act), (∀ j, j < l.length → l[j]? = ops[k + j]?) → k + l.length = n → headB md ops n l.length k listed = true → wpQuiet P ops C L l a → LastW P md ops C n L l.length listed a
  | [], k, listed, a, _, _, hB, h => by
    simp only [List.length_nil, headB, Bool.and_eq_true, decide_eq_true_eq] at hB
    exact ⟨hB.2.1, hB.2.2, h⟩
  | o :: l, k, listed, a, hl, hk, hB, h => by
    have h0 : ops[k]? = some o := by simpa using (hl 0 (by simp)).symm
    simp only [List.length_cons, headB, Bool.and_eq_true] at hB
    simp only [List.length_cons] at hk
    have hst : qOp P ops C k (wpQuiet P ops C L l) a := by unfold qOp; simp only [h0]; exact h
    obtain ⟨v, hy, hK⟩ := yieldsIn_of_qOp h0 hst
    exact LastW.first hz hw h0 (by omega) hsel l.length listed a (Region.free_spec h0 hB.2.1) (by simpa using hB.1) hy
      (LastW.lex hz hw hsel l (k + 1) _ _ (fun j hj => by have := hl (j + 1) (by simp; omega); simpa [Nat.add_assoc, Nat.add_comm 1 j] using this) (by omega) hB.2.2 hK)

end

/-- What is to be computed of such a region. -/
def lastB (ops : Array Oper) (n : Nat) : Bool :=
  decide (ops.size = n + 1) && (Region.noSelect ops && ((List.range n).all (fun k => Region.waitsFor .any ops n k) && headB .any ops n n 0 (Array.replicate ops.size false)))

theorem wp_region_last {P : Program} {id : Nat} {Q : Exit → Act → World → Prop} {a : Act} {w : World} {l : List Oper} {o : Oper} (n : Nat) (S : World → Prop) (hm : P.follows .mixedOrders = true) (hB : lastB l.toArray n = true) (ho : l[n]? = some o) (hg : o.guard = none) (hS : S w.drew)
    (h : wpQuiet P l.toArray (fun w' => ∃ x : Cls S, w' = x.1) (fun a' => ∀ x : Cls S, Oper.wp P o a' x.1 (fun a2 w2 => Q .normal a2 w2) Q) (l.take n) a) : (Code.region id l.toArray true).wp P Q a w := by
  simp only [lastB, Bool.and_eq_true, decide_eq_true_eq, List.all_eq_true, List.mem_range] at hB
  obtain ⟨hz, hsel, hw, hhead⟩ := hB
  have hn : l.length = n + 1 := by simpa using hz
  have htl : (l.take n).length = n := by rw [List.length_take]; omega
  have H := LastW.lex (md := .any) hz hw hsel (l.take n) 0 (Array.replicate l.toArray.size false) a (fun j hj => by rw [htl] at hj; simp [hj]) (by omega) (by rw [htl]; exact hhead) h
  rw [htl] at H
  refine wp_region_any hm ?_
  rw [hz]
  rw [hz] at H
  refine LastW.any (fun a' w' hC hL => ?_) n _ a _ ⟨⟨w.drew, hS⟩, rfl⟩ H
  obtain ⟨x, rfl⟩ := hC
  unfold wpOp
  simp only [List.getElem?_toArray, ho]
  rw [if_pos (by simp [Region.wanted, hg])]
  exact .inl (hL x)

end Go.Proofs.YtfmoophjdgejeaaGreatDoor
