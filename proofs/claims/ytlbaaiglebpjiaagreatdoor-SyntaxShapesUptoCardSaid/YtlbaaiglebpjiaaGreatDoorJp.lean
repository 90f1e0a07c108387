import Derived.Test.YtlbaaiglebpjiaaGreatDoorJo
import Derived.Orders
import Derived.StillTail
import Derived.Great.Frames
/-
  A region that draws its order, told by what each operation yields: the frame stays a variable. And what the operations of the reference's kids yield.
-/




namespace Go.Proofs.YtlbaaiglebpjiaaGreatDoor
open Go Go.RowKit Go.Shelf Go.Lib

section
variable {P : Program} {ops : Array Oper} {Q : Exit → Act → World → Prop}

def leftN (n : Nat) (listed : Array Bool) : List Nat := (List.range n).filter fun j => !listed.getD j true

theorem getD_setB {l : Array Bool} {i j : Nat} (d : Bool) (h : i ≠ j) : (l.setIfInBounds i true).getD j d = l.getD j d := by
  rw [Array.getD_eq_getD_getElem?, Array.getD_eq_getD_getElem?, Array.getElem?_setIfInBounds_ne h]

theorem leftN_set {n i : Nat} {listed : Array Bool} (hi : i < n) (hu : listed.getD i true = false) : (leftN n (listed.setIfInBounds i true)).length < (leftN n listed).length := by
  have h1 : leftN n (listed.setIfInBounds i true) = (leftN n listed).filter (fun j => j != i) := by
    unfold leftN
    rw [List.filter_filter]
    apply List.filter_congr
    intro j _
    by_cases h : i = j
    · subst h
      have hs : i < listed.size := by
        rcases Nat.lt_or_ge i listed.size with h | h
        · exact h
        · simp [Array.getElem?_eq_none h] at hu
      simp [hs]
    · rw [getD_setB true h]
      have : (j != i) = true := by rw [bne_iff_ne]; exact fun e => h e.symm
      simp [this]
  rw [h1]
  refine List.length_filter_lt_length_iff_exists.2 ⟨i, ?_, by simp⟩
  unfold leftN
  rw [List.mem_filter, List.mem_range]
  exact ⟨hi, by rw [hu]; rfl⟩

/-- An operation yields a value that is so, and writes nothing old. -/
def Does (P : Program) (ops : Array Oper) (Q : Exit → Act → World → Prop) (S : World → Value → Prop) (i d : Nat) (a : Act) (w : World) : Prop :=
  ∀ K : Act → World → Prop, (∀ v w', Below w.heap.size w w' → S w' v → K (a.put (some d) v) w') → wpOp P ops Q i K a w

theorem does_value {S : World → Value → Prop} {i d : Nat} {a : Act} {w w' : World} {o : Oper} {v : Value} (ho : ops[i]? = some o) (hd : o.dst = some d) (hw : Region.wanted o (yielded ops a.tmps) = true)
    (hr : (execOp a.eval o).run P w = .ok (.value v) w') (hb : Below w.heap.size w w') (hs : S w' v) : Does P ops Q S i d a w := by
  intro K hK
  unfold wpOp
  simp only [ho]
  rw [if_pos hw]
  left
  unfold Oper.wp
  rw [hr, Oper.upon_value, hd]
  exact hK _ _ hb hs

theorem does_call {S : World → Value → Prop} {i d : Nat} {a : Act} {w : World} {o : Oper} {f : FuncId} {args : Array Value} (ho : ops[i]? = some o) (hd : o.dst = some d) (hw : Region.wanted o (yielded ops a.tmps) = true)
    (hr : (execOp a.eval o).run P w = .ok (.enter f args) w) (hc : Calls P f args w fun e w' => ∃ v, e = .returned v ∧ S w' v ∧ Below w.heap.size w w') : Does P ops Q S i d a w := by
  intro K hK
  unfold wpOp
  simp only [ho]
  rw [if_pos hw]
  left
  unfold Oper.wp
  rw [hr, Oper.upon_enter]
  refine hc.mono ?_
  rintro e w' ⟨v, rfl, hs, hb⟩
  rw [hd]
  exact hK _ _ hb hs

theorem does_off {S : World → Value → Prop} {i d : Nat} {a : Act} {w : World} {o : Oper} (ho : ops[i]? = some o) (hd : o.dst = some d) (hw : Region.wanted o (yielded ops a.tmps) = false) (hs : S w undef) : Does P ops Q S i d a w := by
  intro K hK
  unfold wpOp
  simp only [ho]
  rw [if_neg (by rw [hw]; exact Bool.false_ne_true), hd]
  exact hK _ _ (Below.refl _ _) hs

theorem wanted_free {o : Oper} {y : Nat → Option Bool} (h : o.guard = none) : Region.wanted o y = true := by unfold Region.wanted; rw [h]
theorem yielded_at {a : Act} {j d : Nat} {o : Oper} {b : Bool} (ho : ops[j]? = some o) (hd : o.dst = some d) (hv : a.eval (.tmp d) = .bool b) : yielded ops a.tmps j = some b := by
  unfold yielded
  rw [ho]
  show (match (o.dst).bind (a.tmps[·]?) with | some (.bool b) => some b | _ => none) = some b
  rw [hd]
  show (match a.tmps[d]? with | some (.bool b) => some b | _ => none) = some b
  have hv' : a.tmps.getD d undef = .bool b := hv
  rw [Array.getD_eq_getD_getElem?] at hv'
  cases h : a.tmps[d]? with
  | none => rw [h] at hv'; cases hv'
  | some v => rw [h] at hv'; have : v = .bool b := hv'; rw [this]
theorem wanted_at {a : Act} {o : Oper} {j : Nat} {b c : Bool} (hg : o.guard = some (j, c)) (hy : yielded ops a.tmps j = some b) : Region.wanted o (yielded ops a.tmps) = (b == c) := by
  unfold Region.wanted
  rw [hg]
  show (yielded ops a.tmps j == some c) = _
  rw [hy]
  cases b <;> cases c <;> rfl

/-- The frame and the world as they stand within the region. -/
structure Near (a0 : Act) (w0 : World) (slots : List Nat) (a : Act) (w : World) : Prop where
  size : a.tmps.size = a0.tmps.size
  defers : a.defers = a0.defers
  below : Below w0.heap.size w0 w
  base : ∀ k, k ∉ slots → a.eval (.tmp k) = a0.eval (.tmp k)

structure InvS (a0 : Act) (w0 : World) (slots : List Nat) (S : Nat → World → Value → Prop) (listed : Array Bool) (a : Act) (w : World) : Prop where
  near : Near a0 w0 slots a w
  len : listed.size = slots.length
  told : ∀ i d, slots[i]? = some d → listed.getD i false = true → S i w (a.eval (.tmp d))

/-- An operation waits for another. -/
def afterB (ops : Array Oper) (i j : Nat) : Bool := ((ops[i]?).map fun o : Oper => o.after.toList.any fun e => decide (e.on = j) && Region.binds .any e).getD false

theorem region_spec {id : Nat} {a0 : Act} {w0 : World} (hm : P.follows .mixedOrders = true) (slots : List Nat) (S : Nat → World → Value → Prop)
    (hdst : ops.toList.map (·.dst) = slots.map some) (hnd : slots.Nodup) (n : Nat) (hn : a0.tmps.size = n) (hltn : ∀ d ∈ slots, d < n)
    (hup : ((List.range ops.size).all fun i => ((ops[i]?).map fun o : Oper => o.after.toList.all fun e => decide (e.on < i)).getD true) = true)
    (hS : ∀ i v w1 w2, S i w1 v → Below w1.heap.size w1 w2 → S i w2 v)
    (hstep : ∀ i, i < slots.length → ∀ a w, Near a0 w0.drew slots a w → (∀ j, afterB ops i j = true → S j w (a.eval (.tmp (slots.getD j 0)))) → Does P ops Q (S i) i (slots.getD i 0) a w)
    (hend : ∀ a w, Near a0 w0.drew slots a w → (∀ i, i < slots.length → S i w (a.eval (.tmp (slots.getD i 0)))) → Q .normal a w) : (Code.region id ops true).wp P Q a0 w0 := by
  have hlt : ∀ d ∈ slots, d < a0.tmps.size := fun d hd => by rw [hn]; exact hltn d hd
  have hgd : ∀ (i : Nat) d, slots[i]? = some d → slots.getD i 0 = d := fun i d h => by rw [List.getD_eq_getElem?_getD, h]; rfl
  have hsz : ops.size = slots.length := by
    have := congrArg List.length hdst
    simpa using this
  have hup' : ∀ (i : Nat) (o : Oper), ops[i]? = some o → ∀ e ∈ o.after, e.on < i := fun i o ho e he => by
    have h1 := List.all_eq_true.1 hup i (List.mem_range.2 (Array.getElem?_eq_some_iff.1 ho).1)
    rw [ho] at h1
    have h2 : (o.after.toList.all fun e => decide (e.on < i)) = true := h1
    exact of_decide_eq_true (List.all_eq_true.1 h2 e (by simpa using he))
  have hat : ∀ (i : Nat) (o : Oper), ops[i]? = some o → ∃ d, slots[i]? = some d ∧ o.dst = some d := fun i o ho => by
    have h1 : (ops.toList.map (·.dst))[i]? = some o.dst := by simp [ho]
    rw [hdst, List.getElem?_map] at h1
    cases hs : slots[i]? with
    | none => rw [hs] at h1; cases h1
    | some d => rw [hs] at h1; exact ⟨d, rfl, (Option.some.inj h1).symm⟩
  have key : ∀ (f : Nat) (listed : Array Bool) (a : Act) (w : World), (leftN ops.size listed).length ≤ f → InvS a0 w0.drew slots S listed a w → wpAny P .any ops Q f listed a w := by
    have hfin : ∀ listed a w, InvS a0 w0.drew slots S listed a w → Region.ready .any ops listed = [] → Q .normal a w := fun listed a w hI h0 => by
      refine hend a w hI.near fun i hil => ?_
      obtain ⟨d, hd⟩ : ∃ d, slots[i]? = some d := ⟨_, List.getElem?_eq_getElem hil⟩
      rw [hgd i d hd]
      refine hI.told i d hd ?_
      have all : ∀ n i, i < n → i < slots.length → listed.getD i false = true := by
        intro n
        induction n with
        | zero => intro i hi; omega
        | succ n ih =>
          intro i hi hil
          by_cases h : listed.getD i true = false
          · exfalso
            have hio : i < ops.size := by omega
            have hm : i ∈ Region.ready .any ops listed := mem_ready.2 ⟨h, ops[i], by simp [hio], fun e he _ => by
              have h1 := hup' i ops[i] (by simp [hio]) e he
              exact ih e.on (by omega) (by omega)⟩
            rw [h0] at hm
            cases hm
          · have hi2 : i < listed.size := by rw [hI.len]; exact hil
            rw [Array.getD_eq_getD_getElem?, Array.getElem?_eq_getElem hi2] at h ⊢
            simpa using h
      exact all (i + 1) i (Nat.lt_succ_self i) (List.getElem?_eq_some_iff.1 hd).1
    intro f
    induction f with
    | zero =>
      intro listed a w hf hI
      have h0 : Region.ready .any ops listed = [] := by
        rw [List.eq_nil_iff_forall_not_mem]
        intro j hj
        obtain ⟨hu, o, ho, _⟩ := mem_ready.1 hj
        have hm : j ∈ leftN ops.size listed := by
          unfold leftN
          rw [List.mem_filter, List.mem_range]
          exact ⟨(Array.getElem?_eq_some_iff.1 ho).1, by rw [hu]; rfl⟩
        have := List.length_pos_of_mem hm
        omega
      exact ⟨h0, hfin _ _ _ hI h0⟩
    | succ f ih =>
      intro listed a w hf hI
      refine ⟨fun h0 => hfin _ _ _ hI h0, fun i hi => ?_⟩
      obtain ⟨hu, o, ho, hall⟩ := mem_ready.1 hi
      obtain ⟨d, hsd, hod⟩ := hat i o ho
      have hi2 : i < ops.size := (Array.getElem?_eq_some_iff.1 ho).1
      have hdo := hstep i (by omega) a w hI.near (fun j hj => by
        unfold afterB at hj
        rw [ho] at hj
        have hj' : (o.after.toList.any fun e => decide (e.on = j) && Region.binds .any e) = true := hj
        obtain ⟨e, he, he2⟩ := List.any_eq_true.1 hj'
        rw [Array.mem_toList_iff] at he
        rw [Bool.and_eq_true] at he2
        have hej : e.on = j := of_decide_eq_true he2.1
        have hji : e.on < i := hup' i o ho e he
        obtain ⟨c, hc⟩ : ∃ c, slots[j]? = some c := ⟨_, List.getElem?_eq_getElem (by omega)⟩
        rw [hgd j c hc]
        exact hI.told j c hc (by rw [← hej]; exact hall e he he2.2))
      rw [hgd i d hsd] at hdo
      refine hdo _ (fun v w' hB hs => ?_)
      refine ih _ _ _ (by have := leftN_set hi2 hu; omega) ⟨⟨?_, ?_, ?_, ?_⟩, ?_, ?_⟩
      · rw [Act.size_put]; exact hI.near.size
      · rw [Act.defers_put']; exact hI.near.defers
      · exact bt hI.near.below hB
      · intro k hk
        rw [Act.eval_put_ne _ _ _ _ (fun e => hk (by rw [← e]; exact List.mem_of_getElem? hsd))]
        exact hI.near.base k hk
      · rw [Array.size_setIfInBounds]; exact hI.len
      · intro j c hc hl
        by_cases hij : i = j
        · subst hij
          rw [hsd] at hc
          obtain rfl : d = c := Option.some.inj hc
          rw [Act.eval_put_same _ _ _ (by rw [hI.near.size]; exact hlt _ (List.mem_of_getElem? hsd))]
          exact hs
        · rw [getD_setB false hij] at hl
          have hne : d ≠ c := fun e => hij (by
            subst e
            exact (List.getElem?_inj (List.getElem?_eq_some_iff.1 hsd).1 hnd).1 (hsd.trans hc.symm))
          rw [Act.eval_put_ne _ _ _ _ hne]
          exact hS j _ _ _ (hI.told j c hc hl) hB
  refine wp_region_any hm (key _ _ _ _ ?_ ⟨⟨rfl, rfl, Below.refl _ _, fun _ _ => rfl⟩, by rw [Array.size_replicate, hsz], fun i d hd hl => ?_⟩)
  · unfold leftN
    exact Nat.le_trans (List.length_filter_le _ _) (by simp)
  · rw [Array.getD_eq_getD_getElem?, Array.getElem?_replicate] at hl
    split at hl <;> cases hl

end

theorem IntsL.later {w w' : World} {v : Value} {ls : List (List Int)} (h : IntsL w v ls) (hb : Below w.heap.size w w') : IntsL w' v ls := by
  obtain ⟨p, c, g, o, rfl, h1, h2⟩ := h
  exact ⟨p, c, g, o, rfl, fun h => ⟨(h1 h).1, Nat.lt_of_lt_of_le (h1 h).2 hb.size⟩, fun i l hl => by
    obtain ⟨lv, h3, h4⟩ := h2 i l hl
    exact ⟨lv, cell_later h3 hb, h4.later hb⟩⟩

theorem NodeAt.stays {w w' : World} {b o : Nat} {t : Tree} {kv : Value} (h : NodeAt w b o t kv) (hb : Below w.heap.size w w') : NodeAt w' b o t kv := h.of_block (hb.block _ h.lt)

/-- What an operation of kids yields. -/
inductive Ph where
  | is (v : Value)
  | ints (ks : List Int)
  | lists (lss : List (List Int))
  | strs (xs : List ByteArray)
  | kid (x : Tree)
  | full (ks : List Int)
  | any

def Ph.says : Ph → World → Value → Prop
  | .is v, _, v' => v' = v
  | .ints ks, w, v => IntsV w v ks
  | .lists lss, w, v => IntsL w v lss
  | .strs xs, w, v => Strs w v xs
  | .kid x, w, v => ∃ kv, v = nodeV x kv ∧ KidsV w kv x.kids
  | .full ks, w, v => ∃ g o, v = .slice (some ⟨g, o, none⟩) ks.length ks.length ∧ g < w.heap.size ∧ ∀ (i : Nat) z, ks[i]? = some z → w.cell? ⟨g, o + i, none⟩ = some (.int .i64 z)
  | .any, _, _ => True

theorem Ph.later {p : Ph} {w w' : World} {v : Value} (h : p.says w v) (hb : Below w.heap.size w w') : p.says w' v := by
  cases p with
  | is v => exact h
  | ints ks => exact IntsV.later h hb
  | lists lss => exact IntsL.later h hb
  | strs xs => exact strs_below h hb
  | kid x =>
    obtain ⟨kv, h1, h2⟩ := h
    exact ⟨kv, h1, h2.later hb⟩
  | full ks =>
    obtain ⟨g, o, h1, h2, h3⟩ := h
    exact ⟨g, o, h1, Nat.lt_of_lt_of_le h2 hb.size, fun i z hz => cell_later (h3 i z hz) hb⟩
  | any => trivial

end Go.Proofs.YtlbaaiglebpjiaaGreatDoor
/-
  The reference's kids: what its operations yield.
-/

namespace Go.Proofs.YtlbaaiglebpjiaaGreatDoor
open Go Go.RowKit Go.Shelf Go.Lib

section
variable {ops : Array Oper} {Q : Exit → Act → World → Prop} {i d : Nat} {a : Act} {w : World} {pos : String} {af : Array Edge}

theorem do_node {B : Nat} {t : Tree} {p : Option Addr} {n cap : Nat} (ho : ops[i]? = some ⟨some d, .load 24 (.tmp 2), 24, pos, af, none⟩) (h2 : a.eval (.tmp 2) = .pointer (some ⟨B, 0, none⟩)) (hn : NodeAt w B 0 t (.slice p n cap)) :
    Does Tryz.prog ops Q (Ph.is (nodeV t (.slice p n cap))).says i d a w := by
  refine does_value ho rfl (wanted_free rfl) ?_ (Below.refl _ _) rfl
  have c0 := hn.c0
  have c1 := hn.c1
  have c2 := hn.c2
  have c3 := hn.c3
  have c4 := hn.c4
  simp only [execOp, h2]
  go_simp
  rfl

theorem do_ints1 (k : Int) (ho : ops[i]? = some ⟨some d, .buildSlice 28 1 #[(0, .const (.int .i64 k))], 28, pos, af, none⟩) :
    Does Tryz.prog ops Q (Ph.ints [k]).says i d a w := by
  refine does_value (w' := w.alloc (.cells #[.int .i64 k] 3)) (v := .slice (some ⟨w.heap.size, 0, none⟩) 1 1) ho rfl (wanted_free rfl) ?_ ((Below.refl _ _).alloc (Nat.le_refl _) _) ?_
  · simp only [execOp]
    go_simp
  · refine ⟨_, 1, w.heap.size, 0, rfl, fun _ => ⟨rfl, by simp⟩, fun i z h => ?_⟩
    rcases i with _ | i <;> simp at h
    subst h; simp [go_sem]

theorem do_ints2 (k1 k2 : Int) (ho : ops[i]? = some ⟨some d, .buildSlice 28 2 #[(0, .const (.int .i64 k1)), (1, .const (.int .i64 k2))], 28, pos, af, none⟩) :
    Does Tryz.prog ops Q (Ph.ints [k1, k2]).says i d a w := by
  refine does_value (w' := w.alloc (.cells #[.int .i64 k1, .int .i64 k2] 3)) (v := .slice (some ⟨w.heap.size, 0, none⟩) 2 2) ho rfl (wanted_free rfl) ?_ ((Below.refl _ _).alloc (Nat.le_refl _) _) ?_
  · simp only [execOp]
    go_simp
  · refine ⟨_, 2, w.heap.size, 0, rfl, fun _ => ⟨rfl, by simp⟩, fun i z h => ?_⟩
    rcases i with _ | _ | i <;> simp at h <;> subst h <;> simp [go_sem]

theorem do_ints5 (k1 k2 k3 k4 k5 : Int) (ho : ops[i]? = some ⟨some d, .buildSlice 28 5 #[(0, .const (.int .i64 k1)), (1, .const (.int .i64 k2)), (2, .const (.int .i64 k3)), (3, .const (.int .i64 k4)), (4, .const (.int .i64 k5))], 28, pos, af, none⟩) :
    Does Tryz.prog ops Q (Ph.ints [k1, k2, k3, k4, k5]).says i d a w := by
  refine does_value (w' := w.alloc (.cells #[.int .i64 k1, .int .i64 k2, .int .i64 k3, .int .i64 k4, .int .i64 k5] 3)) (v := .slice (some ⟨w.heap.size, 0, none⟩) 5 5) ho rfl (wanted_free rfl) ?_ ((Below.refl _ _).alloc (Nat.le_refl _) _) ?_
  · simp only [execOp]
    go_simp
  · refine ⟨_, 5, w.heap.size, 0, rfl, fun _ => ⟨rfl, by simp⟩, fun i z h => ?_⟩
    rcases i with _ | _ | _ | _ | _ | i <;> simp at h <;> subst h <;> simp [go_sem]

theorem do_one {c : Nat} {ks : List Int} (ho : ops[i]? = some ⟨some d, .call { callee := .value (.func 92), args := #[.tmp c], argTypes := #[28] }, 28, pos, af, none⟩) (h : IntsV w (a.eval (.tmp c)) ks) :
    Does Tryz.prog ops Q (Ph.ints ks).says i d a w := by
  refine does_call (f := 92) (args := #[a.eval (.tmp c)]) ho rfl (wanted_free rfl) ?_ ((refOne_any _ _).mono ?_)
  · simp only [execOp]
    go_simp
  · rintro e w' ⟨rfl, rfl⟩
    exact ⟨_, rfl, h, Below.refl _ _⟩

theorem do_exprs (ho : ops[i]? = some ⟨some d, .call { callee := .value (.func 95), args := #[], argTypes := #[] }, 28, pos, af, none⟩) :
    Does Tryz.prog ops Q (Ph.ints [35, 36, 39, 40]).says i d a w := by
  refine does_call (f := 95) (args := #[]) ho rfl (wanted_free rfl) ?_ ((refExpressions_any _).mono ?_)
  · simp only [execOp]
    go_simp
  · rintro e w' ⟨v, rfl, hv, hb⟩
    exact ⟨_, rfl, hv, hb⟩

theorem do_lists1 {c : Nat} {l : List Int} (ho : ops[i]? = some ⟨some d, .buildSlice 65 1 #[(0, .tmp c)], 65, pos, af, none⟩) (h : IntsV w (a.eval (.tmp c)) l) :
    Does Tryz.prog ops Q (Ph.lists [l]).says i d a w := by
  obtain ⟨v, hv⟩ : ∃ v, a.eval (.tmp c) = v := ⟨_, rfl⟩
  rw [hv] at h
  have h' := h
  obtain ⟨p, cp, g, o, rfl, _, _⟩ := h'
  have hb : Below w.heap.size w (w.alloc (.cells #[.slice p l.length cp] 28)) := (Below.refl _ _).alloc (Nat.le_refl _) _
  refine does_value (w' := w.alloc (.cells #[.slice p l.length cp] 28)) (v := .slice (some ⟨w.heap.size, 0, none⟩) 1 1) ho rfl (wanted_free rfl) ?_ hb ?_
  · generalize a.eval = f at hv ⊢
    simp only [execOp, List.map_toArray, List.map_cons, List.map_nil, hv]
    go_simp
  · refine ⟨_, 1, w.heap.size, 0, rfl, fun _ => ⟨rfl, by simp⟩, fun i z h2 => ?_⟩
    rcases i with _ | i <;> simp at h2
    subst h2
    exact ⟨_, by simp [go_sem], h.later hb⟩

theorem do_lists2 {c1 c2 : Nat} {l1 l2 : List Int} (ho : ops[i]? = some ⟨some d, .buildSlice 65 2 #[(0, .tmp c1), (1, .tmp c2)], 65, pos, af, none⟩) (h1 : IntsV w (a.eval (.tmp c1)) l1) (h2 : IntsV w (a.eval (.tmp c2)) l2) :
    Does Tryz.prog ops Q (Ph.lists [l1, l2]).says i d a w := by
  obtain ⟨v1, hv1⟩ : ∃ v, a.eval (.tmp c1) = v := ⟨_, rfl⟩
  obtain ⟨v2, hv2⟩ : ∃ v, a.eval (.tmp c2) = v := ⟨_, rfl⟩
  rw [hv1] at h1
  rw [hv2] at h2
  have h1' := h1
  have h2' := h2
  obtain ⟨p1, cp1, g1, o1, rfl, _, _⟩ := h1'
  obtain ⟨p2, cp2, g2, o2, rfl, _, _⟩ := h2'
  have hb : Below w.heap.size w (w.alloc (.cells #[.slice p1 l1.length cp1, .slice p2 l2.length cp2] 28)) := (Below.refl _ _).alloc (Nat.le_refl _) _
  refine does_value (w' := w.alloc (.cells #[.slice p1 l1.length cp1, .slice p2 l2.length cp2] 28)) (v := .slice (some ⟨w.heap.size, 0, none⟩) 2 2) ho rfl (wanted_free rfl) ?_ hb ?_
  · generalize a.eval = f at hv1 hv2 ⊢
    simp only [execOp, List.map_toArray, List.map_cons, List.map_nil, hv1, hv2]
    go_simp
  · refine ⟨_, 2, w.heap.size, 0, rfl, fun _ => ⟨rfl, by simp⟩, fun i z h3 => ?_⟩
    rcases i with _ | _ | i <;> simp at h3 <;> subst h3
    · exact ⟨_, by simp [go_sem], h1.later hb⟩
    · exact ⟨_, by simp [go_sem], h2.later hb⟩

theorem do_lists3 {c1 c2 c3 : Nat} {l1 l2 l3 : List Int} (ho : ops[i]? = some ⟨some d, .buildSlice 65 3 #[(0, .tmp c1), (1, .tmp c2), (2, .tmp c3)], 65, pos, af, none⟩) (h1 : IntsV w (a.eval (.tmp c1)) l1) (h2 : IntsV w (a.eval (.tmp c2)) l2) (h3 : IntsV w (a.eval (.tmp c3)) l3) :
    Does Tryz.prog ops Q (Ph.lists [l1, l2, l3]).says i d a w := by
  obtain ⟨v1, hv1⟩ : ∃ v, a.eval (.tmp c1) = v := ⟨_, rfl⟩
  obtain ⟨v2, hv2⟩ : ∃ v, a.eval (.tmp c2) = v := ⟨_, rfl⟩
  obtain ⟨v3, hv3⟩ : ∃ v, a.eval (.tmp c3) = v := ⟨_, rfl⟩
  rw [hv1] at h1
  rw [hv2] at h2
  rw [hv3] at h3
  have h1' := h1
  have h2' := h2
  have h3' := h3
  obtain ⟨p1, cp1, g1, o1, rfl, _, _⟩ := h1'
  obtain ⟨p2, cp2, g2, o2, rfl, _, _⟩ := h2'
  obtain ⟨p3, cp3, g3, o3, rfl, _, _⟩ := h3'
  have hb : Below w.heap.size w (w.alloc (.cells #[.slice p1 l1.length cp1, .slice p2 l2.length cp2, .slice p3 l3.length cp3] 28)) := (Below.refl _ _).alloc (Nat.le_refl _) _
  refine does_value (w' := w.alloc (.cells #[.slice p1 l1.length cp1, .slice p2 l2.length cp2, .slice p3 l3.length cp3] 28)) (v := .slice (some ⟨w.heap.size, 0, none⟩) 3 3) ho rfl (wanted_free rfl) ?_ hb ?_
  · generalize a.eval = f at hv1 hv2 hv3 ⊢
    simp only [execOp, List.map_toArray, List.map_cons, List.map_nil, hv1, hv2, hv3]
    go_simp
  · refine ⟨_, 3, w.heap.size, 0, rfl, fun _ => ⟨rfl, by simp⟩, fun i z h4 => ?_⟩
    rcases i with _ | _ | _ | i <;> simp at h4 <;> subst h4
    · exact ⟨_, by simp [go_sem], h1.later hb⟩
    · exact ⟨_, by simp [go_sem], h2.later hb⟩
    · exact ⟨_, by simp [go_sem], h3.later hb⟩

theorem do_kinds {c1 c2 : Nat} {t : Tree} {kv : Value} {ls : List (List Int)} (ho : ops[i]? = some ⟨some d, .call { callee := .value (.func 91), args := #[.tmp c1, .tmp c2], argTypes := #[24, 65] }, 4, pos, af, none⟩)
    (hk : KidsV w kv t.kids) (hkl : t.kids.length ≤ 4194304) (hll : ∀ l ∈ ls, l.length ≤ 4194304) (h1 : a.eval (.tmp c1) = nodeV t kv) (h2 : IntsL w (a.eval (.tmp c2)) ls) :
    Does Tryz.prog ops Q (Ph.is (.bool (kindsB ls t.kids))).says i d a w := by
  refine does_call (f := 91) (args := #[nodeV t kv, a.eval (.tmp c2)]) ho rfl (wanted_free rfl) ?_ ((refKinds_any t kv ls _ w hk h2 hkl hll).mono ?_)
  · simp only [execOp]
    rw [← h1]
    go_simp
  · rintro e w' ⟨rfl, hb⟩
    exact ⟨_, rfl, rfl, hb⟩

theorem do_assign {c : Nat} {ty : Nat} {p : Ph} (ho : ops[i]? = some ⟨some d, .assign (.tmp c), ty, pos, af, none⟩) (h : p.says w (a.eval (.tmp c))) : Does Tryz.prog ops Q p.says i d a w :=
  does_value ho rfl (wanted_free rfl) rfl (Below.refl _ _) h

end
end Go.Proofs.YtlbaaiglebpjiaaGreatDoor
/-
  The reference's kids: what its guarded operations yield, and what an append onto the kinds of expressions yields.
-/

namespace Go.Proofs.YtlbaaiglebpjiaaGreatDoor
open Go Go.RowKit Go.Shelf Go.Lib

theorem yielded_none {ops : Array Oper} {a : Act} {j d : Nat} {o : Oper} (ho : ops[j]? = some o) (hd : o.dst = some d) (hv : a.eval (.tmp d) = undef) : yielded ops a.tmps j = none := by
  unfold yielded
  rw [ho]
  show (match (o.dst).bind (a.tmps[·]?) with | some (.bool b) => some b | _ => none) = none
  rw [hd]
  show (match a.tmps[d]? with | some (.bool b) => some b | _ => none) = none
  have hv' : a.tmps.getD d undef = undef := hv
  rw [Array.getD_eq_getD_getElem?] at hv'
  cases h : a.tmps[d]? with
  | none => rfl
  | some v => rw [h] at hv'; have : v = undef := hv'; rw [this]; rfl

/-- A guarded operation is run, or is not, by what its guard has yielded. -/
theorem wanted_is {ops : Array Oper} {a : Act} {dst : Option Tmp} {op : Op} {ty : TypeId} {pos : String} {af : Array Edge} {j d : Nat} {b c : Bool} {oj : Oper} (ho : ops[j]? = some oj) (hd : oj.dst = some d) (h : a.eval (.tmp d) = .bool b) :
    Region.wanted ⟨dst, op, ty, pos, af, some (j, c)⟩ (yielded ops a.tmps) = (b == c) := wanted_at rfl (yielded_at ho hd h)
theorem wanted_not {ops : Array Oper} {a : Act} {dst : Option Tmp} {op : Op} {ty : TypeId} {pos : String} {af : Array Edge} {j d : Nat} {c : Bool} {oj : Oper} (ho : ops[j]? = some oj) (hd : oj.dst = some d) (h : a.eval (.tmp d) = undef) :
    Region.wanted ⟨dst, op, ty, pos, af, some (j, c)⟩ (yielded ops a.tmps) = false := by
  unfold Region.wanted
  show (yielded ops a.tmps j == some c) = false
  rw [yielded_none ho hd h]
  rfl

section
variable {ops : Array Oper} {Q : Exit → Act → World → Prop} {i d : Nat} {a : Act} {w : World} {pos : String} {af : Array Edge} {gd : Option (Nat × Bool)}

theorem do_nothing {op : Op} {ty : TypeId} (ho : ops[i]? = some ⟨some d, op, ty, pos, af, gd⟩) (hw : Region.wanted ⟨some d, op, ty, pos, af, gd⟩ (yielded ops a.tmps) = false) : Does Tryz.prog ops Q (Ph.is undef).says i d a w :=
  does_off ho rfl hw rfl

theorem do_field {B o f : Nat} {c : Nat} (hf : f = 0 ∨ f = 4) (ho : ops[i]? = some ⟨some d, .fieldAddr 24 (.tmp c) f, 0, pos, af, gd⟩) (hw : Region.wanted ⟨some d, .fieldAddr 24 (.tmp c) f, 0, pos, af, gd⟩ (yielded ops a.tmps) = true) (h2 : a.eval (.tmp c) = .pointer (some ⟨B, o, none⟩)) :
    Does Tryz.prog ops Q (Ph.is (.pointer (some ⟨B, o + f, none⟩))).says i d a w := by
  refine does_value ho rfl hw ?_ (Below.refl _ _) rfl
  rcases hf with rfl | rfl
  · simp only [execOp, h2]
    go_simp
  · simp only [execOp, h2]
    go_simp

theorem do_loadS {A : Addr} {c : Nat} {v : Value} (ho : ops[i]? = some ⟨some d, .load 22 (.tmp c), 22, pos, af, gd⟩) (hw : Region.wanted ⟨some d, .load 22 (.tmp c), 22, pos, af, gd⟩ (yielded ops a.tmps) = true) (h2 : a.eval (.tmp c) = .pointer (some A)) (hc : w.cell? A = some v) :
    Does Tryz.prog ops Q (Ph.is v).says i d a w := by
  refine does_value ho rfl hw ?_ (Below.refl _ _) rfl
  simp only [execOp, h2]
  go_simp

theorem do_loadI {A : Addr} {c : Nat} {v : Value} (ho : ops[i]? = some ⟨some d, .load 3 (.tmp c), 3, pos, af, gd⟩) (hw : Region.wanted ⟨some d, .load 3 (.tmp c), 3, pos, af, gd⟩ (yielded ops a.tmps) = true) (h2 : a.eval (.tmp c) = .pointer (some A)) (hc : w.cell? A = some v) :
    Does Tryz.prog ops Q (Ph.is v).says i d a w := by
  refine does_value ho rfl hw ?_ (Below.refl _ _) rfl
  simp only [execOp, h2]
  go_simp

theorem do_index {g o n cap k : Nat} {c : Nat} (ho : ops[i]? = some ⟨some d, .indexAddr 22 (.tmp c) (.const (.int .i64 k)), 0, pos, af, gd⟩) (hw : Region.wanted ⟨some d, .indexAddr 22 (.tmp c) (.const (.int .i64 k)), 0, pos, af, gd⟩ (yielded ops a.tmps) = true)
    (h2 : a.eval (.tmp c) = .slice (some ⟨g, o, none⟩) n cap) (hk : k < n) :
    Does Tryz.prog ops Q (Ph.is (.pointer (some ⟨g, o + k * 5, none⟩))).says i d a w := by
  refine does_value ho rfl hw ?_ (Below.refl _ _) rfl
  have hk' : (k : Int) < (n : Int) := by omega
  have hcst : a.eval (.const (.int .i64 k)) = .int .i64 k := rfl
  simp only [execOp, h2, hcst]
  go_simp

theorem do_kid {g o : Nat} {c : Nat} {x : Tree} {kv : Value} (ho : ops[i]? = some ⟨some d, .load 24 (.tmp c), 24, pos, af, gd⟩) (hw : Region.wanted ⟨some d, .load 24 (.tmp c), 24, pos, af, gd⟩ (yielded ops a.tmps) = true)
    (h2 : a.eval (.tmp c) = .pointer (some ⟨g, o, none⟩)) (hn : NodeAt w g o x kv) (hk : KidsV w kv x.kids) :
    Does Tryz.prog ops Q (Ph.kid x).says i d a w := by
  refine does_value (v := nodeV x kv) ho rfl hw ?_ (Below.refl _ _) ⟨kv, rfl, hk⟩
  have c0 := hn.c0
  have c1 := hn.c1
  have c2 := hn.c2
  have c3 := hn.c3
  have c4 := hn.c4
  simp only [execOp, h2]
  go_simp
  rfl

theorem do_is1 {c : Nat} {k : Int} (ho : ops[i]? = some ⟨some d, .binOp .eql 3 (.tmp c) (.const (.int .i64 1)) 3, 4, pos, af, gd⟩) (hw : Region.wanted ⟨some d, .binOp .eql 3 (.tmp c) (.const (.int .i64 1)) 3, 4, pos, af, gd⟩ (yielded ops a.tmps) = true)
    (h2 : a.eval (.tmp c) = .int .i64 k) : Does Tryz.prog ops Q (Ph.is (.bool (k == 1))).says i d a w := by
  refine does_value ho rfl hw ?_ (Below.refl _ _) rfl
  have hcst : a.eval (.const (.int .i64 1)) = .int .i64 1 := rfl
  simp only [execOp, h2, hcst]
  go_simp

theorem do_move {c : Nat} {ty : TypeId} {p : Ph} (ho : ops[i]? = some ⟨some d, .move (.tmp c), ty, pos, af, gd⟩) (hw : Region.wanted ⟨some d, .move (.tmp c), ty, pos, af, gd⟩ (yielded ops a.tmps) = true) (h : p.says w (a.eval (.tmp c))) : Does Tryz.prog ops Q p.says i d a w :=
  does_value ho rfl hw rfl (Below.refl _ _) h

theorem do_pickT {c : Nat} {x y : Operand} {ty : TypeId} {p : Ph} (ho : ops[i]? = some ⟨some d, .pick (.tmp c) x y, ty, pos, af, gd⟩) (hw : Region.wanted ⟨some d, .pick (.tmp c) x y, ty, pos, af, gd⟩ (yielded ops a.tmps) = true) (hc : a.eval (.tmp c) = .bool true) (h : p.says w (a.eval x)) : Does Tryz.prog ops Q p.says i d a w := by
  refine does_value (v := a.eval x) ho rfl hw ?_ (Below.refl _ _) h
  simp only [execOp, hc]
  rfl
theorem do_pickF {c : Nat} {x y : Operand} {ty : TypeId} {p : Ph} (ho : ops[i]? = some ⟨some d, .pick (.tmp c) x y, ty, pos, af, gd⟩) (hw : Region.wanted ⟨some d, .pick (.tmp c) x y, ty, pos, af, gd⟩ (yielded ops a.tmps) = true) (hc : a.eval (.tmp c) = .bool false) (h : p.says w (a.eval y)) : Does Tryz.prog ops Q p.says i d a w := by
  refine does_value (v := a.eval y) ho rfl hw ?_ (Below.refl _ _) h
  simp only [execOp, hc]
  rfl

theorem do_strs1 (x : ByteArray) (ho : ops[i]? = some ⟨some d, .buildSlice 43 1 #[(0, .const (.string x))], 43, pos, af, gd⟩) (hw : Region.wanted ⟨some d, .buildSlice 43 1 #[(0, .const (.string x))], 43, pos, af, gd⟩ (yielded ops a.tmps) = true) :
    Does Tryz.prog ops Q (Ph.strs [x]).says i d a w := by
  refine does_value (w' := w.alloc (.cells #[.string x] 9)) (v := .slice (some ⟨w.heap.size, 0, none⟩) 1 1) ho rfl hw ?_ ((Below.refl _ _).alloc (Nat.le_refl _) _) ?_
  · simp only [execOp]
    go_simp
  · refine .inr ⟨w.heap.size, 1, rfl, by simp, fun j hj => ?_⟩
    have hj' : j < 1 := hj
    obtain rfl : j = 0 := by omega
    simp [go_sem]

theorem do_strs2 (x y : ByteArray) (ho : ops[i]? = some ⟨some d, .buildSlice 43 2 #[(0, .const (.string x)), (1, .const (.string y))], 43, pos, af, gd⟩) (hw : Region.wanted ⟨some d, .buildSlice 43 2 #[(0, .const (.string x)), (1, .const (.string y))], 43, pos, af, gd⟩ (yielded ops a.tmps) = true) :
    Does Tryz.prog ops Q (Ph.strs [x, y]).says i d a w := by
  refine does_value (w' := w.alloc (.cells #[.string x, .string y] 9)) (v := .slice (some ⟨w.heap.size, 0, none⟩) 2 2) ho rfl hw ?_ ((Below.refl _ _).alloc (Nat.le_refl _) _) ?_
  · simp only [execOp]
    go_simp
  · refine .inr ⟨w.heap.size, 2, rfl, by simp, fun j hj => ?_⟩
    have hj' : j < 2 := hj
    rcases (show j = 0 ∨ j = 1 by omega) with rfl | rfl <;> simp [go_sem]

theorem do_word {c1 c2 : Nat} {x : Tree} {xs : List ByteArray} (hx0 : xs ≠ []) (hx : xs.length ≤ 4096) (ho : ops[i]? = some ⟨some d, .call { callee := .value (.func 93), args := #[.tmp c1, .tmp c2], argTypes := #[24, 43] }, 4, pos, af, gd⟩)
    (hw : Region.wanted ⟨some d, .call { callee := .value (.func 93), args := #[.tmp c1, .tmp c2], argTypes := #[24, 43] }, 4, pos, af, gd⟩ (yielded ops a.tmps) = true)
    (h1 : (Ph.kid x).says w (a.eval (.tmp c1))) (h2 : Strs w (a.eval (.tmp c2)) xs) : Does Tryz.prog ops Q (Ph.is (.bool (wordB xs x))).says i d a w := by
  obtain ⟨kv, h1, hk⟩ := h1
  refine does_call (f := 93) (args := #[nodeV x kv, a.eval (.tmp c2)]) ho rfl hw ?_ ((refWord_any x kv _ xs w hk h2 hx hx0).mono ?_)
  · simp only [execOp]
    rw [← h1]
    go_simp
  · rintro e w' ⟨rfl, hb⟩
    exact ⟨_, rfl, rfl, hb⟩

theorem refExpressions_full (w : World) : Calls Tryz.prog 95 #[] w fun e w' => ∃ v, e = .returned v ∧ (Ph.full [35, 36, 39, 40]).says w' v ∧ Below w.heap.size w w' := by
  go_enter Tryz.func95, Tryz.ntmps95
  go_wp2_with fail
  go_ret
  refine ⟨_, rfl, ⟨w.heap.size, 0, rfl, by simp, fun i z h => ?_⟩, (Below.refl _ _).alloc (Nat.le_refl _) _⟩
  rcases i with _ | _ | _ | _ | i <;> simp at h <;> subst h <;> simp [go_sem]

theorem do_exprsF (ho : ops[i]? = some ⟨some d, .call { callee := .value (.func 95), args := #[], argTypes := #[] }, 28, pos, af, none⟩) :
    Does Tryz.prog ops Q (Ph.full [35, 36, 39, 40]).says i d a w := by
  refine does_call (f := 95) (args := #[]) ho rfl (wanted_free rfl) ?_ (refExpressions_full _)
  simp only [execOp]
  go_simp

theorem do_append {c1 c2 : Nat} (ho : ops[i]? = some ⟨some d, .call { callee := .builtin .append, args := #[.tmp c1, .tmp c2], argTypes := #[28, 28] }, 28, pos, af, none⟩)
    (h1 : (Ph.full [35, 36, 39, 40]).says w (a.eval (.tmp c1))) (h2 : IntsV w (a.eval (.tmp c2)) [1]) : Does Tryz.prog ops Q (Ph.ints [35, 36, 39, 40, 1]).says i d a w := by
  obtain ⟨g, o, e1, hg, hc⟩ := h1
  obtain ⟨p, cap, g2, o2, e2, hp, hc2⟩ := h2
  obtain ⟨rfl, hg2⟩ := hp (by simp)
  obtain ⟨i0, hi, hz0, hz1, hz2⟩ := info_parts infoInt
  have hr := fun ty => run_append_grow (P := Tryz.prog) w 28 ty 3 i0 (.int .i64 0) Tryz.underlying28 hi hz0 ⟨g, o, none⟩ 4 4 [.int .i64 35, .int .i64 36, .int .i64 39, .int .i64 40] (by rw [hz1]; rfl) (fun j v hj => by
    rcases j with _ | _ | _ | _ | j <;> simp at hj <;> subst hj
    · exact hc 0 35 rfl
    · exact hc 1 36 rfl
    · exact hc 2 39 rfl
    · exact hc 3 40 rfl) ⟨g2, o2, none⟩ 1 cap [.int .i64 1] (by rw [hz1]; rfl) (fun j v hj => by
    rcases j with _ | j <;> simp at hj
    subst hj
    exact hc2 0 1 rfl) (by omega) (by omega) (growslice_fits (by omega) (by rw [hz2]; omega))
  refine does_value ho rfl (wanted_free rfl) (v := .slice (some ⟨w.heap.size, 0, none⟩) 5 (grownCap w (4 + 1) 4 3)) (w' := w.drew.alloc (.cells (#[.int .i64 35, .int .i64 36, .int .i64 39, .int .i64 40] ++ #[.int .i64 1] ++ Builtin.zeroCells (Value.int .i64 0).cells (grownCap w (4 + 1) 4 3 - (4 + 1))) 3)) ?_ ?_ ?_
  · generalize a.eval = f at e1 e2 ⊢
    unfold execOp
    simp only [resolve, invoke, builtin, Sem.run_bind, Sem.run_pure, Result.andThen_ok, List.map_toArray, List.map_cons, List.map_nil, e1, e2, List.length_cons, List.length_nil]
    rw [hr]
    rfl
  · exact (below_drewN (Below.refl _ _) 1).alloc (Nat.le_refl _) _
  · refine ⟨_, _, w.heap.size, 0, rfl, fun _ => ⟨rfl, by simp⟩, fun i z h => ?_⟩
    rcases i with _ | _ | _ | _ | _ | i <;> simp at h <;> subst h <;> (simp [go_sem]; rw [Array.getElem?_append_left (by simp)]; rfl)

end
end Go.Proofs.YtlbaaiglebpjiaaGreatDoor
