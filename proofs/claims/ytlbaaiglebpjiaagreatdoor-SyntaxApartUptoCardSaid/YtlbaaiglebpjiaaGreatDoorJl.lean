import Derived.Orders
import Derived.StillTail
import Derived.Test.YtlbaaiglebpjiaaGreatDoorKe
import Derived.Test.YtlbaaiglebpjiaaGreatDoorKh
import Derived.Test.YtlbaaiglebpjiaaGreatDoorAw
import Derived.Test.YtlbaaiglebpjiaaGreatDoorIe
import Derived.Deep.RegionHeld3
import Derived.Deep.DrawnRows
/-
  A region that draws its order, by an invariant over what has come up: each operation is shown once, whatever came before it. No program stands here.
-/
namespace Go.Proofs.YtlbaaiglebpjiaaGreatDoor
open Go

section
variable {P : Program} {ops : Array Oper} {md : Region.Mode}

/-- What has not come up yet. -/
def toCome (n : Nat) (listed : Array Bool) : List Nat := (List.range n).filter fun j => !listed.getD j true

theorem toCome_set {n i : Nat} {listed : Array Bool} (hi : i < n) (hu : listed.getD i true = false) : (toCome n (listed.setIfInBounds i true)).length < (toCome n listed).length := by
  have h1 : toCome n (listed.setIfInBounds i true) = (toCome n listed).filter (fun j => j != i) := by
    unfold toCome
    rw [List.filter_filter]
    apply List.filter_congr
    intro j _
    by_cases h : i = j
    · subst h
      have hs : i < listed.size := by
        rcases Nat.lt_or_ge i listed.size with h | h
        · exact h
        · simp [Array.getElem?_eq_none h] at hu
      simp [hs]
    · rw [getD_set_ne true h]
      have : (j != i) = true := by rw [bne_iff_ne]; exact fun e => h e.symm
      simp [this]
  rw [h1]
  refine List.length_filter_lt_length_iff_exists.2 ⟨i, ?_, by simp⟩
  unfold toCome
  rw [List.mem_filter, List.mem_range]
  exact ⟨hi, by rw [hu]; rfl⟩

theorem wpAny_inv {Q : Exit → Act → World → Prop} (Inv : Array Bool → Act → World → Prop)
    (hstep : ∀ listed a w, Inv listed a w → ∀ i ∈ Region.ready md ops listed, wpOp P ops Q i (fun a' w' => Inv (listed.setIfInBounds i true) a' w') a w)
    (hend : ∀ listed a w, Inv listed a w → Region.ready md ops listed = [] → Q .normal a w) :
    ∀ (f : Nat) (listed : Array Bool) (a : Act) (w : World), (toCome ops.size listed).length ≤ f → Inv listed a w → wpAny P md ops Q f listed a w
  | 0, listed, a, w, hf, h => by
    have h0 : Region.ready md ops listed = [] := by
      rw [List.eq_nil_iff_forall_not_mem]
      intro j hj
      obtain ⟨hu, o, ho, _⟩ := mem_ready.1 hj
      have hm : j ∈ toCome ops.size listed := by
        unfold toCome
        rw [List.mem_filter, List.mem_range]
        exact ⟨(Array.getElem?_eq_some_iff.1 ho).1, by rw [hu]; rfl⟩
      have := List.length_pos_of_mem hm
      omega
    exact ⟨h0, hend _ _ _ h h0⟩
  | f + 1, listed, a, w, hf, h => by
    refine ⟨fun h0 => hend _ _ _ h h0, fun i hi => wpOp_mono (fun a' w' h' => wpAny_inv Inv hstep hend f _ a' w' ?_ h') (hstep _ _ _ h i hi)⟩
    obtain ⟨hu, o, ho, _⟩ := mem_ready.1 hi
    have := toCome_set (Array.getElem?_eq_some_iff.1 ho).1 hu
    omega

theorem wp_region_inv {id : Nat} {Q : Exit → Act → World → Prop} {a : Act} {w : World} (hm : P.follows .mixedOrders = true) (Inv : Array Bool → Act → World → Prop)
    (hstart : Inv (Array.replicate ops.size false) a w.drew)
    (hstep : ∀ listed a w, Inv listed a w → ∀ i ∈ Region.ready .any ops listed, wpOp P ops Q i (fun a' w' => Inv (listed.setIfInBounds i true) a' w') a w)
    (hend : ∀ listed a w, Inv listed a w → Region.ready .any ops listed = [] → Q .normal a w) : (Code.region id ops true).wp P Q a w :=
  wp_region_any hm (wpAny_inv Inv hstep hend _ _ _ _ (by
    unfold toCome
    exact Nat.le_trans (List.length_filter_le _ _) (by simp)) hstart)

/-- What lies in a slot once its operation has come up. -/
def slotV (b : Bool) (v : Value) : Value := if b then v else undef

theorem wpOp_go {Q : Exit → Act → World → Prop} {i : Nat} {o : Oper} {K : Act → World → Prop} {a : Act} {w : World} (ho : ops[i]? = some o) (hg : o.guard = none)
    (h : ∀ K' : Act → World → Prop, (∀ a w, K a w → K' a w) → o.wp P a w K' Q) : wpOp P ops Q i K a w := by
  unfold wpOp
  simp only [ho]
  rw [if_pos (by simp [Region.wanted, hg])]
  exact .inl (h K (fun _ _ h => h))

/-- An operation that is ready: what it waits for has come up. -/
theorem ready_parts {j : Nat} {listed : Array Bool} (h : j ∈ Region.ready md ops listed) : listed.getD j true = false ∧ ∃ o, ops[j]? = some o ∧ ∀ e ∈ o.after, Region.binds md e = true → listed.getD e.on false = true := mem_ready.1 h

end
end Go.Proofs.YtlbaaiglebpjiaaGreatDoor
/-
  What 'was, old := Copy(n), Copy(by)' has made so far, whatever came first.
-/
namespace Go.Proofs.YtlbaaiglebpjiaaGreatDoor
open Go.RowKit Go.Shelf Go.Lib

/-- b1, b3: the copies are made; b4, b5: the variables; b6, b7: they are set. -/
structure CopySt (w0 : World) (t b : Tree) (w : World) (b1 b3 b4 b5 b6 b7 : Bool) (V1 V2 : Nat) (k1 k2 : Value) (F1 F2 : Nat → Prop) : Prop where
  below : Below w0.heap.size w0 w
  c1 : b1 = true → KidsO w k1 t.kids F1
  f1 : b1 = true → ∀ k, F1 k → w0.heap.size ≤ k ∧ k < w.heap.size
  c2 : b3 = true → KidsO w k2 b.kids F2
  f2 : b3 = true → ∀ k, F2 k → w0.heap.size ≤ k ∧ k < w.heap.size
  a1 : b4 = true → w0.heap.size ≤ V1 ∧ V1 < w.heap.size ∧ ∃ x kx, NodeOwn w V1 x kx ∧ (b6 = true → x = t ∧ kx = k1)
  a2 : b5 = true → w0.heap.size ≤ V2 ∧ V2 < w.heap.size ∧ ∃ x kx, NodeOwn w V2 x kx ∧ (b7 = true → x = b ∧ kx = k2)
  d11 : b4 = true → b1 = true → ¬ F1 V1
  d12 : b4 = true → b3 = true → ¬ F2 V1
  d21 : b5 = true → b1 = true → ¬ F1 V2
  d22 : b5 = true → b3 = true → ¬ F2 V2
  dv : b4 = true → b5 = true → V1 ≠ V2
  o6 : b6 = true → b1 = true ∧ b3 = true ∧ b4 = true ∧ b5 = true
  o7 : b7 = true → b6 = true

section
variable {w0 : World} {t b : Tree} {w w' : World} {b1 b3 b4 b5 b6 b7 : Bool} {V1 V2 : Nat} {k1 k2 : Value} {F1 F2 : Nat → Prop}

theorem CopySt.later (h : CopySt w0 t b w b1 b3 b4 b5 b6 b7 V1 V2 k1 k2 F1 F2) (hb : Below w.heap.size w w') : CopySt w0 t b w' b1 b3 b4 b5 b6 b7 V1 V2 k1 k2 F1 F2 := by
  have hz := hb.size
  refine ⟨bt h.below hb, fun e => (h.c1 e).keep (fun k hk => hb.block k (h.f1 e k hk).2), fun e k hk => ⟨(h.f1 e k hk).1, by have := (h.f1 e k hk).2; omega⟩,
    fun e => (h.c2 e).keep (fun k hk => hb.block k (h.f2 e k hk).2), fun e k hk => ⟨(h.f2 e k hk).1, by have := (h.f2 e k hk).2; omega⟩, fun e => ?_, fun e => ?_, h.d11, h.d12, h.d21, h.d22, h.dv, h.o6, h.o7⟩
  · obtain ⟨h1, h2, x, kx, h3, h4⟩ := h.a1 e
    exact ⟨h1, by omega, x, kx, h3.of_block (hb.block V1 h2), h4⟩
  · obtain ⟨h1, h2, x, kx, h3, h4⟩ := h.a2 e
    exact ⟨h1, by omega, x, kx, h3.of_block (hb.block V2 h2), h4⟩

theorem CopySt.call1 (h : CopySt w0 t b w false b3 b4 b5 b6 b7 V1 V2 k1 k2 F1 F2) (hb : Below w.heap.size w w') {k : Value} (hk : KidsO w' k t.kids (fun j => w.heap.size ≤ j ∧ j < w'.heap.size)) :
    CopySt w0 t b w' true b3 b4 b5 b6 b7 V1 V2 k k2 (fun j => w.heap.size ≤ j ∧ j < w'.heap.size) F2 := by
  have e6 : b6 = false := by
    cases b6 with
    | false => rfl
    | true => have := h.o6 rfl; simp at this
  subst e6
  have e7 : b7 = false := by
    cases b7 with
    | false => rfl
    | true => have := h.o7 rfl; simp at this
  subst e7
  have g := h.later hb
  have hz := h.below.size
  exact ⟨g.below, fun _ => hk, fun _ j hj => ⟨by omega, hj.2⟩, g.c2, g.f2, fun e => by obtain ⟨h1, h2, x, kx, h3, _⟩ := g.a1 e; exact ⟨h1, h2, x, kx, h3, fun e => by cases e⟩, g.a2, fun e _ hj => by have := (h.a1 e).2.1; omega, g.d12, fun e _ hj => by have := (h.a2 e).2.1; omega, g.d22, g.dv, fun e => by (cases e), fun e => by (cases e)⟩

theorem CopySt.call2 (h : CopySt w0 t b w b1 false b4 b5 b6 b7 V1 V2 k1 k2 F1 F2) (hb : Below w.heap.size w w') {k : Value} (hk : KidsO w' k b.kids (fun j => w.heap.size ≤ j ∧ j < w'.heap.size)) :
    CopySt w0 t b w' b1 true b4 b5 b6 b7 V1 V2 k1 k F1 (fun j => w.heap.size ≤ j ∧ j < w'.heap.size) := by
  have e6 : b6 = false := by
    cases b6 with
    | false => rfl
    | true => have := h.o6 rfl; simp at this
  subst e6
  have e7 : b7 = false := by
    cases b7 with
    | false => rfl
    | true => have := h.o7 rfl; simp at this
  subst e7
  have g := h.later hb
  have hz := h.below.size
  exact ⟨g.below, g.c1, g.f1, fun _ => hk, fun _ j hj => ⟨by omega, hj.2⟩, g.a1, fun e => by obtain ⟨h1, h2, x, kx, h3, _⟩ := g.a2 e; exact ⟨h1, h2, x, kx, h3, fun e => by cases e⟩, g.d11, fun e _ hj => by have := (h.a1 e).2.1; omega, g.d21, fun e _ hj => by have := (h.a2 e).2.1; omega, g.dv, fun e => by (cases e), fun e => by (cases e)⟩

theorem CopySt.new1 (h : CopySt w0 t b w b1 b3 false b5 b6 b7 V1 V2 k1 k2 F1 F2) :
    CopySt w0 t b (w.alloc (.cells #[.int .i64 0, .string ⟨#[]⟩, .int .i64 0, .int .i64 0, .slice none 0 0] 24)) b1 b3 true b5 b6 b7 w.heap.size V2 k1 k2 F1 F2 := by
  have e6 : b6 = false := by
    cases b6 with
    | false => rfl
    | true => have := h.o6 rfl; simp at this
  subst e6
  have e7 : b7 = false := by
    cases b7 with
    | false => rfl
    | true => have := h.o7 rfl; simp at this
  subst e7
  have g := h.later ((Below.refl w.heap.size w).alloc (Nat.le_refl _) (.cells #[.int .i64 0, .string ⟨#[]⟩, .int .i64 0, .int .i64 0, .slice none 0 0] 24))
  refine ⟨g.below, g.c1, g.f1, g.c2, g.f2, fun _ => ⟨h.below.size, by simp, _, _, ownNew w _ rfl, fun e => by cases e⟩, g.a2, fun _ e hj => ?_, fun _ e hj => ?_, g.d21, g.d22, fun _ e => ?_, fun e => by (cases e), fun e => by (cases e)⟩
  · have := (h.f1 e _ hj).2; omega
  · have := (h.f2 e _ hj).2; omega
  · have := (h.a2 e).2.1; omega

theorem CopySt.new2 (h : CopySt w0 t b w b1 b3 b4 false b6 b7 V1 V2 k1 k2 F1 F2) :
    CopySt w0 t b (w.alloc (.cells #[.int .i64 0, .string ⟨#[]⟩, .int .i64 0, .int .i64 0, .slice none 0 0] 24)) b1 b3 b4 true b6 b7 V1 w.heap.size k1 k2 F1 F2 := by
  have e6 : b6 = false := by
    cases b6 with
    | false => rfl
    | true => have := h.o6 rfl; simp at this
  subst e6
  have e7 : b7 = false := by
    cases b7 with
    | false => rfl
    | true => have := h.o7 rfl; simp at this
  subst e7
  have g := h.later ((Below.refl w.heap.size w).alloc (Nat.le_refl _) (.cells #[.int .i64 0, .string ⟨#[]⟩, .int .i64 0, .int .i64 0, .slice none 0 0] 24))
  refine ⟨g.below, g.c1, g.f1, g.c2, g.f2, g.a1, fun _ => ⟨h.below.size, by simp, _, _, ownNew w _ rfl, fun e => by cases e⟩, g.d11, g.d12, fun _ e hj => ?_, fun _ e hj => ?_, fun e _ => ?_, fun e => by (cases e), fun e => by (cases e)⟩
  · have := (h.f1 e _ hj).2; omega
  · have := (h.f2 e _ hj).2; omega
  · have := (h.a1 e).2.1; omega

theorem CopySt.set1 (h : CopySt w0 t b w true true true true false b7 V1 V2 k1 k2 F1 F2) {x : Tree} {kx : Value} (hx : NodeOwn w V1 x kx) :
    CopySt w0 t b (putNode w V1 t.kind t.text t.at_ t.end_ k1) true true true true true b7 V1 V2 k1 k2 F1 F2 := by
  have hz := put_size w V1 t.kind t.text t.at_ t.end_ k1
  obtain ⟨h1, h2, _⟩ := h.a1 rfl
  refine ⟨put_below h.below _ _ _ _ _ _ h1, fun e => (h.c1 e).keep (fun k hk => put_other _ _ _ _ _ _ _ _ (fun e2 => h.d11 rfl rfl (by rw [← e2]; exact hk))), fun e k hk => by rw [hz]; exact h.f1 e k hk,
    fun e => (h.c2 e).keep (fun k hk => put_other _ _ _ _ _ _ _ _ (fun e2 => h.d12 rfl rfl (by rw [← e2]; exact hk))), fun e k hk => by rw [hz]; exact h.f2 e k hk,
    fun _ => ⟨h1, by rw [hz]; exact h2, t, k1, hx.put, fun _ => ⟨rfl, rfl⟩⟩, fun e => ?_, h.d11, h.d12, h.d21, h.d22, h.dv, fun _ => ⟨rfl, rfl, rfl, rfl⟩, fun _ => rfl⟩
  obtain ⟨g1, g2, y, ky, g3, g4⟩ := h.a2 e
  exact ⟨g1, by rw [hz]; exact g2, y, ky, g3.of_block (put_other _ _ _ _ _ _ _ _ (Ne.symm (h.dv rfl rfl))), g4⟩

theorem CopySt.set2 (h : CopySt w0 t b w true true true true true false V1 V2 k1 k2 F1 F2) {x : Tree} {kx : Value} (hx : NodeOwn w V2 x kx) :
    CopySt w0 t b (putNode w V2 b.kind b.text b.at_ b.end_ k2) true true true true true true V1 V2 k1 k2 F1 F2 := by
  have hz := put_size w V2 b.kind b.text b.at_ b.end_ k2
  obtain ⟨h1, h2, _⟩ := h.a2 rfl
  refine ⟨put_below h.below _ _ _ _ _ _ h1, fun e => (h.c1 e).keep (fun k hk => put_other _ _ _ _ _ _ _ _ (fun e2 => h.d21 rfl rfl (by rw [← e2]; exact hk))), fun e k hk => by rw [hz]; exact h.f1 e k hk,
    fun e => (h.c2 e).keep (fun k hk => put_other _ _ _ _ _ _ _ _ (fun e2 => h.d22 rfl rfl (by rw [← e2]; exact hk))), fun e k hk => by rw [hz]; exact h.f2 e k hk,
    fun e => ?_, fun _ => ⟨h1, by rw [hz]; exact h2, b, k2, hx.put, fun _ => ⟨rfl, rfl⟩⟩, h.d11, h.d12, h.d21, h.d22, h.dv, fun _ => ⟨rfl, rfl, rfl, rfl⟩, fun _ => rfl⟩
  obtain ⟨g1, g2, y, ky, g3, g4⟩ := h.a1 e
  exact ⟨g1, by rw [hz]; exact g2, y, ky, g3.of_block (put_other _ _ _ _ _ _ _ _ (h.dv rfl rfl)), g4⟩

end
end Go.Proofs.YtlbaaiglebpjiaaGreatDoor
/-
  The walk of SyntaxApart (written by gen_ig.py).
-/








namespace Go.Proofs.YtlbaaiglebpjiaaGreatDoor
open Go.RowKit Go.Shelf Go.Lib
attribute [local go_sem ↓] Go.wp_at_zero Go.wp_at_succ

/-- What 'was, old := Copy(n), Copy(by)' leaves. -/
structure CopyFin (w0 : World) (V1 V2 : Nat) (t b : Tree) (ka kb : Value) (wx : World) : Prop where
  below : Below w0.heap.size w0 wx
  n1 : NodeAt wx V1 0 t ka
  n2 : NodeAt wx V2 0 b kb
  k1 : KidsV wx ka t.kids
  k2 : KidsV wx kb b.kids

theorem copyFin_one {w0 w4 w5 wz : World} {V1 V2 P1 P2 : Nat} {t b x : Tree} {ka kb kx : Value} (hB : Below w0.heap.size w0 wz) (h1 : NodeAt wz V1 0 t ka) (h2 : NodeOwn wz V2 x kx) (hV : w0.heap.size ≤ V2) (hne : V1 ≠ V2)
    (hA : KidsO w4 ka t.kids (fun k => P1 ≤ k ∧ k < w4.heap.size)) (hzA : ∀ k, P1 ≤ k → k < w4.heap.size → wz.heap[k]? = w4.heap[k]?) (hC : KidsO w5 kb b.kids (fun k => P2 ≤ k ∧ k < w5.heap.size)) (hzC : ∀ k, P2 ≤ k → k < w5.heap.size → wz.heap[k]? = w5.heap[k]?)
    (n1 : V2 < P1 ∨ w4.heap.size ≤ V2) (n2 : V2 < P2 ∨ w5.heap.size ≤ V2) : CopyFin w0 V1 V2 t b ka kb (putNode wz V2 b.kind b.text b.at_ b.end_ kb) :=
  ⟨put_below hB _ _ _ _ _ _ hV, h1.of_block (put_other _ _ _ _ _ _ _ _ hne), h2.put.1, (hA.keep (fun k hk => (put_other _ _ _ _ _ _ _ _ (by omega)).trans (hzA k hk.1 hk.2))).toV, (hC.keep (fun k hk => (put_other _ _ _ _ _ _ _ _ (by omega)).trans (hzC k hk.1 hk.2))).toV⟩

theorem copyFin_two {w0 w4 w5 wz : World} {V1 V2 P1 P2 : Nat} {t b x y : Tree} {ka kb kx ky : Value} (hB : Below w0.heap.size w0 wz) (h1 : NodeOwn wz V1 x kx) (h2 : NodeOwn wz V2 y ky) (hV1 : w0.heap.size ≤ V1) (hV : w0.heap.size ≤ V2) (hne : V1 ≠ V2)
    (hA : KidsO w4 ka t.kids (fun k => P1 ≤ k ∧ k < w4.heap.size)) (hzA : Below w4.heap.size w4 wz) (hC : KidsO w5 kb b.kids (fun k => P2 ≤ k ∧ k < w5.heap.size)) (hzC : Below w5.heap.size w5 wz)
    (n3 : V1 < P1 ∨ w4.heap.size ≤ V1) (n4 : V1 < P2 ∨ w5.heap.size ≤ V1) (n1 : V2 < P1 ∨ w4.heap.size ≤ V2) (n2 : V2 < P2 ∨ w5.heap.size ≤ V2) : CopyFin w0 V1 V2 t b ka kb (putNode (putNode wz V1 t.kind t.text t.at_ t.end_ ka) V2 b.kind b.text b.at_ b.end_ kb) :=
  copyFin_one (put_below hB _ _ _ _ _ _ hV1) h1.put.1 (h2.of_block (put_other _ _ _ _ _ _ _ _ (Ne.symm hne))) hV hne hA (fun k h h' => (put_other _ _ _ _ _ _ _ _ (by omega)).trans (hzA.block k h')) hC (fun k h h' => (put_other _ _ _ _ _ _ _ _ (by omega)).trans (hzC.block k h')) n1 n2

theorem twoKeep {w w' w0 : World} {V T : Nat} {a0 a1 a2 a3 a4 b0 b1 b2 b3 b4 : Value}
    (h : w.cell? ⟨V, 0, none⟩ = some a0 ∧ w.cell? ⟨V, 1, none⟩ = some a1 ∧ w.cell? ⟨V, 2, none⟩ = some a2 ∧ w.cell? ⟨V, 3, none⟩ = some a3 ∧ w.cell? ⟨V, 4, none⟩ = some a4 ∧
      w.cell? ⟨T, 0, none⟩ = some b0 ∧ w.cell? ⟨T, 1, none⟩ = some b1 ∧ w.cell? ⟨T, 2, none⟩ = some b2 ∧ w.cell? ⟨T, 3, none⟩ = some b3 ∧ w.cell? ⟨T, 4, none⟩ = some b4 ∧ Hid (Below w0.heap.size w0 w)) (hb : Below w.heap.size w w') :
    w'.cell? ⟨V, 0, none⟩ = some a0 ∧ w'.cell? ⟨V, 1, none⟩ = some a1 ∧ w'.cell? ⟨V, 2, none⟩ = some a2 ∧ w'.cell? ⟨V, 3, none⟩ = some a3 ∧ w'.cell? ⟨V, 4, none⟩ = some a4 ∧
      w'.cell? ⟨T, 0, none⟩ = some b0 ∧ w'.cell? ⟨T, 1, none⟩ = some b1 ∧ w'.cell? ⟨T, 2, none⟩ = some b2 ∧ w'.cell? ⟨T, 3, none⟩ = some b3 ∧ w'.cell? ⟨T, 4, none⟩ = some b4 ∧ Hid (Below w0.heap.size w0 w') := by
  obtain ⟨h0, h1, h2, h3, h4, h6, h7, h8, h9, h10, h11⟩ := h
  exact ⟨cell_later h0 hb, cell_later h1 hb, cell_later h2 hb, cell_later h3 hb, cell_later h4 hb, cell_later h6 hb, cell_later h7 hb, cell_later h8 hb, cell_later h9 hb, cell_later h10 hb, bt h11.out hb⟩

set_option maxRecDepth 100000 in
set_option maxHeartbeats 25600000 in
theorem apart_walk (t b : Tree) (kt kb : Value) (z : Int) (hz : z ≤ 9223372036854775807) (W : World) (hk : KidsV W kt t.kids) (hkb : KidsV W kb b.kids) (hct : t.count ≤ 1048576) (hcb : b.count ≤ 1048576) (hmax : MaxAt W) :
    Calls Tryz.prog 10 #[nodeV t kt, .int .i64 z, nodeV b kb] W fun e w' => e = .returned (.bool true) ∧ Below W.heap.size W w' := by
  have haw := fun w (h : Below W.heap.size W w) => awake_any w (hmax.keep h)
  have hsa : ∀ w, KidsV w kt t.kids → Calls Tryz.prog 12 #[nodeV t kt, .int .i64 100] w fun e w' => e = .returned (.bool (smallB 100 t)) ∧ Below w.heap.size w w' := fun w h => refSmall_any 100 (by decide) t kt w h (by omega)
  have hsb : ∀ w, KidsV w kb b.kids → Calls Tryz.prog 12 #[nodeV b kb, .int .i64 100] w fun e w' => e = .returned (.bool (smallB 100 b)) ∧ Below w.heap.size w w' := fun w h => refSmall_any 100 (by decide) b kb w h (by omega)
  have hpt := fun w (h : KidsV w kt t.kids) => pathU t kt z hz w h (by omega)
  have hrn := fun (l : List Int) (hl : l.length ≤ 4611686018427387904) (y : Tree) (hg : t.get l = some y) pv w (h : KidsV w kt t.kids) (h2 : IntsV w pv l) (h3 : KidsV w kb b.kids) => replace_some t b kt kb l pv w h h2 h3 hl (by omega) (by omega) y hg
  have hst := fun w (h : KidsV w kt t.kids) => strip_any t kt w h (by omega)
  have hca := fun w (h : KidsV w kt t.kids) => refCopy_any t kt w h (by omega)
  have hcc := fun w (h : KidsV w kb b.kids) => refCopy_any b kb w h (by omega)
  have hxa : ∀ k2 w, KidsV w kt t.kids → KidsV w k2 t.kids → Calls Tryz.prog 27 #[nodeV t kt, nodeV t k2] w fun e w' => e = .returned (.bool true) ∧ Below w.heap.size w w' := fun k2 w h1 h2 => by
    have := refExact_tree t t kt k2 w h1 h2 (by omega)
    rw [exa_self] at this; exact this
  have hxb : ∀ k2 w, KidsV w kb b.kids → KidsV w k2 b.kids → Calls Tryz.prog 27 #[nodeV b kb, nodeV b k2] w fun e w' => e = .returned (.bool true) ∧ Below w.heap.size w w' := fun k2 w h1 h2 => by
    have := refExact_tree b b kb k2 w h1 h2 (by omega)
    rw [exa_self] at this; exact this
  have HK := hidden hk
  have HKB := hidden hkb
  have HCT := hidden hct
  have HCB := hidden hcb
  obtain ⟨p, cap, g, o, rfl, _, _⟩ := hk.open
  obtain ⟨bp, bcap, bg, bo, rfl, _, _⟩ := hkb.open
  unfold PathU at hpt
  simp only [nodeV] at hsa hsb hrn hpt hst hca hcc hxa hxb ⊢
  have hbA : Below W.heap.size W ((W.alloc (.cells #[.int .i64 t.kind, .string t.text, .int .i64 t.at_, .int .i64 t.end_, .slice p t.kids.length cap] 24)).alloc (.cells #[.int .i64 b.kind, .string b.text, .int .i64 b.at_, .int .i64 b.end_, .slice bp b.kids.length bcap] 24)) := (below_alloc _ _).alloc (by simp) _
  have hboxa := (boxAlloc W t (.slice p t.kids.length cap)).later (below_alloc _ (.cells #[.int .i64 b.kind, .string b.text, .int .i64 b.at_, .int .i64 b.end_, .slice bp b.kids.length bcap] 24))
  have hboxb := boxAlloc (W.alloc (.cells #[.int .i64 t.kind, .string t.text, .int .i64 t.at_, .int .i64 t.end_, .slice p t.kids.length cap] 24)) b (.slice bp b.kids.length bcap)
  rw [World.size_alloc] at hboxb
  have HBA := hidden hbA
  have HXA := hidden hboxa
  have HXB := hidden hboxb
  clear hk hkb hct hcb hbA hboxa hboxb
  go_enter Tryz.func10, Tryz.ntmps10
  go_wp2_with fail
  (with_reducible refine (haw _ HBA.out).mono ?_)
  rintro e w1 ⟨rfl, hb1⟩
  have HB1 := hidden (bt HBA.out hb1)
  have HXA1 := hidden (HXA.out.later hb1)
  have HXB1 := hidden (HXB.out.later hb1)
  obtain ⟨n0, n1, n2, n3, n4⟩ := HXA1.out.cells0
  clear haw hb1 HBA HXA HXB
  have hsa1 := hsa w1 (HK.out.later HB1.out)
  obtain ⟨s1, hs1⟩ : ∃ s1, smallB 100 t = s1 := ⟨_, rfl⟩
  rw [hs1] at hsa1
  have HS1 := hidden hs1
  clear hsa hs1
  cases s1 with
  | false =>
    go_wp2_with fail
    (with_reducible refine hsa1.mono ?_)
    rintro e w2 ⟨rfl, hb2⟩
    have HB2 := hidden (bt HB1.out hb2)
    clear hsa1 hsb hpt hrn hst hca hcc hxa hxb hb2 n0 n1 n2 n3 n4
    go_wp2_with fail
    go_ret
    exact ⟨rfl, HB2.out⟩
  | true =>
    go_wp2_with fail
    (with_reducible refine hsa1.mono ?_)
    rintro e w2 ⟨rfl, hb2⟩
    have HB2 := hidden (bt HB1.out hb2)
    have HXA2 := hidden (HXA1.out.later hb2)
    have HXB2 := hidden (HXB1.out.later hb2)
    clear hsa1 hb2 n0 n1 n2 n3 n4 HXA1 HXB1 HB1
    obtain ⟨m0, m1, m2, m3, m4⟩ := HXB2.out.cells0
    have hsb2 := hsb w2 (HKB.out.later HB2.out)
    obtain ⟨s2, hs2⟩ : ∃ s2, smallB 100 b = s2 := ⟨_, rfl⟩
    rw [hs2] at hsb2
    have HS2 := hidden hs2
    clear hsb hs2
    cases s2 with
    | false =>
      go_wp2_with fail
      (with_reducible refine hsb2.mono ?_)
      rintro e w3 ⟨rfl, hb3⟩
      have HB3 := hidden (bt HB2.out hb3)
      clear hsb2 hpt hrn hst hca hcc hxa hxb hb3 m0 m1 m2 m3 m4
      go_wp2_with fail
      go_ret
      exact ⟨rfl, HB3.out⟩
    | true =>
      have htx : TextsOk t ∧ TextsOk b := by
        have h := HS1.out
        have h2 := HS2.out
        unfold smallB at h h2
        rw [Bool.and_eq_true] at h h2
        exact ⟨textsOk_short h.2, textsOk_short h2.2⟩
      have HTX := hidden htx
      go_wp2_with fail
      (with_reducible refine hsb2.mono ?_)
      rintro e w3 ⟨rfl, hb3⟩
      have HB3 := hidden (bt HB2.out hb3)
      have HXA3 := hidden (HXA2.out.later hb3)
      have HXB3 := hidden (HXB2.out.later hb3)
      clear hsb2 htx hb3 m0 m1 m2 m3 m4 HXA2 HXB2 HB2 HS1 HS2
      have hcx := fun W (hb : Below w3.heap.size w3 W) => hca W (HK.out.later (bt HB3.out hb))
      have hcy := fun W (hb : Below w3.heap.size w3 W) => hcc W (HKB.out.later (bt HB3.out hb))
      clear hca hcc
      have hV : W.heap.size + 1 < w3.heap.size := HXB3.out.lt
      have hV0 : W.heap.size < w3.heap.size := HXA3.out.lt
      have HBOX : Hid (w3.cell? ⟨W.heap.size, 0, none⟩ = some (.int .i64 t.kind) ∧ w3.cell? ⟨W.heap.size, 1, none⟩ = some (.string t.text) ∧ w3.cell? ⟨W.heap.size, 2, none⟩ = some (.int .i64 t.at_) ∧ w3.cell? ⟨W.heap.size, 3, none⟩ = some (.int .i64 t.end_) ∧ w3.cell? ⟨W.heap.size, 4, none⟩ = some (.slice p t.kids.length cap) ∧ w3.cell? ⟨W.heap.size + 1, 0, none⟩ = some (.int .i64 b.kind) ∧ w3.cell? ⟨W.heap.size + 1, 1, none⟩ = some (.string b.text) ∧ w3.cell? ⟨W.heap.size + 1, 2, none⟩ = some (.int .i64 b.at_) ∧ w3.cell? ⟨W.heap.size + 1, 3, none⟩ = some (.int .i64 b.end_) ∧ w3.cell? ⟨W.heap.size + 1, 4, none⟩ = some (.slice bp b.kids.length bcap) ∧ Hid (Below w3.heap.size w3 w3)) := by
        obtain ⟨n0, n1, n2, n3, n4⟩ := HXA3.out.cells0
        obtain ⟨m0, m1, m2, m3, m4⟩ := HXB3.out.cells0
        exact ⟨n0, n1, n2, n3, n4, m0, m1, m2, m3, m4, Below.refl _ _⟩
      obtain ⟨n0, n1, n2, n3, n4, m0, m1, m2, m3, m4, _⟩ := HBOX.out
      go_upto_region 5 with fail
      go_cut [7, 8] from 24 (fun s7 s8 wx => ∃ V1 V2 q1 k1 c1 q2 k2 c2, s7 = .pointer (some ⟨V1, 0, none⟩) ∧ s8 = .pointer (some ⟨V2, 0, none⟩) ∧ Hid (CopyFin w3 V1 V2 t b (.slice q1 k1 c1) (.slice q2 k2 c2) wx))
      case first =>
        clear hpt hrn hst hxa hxb
        have hmx : Tryz.prog.follows .mixedOrders = true := by kernel_rfl
        have hsv : ∀ v, slotV true v = v := fun _ => rfl
        refine wp_region_inv hmx (fun listed a w => ∃ (b0 b1 b2 b3 b4 b5 b6 b7 : Bool) (V1 V2 : Nat) (q1 : Option Addr) (l1 c1 : Nat) (q2 : Option Addr) (l2 c2 : Nat) (F1 F2 : Nat → Prop), listed = #[b0, b1, b2, b3, b4, b5, b6, b7] ∧ a = ({ tmps := #[.agg #[.int .i64 t.kind, .string t.text, .int .i64 t.at_, .int .i64 t.end_, .slice p t.kids.length cap], .int .i64 z, .agg #[.int .i64 b.kind, .string b.text, .int .i64 b.at_, .int .i64 b.end_, .slice bp b.kids.length bcap], .pointer (some ⟨W.heap.size, 0, none⟩), undef, .pointer (some ⟨W.heap.size + 1, 0, none⟩), .bool false, slotV b4 (.pointer (some ⟨V1, 0, none⟩)), slotV b5 (.pointer (some ⟨V2, 0, none⟩)), undef, undef, undef, undef, undef, .bool true, .bool false, .agg #[.int .i64 t.kind, .string t.text, .int .i64 t.at_, .int .i64 t.end_, .slice p t.kids.length cap], .bool true, .bool false, .bool false, .agg #[.int .i64 b.kind, .string b.text, .int .i64 b.at_, .int .i64 b.end_, .slice bp b.kids.length bcap], .bool true, .bool false, .bool false, slotV b0 (.agg #[.int .i64 t.kind, .string t.text, .int .i64 t.at_, .int .i64 t.end_, .slice p t.kids.length cap]), slotV b1 (.agg #[.int .i64 t.kind, .string t.text, .int .i64 t.at_, .int .i64 t.end_, .slice q1 l1 c1]), slotV b2 (.agg #[.int .i64 b.kind, .string b.text, .int .i64 b.at_, .int .i64 b.end_, .slice bp b.kids.length bcap]), slotV b3 (.agg #[.int .i64 b.kind, .string b.text, .int .i64 b.at_, .int .i64 b.end_, .slice q2 l2 c2]), undef, undef, undef, undef, undef, undef, undef, undef, undef, undef, undef, undef, undef, undef, undef, undef, undef, undef, undef, undef, undef, undef, undef, undef, undef, undef, undef, undef, undef, undef, undef], defers := [] } : Act) ∧ Hid (CopySt w3 t b w b1 b3 b4 b5 b6 b7 V1 V2 (.slice q1 l1 c1) (.slice q2 l2 c2) F1 F2)) ?start ?step ?fin
        case start =>
          exact ⟨false, false, false, false, false, false, false, false, 0, 0, none, 0, 0, none, 0, 0, fun _ => False, fun _ => False, rfl, rfl, ⟨(Below.refl _ _).drew, fun e => (by cases e), fun e => (by cases e), fun e => (by cases e), fun e => (by cases e), fun e => (by cases e), fun e => (by cases e), fun e => (by cases e), fun e => (by cases e), fun e => (by cases e), fun e => (by cases e), fun e => (by cases e), fun e => (by cases e), fun e => (by cases e)⟩⟩
        case step =>
          rintro listed a wx ⟨b0, b1, b2, b3, b4, b5, b6, b7, V1, V2, q1, l1, c1, q2, l2, c2, F1, F2, rfl, rfl, hcs⟩ i hi
          obtain ⟨hu, o, ho, hall⟩ := ready_parts hi
          have hi8 : i < 8 := by have := (Array.getElem?_eq_some_iff.1 ho).1; simpa using this
          have hB := hcs.out.below
          have u0 := (hB.cell (p := ⟨W.heap.size, 0, none⟩) hV0).trans n0
          have u1 := (hB.cell (p := ⟨W.heap.size, 1, none⟩) hV0).trans n1
          have u2 := (hB.cell (p := ⟨W.heap.size, 2, none⟩) hV0).trans n2
          have u3 := (hB.cell (p := ⟨W.heap.size, 3, none⟩) hV0).trans n3
          have u4 := (hB.cell (p := ⟨W.heap.size, 4, none⟩) hV0).trans n4
          have v0 := (hB.cell (p := ⟨W.heap.size + 1, 0, none⟩) hV).trans m0
          have v1 := (hB.cell (p := ⟨W.heap.size + 1, 1, none⟩) hV).trans m1
          have v2 := (hB.cell (p := ⟨W.heap.size + 1, 2, none⟩) hV).trans m2
          have v3 := (hB.cell (p := ⟨W.heap.size + 1, 3, none⟩) hV).trans m3
          have v4 := (hB.cell (p := ⟨W.heap.size + 1, 4, none⟩) hV).trans m4
          have HBx := hidden hB
          clear hi hB
          rcases (show i = 0 ∨ i = 1 ∨ i = 2 ∨ i = 3 ∨ i = 4 ∨ i = 5 ∨ i = 6 ∨ i = 7 by omega) with rfl | rfl | rfl | rfl | rfl | rfl | rfl | rfl
          · injection (show some _ = some o from ho) with ho
            subst ho
            obtain rfl : b0 = false := hu
            clear hall
            refine wpOp_go rfl rfl (fun K hK => ?_)
            go_simp
            exact hK _ _ ⟨true, b1, b2, b3, b4, b5, b6, b7, V1, V2, q1, l1, c1, q2, l2, c2, F1, F2, rfl, rfl, hcs⟩
          · injection (show some _ = some o from ho) with ho
            subst ho
            obtain rfl : b1 = false := hu
            obtain rfl : b0 = true := hall { on := 0, ground := .data } (by simp) (by rfl)
            clear hall
            refine wpOp_go rfl rfl (fun K hK => ?_)
            have HK2 := hidden hK
            clear hK
            go_simp
            (with_reducible refine (hcx _ HBx.out).mono ?_)
            rintro e w2 ⟨q, n, c, rfl, hO, hb⟩
            exact HK2.out _ _ ⟨true, true, b2, b3, b4, b5, b6, b7, V1, V2, q, n, c, q2, l2, c2, _, F2, rfl, rfl, CopySt.call1 hcs.out hb hO⟩
          · injection (show some _ = some o from ho) with ho
            subst ho
            obtain rfl : b2 = false := hu
            clear hall
            refine wpOp_go rfl rfl (fun K hK => ?_)
            go_simp
            exact hK _ _ ⟨b0, b1, true, b3, b4, b5, b6, b7, V1, V2, q1, l1, c1, q2, l2, c2, F1, F2, rfl, rfl, hcs⟩
          · injection (show some _ = some o from ho) with ho
            subst ho
            obtain rfl : b3 = false := hu
            obtain rfl : b2 = true := hall { on := 2, ground := .data } (by simp) (by rfl)
            obtain rfl : b1 = true := hall { on := 1, ground := .chain } (by simp) (by rfl)
            clear hall
            refine wpOp_go rfl rfl (fun K hK => ?_)
            have HK2 := hidden hK
            clear hK
            go_simp
            (with_reducible refine (hcy _ HBx.out).mono ?_)
            rintro e w2 ⟨q, n, c, rfl, hO, hb⟩
            exact HK2.out _ _ ⟨b0, true, true, true, b4, b5, b6, b7, V1, V2, q1, l1, c1, q, n, c, F1, _, rfl, rfl, CopySt.call2 hcs.out hb hO⟩
          · injection (show some _ = some o from ho) with ho
            subst ho
            obtain rfl : b4 = false := hu
            clear hall
            refine wpOp_go rfl rfl (fun K hK => ?_)
            have HK2 := hidden hK
            clear hK
            go_simp
            exact HK2.out _ _ ⟨b0, b1, b2, b3, true, b5, b6, b7, wx.heap.size, V2, q1, l1, c1, q2, l2, c2, F1, F2, rfl, rfl, hcs.out.new1⟩
          · injection (show some _ = some o from ho) with ho
            subst ho
            obtain rfl : b5 = false := hu
            clear hall
            refine wpOp_go rfl rfl (fun K hK => ?_)
            have HK2 := hidden hK
            clear hK
            go_simp
            exact HK2.out _ _ ⟨b0, b1, b2, b3, b4, true, b6, b7, V1, wx.heap.size, q1, l1, c1, q2, l2, c2, F1, F2, rfl, rfl, hcs.out.new2⟩
          · injection (show some _ = some o from ho) with ho
            subst ho
            obtain rfl : b6 = false := hu
            obtain rfl : b4 = true := hall { on := 4, ground := .data } (by simp) (by rfl)
            obtain rfl : b1 = true := hall { on := 1, ground := .data } (by simp) (by rfl)
            obtain rfl : b3 = true := hall { on := 3, ground := .chain } (by simp) (by rfl)
            obtain rfl : b5 = true := hall { on := 5, ground := .phase } (by simp) (by rfl)
            clear hall
            refine wpOp_go rfl rfl (fun K hK => ?_)
            obtain ⟨_, _, x, kx, hx, _⟩ := hcs.out.a1 rfl
            have hx2 := hx
            obtain ⟨⟨x0, x1, x2, x3, x4⟩, xz⟩ := hx2
            have z0 := xz 0 (by omega)
            have z1 := xz 1 (by omega)
            have z2 := xz 2 (by omega)
            have z3 := xz 3 (by omega)
            have z4 := xz 4 (by omega)
            simp only [Nat.zero_add] at x1 x2 x3 x4
            have HX := hidden hx
            have HK2 := hidden hK
            clear hK xz hx
            go_simp
            exact HK2.out _ _ ⟨b0, true, b2, true, true, true, true, b7, V1, V2, q1, l1, c1, q2, l2, c2, F1, F2, rfl, rfl, CopySt.set1 hcs.out HX.out⟩
          · injection (show some _ = some o from ho) with ho
            subst ho
            obtain rfl : b7 = false := hu
            obtain rfl : b5 = true := hall { on := 5, ground := .data } (by simp) (by rfl)
            obtain rfl : b3 = true := hall { on := 3, ground := .data } (by simp) (by rfl)
            obtain rfl : b6 = true := hall { on := 6, ground := .chain } (by simp) (by rfl)
            obtain rfl : b1 = true := hall { on := 1, ground := .phase } (by simp) (by rfl)
            obtain rfl : b4 = true := hall { on := 4, ground := .phase } (by simp) (by rfl)
            clear hall
            refine wpOp_go rfl rfl (fun K hK => ?_)
            obtain ⟨_, _, x, kx, hx, _⟩ := hcs.out.a2 rfl
            have hx2 := hx
            obtain ⟨⟨x0, x1, x2, x3, x4⟩, xz⟩ := hx2
            have z0 := xz 0 (by omega)
            have z1 := xz 1 (by omega)
            have z2 := xz 2 (by omega)
            have z3 := xz 3 (by omega)
            have z4 := xz 4 (by omega)
            simp only [Nat.zero_add] at x1 x2 x3 x4
            have HX := hidden hx
            have HK2 := hidden hK
            clear hK xz hx
            go_simp
            exact HK2.out _ _ ⟨b0, true, b2, true, true, true, true, true, V1, V2, q1, l1, c1, q2, l2, c2, F1, F2, rfl, rfl, CopySt.set2 hcs.out HX.out⟩
        case fin =>
          rintro listed a wx ⟨b0, b1, b2, b3, b4, b5, b6, b7, V1, V2, q1, l1, c1, q2, l2, c2, F1, F2, rfl, rfl, hcs⟩ h0
          have nr : ∀ j, ¬ (Region.ready .any _ #[b0, b1, b2, b3, b4, b5, b6, b7]).contains j = true := fun j hj => by rw [h0] at hj; cases hj
          obtain rfl : b0 = true := by
            cases b0 with
            | true => rfl
            | false => exact absurd (by kernel_rfl) (nr 0)
          obtain rfl : b1 = true := by
            cases b1 with
            | true => rfl
            | false => exact absurd (by kernel_rfl) (nr 1)
          obtain rfl : b2 = true := by
            cases b2 with
            | true => rfl
            | false => exact absurd (by kernel_rfl) (nr 2)
          obtain rfl : b3 = true := by
            cases b3 with
            | true => rfl
            | false => exact absurd (by kernel_rfl) (nr 3)
          obtain rfl : b4 = true := by
            cases b4 with
            | true => rfl
            | false => exact absurd (by kernel_rfl) (nr 4)
          obtain rfl : b5 = true := by
            cases b5 with
            | true => rfl
            | false => exact absurd (by kernel_rfl) (nr 5)
          obtain rfl : b6 = true := by
            cases b6 with
            | true => rfl
            | false => exact absurd (by kernel_rfl) (nr 6)
          obtain rfl : b7 = true := by
            cases b7 with
            | true => rfl
            | false => exact absurd (by kernel_rfl) (nr 7)
          clear nr h0
          go_wp2_with fail
          go_meet
          refine ⟨V1, V2, q1, l1, c1, q2, l2, c2, rfl, rfl, ?_⟩
          obtain ⟨g1, g2, x, kx, g3, g4⟩ := hcs.out.a1 rfl
          obtain ⟨rfl, rfl⟩ := g4 rfl
          obtain ⟨h1, h2, y, ky, h3, h4⟩ := hcs.out.a2 rfl
          obtain ⟨rfl, rfl⟩ := h4 rfl
          exact ⟨hcs.out.below, g3.1, h3.1, (hcs.out.c1 rfl).toV, (hcs.out.c2 rfl).toV⟩
      case rest =>
        obtain ⟨V1, V2, q1, k1, c1, q2, k2, c2, rfl, rfl, hfin⟩ := hcut
        have HFIN := hfin
        clear hfin hcx hcy hV hV0 n0 n1 n2 n3 n4 m0 m1 m2 m3 m4 HBOX
        have HBC := hidden (bt HB3.out HFIN.out.below)
        have HXAC := hidden (HXA3.out.later HFIN.out.below)
        have HXBC := hidden (HXB3.out.later HFIN.out.below)
        obtain ⟨n0, n1, n2, n3, n4⟩ := HXAC.out.cells0
        have hpt3 := hpt wc (HK.out.later HBC.out)
        obtain ⟨hp1, hhp⟩ : ∃ hp1, hasP t z = hp1 := ⟨_, rfl⟩
        rw [hhp] at hpt3
        clear hpt
        cases hp1 with
        | false =>
          go_wp2_with fail
          (with_reducible refine hpt3.mono ?_)
          rintro e w4 ⟨p4, m4, c4, rfl, hi4, hb4⟩
          have HB4 := hidden (bt HBC.out hb4)
          clear hpt3 hrn hst hxa hxb hb4 hi4 hhp n0 n1 n2 n3 n4
          go_wp2_with fail
          go_ret
          exact ⟨rfl, HB4.out⟩
        | true =>
          obtain ⟨nz, hnz, hpo, hnl⟩ := pathN_some hhp
          obtain ⟨⟨y, hy⟩, hnn⟩ := Tree.pathOf_get t hpo
          have hql := path_len' t hpo
          have hll := Tree.ints_len (pathT t z)
          generalize pathT t z = q at *
          obtain ⟨l, hl⟩ : ∃ l, Tree.ints q = l := ⟨_, rfl⟩
          rw [hl] at hy hll hpt3
          have HY := hidden hy
          have HLL : Hid (l.length ≤ 1048576) := by show _ ≤ _; have := HCT.out; omega
          clear hhp hnz hpo hql hll hl hnl hnn
          go_wp2_with fail
          (with_reducible refine hpt3.mono ?_)
          rintro e w4 ⟨p4, m4, c4, rfl, hi4, hb4⟩
          have HI4 := hidden hi4
          have HBC4 := hidden hb4
          have HB4 := hidden (bt HBC.out hb4)
          have HXA4 := hidden (HXAC.out.later hb4)
          have HXB4 := hidden (HXBC.out.later hb4)
          clear hpt3 hi4 hb4 n0 n1 n2 n3 n4 hy
          obtain ⟨n0, n1, n2, n3, n4⟩ := HXA4.out.cells0
          obtain ⟨m0, m1, m2, m3, m4⟩ := HXB4.out.cells0
          have hr4 := hrn l (by have := HLL.out; omega) y HY.out _ w4 (HK.out.later HB4.out) HI4.out (HKB.out.later HB4.out)
          have hta : TextsOk (t.replace (l.map Int.toNat) b) := textsOk_replace HTX.out.2 HTX.out.1 HY.out
          have hcta : (t.replace (l.map Int.toNat) b).count ≤ 4194304 := by have := Tree.replace_count b HY.out; have := HCT.out; have := HCB.out; omega
          generalize t.replace (l.map Int.toNat) b = ta at *
          have HTA := hidden hta
          have HCTA := hidden hcta
          clear hrn hta hcta
          go_wp2_with fail
          refine hr4.mono ?_
          rintro e w5 ⟨hb5, p5, m5, c5, rfl, hO5⟩
          have HO5 := hidden hO5
          have HB45 := hidden hb5
          obtain ⟨⟨n0, n1, n2, n3, n4⟩, hn5, hn6⟩ := boxCells HXA4.out hb5
          clear hr4 hb5 hO5 n0 n1 n2 n3 n4 m0 m1 m2 m3 m4
          obtain ⟨⟨n0, n1, n2, n3, n4⟩, hn5, hn6⟩ := boxCells HXA4.out HB45.out
          go_wp2_with fail
          obtain ⟨w6, hw6⟩ : ∃ w6, w6 = w5.alloc (.cells #[.int .i64 ta.kind, .string ta.text, .int .i64 ta.at_, .int .i64 ta.end_, .slice p5 m5 c5] 24) := ⟨_, rfl⟩
          have hb56 : Below w5.heap.size w5 w6 := by rw [hw6]; exact below_alloc _ _
          have hs6 : w6.heap.size = w5.heap.size + 1 := by rw [hw6, World.size_alloc]
          have hna : NodeAt w6 w5.heap.size 0 ta (.slice p5 m5 c5) := by rw [hw6]; exact boxAlloc _ _ _
          rw [← hw6]
          have HB56 := hidden hb56
          have HS6 := hidden hs6
          have HNA := hidden hna
          clear hw6 hb56 hs6 hna n0 n1 n2 n3 n4 hn5 hn6
          have hst6 := hst w6 (HK.out.later (bt HB4.out (bt HB45.out HB56.out)))
          clear hst
          refine hst6.mono ?_
          rintro e w7 ⟨p7, m7, c7, rfl, hO7, hb7⟩
          have HO7 := hidden hO7
          have HB67 := hidden hb7
          obtain ⟨⟨a0, a1, a2, a3, a4⟩, ha5, ha6⟩ := boxCells HNA.out hb7
          clear hst6 hO7 hb7
          have HS7 := hidden HB67.out.size
          have HB68 := hidden (bt HB67.out (below_alloc w7 (.cells #[.int .i64 t.strip.kind, .string t.strip.text, .int .i64 t.strip.at_, .int .i64 t.strip.end_, .slice p7 m7 c7] 24)))
          have hsp := spoil_any ta (.slice p5 m5 c5) (w7.alloc (.cells #[.int .i64 t.strip.kind, .string t.strip.text, .int .i64 t.strip.at_, .int .i64 t.strip.end_, .slice p7 m7 c7] 24)) (fun k => w4.heap.size ≤ k ∧ k < w5.heap.size) (HO5.out.keep (fun k hk => (bt HB56.out HB68.out).block k hk.2)) (fun k hk => Nat.lt_of_lt_of_le hk.2 (bt HB56.out HB68.out).size) HTA.out HCTA.out
          go_wp2_with fail
          obtain ⟨w8, hw8⟩ : ∃ w8, w8 = w7.alloc (.cells #[.int .i64 t.strip.kind, .string t.strip.text, .int .i64 t.strip.at_, .int .i64 t.strip.end_, .slice p7 m7 c7] 24) := ⟨_, rfl⟩
          have hnb : NodeAt w8 w7.heap.size 0 t.strip (.slice p7 m7 c7) := by rw [hw8]; exact boxAlloc _ _ _
          have hb78 : Below w7.heap.size w7 w8 := by rw [hw8]; exact below_alloc _ _
          rw [← hw8] at hsp
          rw [← hw8]
          have HNB := hidden hnb
          have HB78 := hidden hb78
          clear hw8 hnb hb78 a0 a1 a2 a3 a4 ha5 ha6 HB68
          refine hsp.mono ?_
          rintro e w9 ⟨⟨r9, rfl⟩, hA9⟩
          have hsf := strip_facts t
          have hs57 : w5.heap.size ≤ w7.heap.size := Nat.le_trans HB56.out.size HB67.out.size
          have hs68 : w6.heap.size ≤ w8.heap.size := Nat.le_trans HB67.out.size HB78.out.size
          have hO9 : KidsO w9 (.slice p7 m7 c7) t.strip.kids (fun k => w6.heap.size ≤ k ∧ k < w7.heap.size) := HO7.out.keep (fun k hk => (hA9.block k (Nat.lt_of_lt_of_le hk.2 HB78.out.size) (fun h => by have := HB56.out.size; omega)).trans (HB78.out.block k hk.2))
          have hbox9 : NodeAt w9 w7.heap.size 0 t.strip (.slice p7 m7 c7) := HNB.out.of_block (hA9.block _ HNB.out.lt (fun h => by omega))
          have hsp9 := spoil_any t.strip (.slice p7 m7 c7) w9 (fun k => w6.heap.size ≤ k ∧ k < w7.heap.size) hO9 (fun k hk => Nat.lt_of_lt_of_le hk.2 (Nat.le_trans HB78.out.size hA9.size)) (hsf.1 HTX.out.1) (by rw [hsf.2]; have := HCT.out; omega)
          obtain ⟨a0, a1, a2, a3, a4⟩ := hbox9.cells0
          have HA9 := hidden hA9
          clear hsp hsf hO9 hbox9 hA9 hs57 hs68
          go_wp2_with fail
          refine hsp9.mono ?_
          rintro e w10 ⟨⟨r10, rfl⟩, hA10⟩
          have h48 : Below w4.heap.size w4 w8 := bt HB45.out (bt HB56.out (bt HB67.out HB78.out))
          have h89 : Below w4.heap.size w8 w9 := HA9.out.below (fun k hk => hk.1) h48.size
          have h910 : Below w4.heap.size w9 w10 := hA10.below (fun k hk => Nat.le_trans (Nat.le_trans HB45.out.size HB56.out.size) hk.1) (Nat.le_trans h48.size h89.size)
          have h410 : Below w4.heap.size w4 w10 := (h48.trans h89).trans h910
          have HB410 := hidden h410
          have HBC10 := hidden (bt HBC4.out h410)
          clear hsp9 a0 a1 a2 a3 a4 hA10 h48 h89 h910 h410 HA9 HO7 HO5
          obtain ⟨n0, n1, n2, n3, n4⟩ := (HXA4.out.later HB410.out).cells0
          obtain ⟨a0, a1, a2, a3, a4⟩ := (HFIN.out.n1.later HBC10.out).cells0
          have hx10 := hxa (.slice q1 k1 c1) w10 (HK.out.later (bt HB4.out HB410.out)) (HFIN.out.k1.later HBC10.out)
          clear hxa
          go_wp2_with fail
          refine hx10.mono ?_
          rintro e w11 ⟨rfl, hb11⟩
          have HB11 := hidden hb11
          clear hx10 hb11 n0 n1 n2 n3 n4 a0 a1 a2 a3 a4
          obtain ⟨n0, n1, n2, n3, n4⟩ := (HXB4.out.later (bt HB410.out HB11.out)).cells0
          obtain ⟨a0, a1, a2, a3, a4⟩ := (HFIN.out.n2.later (bt HBC10.out HB11.out)).cells0
          have hx11 := hxb (.slice q2 k2 c2) w11 (HKB.out.later (bt HB4.out (bt HB410.out HB11.out))) (HFIN.out.k2.later (bt HBC10.out HB11.out))
          clear hxb
          go_wp2_with fail
          refine hx11.mono ?_
          rintro e w12 ⟨rfl, hb12⟩
          have HF := hidden (bt HB4.out (bt HB410.out (bt HB11.out hb12)))
          clear hx11 hb12 n0 n1 n2 n3 n4 a0 a1 a2 a3 a4
          go_wp2_with fail
          go_ret
          exact ⟨rfl, HF.out⟩

end Go.Proofs.YtlbaaiglebpjiaaGreatDoor
