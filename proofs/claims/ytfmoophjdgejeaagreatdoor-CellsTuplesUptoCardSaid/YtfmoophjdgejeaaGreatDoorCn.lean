import Derived.Test.YtfmoophjdgejeaaGreatDoorCm
import Derived.StillTailTactics
/-
  The iterator over the cells; their ranges and their number.
-/
namespace Go.Proofs.YtfmoophjdgejeaaGreatDoor
open Go.RowKit Go.Shelf
attribute [local go_sem] Oper.semAt_some

section
variable {P : Program}

theorem oper_wide {n : Nat} {o : Oper} {a : Act} {w : World} {next : Act → World → Prop} {Q : Exit → Act → World → Prop} (h : o.wp P a w next Q) : Oper.wpIn Fence.wide n P o a w next Q := by
  refine ⟨fun _ _ => trivial, ?_⟩
  unfold Oper.wp at h
  show o.uponIn Fence.wide n P a next Q ((execOp a.eval o).run P w)
  generalize (execOp a.eval o).run P w = r at h
  cases r with
  | ok nx w' =>
    cases nx with
    | enter f args => exact ⟨fun h => by simp [Fence.wide] at h, callsIn_wide.2 h⟩
    | row row args => exact ⟨fun h => by simp [Fence.wide] at h, fun c cs _ => let ⟨v, w', r, s⟩ := h c cs; ⟨v, w', r, stepsIn_wide.2 s⟩⟩
    | _ => first | exact h | exact h.elim
  | halt x w' => cases x <;> first | exact h | exact h.elim

theorem any_wide {n : Nat} {md : Region.Mode} {ops : Array Oper} {Q : Exit → Act → World → Prop} (hlo : ¬ LetsOut Q) : ∀ (fuel : Nat) (listed : Array Bool) (a : Act) (w : World), wpAny P md ops Q fuel listed a w → wpAnyIn Fence.wide n P md ops Q fuel listed a w
  | 0, _, _, _, h => h
  | fuel + 1, listed, a, w, h => by
    refine ⟨h.1, fun i hi => ?_⟩
    have h2 := h.2 i hi
    unfold wpOpIn
    unfold wpOp at h2
    cases ho : ops[i]? with
    | none =>
      simp only [ho] at h2 ⊢
      exact any_wide hlo fuel _ _ _ h2
    | some o =>
      simp only [ho] at h2 ⊢
      by_cases hw : Region.wanted o (yielded ops a.tmps) = true
      · rw [if_pos hw] at h2 ⊢
        exact oper_wide (Oper.wp_mono (fun a w h => any_wide hlo fuel _ a w h) (h2.resolve_right (fun h => hlo h.2)))
      · rw [if_neg hw] at h2 ⊢
        exact ⟨fun _ _ => trivial, any_wide hlo fuel _ _ _ h2⟩

/-- Inside a round: operations that read, then the last ones in their order. -/
theorem wpIn_round_still_tail {id r nn : Nat} {Q : Exit → Act → World → Prop} {a : Act} {w : World} {l : List Oper} (n : Nat) (hm : P.follows .mixedOrders = true) (hB : Region.lexTailB .any l.toArray n = true) (hno : ∀ o ∈ l.toArray, ∀ c, o.op ≠ .defer c)
    (h : wpStill P l.toArray w.drew (fun a' => wpList P l.toArray (fun e a w => e = .normal ∧ Q .normal a w) (l.drop n) a' w.drew) (l.take n) a) : (Code.region id l.toArray true).wpIn (Fence.wide.inRound r) nn P Q a w := by
  refine wpIn_mono (Q := fun e a w => e = .normal ∧ Q .normal a w) ?_ (fun e a w h => by obtain ⟨rfl, h⟩ := h; exact h)
  have hlo : ¬ LetsOut (fun (e : Exit) (a : Act) (w : World) => e = .normal ∧ Q .normal a w) := fun ⟨_, _, h, _⟩ => by cases h
  generalize (fun (e : Exit) (a : Act) (w : World) => e = .normal ∧ Q .normal a w) = Q at h hlo ⊢
  simp only [Region.lexTailB, Bool.and_eq_true, decide_eq_true_eq] at hB
  obtain ⟨⟨⟨⟨hsel, hn⟩, hs⟩, hc⟩, hlex⟩ := hB
  have hn' : n < l.length := by simpa using hn
  have htl : (l.take n).length = n := by simp; omega
  have hdl : (l.drop n).length = l.toArray.size - n := by simp
  have inv0 : HeadInv .any l.toArray n (Array.replicate l.toArray.size false) :=
    ⟨by simp, fun j oj _ hl => (by rw [getD_replicate_false] at hl; cases hl), fun t _ ht => getD_in (by simpa using ht) (getD_replicate_false _ _)⟩
  have H := wpAnyL_lex (md := .any) (g := l.toArray.size - n) hsel hs hc hn (l.take n) 0 _ a (fun j hj => by
    have hj' : j < n := by rw [htl] at hj; exact hj
    simp [hj']) (by simpa using htl) inv0 (by rw [htl]; exact hlex) h
  refine wpIn_region_any hm (wpAny_round hno _ _ _ _ (any_wide hlo _ _ _ _ ?_))
  have := wpAny_of_head (Q' := Q) (g := l.toArray.size - n) (fun listed a' hL => by
    have := wpAny_of_seq (md := .any) (Q' := Q) (l.drop n) n listed a' { w with drawn := w.drawn + 1 } (fun j => by simp [List.getElem?_drop]) (by rw [hdl]; exact hL.1) hL.2
    rwa [hdl] at this) _ _ _ H
  rw [htl, show n + (l.toArray.size - n) = l.toArray.size by omega] at this
  exact this
end

theorem infoRg : (Tryz.prog.info? 42).map (fun i => (i.zero, i.size, i.bytes)) = some (some (.agg #[.int .i64 0, .int .i64 0]), 2, 16) := by kernel_rfl

theorem all_any (p q : Option Addr) (n c m d : Nat) (isS : Bool) (w : World) :
    Calls Tryz.prog 45 #[.agg #[.slice p n c, .slice q m d], .bool isS] w fun e w' => e = .returned (.func (.func 63) #[] #[.pointer (some ⟨w.heap.size, 0, none⟩), .pointer (some ⟨w.heap.size + 1, 0, none⟩)]) ∧
      w' = (w.alloc (.cells #[.slice p n c, .slice q m d] 61)).alloc (.cells #[.bool isS] 4) := by
  go_enter Tryz.func45, Tryz.ntmps45
  go_wp2_with fail
  go_ret
  exact ⟨rfl, rfl⟩

/-- The cells of a layout. -/
def cellsOf (ss : List Int) (ts : List Tab) (isS : Bool) : List (Nat × List Nat) := if validB ss ts = true then cellsFrom ss isS ts 0 else []

/-- The range of a cell. -/
def rngOf (ts : List Tab) (c : Nat × List Nat) : List Value := match ts[c.1]? with
  | some t => [.int .i64 t.lo, .int .i64 t.hi]
  | none => []

theorem cellsFrom_mem {ss : List Int} {isS : Bool} {x : Nat × List Nat} : ∀ {l : List Tab} {i : Nat}, x ∈ cellsFrom ss isS l i → i ≤ x.1 ∧ ∃ t, l[x.1 - i]? = some t ∧ strictB t.kind = isS ∧ x.2 ∈ tups (lensL ss t.cols)
  | [], _, h => by simp [cellsFrom] at h
  | t :: l, i, h => by
    rw [cellsFrom] at h
    rcases List.mem_append.1 h with h | h
    · by_cases hs : strictB t.kind = isS
      · rw [if_pos hs] at h
        obtain ⟨y, hy, rfl⟩ := List.mem_map.1 h
        exact ⟨Nat.le_refl _, t, by simp, hs, hy⟩
      · rw [if_neg hs] at h; cases h
    · obtain ⟨h1, u, h2, h3⟩ := cellsFrom_mem h
      refine ⟨by omega, u, ?_, h3⟩
      rw [show x.1 - i = (x.1 - (i + 1)) + 1 by omega]
      simpa using h2

theorem goV_parts {ss : List Int} {ts : List Tab} : ∀ (r : List Tab) (i a b : Nat), goV ss ts r i a b = true →
    (∀ t ∈ r, t.cols.all (colB ss.length) = true ∧ t.cols.length ≤ 3 ∧ rangeB t = true) ∧ a + (cellsFrom ss true r i).length ≤ 128 ∧ b + (cellsFrom ss false r i).length ≤ 64
  | [], i, a, b, h => by
    simp only [goV, Bool.and_eq_true, decide_eq_true_eq] at h
    exact ⟨fun t ht => by simp at ht, by simpa [cellsFrom] using h.1, by simpa [cellsFrom] using h.2⟩
  | t :: r, i, a, b, h => by
    simp only [goV, tabOkB, Bool.and_eq_true, decide_eq_true_eq] at h
    obtain ⟨⟨⟨h1, h2⟩, h3⟩, h4, h5, h6⟩ := h
    obtain ⟨g1, g2, g3⟩ := goV_parts r (i + 1) _ _ h6
    refine ⟨fun u hu => ?_, ?_, ?_⟩
    · rcases List.mem_cons.1 hu with rfl | hu
      · exact ⟨h1, h2, h3⟩
      · exact g1 u hu
    · rw [cellsFrom, List.length_append]
      by_cases hs : strictB t.kind = true
      · rw [if_pos hs] at g2 ⊢
        rw [List.length_map, tups_len]
        unfold areaN at g2
        omega
      · rw [if_neg hs] at g2 ⊢
        simpa using g2
    · rw [cellsFrom, List.length_append]
      by_cases hs : strictB t.kind = true
      · rw [if_pos hs] at g3
        rw [if_neg (by simp [hs])]
        simpa using g3
      · rw [if_neg hs] at g3
        rw [if_pos (by simpa using hs)]
        rw [List.length_map, tups_len]
        unfold areaN at g3
        omega

theorem valid_parts {ss : List Int} {ts : List Tab} (h : validB ss ts = true) : soundB ss = true ∧ ts.length ≤ 12 ∧ (∀ t ∈ ts, t.cols.all (colB ss.length) = true ∧ t.cols.length ≤ 3 ∧ rangeB t = true) ∧ ∀ isS, (cellsFrom ss isS ts 0).length ≤ 128 := by
  simp only [validB, Bool.and_eq_true, decide_eq_true_eq] at h
  obtain ⟨_, h2, h3, h4⟩ := h
  obtain ⟨g1, g2, g3⟩ := goV_parts _ _ _ _ h4
  exact ⟨h2, h3, g1, fun isS => by cases isS <;> omega⟩

/-- A row of one's own that is none of an iterator's blocks: elements of some size. -/
def RowZ (z : Nat) (O : Nat → Prop) (B : Nat) (w : World) (e : TypeId) (v : Value) (n : Nat) (xs : List Value) : Prop :=
  w.ownsRow B e z v n xs ∧ ∀ k, v.ownBlock = some k → ¬ O k

theorem RowZ.turn {z : Nat} {O : Nat → Prop} {B : Nat} {w w' : World} {e : TypeId} {v : Value} {n : Nat} {xs : List Value} (h : RowZ z O B w e v n xs) (ht : TurnO O w w') : RowZ z O B w' e v n xs := by
  refine ⟨⟨h.1.1, ?_⟩, h.2⟩
  rcases h.1.2 with h1 | ⟨g, cap, cur, rfl, h2, h3, h4⟩
  · exact .inl h1
  · exact .inr ⟨g, cap, cur, rfl, h2, (ht.block g (Array.getElem?_eq_some_iff.1 h3).1 (h.2 g rfl)).trans h3, h4⟩

theorem RowZ.grow {z : Nat} {O O' : Nat → Prop} {B : Nat} {w : World} {e : TypeId} {v : Value} {n : Nat} {xs : List Value} (h : RowZ z O B w e v n xs) (hg : ∀ k, O' k → O k ∨ w.heap.size ≤ k) : RowZ z O' B w e v n xs :=
  ⟨h.1, fun k hk ho => by
    rcases hg k ho with h1 | h1
    · exact h.2 k hk h1
    · have := own_lt h.1 k hk; omega⟩

theorem drew_below (A : World) : Below A.heap.size A A.drew := ⟨rfl, rfl, rfl, Nat.le_refl _, fun _ _ => rfl⟩

/-- Elements are appended to a row of one's own in a variable. -/
theorem rowz_appended {z : Nat} {O : Nat → Prop} {B0 : Nat} {A w2 W : World} {V : Nat} {T e : TypeId} {v v' : Value} {n m : Nat} {xs ys : List Value} {tmp : Obj} (hte : T ≠ e)
    (hv : Boxed A V T v) (hr : RowZ z O B0 A e v n xs) (hOA : ∀ k, O k → k < A.heap.size) (hVO : ¬ O V) (hWB : W.heap.size ≤ B0) (hWV : W.heap.size ≤ V) (hB : Below W.heap.size W A)
    (hown' : w2.ownsRow B0 e z v' m ys) (hgrow : (A.drew.alloc tmp).grownBy w2 v.ownBlock) (hat : v'.ownBlock = v.ownBlock ∨ v'.ownBlock = some (A.heap.size + 1)) :
    Boxed w2 V T v ∧ (Boxed (w2.setCell ⟨V, 0, none⟩ v') V T v' ∧ RowZ z O B0 (w2.setCell ⟨V, 0, none⟩ v') e v' m ys ∧ Below W.heap.size W (w2.setCell ⟨V, 0, none⟩ v')) ∧ Keeps O A (w2.setCell ⟨V, 0, none⟩ v') ∧
      (∀ k, k < A.heap.size → k ≠ V → (B0 ≤ k → O k) → (w2.setCell ⟨V, 0, none⟩ v').heap[k]? = A.heap[k]?) := by
  have hb := drew_below A
  have hv1 : Boxed A.drew V T v := hv
  have hr1 : A.drew.ownsRow B0 e z v n xs := row_later hr.1 hb
  have hWA := hB.size
  have hz : A.drew.heap.size = A.heap.size := rfl
  obtain ⟨hv1', hv2, hr2, _, hb2⟩ := hv1.appended (tmp := tmp) (n₀ := W.heap.size) hte (row_mono hr1 hWB) (by omega) hWV (row_mono hown' hWB) hgrow
  have key2 : ∀ k, k < A.heap.size → k ≠ V → some k ≠ v.ownBlock → (w2.setCell ⟨V, 0, none⟩ v').heap[k]? = A.heap[k]? := fun k h1 h2 h3 => by
    rw [Below.heap_setCell _ _ _ _ (by show k ≠ V; exact h2)]
    rw [hgrow.block k (by simp; omega) h3]
    rw [Below.heap_alloc _ _ _ (by omega)]
    exact hb.block k h1
  have hsz : A.heap.size ≤ (w2.setCell ⟨V, 0, none⟩ v').heap.size := by have := hgrow.size; simp [World.setCell] at this ⊢; omega
  refine ⟨hv1', ⟨hv2, ⟨?_, ?_⟩, (hB.trans (hb.mono hWA)).trans hb2⟩, ⟨hsz, fun k h1 h2 => key2 k h2 (fun e => hVO (by rw [← e]; exact h1)) (fun e => hr.2 k e.symm h1)⟩, fun k h1 h2 h3 => key2 k h1 h2 (fun e => ?_)⟩
  · exact hown'.kept (grownBy_setCell' w2 V v') (.inr (hv1'.not_row hte hown').symm)
  · intro k hk ho
    rcases hat with h | h
    · exact hr.2 k (by rw [← h]; exact hk) ho
    · rw [h] at hk; cases hk; have := hOA _ ho; omega
  · have h4 := row_block hr.1 k e.symm
    exact hr.2 k e.symm (h3 h4)

theorem cells_two_new (w : World) (x y : Value) (t : TypeId) : ∀ j u, [x, y][j]? = some u → (w.alloc (.cells #[x, y] t)).cell? ((⟨w.heap.size, 0, none⟩ : Addr).add j) = some u := by
  intro j u h
  match j with
  | 0 => simp at h; subst h; simp [Addr.add]
  | 1 => simp at h; subst h; simp [Addr.add]
  | j + 2 => simp at h

set_option maxRecDepth 100000 in
set_option maxHeartbeats 6400000 in
theorem ranges_any (ss : List Int) (ts : List Tab) (isS : Bool) (sv tv : Value) (w : World) (hs : IntsV w sv ss) (ht : TabsV w tv ts) (hl : ss.length ≤ 4611686018427387904) (hlt : ts.length ≤ 4611686018427387903)
    (hsm : ∀ t ∈ ts, t.name.size ≤ 4096 ∧ t.cols.length ≤ 4611686018427387904) (hm : MaxAt w) :
    Calls Tryz.prog 31 #[sv, tv, .bool isS] w fun e w' => ∃ v, e = .returned v ∧ w'.ownsRow w.heap.size 42 2 v (cellsOf ss ts isS).length ((cellsOf ss ts isS).flatMap (rngOf ts)) ∧ Below w.heap.size w w' := by
  have hs2 := hs
  have ht2 := ht
  obtain ⟨p, cap, g, o, rfl, _, _⟩ := hs
  obtain ⟨q, tcap, tg, to, ks, rfl, hqp, hat⟩ := ht
  have hmx : Tryz.prog.follows .mixedOrders = true := by kernel_rfl
  obtain ⟨W1, hW1⟩ : ∃ W1, W1 = (w.alloc (.cells #[.slice q ts.length tcap] 24)).alloc (.cells #[.slice p ss.length cap, .slice q ts.length tcap] 61) := ⟨_, rfl⟩
  have hB1 : Below w.heap.size w W1 := by rw [hW1]; exact ((Below.refl _ _).alloc (Nat.le_refl _) _).alloc (by simp) _
  have hz1 : W1.heap.size = w.heap.size + 2 := by rw [hW1]; simp
  have c0 : W1.cell? ⟨w.heap.size, 0, none⟩ = some (.slice q ts.length tcap) := by rw [hW1]; simp [go_sem]
  have c10 : W1.cell? ⟨w.heap.size + 1, 0, none⟩ = some (.slice p ss.length cap) := by rw [hW1]; simp [go_sem]
  have c11 : W1.cell? ⟨w.heap.size + 1, 1, none⟩ = some (.slice q ts.length tcap) := by rw [hW1]; simp [go_sem]
  have hv := valid_any ss ts _ _ W1 (hs2.later hB1) (ht2.later hB1) hl hlt hsm (hm.keep hB1)
  by_cases hvb : validB ss ts = true
  · have hco : cellsOf ss ts isS = cellsFrom ss isS ts 0 := by unfold cellsOf; rw [if_pos hvb]
    rw [hco]
    rw [hvb] at hv
    obtain ⟨v1, v2, v3, v4⟩ := valid_parts hvb
    obtain ⟨i0, hi, hz0, hz1', hz2⟩ := info_parts infoRg
    have HB1 := hidden hB1
    have HS2 := hidden hs2
    have HT2 := hidden ht2
    have HQP := hidden hqp
    have HAT := hidden hat
    have V1 := hidden v1
    have V2 := hidden v2
    have V3 := hidden v3
    have V4 := hidden (v4 isS)
    clear hB1 hs2 ht2 hqp hat hsm hm hl hlt v1 v2 v3 v4 hco hvb
    refine (callsIn_wide (n := 9)).1 ?_
    refine callsIn_of_wp_marks Tryz.func31 rfl trivial ?_ rfl
    simp only [Tryz.ntmps31, List.size_toArray, List.length_cons, List.length_nil, Nat.reduceAdd, Nat.reduceSub, Array.replicate_succ, Array.replicate_zero, List.push_toArray, List.append_toArray, List.nil_append, List.cons_append]
    gi_wp2_with fail
    rw [← hW1]
    clear hW1
    refine ⟨trivial, ?_⟩
    (with_reducible refine (callsIn_wide.2 hv).mono ?_)
    rintro e w2 ⟨rfl, hB2⟩
    have k0 := cell_later c0 hB2
    have k10 := cell_later c10 hB2
    have k11 := cell_later c11 hB2
    have hz2' := hB2.size
    have hlt3 : w.heap.size + 1 < w2.heap.size := by omega
    have hne3 : w.heap.size + 1 ≠ w2.heap.size := Nat.ne_of_lt hlt3
    obtain ⟨V, hV⟩ : ∃ V, V = w2.heap.size := ⟨_, rfl⟩
    obtain ⟨W4, hW4⟩ : ∃ W4, W4 = w2.alloc (.cells #[.slice none 0 0] 56) := ⟨_, rfl⟩
    have hB4 : Below W1.heap.size W1 W4 := by rw [hW4]; exact hB2.alloc hB2.size _
    have hz4 : W4.heap.size = V + 1 := by rw [hW4, hV]; simp
    have bO : Boxed W4 V 56 (.slice none 0 0) := by rw [hW4, hV]; exact Boxed.new w2 56 (.slice none 0 0)
    have m0 : W4.cell? ⟨w.heap.size, 0, none⟩ = some (.slice q ts.length tcap) := cell_later c0 hB4
    have hB4w := HB1.out.trans (hB4.mono HB1.out.size)
    have HB4 := hidden hB4w
    have hall := all_any p q ss.length cap ts.length tcap isS W4
    clear hv hB2 hB4 hB4w c0 c10 c11
    gi_wp2_with fail
    rw [← hW4]
    rw [← hV]
    have hVw : w.heap.size + 2 ≤ V := by omega
    have HZ4 := hidden hz4
    clear hW4 hV k0 k10 k11 hlt3 hne3 hz4
    refine ⟨trivial, ?_⟩
    (with_reducible refine (callsIn_wide.2 hall).mono ?_)
    rintro e w5 ⟨rfl, hw5⟩
    have hz5 : w5.heap.size = V + 3 := by rw [hw5]; have := HZ4.out; simp; omega
    have hB5 : Below W4.heap.size W4 w5 := by rw [hw5]; exact ((Below.refl _ _).alloc (Nat.le_refl _) _).alloc (by simp) _
    have n0 : w5.cell? ⟨W4.heap.size, 0, none⟩ = some (.slice p ss.length cap) := by rw [hw5]; simp [go_sem]
    have n1 : w5.cell? ⟨W4.heap.size, 1, none⟩ = some (.slice q ts.length tcap) := by rw [hw5]; simp [go_sem]
    have n2 : w5.cell? ⟨W4.heap.size + 1, 0, none⟩ = some (.bool isS) := by rw [hw5]; simp [go_sem]
    have bO5 : Boxed w5 V 56 (.slice none 0 0) := (hB5.block V (by have := HZ4.out; omega)).trans bO
    have m5 := cell_later m0 hB5
    have hBw5 := HB4.out.trans (hB5.mono HB4.out.size)
    have HBw5 := hidden hBw5
    clear hall hw5 bO m0 hB5 HB4 hBw5
    gi_wp2_with fail
    have hz4 := HZ4.out
    refine rangeM (gf := 63) (lb := #[.pointer (some ⟨W4.heap.size, 0, none⟩), .pointer (some ⟨W4.heap.size + 1, 0, none⟩)]) (K := fun k => k < w5.heap.size ∧ k ≠ V) rfl (enters_of Tryz.func63 (by kernel_rfl) rfl)
      (all1_any _ ss ts isS w _ _ HS2.out HT2.out HBw5.out V1.out (fun t ht => ⟨(V3.out t ht).1, (V3.out t ht).2.1⟩) V2.out n0 n1 n2 (fun k hk => hk.1) (fun k hk => ⟨by omega, by omega⟩) ⟨by omega, by omega⟩ ⟨by omega, by omega⟩) (by rintro O x vs A ⟨T, C, rfl, _⟩; rfl) (Below.refl _ _) (fun k hk => hk.1)
      (fun O pre A => ∃ v, Boxed A V 56 v ∧ RowZ 2 O w5.heap.size A 42 v pre.length (pre.flatMap (rngOf ts)) ∧ Below w.heap.size w A ∧ A.heap[w.heap.size]? = w5.heap[w.heap.size]?)
      (fun _ _ _ _ => False)
      (fun O pre x a' A => (∃ v, Boxed A V 56 v ∧ RowZ 2 (withLoop w5.heap.size O) w5.heap.size A 42 v pre.length (pre.flatMap (rngOf ts)) ∧ Below w.heap.size w A ∧ A.heap[w.heap.size]? = w5.heap[w.heap.size]?) ∧
        ∃ v0 v1 v2 v3 v5 v6 v7 v10 v11 v12 v13 v14 v15 v16 v17 v18 v19 v20 : Value, a' = { tmps := #[v0, v1, v2, v3, .pointer (some ⟨w.heap.size, 0, none⟩), v5, v6, v7, .pointer (some ⟨V, 0, none⟩), .int .i64 (x.1 : Int), v10, v11, v12, v13, v14, v15, v16, v17, v18, v19, v20, undef, undef, undef, undef, undef, undef, undef, undef, undef], defers := [] })
      ?hI ?hIx ?hIg ?hAx ?h0 ?assign ?body ?done ?stop
    case hI =>
      rintro O s A A' hlo hA ⟨v, h1, h2, h3, h4⟩ ht
      exact ⟨v, (ht.block V h1.lt (fun h => by have := hlo V h; omega)).trans h1, h2.turn ht, h3.trans (ht.below (fun k h => by have := hlo k h; omega) h3.size), (ht.block _ (by omega) (fun h => by have := hlo _ h; omega)).trans h4⟩
    case hIx => exact fun O c p A A' _ _ h _ => h
    case hIg =>
      rintro O O' s A ⟨v, h1, h2, h3⟩ hg
      exact ⟨v, h1, h2.grow hg, h3⟩
    case hAx =>
      rintro O s x a' A A' ⟨⟨v, h1, h2, h3, h4⟩, h6⟩ hlo hA ht
      exact ⟨⟨v, (ht.block V h1.lt (fun h => by omega)).trans h1, h2.turn (ht.mono (fun k h => .inr (.inr h))), h3.trans (ht.below (fun k h => by omega) h3.size), (ht.block _ (by omega) (fun h => by omega)).trans h4⟩, h6⟩
    case h0 =>
      intro A hA
      exact ⟨_, (hA.block V (by omega)).trans bO5, ⟨⟨rfl, .inl ⟨rfl, rfl⟩⟩, fun k h => by cases h⟩, HBw5.out.trans (hA.mono HBw5.out.size), hA.block _ (by omega)⟩
    case assign =>
      rintro l' O pre x vs A hi ⟨T, C, rfl, hT1, hT3⟩ hO hA hp
      have HI := hidden hi
      clear hi bO5 hT3
      simp only [setAll]
      gi_wp2_with fail
      exact ⟨⟨HI.out, _, _, _, _, _, _, _, _, _, _, _, _, _, _, _, _, _, _, rfl⟩, Keeps.refl _ _, Keeps.refl _ _⟩
    case body =>
      rintro l' O pre x a' A ⟨⟨v, hv, hrow, hB, hb0⟩, v0, v1, v2, v3, v5, v6, v7, v10, v11, v12, v13, v14, v15, v16, v17, v18, v19, v20, rfl⟩ hOA hA hp
      obtain ⟨_, t, htx, _, _⟩ := cellsFrom_mem (hp.subset (by simp : x ∈ pre ++ [x]))
      rw [Nat.sub_zero] at htx
      have hxl := (List.getElem?_eq_some_iff.1 htx).1
      obtain ⟨rfl, hg⟩ := HQP.out (fun h => by rw [h] at hxl; exact absurd hxl (Nat.not_lt_zero _))
      have hta := (HAT.out x.1 t htx).1.of_block (w' := A.drew) (hB.block tg hg)
      have d3 := hta.c3
      have d4 := hta.c4
      have vd : A.drew.cell? ⟨V, 0, none⟩ = some v := hv.cell
      have d0 : A.drew.cell? ⟨w.heap.size, 0, none⟩ = some (.slice (some ⟨tg, to, none⟩) ts.length tcap) := (World.cell?_of_block (a := ⟨w.heap.size, 0, none⟩) (w := w5) (w' := A.drew) hb0).trans m5
      have hxz : (x.1 : Int) < (ts.length : Int) := by omega
      have hx0 : (0 : Int) ≤ (x.1 : Int) := by omega
      have hpl : pre.length + 1 ≤ 128 := by
        have := hp.length_le
        have := V4.out
        simp at *
        omega
      have HV := hidden hv
      have HRow := hidden hrow
      have HBA := hidden hB
      have HB0 := hidden hb0
      have HOA := hidden hOA
      have HHA := hidden hA
      have HTX := hidden htx
      clear hv hrow hB hb0 hOA hA hp htx hta hxl hg bO5 m5 n0 n1 n2
      gi_wp2_with fail
      have HAO : Hid (∀ k, withLoop w5.heap.size O k → k < A.heap.size) := fun k h => by
        have := HHA.out
        rcases h with h | h | h
        · exact (HOA.out k h).2
        · omega
        · omega
      have HVO : Hid (¬ withLoop w5.heap.size O V) := fun h => by
        rcases h with h | h | h
        · have := HOA.out V h; omega
        · omega
        · omega
      have HRX : Hid ([x].flatMap (rngOf ts) = [.int .i64 t.lo, .int .i64 t.hi]) := by
        have h : rngOf ts x = [.int .i64 t.lo, .int .i64 t.hi] := by unfold rngOf; rw [HTX.out]
        show List.flatMap (rngOf ts) [x] = _
        rw [List.flatMap_cons, h]; rfl
      have hVA : V < A.heap.size := by have := HHA.out; omega
      have hVA2 : V ≠ A.heap.size := by omega
      have hvd2 : ∀ ob, (A.alloc ob).drew.cell? ⟨V, 0, none⟩ = some v := fun ob => by show (A.drew.alloc ob).cell? ⟨V, 0, none⟩ = some v; rw [World.cell?_alloc_lt _ _ _ hVA]; exact vd
      refine wpIn_region_any hmx (wpAny_round (by simp) _ _ _ _ ?_)
      change wpAnyIn _ _ _ _ _ _ _ _ _ (World.drew _)
      refine wpAnyIn_take (i := 2) (v := ?_) rfl rfl (by kernel_rfl) (by kernel_rfl) (by kernel_rfl) (fun _ _ _ h => h) ⟨Or.inl ⟨by rfl, ?_⟩, fun _ => rfl⟩ ?_
      rotate_left
      · intro w; go_simp; (try with_reducible rfl)
      refine wpAnyIn_ready (rs := [0, 1]) (by kernel_rfl) (by simp) ?_
      refine AllReadyIn.cons rfl (fun K hK => ?_) ?_
      · go_simp
        refine hK _ _ ?_
        clear hK K
        refine wpAnyIn_ready (rs := [1]) (by kernel_rfl) (by simp) ?_
        refine AllReadyIn.cons rfl (fun K hK => ?_) ?_
        · go_simp
          refine hK _ _ ?_
          clear hK K
          refine wpAnyIn_take (i := 3) (v := ?_) rfl rfl (by kernel_rfl) (by kernel_rfl) (by kernel_rfl) (fun _ _ _ h => h) ⟨Or.inl ⟨by rfl, ?_⟩, fun _ => rfl⟩ ?_
          rotate_left
          · intro w; go_simp; (try with_reducible rfl)
          refine wpAnyIn_take (i := 4) (v := ?_) rfl rfl (by kernel_rfl) (by kernel_rfl) (by kernel_rfl) (fun _ _ _ h => h) ⟨Or.inl ⟨by rfl, ?_⟩, fun _ => rfl⟩ ?_
          rotate_left
          · intro w; go_simp; (try with_reducible rfl)
          refine wpAnyIn_ready (rs := [5]) (by kernel_rfl) (by simp) ?_
          refine AllReadyIn.cons rfl (fun K hK => ?_) ?_
          · go_simp
            refine hK _ _ ?_
            clear hK K
            refine wpAnyIn_ready (rs := [6]) (by kernel_rfl) (by simp) ?_
            refine AllReadyIn.cons rfl (fun K hK => ?_) ?_
            · go_simp
              refine hK _ _ ?_
              clear hK K
              refine wpAnyIn_ready (rs := [7]) (by kernel_rfl) (by simp) ?_
              refine AllReadyIn.cons rfl (fun K hK => ?_) ?_
              · refine wpIn_append_own _ (.tmp 21) (.tmp 27) 56 rfl w5.heap.size 42 i0 (.agg #[.int .i64 0, .int .i64 0]) 2 16 Tryz.underlying56 hi hz0 hz1' hz2 rfl (by decide) v pre.length (pre.flatMap (rngOf ts)) rfl ((row_later HRow.out.1 (drew_below A)).alloc _) ⟨A.heap.size, 0, none⟩ 1 1 [.int .i64 t.lo, .int .i64 t.hi] rfl rfl (cells_two_new A.drew _ _ _) (by intro u hu; simp at hu; rcases hu with rfl | rfl <;> rfl) (by unfold maxLen; omega) (by omega) (by simp; have := HHA.out; have h2 : A.drew.heap.size = A.heap.size := rfl; omega) ?_
                intro v' w2 hown' hgrow hat
                obtain ⟨g', cap', rfl⟩ := ownsRow_succ hown'
                obtain ⟨hx1, hx2, hx3, hx4⟩ := rowz_appended (W := w) (by decide) HV.out HRow.out HAO.out HVO.out HBw5.out.size (by omega) HBA.out hown' hgrow (by simpa using hat)
                have k1 := hx1.cell
                have k2 := hx1.frozen
                have HX2 := hidden hx2
                have HX3 := hidden hx3
                have HX4 := hidden hx4
                clear hx1 hx2 hx3 hx4 hown' hgrow hat
                refine hK _ _ ?_
                clear hK K
                refine wpAnyIn_ready (rs := [8]) (by kernel_rfl) (by simp) ?_
                refine AllReadyIn.cons rfl (fun K hK => ?_) ?_
                · go_simp
                  refine hK _ _ ?_
                  clear hK K
                  refine wpAnyIn_done (by kernel_rfl) ?_ _
                  gi_wp2_with fail
                  exact ⟨⟨_, HX2.out.1, (by rw [List.length_append, List.flatMap_append, HRX.out]; exact HX2.out.2.1), HX2.out.2.2, (HX4.out _ (by omega) (by omega) (fun h => by omega)).trans HB0.out⟩, HX3.out, ⟨HX3.out.size, fun k h1 h2 => HX4.out k h2 h1.2 (fun h => by have := h1.1; omega)⟩⟩
                exact AllReadyIn.nil
              exact AllReadyIn.nil
            exact AllReadyIn.nil
          exact AllReadyIn.nil
        exact AllReadyIn.nil
      refine AllReadyIn.cons rfl (fun K hK => ?_) ?_
      · go_simp
        refine hK _ _ ?_
        clear hK K
        refine wpAnyIn_take (i := 3) (v := ?_) rfl rfl (by kernel_rfl) (by kernel_rfl) (by kernel_rfl) (fun _ _ _ h => h) ⟨Or.inl ⟨by rfl, ?_⟩, fun _ => rfl⟩ ?_
        rotate_left
        · intro w; go_simp; (try with_reducible rfl)
        refine wpAnyIn_take (i := 4) (v := ?_) rfl rfl (by kernel_rfl) (by kernel_rfl) (by kernel_rfl) (fun _ _ _ h => h) ⟨Or.inl ⟨by rfl, ?_⟩, fun _ => rfl⟩ ?_
        rotate_left
        · intro w; go_simp; (try with_reducible rfl)
        refine wpAnyIn_ready (rs := [0, 5]) (by kernel_rfl) (by simp) ?_
        refine AllReadyIn.cons rfl (fun K hK => ?_) ?_
        · go_simp
          refine hK _ _ ?_
          clear hK K
          refine wpAnyIn_ready (rs := [5]) (by kernel_rfl) (by simp) ?_
          refine AllReadyIn.cons rfl (fun K hK => ?_) ?_
          · go_simp
            refine hK _ _ ?_
            clear hK K
            refine wpAnyIn_ready (rs := [6]) (by kernel_rfl) (by simp) ?_
            refine AllReadyIn.cons rfl (fun K hK => ?_) ?_
            · go_simp
              refine hK _ _ ?_
              clear hK K
              refine wpAnyIn_ready (rs := [7]) (by kernel_rfl) (by simp) ?_
              refine AllReadyIn.cons rfl (fun K hK => ?_) ?_
              · refine wpIn_append_own _ (.tmp 21) (.tmp 27) 56 rfl w5.heap.size 42 i0 (.agg #[.int .i64 0, .int .i64 0]) 2 16 Tryz.underlying56 hi hz0 hz1' hz2 rfl (by decide) v pre.length (pre.flatMap (rngOf ts)) rfl ((row_later HRow.out.1 (drew_below A)).alloc _) ⟨A.heap.size, 0, none⟩ 1 1 [.int .i64 t.lo, .int .i64 t.hi] rfl rfl (cells_two_new A.drew _ _ _) (by intro u hu; simp at hu; rcases hu with rfl | rfl <;> rfl) (by unfold maxLen; omega) (by omega) (by simp; have := HHA.out; have h2 : A.drew.heap.size = A.heap.size := rfl; omega) ?_
                intro v' w2 hown' hgrow hat
                obtain ⟨g', cap', rfl⟩ := ownsRow_succ hown'
                obtain ⟨hx1, hx2, hx3, hx4⟩ := rowz_appended (W := w) (by decide) HV.out HRow.out HAO.out HVO.out HBw5.out.size (by omega) HBA.out hown' hgrow (by simpa using hat)
                have k1 := hx1.cell
                have k2 := hx1.frozen
                have HX2 := hidden hx2
                have HX3 := hidden hx3
                have HX4 := hidden hx4
                clear hx1 hx2 hx3 hx4 hown' hgrow hat
                refine hK _ _ ?_
                clear hK K
                refine wpAnyIn_ready (rs := [8]) (by kernel_rfl) (by simp) ?_
                refine AllReadyIn.cons rfl (fun K hK => ?_) ?_
                · go_simp
                  refine hK _ _ ?_
                  clear hK K
                  refine wpAnyIn_done (by kernel_rfl) ?_ _
                  gi_wp2_with fail
                  exact ⟨⟨_, HX2.out.1, (by rw [List.length_append, List.flatMap_append, HRX.out]; exact HX2.out.2.1), HX2.out.2.2, (HX4.out _ (by omega) (by omega) (fun h => by omega)).trans HB0.out⟩, HX3.out, ⟨HX3.out.size, fun k h1 h2 => HX4.out k h2 h1.2 (fun h => by have := h1.1; omega)⟩⟩
                exact AllReadyIn.nil
              exact AllReadyIn.nil
            exact AllReadyIn.nil
          exact AllReadyIn.nil
        refine AllReadyIn.cons rfl (fun K hK => ?_) ?_
        · go_simp
          refine hK _ _ ?_
          clear hK K
          refine wpAnyIn_ready (rs := [0, 6]) (by kernel_rfl) (by simp) ?_
          refine AllReadyIn.cons rfl (fun K hK => ?_) ?_
          · go_simp
            refine hK _ _ ?_
            clear hK K
            refine wpAnyIn_ready (rs := [6]) (by kernel_rfl) (by simp) ?_
            refine AllReadyIn.cons rfl (fun K hK => ?_) ?_
            · go_simp
              refine hK _ _ ?_
              clear hK K
              refine wpAnyIn_ready (rs := [7]) (by kernel_rfl) (by simp) ?_
              refine AllReadyIn.cons rfl (fun K hK => ?_) ?_
              · refine wpIn_append_own _ (.tmp 21) (.tmp 27) 56 rfl w5.heap.size 42 i0 (.agg #[.int .i64 0, .int .i64 0]) 2 16 Tryz.underlying56 hi hz0 hz1' hz2 rfl (by decide) v pre.length (pre.flatMap (rngOf ts)) rfl ((row_later HRow.out.1 (drew_below A)).alloc _) ⟨A.heap.size, 0, none⟩ 1 1 [.int .i64 t.lo, .int .i64 t.hi] rfl rfl (cells_two_new A.drew _ _ _) (by intro u hu; simp at hu; rcases hu with rfl | rfl <;> rfl) (by unfold maxLen; omega) (by omega) (by simp; have := HHA.out; have h2 : A.drew.heap.size = A.heap.size := rfl; omega) ?_
                intro v' w2 hown' hgrow hat
                obtain ⟨g', cap', rfl⟩ := ownsRow_succ hown'
                obtain ⟨hx1, hx2, hx3, hx4⟩ := rowz_appended (W := w) (by decide) HV.out HRow.out HAO.out HVO.out HBw5.out.size (by omega) HBA.out hown' hgrow (by simpa using hat)
                have k1 := hx1.cell
                have k2 := hx1.frozen
                have HX2 := hidden hx2
                have HX3 := hidden hx3
                have HX4 := hidden hx4
                clear hx1 hx2 hx3 hx4 hown' hgrow hat
                refine hK _ _ ?_
                clear hK K
                refine wpAnyIn_ready (rs := [8]) (by kernel_rfl) (by simp) ?_
                refine AllReadyIn.cons rfl (fun K hK => ?_) ?_
                · go_simp
                  refine hK _ _ ?_
                  clear hK K
                  refine wpAnyIn_done (by kernel_rfl) ?_ _
                  gi_wp2_with fail
                  exact ⟨⟨_, HX2.out.1, (by rw [List.length_append, List.flatMap_append, HRX.out]; exact HX2.out.2.1), HX2.out.2.2, (HX4.out _ (by omega) (by omega) (fun h => by omega)).trans HB0.out⟩, HX3.out, ⟨HX3.out.size, fun k h1 h2 => HX4.out k h2 h1.2 (fun h => by have := h1.1; omega)⟩⟩
                exact AllReadyIn.nil
              exact AllReadyIn.nil
            exact AllReadyIn.nil
          refine AllReadyIn.cons rfl (fun K hK => ?_) ?_
          · go_simp
            refine hK _ _ ?_
            clear hK K
            refine wpAnyIn_ready (rs := [0]) (by kernel_rfl) (by simp) ?_
            refine AllReadyIn.cons rfl (fun K hK => ?_) ?_
            · go_simp
              refine hK _ _ ?_
              clear hK K
              refine wpAnyIn_ready (rs := [7]) (by kernel_rfl) (by simp) ?_
              refine AllReadyIn.cons rfl (fun K hK => ?_) ?_
              · refine wpIn_append_own _ (.tmp 21) (.tmp 27) 56 rfl w5.heap.size 42 i0 (.agg #[.int .i64 0, .int .i64 0]) 2 16 Tryz.underlying56 hi hz0 hz1' hz2 rfl (by decide) v pre.length (pre.flatMap (rngOf ts)) rfl ((row_later HRow.out.1 (drew_below A)).alloc _) ⟨A.heap.size, 0, none⟩ 1 1 [.int .i64 t.lo, .int .i64 t.hi] rfl rfl (cells_two_new A.drew _ _ _) (by intro u hu; simp at hu; rcases hu with rfl | rfl <;> rfl) (by unfold maxLen; omega) (by omega) (by simp; have := HHA.out; have h2 : A.drew.heap.size = A.heap.size := rfl; omega) ?_
                intro v' w2 hown' hgrow hat
                obtain ⟨g', cap', rfl⟩ := ownsRow_succ hown'
                obtain ⟨hx1, hx2, hx3, hx4⟩ := rowz_appended (W := w) (by decide) HV.out HRow.out HAO.out HVO.out HBw5.out.size (by omega) HBA.out hown' hgrow (by simpa using hat)
                have k1 := hx1.cell
                have k2 := hx1.frozen
                have HX2 := hidden hx2
                have HX3 := hidden hx3
                have HX4 := hidden hx4
                clear hx1 hx2 hx3 hx4 hown' hgrow hat
                refine hK _ _ ?_
                clear hK K
                refine wpAnyIn_ready (rs := [8]) (by kernel_rfl) (by simp) ?_
                refine AllReadyIn.cons rfl (fun K hK => ?_) ?_
                · go_simp
                  refine hK _ _ ?_
                  clear hK K
                  refine wpAnyIn_done (by kernel_rfl) ?_ _
                  gi_wp2_with fail
                  exact ⟨⟨_, HX2.out.1, (by rw [List.length_append, List.flatMap_append, HRX.out]; exact HX2.out.2.1), HX2.out.2.2, (HX4.out _ (by omega) (by omega) (fun h => by omega)).trans HB0.out⟩, HX3.out, ⟨HX3.out.size, fun k h1 h2 => HX4.out k h2 h1.2 (fun h => by have := h1.1; omega)⟩⟩
                exact AllReadyIn.nil
              exact AllReadyIn.nil
            exact AllReadyIn.nil
          exact AllReadyIn.nil
        exact AllReadyIn.nil
      exact AllReadyIn.nil
    case done =>
      rintro O D A ⟨v, hv, hrow, hB, hb0⟩ hO hOD hk
      have hc := hv.cell
      clear bO5
      gi_wp2_with fail
      refine ⟨by simp, .inl ⟨_, _, rfl, run_takeDeferred hk, ?_⟩⟩
      exact ⟨_, results_tmp rfl _ _ _, v, rfl, row_mono (hrow.turn (TurnO.putObj _ hOD)).1 HBw5.out.size, hB.trans ((TurnO.putObj _ hOD).below (fun k h => by have := (hO k h).1; have := HBw5.out.size; omega) hB.size)⟩
    case stop =>
      rintro O D c pre A _ h
      exact h.elim
  · have hco : cellsOf ss ts isS = [] := by unfold cellsOf; rw [if_neg hvb]
    rw [hco]
    have hvf : validB ss ts = false := by simpa using hvb
    rw [hvf] at hv
    have HB1 := hidden hB1
    clear hB1 hs2 ht2 hqp hat hsm hm hl hlt hco hvb
    go_enter Tryz.func31, Tryz.ntmps31
    go_wp2_with fail
    rw [← hW1]
    clear hW1
    (with_reducible refine hv.mono ?_)
    rintro e w2 ⟨rfl, hB2⟩
    have HB2 := hidden (HB1.out.trans (hB2.mono HB1.out.size))
    clear hB2 c0 c10 c11
    go_wp2_with fail
    go_ret
    exact ⟨_, rfl, ⟨rfl, .inl ⟨rfl, rfl⟩⟩, HB2.out⟩

end Go.Proofs.YtfmoophjdgejeaaGreatDoor
