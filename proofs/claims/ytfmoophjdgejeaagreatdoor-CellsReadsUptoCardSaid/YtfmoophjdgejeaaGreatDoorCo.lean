import Derived.Test.YtfmoophjdgejeaaGreatDoorCn
/-
  The number of cells; the table and the tuple of a cell.
-/
namespace Go.Proofs.YtfmoophjdgejeaaGreatDoor
open Go.RowKit Go.Shelf
attribute [local go_sem] Oper.semAt_some

theorem row_form {w : World} {b z n : Nat} {e : TypeId} {v : Value} {xs : List Value} (h : w.ownsRow b e z v n xs) : ∃ p c, v = .slice p n c := by
  rcases h.2 with ⟨rfl, h2⟩ | ⟨g, cap, cur, rfl, _⟩
  · exact ⟨none, 0, by rw [h2]⟩
  · exact ⟨_, _, rfl⟩

theorem count_any (ss : List Int) (ts : List Tab) (isS : Bool) (sv tv : Value) (w : World) (hs : IntsV w sv ss) (ht : TabsV w tv ts) (hl : ss.length ≤ 4611686018427387904) (hlt : ts.length ≤ 4611686018427387903)
    (hsm : ∀ t ∈ ts, t.name.size ≤ 4096 ∧ t.cols.length ≤ 4611686018427387904) (hm : MaxAt w) :
    Calls Tryz.prog 18 #[sv, tv, .bool isS] w fun e w' => e = .returned (.int .i64 ((cellsOf ss ts isS).length : Int)) ∧ Below w.heap.size w w' := by
  have hr := ranges_any ss ts isS sv tv w hs ht hl hlt hsm hm
  obtain ⟨p, cap, g, o, rfl, _, _⟩ := hs
  obtain ⟨q, tcap, tg, to, ks, rfl, hqp, hat⟩ := ht
  clear hqp hat hl hlt hsm hm
  go_enter Tryz.func18, Tryz.ntmps18
  go_wp2_with fail
  (with_reducible refine hr.mono ?_)
  rintro e w' ⟨v, rfl, h1, h2⟩
  obtain ⟨vp, vc, rfl⟩ := row_form h1
  have H2 := hidden h2
  clear h1 h2 hr
  go_wp2_with fail
  go_ret
  exact ⟨rfl, H2.out⟩

/-- The cell of a number. -/
def cellAt (L : List (Nat × List Nat)) (c : Int) : Option (Nat × List Nat) := if 0 ≤ c then L[c.toNat]? else none

theorem TupAt.turnM {O : Nat → Prop} {a b : World} {T : Nat} {l : List Nat} (h : TupAt a T l) (ht : TurnM O a b) : TupAt b T l := by
  cases l with
  | nil => exact ⟨fun i x h => by simp at h, fun i h => by simp at h⟩
  | cons x l => exact h.of_block (ht.cell (h.1 0 x rfl))

theorem prefix_len {α : Type} {a b : List α} {x : α} (h : (a ++ [x]) <+: b) : b[a.length]? = some x := by
  obtain ⟨r, rfl⟩ := h
  rw [List.append_assoc, List.getElem?_append_right (Nat.le_refl _), Nat.sub_self]
  rfl

theorem heap_set (A : World) (B : Nat) (v : Value) {k : Nat} (h : k ≠ B) : (A.setCell ⟨B, 0, none⟩ v).heap[k]? = A.heap[k]? := Below.heap_setCell _ _ _ _ h
theorem size_set (A : World) (B : Nat) (v : Value) : (A.setCell ⟨B, 0, none⟩ v).heap.size = A.heap.size := by simp [World.setCell]
theorem boxed_aside {A : World} {B C : Nat} {t : TypeId} {u v : Value} (h : Boxed A B t u) (hne : B ≠ C) : Boxed (A.setCell ⟨C, 0, none⟩ v) B t u := (heap_set A C v hne).trans h
/-- Three variables are written. -/
theorem boxed_three {A : World} {a b c : Nat} {t1 t2 t3 : TypeId} {u1 u2 u3 : Value} (v1 v2 v3 : Value) (h1 : Boxed A a t1 u1) (h2 : Boxed A b t2 u2) (h3 : Boxed A c t3 u3) (ab : a ≠ b) (ac : a ≠ c) (bc : b ≠ c) :
    Boxed (((A.setCell ⟨a, 0, none⟩ v1).setCell ⟨b, 0, none⟩ v2).setCell ⟨c, 0, none⟩ v3) a t1 v1 ∧ Boxed (((A.setCell ⟨a, 0, none⟩ v1).setCell ⟨b, 0, none⟩ v2).setCell ⟨c, 0, none⟩ v3) b t2 v2 ∧ Boxed (((A.setCell ⟨a, 0, none⟩ v1).setCell ⟨b, 0, none⟩ v2).setCell ⟨c, 0, none⟩ v3) c t3 v3 :=
  ⟨boxed_aside (boxed_aside (h1.set v1) ab) ac, boxed_aside ((boxed_aside h2 ab.symm).set v2) bc, (boxed_aside (boxed_aside h3 ac.symm) bc.symm).set v3⟩

theorem cellAt_none {L : List (Nat × List Nat)} {c : Int} (h : ∀ j : Nat, j < L.length → (j : Int) ≠ c) : cellAt L c = none := by
  unfold cellAt
  split
  · rename_i h0
    rw [List.getElem?_eq_none_iff]
    rcases Nat.lt_or_ge c.toNat L.length with h1 | h1
    · exact absurd (by omega) (h _ h1)
    · exact h1
  · rfl

theorem cellAt_some {L p : List (Nat × List Nat)} {x : Nat × List Nat} {c : Int} (h : (p ++ [x]) <+: L) (hc : (p.length : Int) = c) : cellAt L c = some x := by
  unfold cellAt
  rw [if_pos (by omega), show c.toNat = p.length by omega]
  exact prefix_len h

set_option maxRecDepth 100000 in
set_option maxHeartbeats 6400000 in
theorem tuple_any (ss : List Int) (ts : List Tab) (isS : Bool) (c : Int) (sv tv : Value) (w : World) (hs : IntsV w sv ss) (ht : TabsV w tv ts) (hl : ss.length ≤ 4611686018427387904) (hlt : ts.length ≤ 4611686018427387903)
    (hsm : ∀ t ∈ ts, t.name.size ≤ 4096 ∧ t.cols.length ≤ 4611686018427387904) (hm : MaxAt w) :
    Calls Tryz.prog 22 #[sv, tv, .bool isS, .int .i64 c] w fun e w' => Below w.heap.size w w' ∧
      ((∃ x T C, cellAt (cellsOf ss ts isS) c = some x ∧ e = .returned (.tuple #[.int .i64 (x.1 : Int), .slice (some ⟨T, 0, none⟩) x.2.length C, .bool true]) ∧ w.heap.size ≤ T ∧ T < w'.heap.size ∧ TupAt w' T x.2) ∨
        (cellAt (cellsOf ss ts isS) c = none ∧ e = .returned (.tuple #[.int .i64 0, .slice none 0 0, .bool false]))) := by
  have hs2 := hs
  have ht2 := ht
  obtain ⟨p, cap, g, o, rfl, _, _⟩ := hs
  obtain ⟨q, tcap, tg, to, ks, rfl, hqp, hat⟩ := ht
  have hmx : Tryz.prog.follows .mixedOrders = true := by kernel_rfl
  obtain ⟨W1, hW1⟩ : ∃ W1, W1 = ((((w.alloc (.cells #[.int .i64 c] 3)).alloc (.cells #[.int .i64 0] 3)).alloc (.cells #[.slice none 0 0] 23)).alloc (.cells #[.bool false] 4)).alloc (.cells #[.slice p ss.length cap, .slice q ts.length tcap] 61) := ⟨_, rfl⟩
  have hB1 : Below w.heap.size w W1 := by rw [hW1]; exact (((((Below.refl _ _).alloc (Nat.le_refl _) _).alloc (by simp) _).alloc (by simp; omega) _).alloc (by simp; omega) _).alloc (by simp; omega) _
  have hz1 : W1.heap.size = w.heap.size + 5 := by rw [hW1]; simp
  have b0 : Boxed W1 w.heap.size 3 (.int .i64 c) := by rw [hW1]; exact ((((Boxed.new w _ _).alloc _).alloc _).alloc _).alloc _
  have b1 : Boxed W1 (w.heap.size + 1) 3 (.int .i64 0) := by
    rw [hW1]
    have h := Boxed.new (w.alloc (.cells #[.int .i64 c] 3)) 3 (.int .i64 0)
    rw [World.size_alloc] at h
    exact ((h.alloc _).alloc _).alloc _
  have b2 : Boxed W1 (w.heap.size + 2) 23 (.slice none 0 0) := by
    rw [hW1]
    have h := Boxed.new ((w.alloc (.cells #[.int .i64 c] 3)).alloc (.cells #[.int .i64 0] 3)) 23 (.slice none 0 0)
    rw [World.size_alloc, World.size_alloc] at h
    exact (h.alloc _).alloc _
  have b3 : Boxed W1 (w.heap.size + 3) 4 (.bool false) := by
    rw [hW1]
    have h := Boxed.new (((w.alloc (.cells #[.int .i64 c] 3)).alloc (.cells #[.int .i64 0] 3)).alloc (.cells #[.slice none 0 0] 23)) 4 (.bool false)
    rw [World.size_alloc, World.size_alloc, World.size_alloc] at h
    exact h.alloc _
  have c10 : W1.cell? ⟨w.heap.size + 4, 0, none⟩ = some (.slice p ss.length cap) := by rw [hW1]; simp [go_sem]
  have c11 : W1.cell? ⟨w.heap.size + 4, 1, none⟩ = some (.slice q ts.length tcap) := by rw [hW1]; simp [go_sem]
  have hv := valid_any ss ts _ _ W1 (hs2.later hB1) (ht2.later hB1) hl hlt hsm (hm.keep hB1)
  by_cases hvb : validB ss ts = true
  · have hco : cellsOf ss ts isS = cellsFrom ss isS ts 0 := by unfold cellsOf; rw [if_pos hvb]
    rw [hco]
    rw [hvb] at hv
    obtain ⟨v1, v2, v3, v4⟩ := valid_parts hvb
    have HB1 := hidden hB1
    have HS2 := hidden hs2
    have HT2 := hidden ht2
    have V1 := hidden v1
    have V2 := hidden v2
    have V3 := hidden v3
    have V4 := hidden (v4 isS)
    have H0 := hidden b0
    have H1 := hidden b1
    have H2 := hidden b2
    have H3 := hidden b3
    clear hB1 hs2 ht2 hqp hat hsm hm hl hlt v1 v2 v3 v4 hco hvb b0 b1 b2 b3
    refine (callsIn_wide (n := 9)).1 ?_
    refine callsIn_of_wp_marks Tryz.func22 rfl trivial ?_ rfl
    simp only [Tryz.ntmps22, List.size_toArray, List.length_cons, List.length_nil, Nat.reduceAdd, Nat.reduceSub, Array.replicate_succ, Array.replicate_zero, List.push_toArray, List.append_toArray, List.nil_append, List.cons_append]
    gi_wp2_with fail
    rw [← hW1]
    clear hW1
    refine ⟨trivial, ?_⟩
    (with_reducible refine (callsIn_wide.2 hv).mono ?_)
    rintro e w2 ⟨rfl, hB2⟩
    have k10 := cell_later c10 hB2
    have k11 := cell_later c11 hB2
    have hz2' := hB2.size
    have hlt3 : w.heap.size + 4 < w2.heap.size := by omega
    have hne3 : w.heap.size + 4 ≠ w2.heap.size := Nat.ne_of_lt hlt3
    obtain ⟨N, hN⟩ : ∃ N, N = w2.heap.size := ⟨_, rfl⟩
    obtain ⟨W4, hW4⟩ : ∃ W4, W4 = w2.alloc (.cells #[.int .i64 0] 3) := ⟨_, rfl⟩
    have hB4 : Below W1.heap.size W1 W4 := by rw [hW4]; exact hB2.alloc hB2.size _
    have hz4 : W4.heap.size = N + 1 := by rw [hW4, hN]; simp
    have bN : Boxed W4 N 3 (.int .i64 0) := by rw [hW4, hN]; exact Boxed.new w2 3 (.int .i64 0)
    have hB4w := HB1.out.trans (hB4.mono HB1.out.size)
    have HB4 := hidden hB4
    have HB4w := hidden hB4w
    have hall := all_any p q ss.length cap ts.length tcap isS W4
    clear hv hB2 hB4 hB4w c10 c11
    gi_wp2_with fail
    rw [← hW4]
    rw [← hN]
    have hNw : w.heap.size + 5 ≤ N := by omega
    have HZ4 := hidden hz4
    have HBN := hidden bN
    clear hW4 hN k10 k11 hlt3 hne3 hz4 bN
    refine ⟨trivial, ?_⟩
    (with_reducible refine (callsIn_wide.2 hall).mono ?_)
    rintro e w5 ⟨rfl, hw5⟩
    have hz5 : w5.heap.size = N + 3 := by rw [hw5]; have := HZ4.out; simp; omega
    have hB5 : Below W4.heap.size W4 w5 := by rw [hw5]; exact ((Below.refl _ _).alloc (Nat.le_refl _) _).alloc (by simp) _
    have n0 : w5.cell? ⟨W4.heap.size, 0, none⟩ = some (.slice p ss.length cap) := by rw [hw5]; simp [go_sem]
    have n1 : w5.cell? ⟨W4.heap.size, 1, none⟩ = some (.slice q ts.length tcap) := by rw [hw5]; simp [go_sem]
    have n2 : w5.cell? ⟨W4.heap.size + 1, 0, none⟩ = some (.bool isS) := by rw [hw5]; simp [go_sem]
    have bN5 : Boxed w5 N 3 (.int .i64 0) := (hB5.block N (by have := HZ4.out; omega)).trans HBN.out
    have hBw5 := HB4w.out.trans (hB5.mono HB4w.out.size)
    have old : ∀ k, k < w.heap.size + 5 → w5.heap[k]? = W1.heap[k]? := fun k hk => (hB5.block k (by have := HZ4.out; omega)).trans (HB4.out.block k (by omega))
    have HBw5 := hidden hBw5
    have HBN5 := hidden bN5
    have G0 : Hid (Boxed w5 w.heap.size 3 (.int .i64 c)) := (old _ (by omega)).trans H0.out
    have G1 : Hid (Boxed w5 (w.heap.size + 1) 3 (.int .i64 0)) := (old _ (by omega)).trans H1.out
    have G2 : Hid (Boxed w5 (w.heap.size + 2) 23 (.slice none 0 0)) := (old _ (by omega)).trans H2.out
    have G3 : Hid (Boxed w5 (w.heap.size + 3) 4 (.bool false)) := (old _ (by omega)).trans H3.out
    clear hall hw5 bN5 hB5 HB4 HB4w hBw5 old H0 H1 H2 H3 HBN
    gi_wp2_with fail
    have hz4 := HZ4.out
    refine rangeM (gf := 63) (lb := #[.pointer (some ⟨W4.heap.size, 0, none⟩), .pointer (some ⟨W4.heap.size + 1, 0, none⟩)]) (K := fun k => k < w5.heap.size ∧ k ≠ N ∧ (k < w.heap.size + 1 ∨ w.heap.size + 4 ≤ k)) rfl (enters_of Tryz.func63 (by kernel_rfl) rfl)
      (all1_any _ ss ts isS w _ _ HS2.out HT2.out HBw5.out V1.out (fun t ht => ⟨(V3.out t ht).1, (V3.out t ht).2.1⟩) V2.out n0 n1 n2 (fun k hk => hk.1) (fun k hk => ⟨by omega, by omega, by omega⟩) ⟨by omega, by omega, by omega⟩ ⟨by omega, by omega, by omega⟩) (by rintro O x vs A ⟨T, C, rfl, _⟩; rfl) (Below.refl _ _) (fun k hk => hk.1)
      (fun O pre A => Boxed A N 3 (.int .i64 (pre.length : Int)) ∧ Below w.heap.size w A ∧ (∀ k, w.heap.size ≤ k → k < w.heap.size + 5 → A.heap[k]? = w5.heap[k]?) ∧ ∀ j : Nat, j < pre.length → (j : Int) ≠ c)
      (fun O cd pre A => cd = .ret ∧ Below w.heap.size w A ∧ ∃ pre' x T C, pre = pre' ++ [x] ∧ (pre'.length : Int) = c ∧ Boxed A (w.heap.size + 1) 3 (.int .i64 (x.1 : Int)) ∧ Boxed A (w.heap.size + 2) 23 (.slice (some ⟨T, 0, none⟩) x.2.length C) ∧ Boxed A (w.heap.size + 3) 4 (.bool true) ∧ O T ∧ T < A.heap.size ∧ TupAt A T x.2)
      (fun O pre x a' A => (Boxed A N 3 (.int .i64 (pre.length : Int)) ∧ Below w.heap.size w A ∧ (∀ k, w.heap.size ≤ k → k < w.heap.size + 5 → A.heap[k]? = w5.heap[k]?) ∧ ∀ j : Nat, j < pre.length → (j : Int) ≠ c) ∧ ∃ T C, O T ∧ T < A.heap.size ∧ TupAt A T x.2 ∧
        ∃ v0 v1 v2 v3 v4 v5 v6 v11 v15 v16 v17 v18 v19 v20 v21 v22 v23 v24 v25 v26 v27 v28 v29 v30 v31 v32 : Value, a' = { tmps := #[v0, v1, v2, v3, v4, v5, v6, .pointer (some ⟨w.heap.size, 0, none⟩), .pointer (some ⟨w.heap.size + 1, 0, none⟩), .pointer (some ⟨w.heap.size + 2, 0, none⟩), .pointer (some ⟨w.heap.size + 3, 0, none⟩), v11, .pointer (some ⟨N, 0, none⟩), .int .i64 (x.1 : Int), .slice (some ⟨T, 0, none⟩) x.2.length C, v15, v16, v17, v18, v19, v20, v21, v22, v23, v24, v25, v26, v27, v28, v29, v30, v31, v32], defers := [] })
      ?hI ?hIx ?hIg ?hAx ?h0 ?assign ?body ?done ?stop
    case hI =>
      rintro O s A A' hlo hA ⟨h1, h2, h3, h4⟩ ht
      exact ⟨(ht.block N h1.lt (fun h => by have := hlo N h; omega)).trans h1, h2.trans (ht.below (fun k h => by have := hlo k h; omega) h2.size), fun k h5 h6 => (ht.block k (by omega) (fun h => by have := hlo k h; omega)).trans (h3 k h5 h6), h4⟩
    case hIx =>
      rintro O cd s A A' hlo hA ⟨h0, h2, pre', x, T, C, g1, g2, g3, g4, g5, g6, g7, g8⟩ ht
      exact ⟨h0, h2.trans (ht.turn.below (fun k h => by have := hlo k h; omega) h2.size), pre', x, T, C, g1, g2, (ht.turn.block _ g3.lt (fun h => by have := hlo _ h; omega)).trans g3, (ht.turn.block _ g4.lt (fun h => by have := hlo _ h; omega)).trans g4, (ht.turn.block _ g5.lt (fun h => by have := hlo _ h; omega)).trans g5, g6, Nat.lt_of_lt_of_le g7 ht.turn.size, g8.turnM ht⟩
    case hIg => exact fun O O' s A h _ => h
    case hAx =>
      rintro O s x a' A A' ⟨⟨h1, h2, h3, h4⟩, T, C, g1, g2, g3, h6⟩ hlo hA ht
      exact ⟨⟨(ht.block N h1.lt (fun h => by omega)).trans h1, h2.trans (ht.below (fun k h => by omega) h2.size), fun k h5 h6 => (ht.block k (by omega) (fun h => by omega)).trans (h3 k h5 h6), h4⟩, T, C, g1, Nat.lt_of_lt_of_le g2 ht.size, g3.of_block (ht.block T g2 (fun h => by have := hlo T g1; omega)), h6⟩
    case h0 =>
      intro A hA
      exact ⟨(hA.block N (by omega)).trans HBN5.out, HBw5.out.trans (hA.mono HBw5.out.size), fun k _ h6 => hA.block k (by omega), fun j h => by simp at h⟩
    case assign =>
      rintro l' O pre x vs A hi ⟨T, C, rfl, hT1, hT3⟩ hO hA hp
      have HI := hidden hi
      have HT3 := hidden hT3
      clear hi hT3 n0 n1 n2
      simp only [setAll]
      gi_wp2_with fail
      exact ⟨⟨HI.out, T, C, hT1, (hO T hT1).2, HT3.out, _, _, _, _, _, _, _, _, _, _, _, _, _, _, _, _, _, _, _, _, _, _, _, _, _, _, rfl⟩, Keeps.refl _ _, Keeps.refl _ _⟩
    case body =>
      rintro l' O pre x a' A ⟨⟨h1, h2, h3, h4⟩, T, C, g1, g2, g3, v0, v1, v2, v3, v4, v5, v6, v11, v15, v16, v17, v18, v19, v20, v21, v22, v23, v24, v25, v26, v27, v28, v29, v30, v31, v32, rfl⟩ hOA hA hp
      have r0 : Boxed A w.heap.size 3 (.int .i64 c) := (h3 _ (by omega) (by omega)).trans G0.out
      have r1 : Boxed A (w.heap.size + 1) 3 (.int .i64 0) := (h3 _ (by omega) (by omega)).trans G1.out
      have r2 : Boxed A (w.heap.size + 2) 23 (.slice none 0 0) := (h3 _ (by omega) (by omega)).trans G2.out
      have r3 : Boxed A (w.heap.size + 3) 4 (.bool false) := (h3 _ (by omega) (by omega)).trans G3.out
      have q0 := r0.cell
      have q1 := r1.cell
      have q2 := r2.cell
      have q3 := r3.cell
      have q1f := r1.frozen
      have q2f := r2.frozen
      have q3f := r3.frozen
      have qN := h1.cell
      have qNf := h1.frozen
      have hpl : pre.length + 1 ≤ 128 := by
        have := hp.length_le
        have := V4.out
        simp at *
        omega
      have R1 := hidden r1
      have R2 := hidden r2
      have R3 := hidden r3
      have RN := hidden h1
      have K2 := hidden h2
      have K3 := hidden h3
      have K4 := hidden h4
      have HT3 := hidden g3
      have HOA := hidden hOA
      have HHA := hidden hA
      clear r0 r1 r2 r3 h1 h2 h3 h4 g3 hOA hA hp n0 n1 n2
      by_cases hc : (pre.length : Int) = c
      · have hcb : ((pre.length : Int) == c) = true := by rw [hc]; simp
        have HC := hidden hc
        clear hc
        gi_wp2_with fail
        obtain ⟨W', hW'⟩ : ∃ W', W' = ((A.setCell ⟨w.heap.size + 1, 0, none⟩ (.int .i64 (x.1 : Int))).setCell ⟨w.heap.size + 2, 0, none⟩ (.slice (some ⟨T, 0, none⟩) x.2.length C)).setCell ⟨w.heap.size + 3, 0, none⟩ (.bool true) := ⟨_, rfl⟩
        have key : ∀ k, k ≠ w.heap.size + 1 → k ≠ w.heap.size + 2 → k ≠ w.heap.size + 3 → W'.heap[k]? = A.heap[k]? := fun k e1 e2 e3 => by rw [hW', heap_set _ _ _ e3, heap_set _ _ _ e2, heap_set _ _ _ e1]
        have hzW : W'.heap.size = A.heap.size := by rw [hW', size_set, size_set, size_set]
        have hBW : Below w.heap.size w W' := by rw [hW']; exact ((K2.out.setCell (p := ⟨w.heap.size + 1, 0, none⟩) (by show w.heap.size ≤ w.heap.size + 1; omega) _).setCell (p := ⟨w.heap.size + 2, 0, none⟩) (by show w.heap.size ≤ w.heap.size + 2; omega) _).setCell (p := ⟨w.heap.size + 3, 0, none⟩) (by show w.heap.size ≤ w.heap.size + 3; omega) _
        obtain ⟨x1, x2, x3⟩ := boxed_three (.int .i64 (x.1 : Int)) (.slice (some ⟨T, 0, none⟩) x.2.length C) (.bool true) R1.out R2.out R3.out (by omega) (by omega) (by omega)
        rw [← hW'] at x1 x2 x3
        have hT := HOA.out T g1
        have hA5 := HHA.out
        rw [← hW']
        refine ⟨⟨rfl, hBW, pre, x, T, C, rfl, HC.out, x1, x2, x3, .inl g1, by omega, HT3.out.of_block (key T (by omega) (by omega) (by omega))⟩, ⟨Nat.le_of_eq hzW.symm, fun k h1 h2 => key k ?_ ?_ ?_⟩, ⟨Nat.le_of_eq hzW.symm, fun k h1 h2 => key k (by omega) (by omega) (by omega)⟩⟩
        all_goals (rcases h1 with h | h | h <;> first | omega | (have := HOA.out k h; omega))
      · have hcb : ((pre.length : Int) == c) = false := by simpa using hc
        have HC := hidden hc
        clear hc
        gi_wp2_with fail
        refine ⟨⟨?_, K2.out.setCell (p := ⟨N, 0, none⟩) (by show w.heap.size ≤ N; omega) _, fun k h1 h2 => (heap_set _ _ _ (by omega)).trans (K3.out k h1 h2), fun j hj => ?_⟩, ⟨Nat.le_of_eq (size_set _ _ _).symm, fun k h1 h2 => heap_set _ _ _ ?_⟩, ⟨Nat.le_of_eq (size_set _ _ _).symm, fun k h1 h2 => heap_set _ _ _ h1.2.1⟩⟩
        · rw [List.length_append]
          exact RN.out.set (.int .i64 ((pre.length : Int) + 1))
        · rw [List.length_append] at hj
          rcases Nat.lt_or_ge j pre.length with h | h
          · exact K4.out j h
          · have hj2 : j < pre.length + 1 := hj
            rw [show j = pre.length by omega]
            exact HC.out
        · have hA5 := HHA.out
          rcases h1 with h | h | h <;> first | omega | (have := HOA.out k h; omega)
    case done =>
      rintro O D A ⟨h1, h2, h3, h4⟩ hO hOD hk
      have r1 : Boxed A (w.heap.size + 1) 3 (.int .i64 0) := (h3 _ (by omega) (by omega)).trans G1.out
      have r2 : Boxed A (w.heap.size + 2) 23 (.slice none 0 0) := (h3 _ (by omega) (by omega)).trans G2.out
      have r3 : Boxed A (w.heap.size + 3) 4 (.bool false) := (h3 _ (by omega) (by omega)).trans G3.out
      have q1 := r1.cell
      have q2 := r2.cell
      have q3 := r3.cell
      have q1f := r1.frozen
      have q2f := r2.frozen
      have q3f := r3.frozen
      have K2 := hidden h2
      have K4 := hidden h4
      have HOm := hidden hO
      have HOD := hidden hOD
      have HK2 := hidden hk
      have R1 := hidden r1
      have R2 := hidden r2
      have R3 := hidden r3
      clear h1 h2 h3 h4 hO hOD hk r1 r2 r3 n0 n1 n2
      gi_wp2_with fail
      obtain ⟨W', hW'⟩ : ∃ W', W' = ((A.setCell ⟨w.heap.size + 1, 0, none⟩ (.int .i64 0)).setCell ⟨w.heap.size + 2, 0, none⟩ (.slice none 0 0)).setCell ⟨w.heap.size + 3, 0, none⟩ (.bool false) := ⟨_, rfl⟩
      have key : ∀ k, k ≠ w.heap.size + 1 → k ≠ w.heap.size + 2 → k ≠ w.heap.size + 3 → W'.heap[k]? = A.heap[k]? := fun k e1 e2 e3 => by rw [hW', heap_set _ _ _ e3, heap_set _ _ _ e2, heap_set _ _ _ e1]
      have hBW : Below w.heap.size w W' := by rw [hW']; exact ((K2.out.setCell (p := ⟨w.heap.size + 1, 0, none⟩) (by show w.heap.size ≤ w.heap.size + 1; omega) _).setCell (p := ⟨w.heap.size + 2, 0, none⟩) (by show w.heap.size ≤ w.heap.size + 2; omega) _).setCell (p := ⟨w.heap.size + 3, 0, none⟩) (by show w.heap.size ≤ w.heap.size + 3; omega) _
      obtain ⟨x1, x2, x3⟩ := boxed_three (.int .i64 0) (.slice none 0 0) (.bool false) R1.out R2.out R3.out (by omega) (by omega) (by omega)
      rw [← hW'] at x1 x2 x3
      have hD := (HOm.out D HOD.out).1
      have hkD : W'.heap[D]? = some (.deferred (some [])) := (key D (by omega) (by omega) (by omega)).trans HK2.out
      rw [← hW']
      refine ⟨by simp, .inl ⟨_, _, rfl, run_takeDeferred hkD, ?_⟩⟩
      have p1 := fun o => ((putObj_other (w := W') (o := o) (by omega : w.heap.size + 1 ≠ D)).trans x1 : Boxed (W'.putObj D o) (w.heap.size + 1) 3 (.int .i64 0))
      have p2 := fun o => ((putObj_other (w := W') (o := o) (by omega : w.heap.size + 2 ≠ D)).trans x2 : Boxed (W'.putObj D o) (w.heap.size + 2) 23 (.slice none 0 0))
      have p3 := fun o => ((putObj_other (w := W') (o := o) (by omega : w.heap.size + 3 ≠ D)).trans x3 : Boxed (W'.putObj D o) (w.heap.size + 3) 4 (.bool false))
      have y1 := fun o => Boxed.cell (p1 o)
      have y2 := fun o => Boxed.cell (p2 o)
      have y3 := fun o => Boxed.cell (p3 o)
      refine ⟨.tuple #[.int .i64 0, .slice none 0 0, .bool false], by simp [results, Tryz.results22, go_sem, y1, y2, y3], ?_⟩
      exact ⟨hBW.trans ((TurnO.putObj (O := one D) _ (one_self D)).below (fun k h => by have := h.1; omega) hBW.size), .inr ⟨cellAt_none K4.out, rfl⟩⟩
    case stop =>
      rintro O D cd pre A hp ⟨rfl, h2, pre', x, T, C, rfl, g2, g3, g4, g5, g6, g7, g8⟩ hO hOD hk
      have K2 := hidden h2
      have HOm := hidden hO
      have HOD := hidden hOD
      have HK2 := hidden hk
      have HP := hidden hp
      have HC := hidden g2
      have X1 := hidden g3
      have X2 := hidden g4
      have X3 := hidden g5
      have HT3 := hidden g8
      clear h2 hO hOD hk hp g2 g3 g4 g5 g8 n0 n1 n2
      gi_wp2_with fail
      have hD := (HOm.out D HOD.out).1
      have hT := HOm.out T g6
      refine ⟨by simp, .inl ⟨_, _, rfl, run_takeDeferred HK2.out, ?_⟩⟩
      have p1 := fun o => ((putObj_other (w := A) (o := o) (by omega : w.heap.size + 1 ≠ D)).trans X1.out : Boxed (A.putObj D o) (w.heap.size + 1) 3 (.int .i64 (x.1 : Int)))
      have p2 := fun o => ((putObj_other (w := A) (o := o) (by omega : w.heap.size + 2 ≠ D)).trans X2.out : Boxed (A.putObj D o) (w.heap.size + 2) 23 (.slice (some ⟨T, 0, none⟩) x.2.length C))
      have p3 := fun o => ((putObj_other (w := A) (o := o) (by omega : w.heap.size + 3 ≠ D)).trans X3.out : Boxed (A.putObj D o) (w.heap.size + 3) 4 (.bool true))
      have y1 := fun o => Boxed.cell (p1 o)
      have y2 := fun o => Boxed.cell (p2 o)
      have y3 := fun o => Boxed.cell (p3 o)
      refine ⟨.tuple #[.int .i64 (x.1 : Int), .slice (some ⟨T, 0, none⟩) x.2.length C, .bool true], by simp [results, Tryz.results22, go_sem, y1, y2, y3], ?_⟩
      exact ⟨K2.out.trans ((TurnO.putObj (O := one D) _ (one_self D)).below (fun k h => by have := h.1; omega) K2.out.size), .inl ⟨x, T, C, cellAt_some HP.out HC.out, rfl, by omega, by simpa using g7, HT3.out.turnM (TurnM.putObj (O := one D) _ (one_self D) HK2.out (fun _ _ _ h => by cases h))⟩⟩
  · have hco : cellsOf ss ts isS = [] := by unfold cellsOf; rw [if_neg hvb]
    have hcn : cellAt [] c = none := by unfold cellAt; split <;> rfl
    rw [hco]
    have hvf : validB ss ts = false := by simpa using hvb
    rw [hvf] at hv
    have HB1 := hidden hB1
    clear hB1 hs2 ht2 hqp hat hsm hm hl hlt hco hvb
    go_enter Tryz.func22, Tryz.ntmps22
    go_wp2_with fail
    rw [← hW1]
    clear hW1
    (with_reducible refine hv.mono ?_)
    rintro e w2 ⟨rfl, hB2⟩
    have hz2' := hB2.size
    have r1 : Boxed w2 (w.heap.size + 1) 3 (.int .i64 0) := (hB2.block _ (by omega)).trans b1
    have r2 : Boxed w2 (w.heap.size + 2) 23 (.slice none 0 0) := (hB2.block _ (by omega)).trans b2
    have r3 : Boxed w2 (w.heap.size + 3) 4 (.bool false) := (hB2.block _ (by omega)).trans b3
    have q1 := r1.cell
    have q2 := r2.cell
    have q3 := r3.cell
    have q1f := r1.frozen
    have q2f := r2.frozen
    have q3f := r3.frozen
    have R1 := hidden r1
    have R2 := hidden r2
    have R3 := hidden r3
    have HB2 := hidden (HB1.out.trans (hB2.mono HB1.out.size))
    have HCN := hidden hcn
    clear hB2 c10 c11 r1 r2 r3 b0 b1 b2 b3 hcn
    go_wp2_with fail
    obtain ⟨W', hW'⟩ : ∃ W', W' = ((w2.setCell ⟨w.heap.size + 1, 0, none⟩ (.int .i64 0)).setCell ⟨w.heap.size + 2, 0, none⟩ (.slice none 0 0)).setCell ⟨w.heap.size + 3, 0, none⟩ (.bool false) := ⟨_, rfl⟩
    have hBW : Below w.heap.size w W' := by rw [hW']; exact ((HB2.out.setCell (p := ⟨w.heap.size + 1, 0, none⟩) (by show w.heap.size ≤ w.heap.size + 1; omega) _).setCell (p := ⟨w.heap.size + 2, 0, none⟩) (by show w.heap.size ≤ w.heap.size + 2; omega) _).setCell (p := ⟨w.heap.size + 3, 0, none⟩) (by show w.heap.size ≤ w.heap.size + 3; omega) _
    obtain ⟨x1, x2, x3⟩ := boxed_three (.int .i64 0) (.slice none 0 0) (.bool false) R1.out R2.out R3.out (by omega) (by omega) (by omega)
    rw [← hW'] at x1 x2 x3
    have y1 := x1.cell
    have y2 := x2.cell
    have y3 := x3.cell
    rw [← hW']
    refine bodyPost_ret (v := .tuple #[.int .i64 0, .slice none 0 0, .bool false]) (by simp [results, Tryz.results22, go_sem, y1, y2, y3]) rfl ?_
    exact ⟨hBW, .inr ⟨HCN.out, rfl⟩⟩

end Go.Proofs.YtfmoophjdgejeaaGreatDoor
