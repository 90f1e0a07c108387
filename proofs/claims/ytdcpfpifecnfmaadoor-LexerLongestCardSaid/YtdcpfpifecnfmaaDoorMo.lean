import Derived.Test.YtdcpfpifecnfmaaDoorMq
/-
  The tokens of a text, keywords told from names: tokens' iterator.
-/
namespace Go.Proofs.YtdcpfpifecnfmaaDoor
open Go.RowKit Go.Shelf Go.Lib
open Go.Maps (Keyed IsMap)
attribute [local go_sem] Oper.semAt_some

structure KwAt (K kb : Nat) (A : World) : Prop where
  cell : A.cell? ⟨K, 0, none⟩ = some (.map (some kb))
  own : A.ownsMap Tryd.prog 9 (plainElem (H := Unit) Tryd.prog 4) kb 35 kwMap

theorem own_block {A A' : World} {kb : Nat} (h : A.ownsMap Tryd.prog 9 (plainElem (H := Unit) Tryd.prog 4) kb 35 kwMap) (e : A'.heap[kb]? = A.heap[kb]?) : A'.ownsMap Tryd.prog 9 (plainElem (H := Unit) Tryd.prog 4) kb 35 kwMap := by
  obtain ⟨es, clock, hb, r⟩ := h
  exact ⟨es, clock, e.trans hb, r⟩
theorem own_lt {A : World} {kb : Nat} (h : A.ownsMap Tryd.prog 9 (plainElem (H := Unit) Tryd.prog 4) kb 35 kwMap) : kb < A.heap.size := World.ownsMap.lt h

theorem KwAt.turn {K kb lo H : Nat} {A A' : World} (h : KwAt K kb A) (ht : Turn lo H A A') (hK : K < lo) (hk : kb < lo) : KwAt K kb A' :=
  ⟨ht.cell (p := ⟨K, 0, none⟩) (.inl hK) h.cell, own_block h.own (ht.block kb (own_lt h.own) (.inl hk))⟩
theorem KwAt.mid {K kb lo H : Nat} {A A' : World} (h : KwAt K kb A) (hm : Mid lo H A A') (hK : lo ≤ K ∧ K < H) (hk : lo ≤ kb ∧ kb < H) : KwAt K kb A' :=
  ⟨(hm.cell (p := ⟨K, 0, none⟩) hK.1 hK.2).trans h.cell, own_block h.own (hm.block kb hk.1 hk.2)⟩

/-- Between two rounds of tokens' loop. -/
def TokI (s : ByteArray) (l Y B K kb : Nat) (J : Nat → List Tok → World → Prop) (H : Nat) (p : List Tok) (A : World) : Prop :=
  J H (p.map (kwT s)) A ∧ A.cell? ⟨Y, 0, none⟩ = some (.func (.yield l) #[] #[]) ∧ A.cell? ⟨B, 0, none⟩ = some (.string s) ∧ KwAt K kb A

/-- A round has left the loop. -/
def TokX (s : ByteArray) (Jx : Nat → List Tok → World → Prop) (H : Nat) (c : Code) (p : List Tok) (A : World) : Prop := c = .ret ∧ Jx H (p.map (kwT s)) A

/-- Behind the assignment to the loop's variable. -/
def TokA (s : ByteArray) (l Y B K kb Z : Nat) (J : Nat → List Tok → World → Prop) (H : Nat) (p : List Tok) (x : Tok) (a' : Act) (A : World) : Prop :=
  TokI s l Y B K kb J H p A ∧ ∃ X, H ≤ X ∧
    a' = { tmps := #[.func (.yield l) #[] #[], .pointer (some ⟨B, 0, none⟩), .pointer (some ⟨Y, 0, none⟩), .pointer (some ⟨K, 0, none⟩), .pointer (some ⟨X, 0, none⟩), .map (some kb), .string s, .func (.func 67) #[] #[.pointer (some ⟨Z, 0, none⟩)], tokV x, undef, undef, undef, undef, undef, undef, undef, undef, undef, undef, undef, undef, undef, undef, undef, undef, undef, undef], defers := [] } ∧
    A.cell? ⟨X, 0, none⟩ = some (.int .i64 x.kind) ∧ A.cell? ⟨X, 1, none⟩ = some (.int .i64 x.from_) ∧ A.cell? ⟨X, 2, none⟩ = some (.int .i64 x.at_) ∧ A.cell? ⟨X, 3, none⟩ = some (.int .i64 x.end_) ∧
    A.heap[X]? = some (.cells #[.int .i64 x.kind, .int .i64 x.from_, .int .i64 x.at_, .int .i64 x.end_] 33 (0, 0)) ∧ J H (p.map (kwT s)) (A.setCell ⟨X, 0, none⟩ (.int .i64 2))

theorem TokI.turn {s : ByteArray} {l Y B K kb lo H : Nat} {J : Nat → List Tok → World → Prop} (hJ : ∀ H s A B, J H s A → Turn lo H A B → J H s B) {lo' : Nat} (hlo : lo ≤ lo') (hY : Y < lo') (hB : B < lo') (hK : K < lo') (hk : kb < lo') {p : List Tok} {A A' : World}
    (h : TokI s l Y B K kb J H p A) (ht : Turn lo' H A A') : TokI s l Y B K kb J H p A' :=
  ⟨hJ _ _ _ _ h.1 (ht.mono hlo), ht.cell (p := ⟨Y, 0, none⟩) (.inl hY) h.2.1, ht.cell (p := ⟨B, 0, none⟩) (.inl hB) h.2.2.1, h.2.2.2.turn ht hK hk⟩

theorem Turn.both {lo hi : Nat} {a b : World} (h : Turn lo hi a b) {X i : Nat} {cs : Array Value} {t : TypeId} (hX : hi ≤ X) (hb : a.heap[X]? = some (.cells cs t (0, 0))) (v : Value) : Turn lo hi (a.setCell ⟨X, i, none⟩ v) (b.setCell ⟨X, i, none⟩ v) := by
  refine ⟨h.os, h.tape, h.output, by simpa [World.setCell] using h.size, fun k hk ho => ?_⟩
  have hk' : k < a.heap.size := by simpa [World.setCell] using hk
  by_cases e : k = X
  · subst e
    have hb' := (h.block k hk' ho).trans hb
    rw [heap_setCell_same a k i cs t v hb, heap_setCell_same b k i cs t v hb']
  · rw [heap_setCell_other a ⟨X, i, none⟩ k v e, heap_setCell_other b ⟨X, i, none⟩ k v e]
    exact h.block k hk' ho

set_option maxRecDepth 100000 in
set_option maxHeartbeats 3200000 in
theorem tokens1_any (s : ByteArray) (hs : s.size ≤ 4096) {w : World} {B : Nat} (hB : w.cell? ⟨B, 0, none⟩ = some (.string s)) (hA : AsciiAt w) :
    SeqT w.heap.size Tryd.prog 43 #[.pointer (some ⟨B, 0, none⟩)] tokV (toksK s) w := by
  intro l J Jx W hW hJ hJx h0 hY
  have hlt := cell_lt hB
  have hc : W.cell? ⟨B, 0, none⟩ = some (.string s) := (hW.cell (p := ⟨B, 0, none⟩) hlt).trans hB
  have hca : ∀ o, (W.alloc o).cell? ⟨B, 0, none⟩ = some (.string s) := fun o => (World.cell?_of_block (Below.heap_alloc W o B (cell_lt hc))).trans hc
  have hkw := fun w' (h : Below w.heap.size w w') => keywords_any w' (hA.keep h)
  clear hA
  have HJ := hidden hJ
  have HJx := hidden hJx
  have H0 := hidden h0
  have HY := hidden hY
  have HW := hidden hW
  have HB := hidden hlt
  have hmx : Tryd.prog.follows .mixedOrders = true := by kernel_rfl
  clear hJ hJx h0 hY hB hlt hW
  show Calls Tryd.prog 43 #[.func (.yield l) #[] #[], .pointer (some ⟨B, 0, none⟩)] W _
  refine (callsIn_wide (n := 9)).1 ?_
  refine callsIn_of_wp_marks Tryd.func43 rfl trivial ?_ rfl
  simp only [Tryd.ntmps43, List.size_toArray, List.length_cons, List.length_nil, Nat.reduceAdd, Nat.reduceSub, Array.replicate_succ, Array.replicate_zero, List.push_toArray, List.append_toArray, List.nil_append, List.cons_append]
  gi_wp2_with fail
  refine ⟨trivial, ?_⟩
  (with_reducible refine (callsIn_wide.2 (hkw _ (HW.out.alloc (by have := HW.out.size; omega) _))).mono ?_)
  rintro e w1 ⟨rfl, hown, hB1⟩
  have hBW : B < W.heap.size := cell_lt hc
  rw [World.size_alloc] at hown hB1
  have hcB : w1.cell? ⟨B, 0, none⟩ = some (.string s) := (hB1.cell (p := ⟨B, 0, none⟩) (by show B < _; omega)).trans (hca _)
  have hcB2 : ∀ o, (w1.alloc o).cell? ⟨B, 0, none⟩ = some (.string s) := fun o => (World.cell?_of_block (Below.heap_alloc w1 o B (cell_lt hcB))).trans hcB
  have hsp := fun w' => split_any s w'
  have HO := hidden hown
  have HB1 := hidden hB1
  clear hown hB1 hca hkw
  gi_wp2_with fail
  refine ⟨trivial, ?_⟩
  (with_reducible refine (callsIn_wide.2 (hsp _)).mono ?_)
  rintro e w2 ⟨rfl, rfl⟩
  gi_wp2_with fail
  obtain ⟨W0, hW0⟩ : ∃ W0, W0 = (w1.alloc (.cells #[.map (some (W.heap.size + 1))] 78)).alloc (.cells #[.string s] 9) := ⟨_, rfl⟩
  rw [← hW0]
  obtain ⟨K, hK⟩ : ∃ K, K = w1.heap.size := ⟨_, rfl⟩
  have hz0 : W0.heap.size = K + 2 := by rw [hW0, hK]; simp
  have hzK : W.heap.size + 1 < K := by rw [hK]; exact own_lt HO.out
  have hb10 : Below w1.heap.size w1 W0 := by rw [hW0]; exact ((Below.refl _ w1).alloc (Nat.le_refl _) _).alloc (by simp) _
  have cK : W0.cell? ⟨K, 0, none⟩ = some (.map (some (W.heap.size + 1))) := by rw [hW0, hK]; simp
  have cY : W0.cell? ⟨W.heap.size, 0, none⟩ = some (.func (.yield l) #[] #[]) := by
    rw [hb10.cell (p := ⟨W.heap.size, 0, none⟩) (by show W.heap.size < _; omega), HB1.out.cell (p := ⟨W.heap.size, 0, none⟩) (by show W.heap.size < _; omega)]; simp
  have cZ : W0.cell? ⟨K + 1, 0, none⟩ = some (.string s) := by rw [hW0, hK]; simp
  have hB0 : Below W.heap.size W W0 := ((((Below.refl _ W).alloc (Nat.le_refl _) _).trans (HB1.out.mono (by omega))).trans (hb10.mono (by omega)))
  have cB : W0.cell? ⟨B, 0, none⟩ = some (.string s) := (hB0.cell (p := ⟨B, 0, none⟩) hBW).trans hc
  have hown0 : KwAt K (W.heap.size + 1) W0 := ⟨cK, own_block HO.out (hb10.block _ (by omega))⟩
  rw [← hK]
  clear hc hsp hW0 hcB hcB2 HO HB1 hb10 hK
  refine rangeT (gf := 67) (lb := #[.pointer (some ⟨K + 1, 0, none⟩)]) (n₀ := 0) rfl (enters_of Tryd.func67 (by kernel_rfl) rfl)
    (split1_any s hs (w := W0) (B := K + 1) cZ (by omega)) (Below.refl _ _) (Nat.zero_le _)
    (TokI s l W.heap.size B K (W.heap.size + 1) J) (TokX s Jx) (TokA s l W.heap.size B K (W.heap.size + 1) (K + 1) J) ?hI ?hIx ?hAx ?h0 ?assign ?body ?done ?stop
  case hI => exact fun H p A A' h ht => h.turn HJ.out (by omega) (by omega) (by omega) (by omega) (by omega) ht
  case hIx =>
    rintro H c p A A' ⟨rfl, h⟩ ht
    exact ⟨rfl, HJx.out _ _ _ _ h (ht.mono (by omega))⟩
  case hAx =>
    rintro H p x a' A A' ⟨hi, X, hX, ha, x0, x1, x2, x3, xb, xj⟩ ht
    exact ⟨hi.turn HJ.out (by omega) (by omega) (by omega) (by omega) (by omega) ht, X, hX, ha, ht.cell (p := ⟨X, 0, none⟩) (.inr hX) x0, ht.cell (p := ⟨X, 1, none⟩) (.inr hX) x1, ht.cell (p := ⟨X, 2, none⟩) (.inr hX) x2, ht.cell (p := ⟨X, 3, none⟩) (.inr hX) x3,
      (ht.block X (Array.getElem?_eq_some_iff.1 xb).1 (.inr hX)).trans xb, HJ.out _ _ _ _ xj ((ht.both hX xb _).mono (by omega))⟩
  case h0 =>
    intro A hA
    exact ⟨H0.out A (hB0.trans (hA.mono (by omega))), (hA.cell (p := ⟨W.heap.size, 0, none⟩) (by show W.heap.size < _; omega)).trans cY, (hA.cell (p := ⟨B, 0, none⟩) (by show B < _; omega)).trans cB, ⟨(hA.cell (p := ⟨K, 0, none⟩) (by show K < _; omega)).trans cK, own_block hown0.own (hA.block _ (by omega))⟩⟩
  case assign =>
    intro l' H pre x A hi hH hA hp
    have HI := hidden hi
    clear hi cY cZ cB cK hown0
    gi_wp2_with fail
    have hB1 := (Below.refl A.heap.size A).alloc (Nat.le_refl _) (.cells #[.int .i64 x.kind, .int .i64 x.from_, .int .i64 x.at_, .int .i64 x.end_] 33)
    exact ⟨⟨HI.out.turn HJ.out (lo' := W0.heap.size) (by omega) (by omega) (by omega) (by omega) (by omega) (Turn.of_below hB1), A.heap.size, hA, rfl, by simp, by simp, by simp, by simp, World.alloc_heap_new _ _, HJ.out _ _ _ _ HI.out.1 (Turn.of_below (hB1.setCell (p := ⟨A.heap.size, 0, none⟩) (Nat.le_refl _) _))⟩, Mid.of_below hB1 hA, hB1.mono (Nat.zero_le _)⟩
  case body =>
    rintro l' H pre x a' A ⟨hi, X, hX, rfl, x0, x1, x2, x3, xb, xj⟩ hH hA hp
    have hm := toks_mem s.data.toList x (hp.subset (by simp))
    rw [bytes_len] at hm
    obtain ⟨m1, m2, m3⟩ := hm
    have kY := hi.2.1
    have kB := hi.2.2.1
    have kK := hi.2.2.2.cell
    have hown := hi.2.2.2.own
    have hwp : (pre.map (kwT s) ++ [kwT s x]) <+: toksK s := by rw [← map_go]; exact map_prefix s hp
    have xf : A.frozen? ⟨X, 0, none⟩ = false := by simp [World.frozen?, xb]
    have HI := hidden hi
    have HWP := hidden hwp
    have HXJ := hidden xj
    clear hi cY cZ cB cK hown0 hwp xb xj
    have fin : ∀ (A5 A6 : World) (x' : Tok), kwT s x = x' → Mid 0 H A A5 → Below 0 A A5 → Mid W.heap.size H A5 A6 → Below w.heap.size A5 A6 → (∀ v, J H (pre.map (kwT s) ++ [x']) v → J H ((pre ++ [x]).map (kwT s)) v) ∧ Mid W0.heap.size H A A6 ∧ Below 0 A A6 ∧
        A6.cell? ⟨W.heap.size, 0, none⟩ = some (.func (.yield l) #[] #[]) ∧ A6.cell? ⟨B, 0, none⟩ = some (.string s) ∧ KwAt K (W.heap.size + 1) A6 ∧ (∀ v, Jx H (pre.map (kwT s) ++ [x']) v → Jx H ((pre ++ [x]).map (kwT s)) v) := by
      intro A5 A6 x' hx m5 b5 m6 b6
      have mA : Mid W.heap.size H A A6 := (m5.mono (Nat.zero_le _)).trans m6
      refine ⟨fun v hv => by rw [map_go, hx]; exact hv, mA.mono (by omega), b5.trans (b6.mono (Nat.zero_le _)), (mA.cell (p := ⟨W.heap.size, 0, none⟩) (Nat.le_refl _) (by show W.heap.size < H; omega)).trans HI.out.2.1, ?_, HI.out.2.2.2.mid mA ⟨by omega, by omega⟩ ⟨by omega, by omega⟩, fun v hv => by rw [map_go, hx]; exact hv⟩
      rw [b6.cell (p := ⟨B, 0, none⟩) HB.out, m5.cell (p := ⟨B, 0, none⟩) (Nat.zero_le _) (by show B < H; omega)]
      exact HI.out.2.2.1
    have FIN := hidden fin
    clear fin
    by_cases h1 : x.kind = 1
    · have hb : ((x.kind : Int) == 1) = true := by rw [h1]; rfl
      obtain ⟨c, hc⟩ : ∃ c, decide ((wordOf s x).data.toList ∈ kwords) = c := ⟨_, rfl⟩
      have hrun : ∀ q, (Instr.lookup 78 (.map (some (W.heap.size + 1))) (.string (s.extract x.at_ x.end_)) false).run Tryd.prog (A.drewN q) = .ok (.bool c) (A.drewN q) := fun q => by
        have h2 : (A.drewN q).ownsMap Tryd.prog 9 (plainElem (H := Unit) Tryd.prog 4) (W.heap.size + 1) 35 kwMap := own_block hown rfl
        obtain ⟨c', hr, hat⟩ := lookup_bool h2 (Maps.string_keyed Tryd.underlying9) (t := 78) Tryd.underlying78 Tryd.underlying4 (Tryd.zeroValue4 _) (WideMaps.keyOf_string_mk Tryd.underlying9 (s := s.extract x.at_ x.end_) (by rw [ByteArray.size_extract]; unfold maxLen; omega))
        rw [kw_at] at hat
        have : c' = c := by
          rw [← hc]
          injection hat with h; injection h with h; exact h.symm
        rw [← this]; exact hr
      have HC := hidden hc
      have H1 := hidden h1
      clear hown hc h1
      cases c with
      | true =>
        have HV : Hid (kwT s x = ⟨2, x.from_, x.at_, x.end_⟩) := kwT_yes s x H1.out (of_decide_eq_true HC.out)
        gi_wp2_with fail
        refine region_round_quiet (by simp) hmx (by kernel_rfl) ?_
        repeat (gi_big_quiet_step (fail))
        refine wpQuietIn_nil ?_
        rintro w' ⟨nq, rfl⟩
        clear hrun
        have hj5 : J H (pre.map (kwT s)) ((A.drewN nq).setCell ⟨X, 0, none⟩ (.int .i64 2)) := HJ.out _ _ _ _ HXJ.out (Turn.of_below (b := ((A.drewN nq).setCell ⟨X, 0, none⟩ (.int .i64 2))) (below_drewN (Below.refl _ (A.setCell ⟨X, 0, none⟩ (.int .i64 2))) nq))
        have hm5 : Mid 0 H A ((A.drewN nq).setCell ⟨X, 0, none⟩ (.int .i64 2)) := (⟨Nat.le_refl _, fun _ _ _ => rfl⟩ : Mid 0 H A (A.drewN nq)).trans (Mid.setCell (p := ⟨X, 0, none⟩) _ (.inr hX))
        have hb5 : Below 0 A ((A.drewN nq).setCell ⟨X, 0, none⟩ (.int .i64 2)) := (below_drewN (Below.refl 0 A) nq).setCell (p := ⟨X, 0, none⟩) (Nat.zero_le _) _
        obtain ⟨fn, tmps, assign, body, hy, hR⟩ := HY.out H (pre.map (kwT s)) (kwT s x) _ hj5 (by omega) (by have := hm5.size; omega) HWP.out
        rw [HV.out] at hy hR
        have hy' : (Instr.yield l #[.agg #[.int .i64 2, .int .i64 x.from_, .int .i64 x.at_, .int .i64 x.end_]]).run Tryd.prog ((A.drewN nq).setCell ⟨X, 0, none⟩ (.int .i64 2)) = .ok (.round l fn tmps assign body) ((A.drewN nq).setCell ⟨X, 0, none⟩ (.int .i64 2)) := hy
        have HF := hidden (And.intro hm5 hb5)
        clear hj5 hm5 hb5 hy
        gi_wp2_with fail
        refine (round_any _ hR).mono ?_
        rintro e w5 (⟨rfl, hJ5, hm6, hb6⟩ | ⟨rfl, hJ5, hm6, hb6⟩)
        · obtain ⟨g1, g2, g3, g4, g5, g6, g7⟩ := FIN.out _ _ _ HV.out HF.out.1 HF.out.2 hm6 hb6
          have G := hidden (And.intro (g1 _ hJ5) (And.intro g2 (And.intro g3 (And.intro g4 (And.intro g5 g6)))))
          clear hJ5 hm6 hb6 hR g1 g2 g3 g4 g5 g6 g7
          gi_wp2_with fail
          exact ⟨⟨G.out.1, G.out.2.2.2.1, G.out.2.2.2.2.1, G.out.2.2.2.2.2⟩, G.out.2.1, G.out.2.2.1⟩
        · obtain ⟨g1, g2, g3, g4, g5, g6, g7⟩ := FIN.out _ _ _ HV.out HF.out.1 HF.out.2 hm6 hb6
          have G := hidden (And.intro (g7 _ hJ5) (And.intro g2 g3))
          clear hJ5 hm6 hb6 hR g1 g2 g3 g4 g5 g6 g7
          gi_wp2_with fail
          exact ⟨⟨rfl, G.out.1⟩, G.out.2.1, G.out.2.2⟩
      | false =>
        have HV : Hid (kwT s x = x) := kwT_no s x (of_decide_eq_false HC.out)
        gi_wp2_with fail
        refine region_round_quiet (by simp) hmx (by kernel_rfl) ?_
        repeat (gi_big_quiet_step (fail))
        refine wpQuietIn_nil ?_
        rintro w' ⟨nq, rfl⟩
        clear hrun
        have hj5 : J H (pre.map (kwT s)) (A.drewN nq) := HJ.out _ _ _ _ HI.out.1 (Turn.of_below (below_drewN (Below.refl _ _) nq))
        have hm5 : Mid 0 H A (A.drewN nq) := ⟨Nat.le_refl _, fun _ _ _ => rfl⟩
        have hb5 : Below 0 A (A.drewN nq) := below_drewN (Below.refl 0 A) nq
        obtain ⟨fn, tmps, assign, body, hy, hR⟩ := HY.out H (pre.map (kwT s)) (kwT s x) _ hj5 (by omega) (by have := hm5.size; omega) HWP.out
        rw [HV.out] at hy hR
        dsimp only [tokV] at hy
        have HF := hidden (And.intro hm5 hb5)
        clear hj5 hm5 hb5
        gi_wp2_with fail
        refine (round_any _ hR).mono ?_
        rintro e w5 (⟨rfl, hJ5, hm6, hb6⟩ | ⟨rfl, hJ5, hm6, hb6⟩)
        · obtain ⟨g1, g2, g3, g4, g5, g6, g7⟩ := FIN.out _ _ _ HV.out HF.out.1 HF.out.2 hm6 hb6
          have G := hidden (And.intro (g1 _ hJ5) (And.intro g2 (And.intro g3 (And.intro g4 (And.intro g5 g6)))))
          clear hJ5 hm6 hb6 hR g1 g2 g3 g4 g5 g6 g7
          gi_wp2_with fail
          exact ⟨⟨G.out.1, G.out.2.2.2.1, G.out.2.2.2.2.1, G.out.2.2.2.2.2⟩, G.out.2.1, G.out.2.2.1⟩
        · obtain ⟨g1, g2, g3, g4, g5, g6, g7⟩ := FIN.out _ _ _ HV.out HF.out.1 HF.out.2 hm6 hb6
          have G := hidden (And.intro (g7 _ hJ5) (And.intro g2 g3))
          clear hJ5 hm6 hb6 hR g1 g2 g3 g4 g5 g6 g7
          gi_wp2_with fail
          exact ⟨⟨rfl, G.out.1⟩, G.out.2.1, G.out.2.2⟩
    · have hb : ((x.kind : Int) == 1) = false := by rw [beq_eq_false_iff_ne]; omega
      have HV : Hid (kwT s x = x) := kwT_other s x h1
      clear h1 hown
      gi_wp2_with fail
      refine region_round_quiet (by simp) hmx (by kernel_rfl) ?_
      repeat (gi_big_quiet_step (fail))
      refine wpQuietIn_nil ?_
      rintro w' ⟨nq, rfl⟩
      have hj5 : J H (pre.map (kwT s)) (A.drewN nq) := HJ.out _ _ _ _ HI.out.1 (Turn.of_below (below_drewN (Below.refl _ _) nq))
      have hm5 : Mid 0 H A (A.drewN nq) := ⟨Nat.le_refl _, fun _ _ _ => rfl⟩
      have hb5 : Below 0 A (A.drewN nq) := below_drewN (Below.refl 0 A) nq
      obtain ⟨fn, tmps, assign, body, hy, hR⟩ := HY.out H (pre.map (kwT s)) (kwT s x) _ hj5 (by omega) (by have := hm5.size; omega) HWP.out
      rw [HV.out] at hy hR
      dsimp only [tokV] at hy
      have HF := hidden (And.intro hm5 hb5)
      clear hj5 hm5 hb5
      gi_wp2_with fail
      refine (round_any _ hR).mono ?_
      rintro e w5 (⟨rfl, hJ5, hm6, hb6⟩ | ⟨rfl, hJ5, hm6, hb6⟩)
      · obtain ⟨g1, g2, g3, g4, g5, g6, g7⟩ := FIN.out _ _ _ HV.out HF.out.1 HF.out.2 hm6 hb6
        have G := hidden (And.intro (g1 _ hJ5) (And.intro g2 (And.intro g3 (And.intro g4 (And.intro g5 g6)))))
        clear hJ5 hm6 hb6 hR g1 g2 g3 g4 g5 g6 g7
        gi_wp2_with fail
        exact ⟨⟨G.out.1, G.out.2.2.2.1, G.out.2.2.2.2.1, G.out.2.2.2.2.2⟩, G.out.2.1, G.out.2.2.1⟩
      · obtain ⟨g1, g2, g3, g4, g5, g6, g7⟩ := FIN.out _ _ _ HV.out HF.out.1 HF.out.2 hm6 hb6
        have G := hidden (And.intro (g7 _ hJ5) (And.intro g2 g3))
        clear hJ5 hm6 hb6 hR g1 g2 g3 g4 g5 g6 g7
        gi_wp2_with fail
        exact ⟨⟨rfl, G.out.1⟩, G.out.2.1, G.out.2.2⟩
  case done =>
    intro H D A hi hD hDH hHA hk
    have HI := hidden hi
    clear hi cY cZ cB cK hown0
    gi_wp2_with fail
    have hT : Turn W.heap.size H A (A.putObj D (.deferred none)) := Turn.putObj _ (by omega) hDH
    refine ⟨by simp, .inl ⟨_, _, rfl, run_takeDeferred hk, ?_⟩⟩
    exact ⟨_, results_none rfl _ _ _, ⟨_, rfl⟩, H, by omega, by simp; exact hHA, .inl (HJ.out _ _ _ _ HI.out.1 hT)⟩
  case stop =>
    rintro H D c pre A hp ⟨rfl, h⟩ hD hDH hHA hk
    gi_wp2_with fail
    have hT : Turn W.heap.size H A (A.putObj D (.deferred none)) := Turn.putObj _ (by omega) hDH
    refine ⟨by simp, .inl ⟨_, _, rfl, run_takeDeferred hk, ?_⟩⟩
    exact ⟨_, results_none rfl _ _ _, ⟨_, rfl⟩, H, by omega, by simp; exact hHA, .inr ⟨_, map_prefix s hp, HJx.out _ _ _ _ h hT⟩⟩

end Go.Proofs.YtdcpfpifecnfmaaDoor
