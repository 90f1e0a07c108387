import Derived.Test.YtdcpfpifecnfmaaDoorMo
import Derived.Test.YtdcpfpifecnfmaaDoorMr
/-
  AppendSeq and Collect over tokens; Scan.
-/
namespace Go.Proofs.YtdcpfpifecnfmaaDoor
open Go.RowKit Go.Shelf Go.Lib
attribute [local go_sem] Oper.semAt_some

set_option maxRecDepth 100000 in
set_option maxHeartbeats 1600000 in
theorem appendTok_any {g : Nat} {lb : Array Value} (hg : Enters Tryd.prog g) {L : List Tok} (hL : L.length ≤ 10000) {n₀ : Nat} {w : World} (hn₀ : n₀ ≤ w.heap.size) (hseq : SeqT n₀ Tryd.prog g lb tokV L w) :
    Calls Tryd.prog 42 #[.slice none 0 0, .func (.func g) #[] lb] w fun e w' => ∃ v, e = .returned v ∧ w'.ownsRow w.heap.size 33 4 v L.length (toksC L) ∧ Below w.heap.size w w' := by
  obtain ⟨i0, hi, hz0, hz1, hz2⟩ := info_parts infoTok
  have HS := hidden hseq
  have HG := hidden hg
  clear hseq hg
  refine (callsIn_wide (n := 9)).1 ?_
  refine callsIn_of_wp_marks Tryd.func42 rfl trivial ?_ rfl
  simp only [Tryd.ntmps42, List.size_toArray, List.length_cons, List.length_nil, Nat.reduceAdd, Nat.reduceSub, Array.replicate_succ, Array.replicate_zero, List.push_toArray, List.append_toArray, List.nil_append, List.cons_append]
  gi_wp2_with fail
  have bO := Boxed.new w 23 (.slice none 0 0)
  obtain ⟨W0, hW0⟩ : ∃ W0, W0 = w.alloc (.cells #[.slice none 0 0] 23) := ⟨_, rfl⟩
  rw [← hW0] at bO ⊢
  have hz : W0.heap.size = w.heap.size + 1 := by rw [hW0]; simp
  have hB0 : Below w.heap.size w W0 := by rw [hW0]; exact (Below.refl _ _).alloc (Nat.le_refl _) _
  clear hW0
  refine rangeT (gf := g) (lb := lb) (n₀ := n₀) rfl HG.out HS.out hB0 (by omega)
    (fun H pre A => ∃ v, Boxed A w.heap.size 23 v ∧ A.ownsRow H 33 4 v pre.length (toksC pre) ∧ Below w.heap.size w A)
    (fun _ _ _ _ => False)
    (fun H pre x a' A => (∃ v, Boxed A w.heap.size 23 v ∧ A.ownsRow H 33 4 v pre.length (toksC pre) ∧ Below w.heap.size w A) ∧ ∃ X, H ≤ X ∧
      a' = { tmps := #[.slice none 0 0, .func (.func g) #[] lb, .pointer (some ⟨w.heap.size, 0, none⟩), undef, .slice none 0 0, .pointer (some ⟨X, 0, none⟩), .func (.func g) #[] lb, tokV x, undef, undef, undef, undef, undef], defers := [] } ∧
      A.cell? ⟨X, 0, none⟩ = some (.int .i64 x.kind) ∧ A.cell? ⟨X, 1, none⟩ = some (.int .i64 x.from_) ∧ A.cell? ⟨X, 2, none⟩ = some (.int .i64 x.at_) ∧ A.cell? ⟨X, 3, none⟩ = some (.int .i64 x.end_))
    ?hI ?hIx ?hAx ?h0 ?assign ?body ?done ?stop
  case hI =>
    rintro H p A A' ⟨v, h1, h2, h3⟩ ht
    exact ⟨v, box_turn h1 ht (by omega), row_turn h2 ht, h3.trans (ht.below (by omega) h3.size)⟩
  case hIx => exact fun H c p A A' h _ => h
  case hAx =>
    rintro H p x a' A A' ⟨⟨v, h1, h2, h3⟩, X, hX, ha, x0, x1, x2, x3⟩ ht
    exact ⟨⟨v, box_turn h1 ht (by omega), row_turn h2 ht, h3.trans (ht.below (by omega) h3.size)⟩, X, hX, ha, ht.cell (p := ⟨X, 0, none⟩) (.inr hX) x0, ht.cell (p := ⟨X, 1, none⟩) (.inr hX) x1, ht.cell (p := ⟨X, 2, none⟩) (.inr hX) x2, ht.cell (p := ⟨X, 3, none⟩) (.inr hX) x3⟩
  case h0 =>
    intro A hA
    exact ⟨_, (hA.block w.heap.size (by omega)).trans bO, World.ownsRow_nil _ _ _ _, hB0.trans (hA.mono (by omega))⟩
  case assign =>
    intro l' H pre x A hi hH hA hp
    have HI := hidden hi
    clear hi bO
    gi_wp2_with fail
    have hB1 := (Below.refl A.heap.size A).alloc (Nat.le_refl _) (.cells #[.int .i64 x.kind, .int .i64 x.from_, .int .i64 x.at_, .int .i64 x.end_] 33)
    obtain ⟨v, h1, h2, h3⟩ := HI.out
    exact ⟨⟨⟨v, box_turn (lo := W0.heap.size) (H := H) h1 (Turn.of_below hB1) (by omega), row_turn (lo := W0.heap.size) h2 (Turn.of_below hB1), h3.trans (hB1.mono h3.size)⟩, A.heap.size, hA, rfl, by simp, by simp, by simp, by simp⟩, Mid.of_below hB1 hA, hB1.mono (by have := h3.size; omega)⟩
  case body =>
    rintro l' H pre x a' A ⟨⟨v, hv, hrow, hB⟩, X, hX, rfl, x0, x1, x2, x3⟩ hH hA hp
    have hc := hv.cell
    have hpl : pre.length + 1 ≤ 10000 := by
      have := hp.length_le
      simp at this
      omega
    clear bO
    gi_wp2_with (gi_at_builtin; refine wpListIn_append_own _ rfl _ _ 23 rfl H 33 i0 (.agg #[.int .i64 0, .int .i64 0, .int .i64 0, .int .i64 0]) 4 32 Tryd.underlying23 hi hz0 hz1 hz2 rfl (by decide) _ _ _ rfl (hrow.alloc _) ⟨A.heap.size, 0, none⟩ 1 1 (tokC x) rfl rfl (tokC_new _ _ _) (tokC_one x) (by unfold maxLen; omega) (by omega) (by simp; omega) ?_; intro v' w1 hown' hgrow _; obtain ⟨g', cap', rfl⟩ := ownsRow_succ hown'; obtain ⟨hv1, hv2, hr2, hk2, hb2⟩ := hv.appended (n₀ := w.heap.size) (by decide) (row_mono hrow (by omega)) (by omega) (Nat.le_refl _) (row_mono hown' (by omega)) hgrow; have hc1 := hv1.cell; have hf1 := hv1.frozen)
    have hM : Mid W0.heap.size H A (w1.setCell ⟨w.heap.size, 0, none⟩ (.slice (some ⟨g', 0, none⟩) (pre.length + 1) cap')) := by
      refine ⟨hb2.size, fun k h1 h2 => ?_⟩
      rw [Below.heap_setCell _ _ _ _ (by show k ≠ w.heap.size; omega)]
      rw [hgrow.block k (by simp; omega) (fun e => by have := row_block hrow k e.symm; omega)]
      exact Below.heap_alloc _ _ _ (by omega)
    refine ⟨⟨_, hv2, ?_, hB.trans hb2⟩, hM, hb2.mono hn₀⟩
    rw [toksC_snoc, List.length_append]
    exact hown'.kept (grownBy_setCell' w1 w.heap.size (.slice (some ⟨g', 0, none⟩) (pre.length + 1) cap')) (.inr (hv1.not_row (by decide) hown').symm)
  case done =>
    rintro H D A ⟨v, hv, hrow, hB⟩ hD hDH hHA hk
    have hc := hv.cell
    clear bO
    gi_wp2_with fail
    refine ⟨by simp, .inl ⟨_, _, rfl, run_takeDeferred hk, ?_⟩⟩
    exact ⟨_, results_tmp rfl _ _ _, v, rfl, row_mono (ownsRow_putObj hrow _ hk rfl) (by omega), hB.trans ((Turn.putObj (lo := w.heap.size) (hi := H) _ (by omega) hDH).below (Nat.le_refl _) hB.size)⟩
  case stop =>
    rintro H D c pre A _ h
    exact h.elim

set_option maxHeartbeats 800000 in
theorem collectTok_any {g : Nat} {lb : Array Value} (hg : Enters Tryd.prog g) {L : List Tok} (hL : L.length ≤ 10000) {n₀ : Nat} {w : World} (hn₀ : n₀ ≤ w.heap.size) (hseq : SeqT n₀ Tryd.prog g lb tokV L w) :
    Calls Tryd.prog 24 #[.func (.func g) #[] lb] w fun e w' => ∃ v, e = .returned v ∧ ToksOf w L v w' := by
  have ha := appendTok_any hg hL hn₀ hseq
  clear hseq hg
  unfold ToksOf
  go_enter Tryd.func24, Tryd.ntmps24
  go_wp2_with fail
  (with_reducible refine ha.mono ?_)
  rintro e w1 ⟨v, rfl, h1, h2⟩
  go_wp2_with fail
  go_ret
  exact ⟨v, rfl, h1, h2⟩

theorem tokensSeq_any (s : ByteArray) (w : World) :
    Calls Tryd.prog 25 #[.string s] w fun e w' => e = .returned (.func (.func 43) #[] #[.pointer (some ⟨w.heap.size, 0, none⟩)]) ∧ w' = w.alloc (.cells #[.string s] 9) := by
  go_enter Tryd.func25, Tryd.ntmps25
  go_wp2_with fail
  go_ret
  exact ⟨rfl, rfl⟩

theorem collectTokens_any (s : ByteArray) (hs : s.size ≤ 4096) (w : World) (hA : AsciiAt w) :
    Calls Tryd.prog 24 #[.func (.func 43) #[] #[.pointer (some ⟨w.heap.size, 0, none⟩)]] (w.alloc (.cells #[.string s] 9)) fun e w' => ∃ v, e = .returned v ∧ ToksOf w (toksK s) v w' := by
  have hB : (w.alloc (.cells #[.string s] 9)).cell? ⟨w.heap.size, 0, none⟩ = some (.string s) := by simp
  refine (collectTok_any (enters_of Tryd.func43 (by kernel_rfl) rfl) (toksK_len s hs) (Nat.le_refl _) (tokens1_any s hs hB (hA.keep ((Below.refl _ _).alloc (Nat.le_refl _) _)))).mono ?_
  rintro e w' ⟨v, rfl, h1, h2⟩
  refine ⟨v, rfl, row_mono h1 (by simp), ?_⟩
  exact ((Below.refl w.heap.size w).alloc (Nat.le_refl _) _).trans (h2.mono (by simp))

set_option maxHeartbeats 800000 in
theorem scan_any (s : ByteArray) (hs : s.size ≤ 4096) (w : World) (hA : AsciiAt w) :
    Calls Tryd.prog 9 #[.string s] w fun e w' => ∃ v, e = .returned (.tuple #[v, .int .i64 0]) ∧ ToksOf w (toksK s) v w' := by
  have h1 := fun w' => tokensSeq_any s w'
  have h2 := collectTokens_any s hs w hA
  clear hA
  have b1 : ¬ ((4096 : Int) < (s.size : Int)) := by omega
  go_enter Tryd.func9, Tryd.ntmps9
  go_wp2_with fail
  (with_reducible refine (h1 _).mono ?_)
  rintro e w1 ⟨rfl, rfl⟩
  go_wp2_with fail
  (with_reducible refine h2.mono ?_)
  rintro e w1 ⟨v, rfl, h3⟩
  have H3 := hidden h3
  clear h3 h1 h2
  go_wp2_with fail
  go_ret2
  exact ⟨v, rfl, H3.out⟩

theorem scan_large (s : ByteArray) (hs : 4096 < s.size) (hm : s.size ≤ 9223372036854775807) (w : World) :
    Calls Tryd.prog 9 #[.string s] w fun e w' => e = .returned (.tuple #[.slice none 0 0, .int .i64 8]) ∧ w = w' := by
  have b1 : ((4096 : Int) < (s.size : Int)) := by omega
  go_enter Tryd.func9, Tryd.ntmps9
  go_wp2_with fail
  go_ret2
  exact ⟨rfl, rfl⟩

theorem words_large (s : ByteArray) (hs : 4096 < s.size) (hm : s.size ≤ 9223372036854775807) (w : World) :
    Calls Tryd.prog 13 #[.string s] w fun e w' => e = .returned (.slice none 0 0) ∧ w = w' := by
  have b1 : ((4096 : Int) < (s.size : Int)) := by omega
  go_enter Tryd.func13, Tryd.ntmps13
  go_wp2_with fail
  go_ret
  exact ⟨rfl, rfl⟩

end Go.Proofs.YtdcpfpifecnfmaaDoor
