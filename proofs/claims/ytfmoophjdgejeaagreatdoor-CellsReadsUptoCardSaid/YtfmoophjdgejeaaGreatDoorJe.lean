import Derived.Test.YtfmoophjdgejeaaGreatDoorLj
import Derived.RangeFuncBox
import Derived.Maps.AppendAt
/-
  AppendSeq and Collect over strings; Words.
-/
namespace Go.Proofs.YtfmoophjdgejeaaGreatDoor
open Go.RowKit Go.Shelf Go.Lib
attribute [local go_sem] Oper.semAt_some

theorem info9 : (Tryz.prog.info? 9).map (fun i => (i.zero, i.size, i.bytes)) = some (some (.string ByteArray.empty), 1, 16) := by kernel_rfl

theorem row_mono {w : World} {b b' : Nat} {e : TypeId} {size n : Nat} {v : Value} {xs : List Value} (h : w.ownsRow b e size v n xs) (hb : b' ≤ b) : w.ownsRow b' e size v n xs := by
  refine ⟨h.1, ?_⟩
  rcases h.2 with h | ⟨g, cap, cur, h1, h2, h3⟩
  · exact .inl h
  · exact .inr ⟨g, cap, cur, h1, by omega, h3⟩

theorem row_turn {w w' : World} {lo H : Nat} {e : TypeId} {size n : Nat} {v : Value} {xs : List Value} (h : w.ownsRow H e size v n xs) (ht : Turn lo H w w') : w'.ownsRow H e size v n xs := by
  refine ⟨h.1, ?_⟩
  rcases h.2 with h | ⟨g, cap, cur, h1, h2, h3, h4⟩
  · exact .inl h
  · exact .inr ⟨g, cap, cur, h1, h2, (ht.block g (Array.getElem?_eq_some_iff.1 h3).1 (.inr h2)).trans h3, h4⟩

theorem row_block {w : World} {H : Nat} {e : TypeId} {size n : Nat} {v : Value} {xs : List Value} (h : w.ownsRow H e size v n xs) : ∀ k, v.ownBlock = some k → H ≤ k := by
  intro k hk
  rcases h.2 with ⟨rfl, _⟩ | ⟨g, cap, cur, rfl, h2, _⟩
  · cases hk
  · cases hk; exact h2

theorem box_turn {w w' : World} {lo H B : Nat} {t : TypeId} {v : Value} (h : Boxed w B t v) (ht : Turn lo H w w') (hB : B < lo) : Boxed w' B t v := (ht.block B h.lt (.inl hB)).trans h


set_option maxRecDepth 100000 in
set_option maxHeartbeats 1600000 in
theorem appendSeq_any {g : Nat} {lb : Array Value} (hg : Enters Tryz.prog g) {L : List ByteArray} (hL : L.length ≤ 10000) {n₀ : Nat} {w : World} (hn₀ : n₀ ≤ w.heap.size) (hseq : SeqT n₀ Tryz.prog g lb Value.string L w) :
    Calls Tryz.prog 67 #[.slice none 0 0, .func (.func g) #[] lb] w fun e w' => ∃ v, e = .returned v ∧ w'.ownsRow w.heap.size 9 1 v L.length (L.map Value.string) ∧ Below w.heap.size w w' := by
  obtain ⟨i0, hi, hz0, hz1, hz2⟩ := info_parts info9
  have HS := hidden hseq
  have HG := hidden hg
  clear hseq hg
  refine (callsIn_wide (n := 9)).1 ?_
  refine callsIn_of_wp_marks Tryz.func67 rfl trivial ?_ rfl
  simp only [Tryz.ntmps67, List.size_toArray, List.length_cons, List.length_nil, Nat.reduceAdd, Nat.reduceSub, Array.replicate_succ, Array.replicate_zero, List.push_toArray, List.append_toArray, List.nil_append, List.cons_append]
  gi_wp2_with fail
  have bO := Boxed.new w 47 (.slice none 0 0)
  obtain ⟨W0, hW0⟩ : ∃ W0, W0 = w.alloc (.cells #[.slice none 0 0] 47) := ⟨_, rfl⟩
  rw [← hW0] at bO ⊢
  have hz : W0.heap.size = w.heap.size + 1 := by rw [hW0]; simp
  have hB0 : Below w.heap.size w W0 := by rw [hW0]; exact (Below.refl _ _).alloc (Nat.le_refl _) _
  clear hW0
  refine rangeT (gf := g) (lb := lb) (n₀ := n₀) rfl HG.out HS.out hB0 (by omega)
    (fun H pre A => ∃ v, Boxed A w.heap.size 47 v ∧ A.ownsRow H 9 1 v pre.length (pre.map Value.string) ∧ Below w.heap.size w A)
    (fun _ _ _ _ => False)
    (fun H pre x a' A => (∃ v, Boxed A w.heap.size 47 v ∧ A.ownsRow H 9 1 v pre.length (pre.map Value.string) ∧ Below w.heap.size w A) ∧
      a' = { tmps := #[.slice none 0 0, .func (.func g) #[] lb, .pointer (some ⟨w.heap.size, 0, none⟩), undef, .slice none 0 0, .string x, .func (.func g) #[] lb, .string x, undef, undef, undef, undef, undef], defers := [] })
    ?hI ?hIx ?hAx ?h0 ?assign ?body ?done ?stop
  case hI =>
    rintro H p A A' ⟨v, h1, h2, h3⟩ ht
    exact ⟨v, box_turn h1 ht (by omega), row_turn h2 ht, h3.trans (ht.below (by omega) h3.size)⟩
  case hIx => exact fun H c p A A' h _ => h
  case hAx =>
    rintro H p x a' A A' ⟨⟨v, h1, h2, h3⟩, ha⟩ ht
    exact ⟨⟨v, box_turn h1 ht (by omega), row_turn h2 ht, h3.trans (ht.below (by omega) h3.size)⟩, ha⟩
  case h0 =>
    intro A hA
    exact ⟨_, (hA.block w.heap.size (by omega)).trans bO, World.ownsRow_nil _ _ _ _, hB0.trans (hA.mono (by omega))⟩
  case assign =>
    intro l' H pre x A hi hH hA hp
    have HI := hidden hi
    clear hi bO
    gi_wp2_with fail
    exact ⟨⟨HI.out, trivial⟩, Mid.refl _ _ _, Below.refl _ _⟩
  case body =>
    rintro l' H pre x a' A ⟨⟨v, hv, hrow, hB⟩, rfl⟩ hH hA hp
    have hc := hv.cell
    have hpl : pre.length + 1 ≤ 10000 := by
      have := hp.length_le
      simp at this
      omega
    clear bO
    gi_wp2_with (gi_at_builtin; refine wpListIn_append_own _ rfl _ _ 47 rfl H 9 i0 (.string ByteArray.empty) 1 16 Tryz.underlying47 hi hz0 hz1 hz2 rfl (by decide) _ _ _ rfl (hrow.alloc _) ⟨A.heap.size, 0, none⟩ 1 1 [.string x] rfl rfl (cell_one_new _ _ _) (by intro u hu; simp at hu; subst hu; rfl) (by unfold maxLen; omega) (by omega) (by simp; omega) ?_; intro v' w1 hown' hgrow _; obtain ⟨g', cap', rfl⟩ := ownsRow_succ hown'; obtain ⟨hv1, hv2, hr2, hk2, hb2⟩ := hv.appended (n₀ := w.heap.size) (by decide) (row_mono hrow (by omega)) (by omega) (Nat.le_refl _) (row_mono hown' (by omega)) hgrow; have hc1 := hv1.cell; have hf1 := hv1.frozen)
    have hM : Mid W0.heap.size H A (w1.setCell ⟨w.heap.size, 0, none⟩ (.slice (some ⟨g', 0, none⟩) (pre.length + 1) cap')) := by
      refine ⟨hb2.size, fun k h1 h2 => ?_⟩
      rw [Below.heap_setCell _ _ _ _ (by show k ≠ w.heap.size; omega)]
      rw [hgrow.block k (by simp; omega) (fun e => by have := row_block hrow k e.symm; omega)]
      exact Below.heap_alloc _ _ _ (by omega)
    refine ⟨⟨_, hv2, ?_, hB.trans hb2⟩, hM, hb2.mono hn₀⟩
    have := hown'.kept (grownBy_setCell' w1 w.heap.size (.slice (some ⟨g', 0, none⟩) (pre.length + 1) cap')) (.inr (hv1.not_row (by decide) hown').symm)
    simpa using this
  case done =>
    rintro H D A ⟨v, hv, hrow, hB⟩ hD hDH hHA hk
    have hc := hv.cell
    clear bO
    gi_wp2_with fail
    refine ⟨by simp, .inl ⟨_, _, rfl, run_takeDeferred hk, ?_⟩⟩
    exact ⟨_, results_tmp rfl _ _ _, v, rfl, row_mono (ownsRow_putObj hrow _ hk rfl) (by omega), hB.trans ((Turn.putObj (lo := w.heap.size) (hi := H) _ (by omega) hDH).below (Nat.le_refl _) hB.size)⟩
  case stop =>
    rintro H D c pre A _ h
    exact h.elim

end Go.Proofs.YtfmoophjdgejeaaGreatDoor
/-
  Collect, words, Words.
-/
namespace Go.Proofs.YtfmoophjdgejeaaGreatDoor
open Go.RowKit Go.Shelf Go.Lib
attribute [local go_sem] Oper.semAt_some

theorem toksF_len : ∀ (f : Nat) (l : List UInt8) (k : Nat), (toksF f l k).length ≤ f
  | 0, _, _ => by rw [toksF]; exact Nat.le_refl _
  | f + 1, l, k => by
    rw [toksF, List.length_cons]
    have := toksF_len f l (nextT l k).end_
    by_cases h : (nextT l k).kind = 0
    · rw [if_pos h]; simp
    · rw [if_neg h]; omega

theorem wordsB_len (s : ByteArray) (hs : s.size ≤ 4096) : (wordsB s).length ≤ 10000 := by
  unfold wordsB wordsT
  rw [List.length_map]
  have h1 := List.length_filter_le (fun t : Tok => t.kind != 0) (toks s.data.toList)
  have h2 := toksF_len (s.data.toList.length + 1) s.data.toList 0
  rw [bytes_len] at h2
  have h3 : (toks s.data.toList).length ≤ s.size + 1 := by unfold toks; rw [bytes_len]; exact h2
  omega

/-- What collects the words. -/
def RowOf (w : World) (ws : List ByteArray) (e : Ending) (w' : World) : Prop :=
  ∃ v, e = .returned v ∧ w'.ownsRow w.heap.size 9 1 v ws.length (ws.map Value.string) ∧ Below w.heap.size w w'

set_option maxHeartbeats 800000 in
theorem collect_any {g : Nat} {lb : Array Value} (hg : Enters Tryz.prog g) {L : List ByteArray} (hL : L.length ≤ 10000) {n₀ : Nat} {w : World} (hn₀ : n₀ ≤ w.heap.size) (hseq : SeqT n₀ Tryz.prog g lb Value.string L w) :
    Calls Tryz.prog 51 #[.func (.func g) #[] lb] w (RowOf w L) := by
  have ha := appendSeq_any hg hL hn₀ hseq
  clear hseq hg
  unfold RowOf
  go_enter Tryz.func51, Tryz.ntmps51
  go_wp2_with fail
  (with_reducible refine ha.mono ?_)
  rintro e w1 ⟨v, rfl, h1, h2⟩
  go_wp2_with fail
  go_ret
  exact ⟨v, rfl, h1, h2⟩

theorem wordsSeq_any (s : ByteArray) (w : World) :
    Calls Tryz.prog 52 #[.string s] w fun e w' => e = .returned (.func (.func 68) #[] #[.pointer (some ⟨w.heap.size, 0, none⟩)]) ∧ w' = w.alloc (.cells #[.string s] 9) := by
  go_enter Tryz.func52, Tryz.ntmps52
  go_wp2_with fail
  go_ret
  exact ⟨rfl, rfl⟩

/-- slices.Collect(words(s)), behind the call of words. -/
theorem collectWords_any (s : ByteArray) (hs : s.size ≤ 4096) (w : World) :
    Calls Tryz.prog 51 #[.func (.func 68) #[] #[.pointer (some ⟨w.heap.size, 0, none⟩)]] (w.alloc (.cells #[.string s] 9)) (RowOf w (wordsB s)) := by
  have hB : (w.alloc (.cells #[.string s] 9)).cell? ⟨w.heap.size, 0, none⟩ = some (.string s) := by simp
  refine (collect_any (enters_of Tryz.func68 (by kernel_rfl) rfl) (wordsB_len s hs) (Nat.le_refl _) (words1_any s hs hB)).mono ?_
  rintro e w' ⟨v, rfl, h1, h2⟩
  refine ⟨v, rfl, row_mono h1 (by simp), ?_⟩
  exact ((Below.refl w.heap.size w).alloc (Nat.le_refl _) _).trans (h2.mono (by simp))

set_option maxHeartbeats 800000 in
theorem words_any (s : ByteArray) (hs : s.size ≤ 4096) (w : World) :
    Calls Tryz.prog 26 #[.string s] w (RowOf w (wordsB s)) := by
  have h1 := fun w' => wordsSeq_any s w'
  have h2 := collectWords_any s hs w
  unfold RowOf at h2 ⊢
  go_enter Tryz.func26, Tryz.ntmps26
  go_wp2_with fail
  (with_reducible refine (h1 _).mono ?_)
  rintro e w1 ⟨rfl, rfl⟩
  go_wp2_with fail
  (with_reducible refine h2.mono ?_)
  rintro e w1 ⟨v, rfl, h1, h2⟩
  go_wp2_with fail
  go_ret
  exact ⟨v, rfl, h1, h2⟩

end Go.Proofs.YtfmoophjdgejeaaGreatDoor
