import Derived.Test.YtdcpfpifecnfmaaGreatDoorLk
/-
  Collect, words, Words.
-/
namespace Go.Proofs.YtdcpfpifecnfmaaGreatDoor
open Go.RowKit Go.Shelf Go.Lib
attribute [local go_sem] Oper.semAt_some

theorem toksF_len : ∀ (f : Nat) (l : List UInt8) (k : Nat), (toksF f l k).length ≤ f
  | 0, _, _ => by rw [toksF]; exact Nat.le_refl _
  | f + 1, l, k => by
    rw [toksF, List.length_cons]
    have := toksF_len f l (nextT l k).end_
    by_cases h : (nextT l k).kind = 0
    · rw [if_pos h]; simp
    · rw [if_neg h]; omega

theorem wordsB_len (s : ByteArray) (hs : s.size ≤ 4096) : (wordsB s).length ≤ 10000 := by
  unfold wordsB wordsT
  rw [List.length_map]
  have h1 := List.length_filter_le (fun t : Tok => t.kind != 0) (toks s.data.toList)
  have h2 := toksF_len (s.data.toList.length + 1) s.data.toList 0
  rw [bytes_len] at h2
  have h3 : (toks s.data.toList).length ≤ s.size + 1 := by unfold toks; rw [bytes_len]; exact h2
  omega

/-- What collects the words. -/
def RowOf (w : World) (ws : List ByteArray) (e : Ending) (w' : World) : Prop :=
  ∃ v, e = .returned v ∧ w'.ownsRow w.heap.size 9 1 v ws.length (ws.map Value.string) ∧ Below w.heap.size w w'

set_option maxHeartbeats 800000 in
theorem collect_any {g : Nat} {lb : Array Value} (hg : Enters Tryz.prog g) {L : List ByteArray} (hL : L.length ≤ 10000) {n₀ : Nat} {w : World} (hn₀ : n₀ ≤ w.heap.size) (hseq : SeqT n₀ Tryz.prog g lb Value.string L w) :
    Calls Tryz.prog 20 #[.func (.func g) #[] lb] w (RowOf w L) := by
  have ha := appendSeq_any hg hL hn₀ hseq
  clear hseq hg
  unfold RowOf
  go_enter Tryz.func20, Tryz.ntmps20
  go_wp2_with fail
  (with_reducible refine ha.mono ?_)
  rintro e w1 ⟨v, rfl, h1, h2⟩
  go_wp2_with fail
  go_ret
  exact ⟨v, rfl, h1, h2⟩

theorem wordsSeq_any (s : ByteArray) (w : World) :
    Calls Tryz.prog 21 #[.string s] w fun e w' => e = .returned (.func (.func 34) #[] #[.pointer (some ⟨w.heap.size, 0, none⟩)]) ∧ w' = w.alloc (.cells #[.string s] 9) := by
  go_enter Tryz.func21, Tryz.ntmps21
  go_wp2_with fail
  go_ret
  exact ⟨rfl, rfl⟩

/-- slices.Collect(words(s)), behind the call of words. -/
theorem collectWords_any (s : ByteArray) (hs : s.size ≤ 4096) (w : World) :
    Calls Tryz.prog 20 #[.func (.func 34) #[] #[.pointer (some ⟨w.heap.size, 0, none⟩)]] (w.alloc (.cells #[.string s] 9)) (RowOf w (wordsB s)) := by
  have hB : (w.alloc (.cells #[.string s] 9)).cell? ⟨w.heap.size, 0, none⟩ = some (.string s) := by simp
  refine (collect_any (enters_of Tryz.func34 (by kernel_rfl) rfl) (wordsB_len s hs) (Nat.le_refl _) (words1_any s hs hB)).mono ?_
  rintro e w' ⟨v, rfl, h1, h2⟩
  refine ⟨v, rfl, row_mono h1 (by simp), ?_⟩
  exact ((Below.refl w.heap.size w).alloc (Nat.le_refl _) _).trans (h2.mono (by simp))

set_option maxHeartbeats 800000 in
theorem words_any (s : ByteArray) (hs : s.size ≤ 4096) (w : World) :
    Calls Tryz.prog 12 #[.string s] w (RowOf w (wordsB s)) := by
  have h1 := fun w' => wordsSeq_any s w'
  have h2 := collectWords_any s hs w
  unfold RowOf at h2 ⊢
  go_enter Tryz.func12, Tryz.ntmps12
  go_wp2_with fail
  (with_reducible refine (h1 _).mono ?_)
  rintro e w1 ⟨rfl, rfl⟩
  go_wp2_with fail
  (with_reducible refine h2.mono ?_)
  rintro e w1 ⟨v, rfl, h1, h2⟩
  go_wp2_with fail
  go_ret
  exact ⟨v, rfl, h1, h2⟩

end Go.Proofs.YtdcpfpifecnfmaaGreatDoor
