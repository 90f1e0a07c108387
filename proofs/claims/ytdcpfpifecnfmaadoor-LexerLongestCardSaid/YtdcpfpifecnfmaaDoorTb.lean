import Derived.Test.YtdcpfpifecnfmaaDoorTa
import Derived.Test.YtdcpfpifecnfmaaDoorShelf
namespace Go.Proofs.YtdcpfpifecnfmaaDoor
open Go.RowKit

/-- The same contract with the equation of worlds turned round, so that a walk keeps its own name of the world. -/
theorem same {P : Program} {f : FuncId} {args : Array Value} {w : World} {Q : Ending → Prop} (h : Calls P f args w fun e w' => Q e ∧ w' = w) :
    Calls P f args w fun e w' => Q e ∧ w = w' := h.mono fun _ _ ⟨a, b⟩ => ⟨a, b.symm⟩

theorem byte_ne {x c : UInt8} (h : ¬ x = c) : ((x.toNat : Int) == (c.toNat : Int)) = false := by
  rw [beq_eq_false_iff_ne]; intro e; exact h (UInt8.toNat_inj.1 (by omega))

theorem owns_lt {w : World} {base e size g n cap k : Nat} {xs : List Value} (h : w.ownsRow base e size (.slice (some ⟨g, 0, none⟩) n cap) k xs) : g < w.heap.size := by
  obtain ⟨_, h | ⟨g', _, _, h1, _, h2, _⟩⟩ := h
  · simp at h
  · simp only [Value.slice.injEq, Option.some.injEq, Addr.mk.injEq] at h1
    rw [← h1.1.1] at h2
    exact (Array.getElem?_eq_some_iff.1 h2).1

theorem info3 : (Tryd.prog.info? 3).map (fun i => (i.zero, i.size, i.bytes)) = some (some (.int .i64 0), 1, 8) := by kernel_rfl

/-- The index lies in blocks from B on. -/
def IdxFrom (B : Nat) (w : World) (b : Nat) : Prop := B ≤ b ∧ ∀ bf o n cap, w.cell? ⟨b, 1, none⟩ = some (.slice (some ⟨bf, o, none⟩) n cap) → B ≤ bf

set_option maxHeartbeats 800000 in
theorem new_full (s : ByteArray) (w : World) (hs : s.size ≤ 4096) :
    Calls Tryd.prog 54 #[.string s] w fun e w' => ∃ b, e = .returned (.pointer (some ⟨b, 0, none⟩)) ∧ Idx w' b s (feedsOf s.data.toList) ∧ Below w.heap.size w w' ∧ IdxFrom w.heap.size w' b := by
  obtain ⟨i0, hi, hz0, hz1, hz2⟩ := info_parts info3
  have hcnt : Lib.countByte s.data.toList 10 = (feedsOf s.data.toList).length := by rw [feedsOf_len]; rfl
  have hcap := feedsOf_le s.data.toList
  have hsz : s.data.toList.length = s.size := by simp
  rw [hsz] at hcap
  have hc1 := Tryd.strings_Count_one s 10
  rw [hcnt] at hc1
  generalize hn : (feedsOf s.data.toList).length = n at *
  have Hn := hn; have HN : Hid ((feedsOf s.data.toList).length = n) := Hn; clear hn Hn
  clear hcnt hsz
  go_enter Tryd.func54, Tryd.ntmps54
  go_wp2_with (first
    | (go_at_call 69; refine (same (hc1 _)).mono ?_; rintro e w' ⟨rfl, rfl⟩)
    | (at_make; refine wpList_make_own _ rfl _ _ 96 rfl w.heap.size 3 i0 (.int .i64 0) 1 Tryd.underlying96 hi hz0 hz1 _ _ _ n rfl rfl rfl ?b2 ?b3 (Nat.le_refl _) ?_))
  case b2 => rw [hz2]; omega
  case b3 => unfold maxLen; omega
  intro w0 hown0 hgrow0
  have hsz0 : w.heap.size < w0.heap.size := owns_lt hown0
  go_wp2
  go_loopw [3, 10] (fun out i wr => ∃ k m : Nat, k ≤ s.size ∧ m = (feedsTo s.data.toList k).length ∧ i = .int .i64 k ∧ out = .slice (some ⟨w.heap.size, 0, none⟩) m n ∧
      wr.ownsRow w.heap.size 3 1 (.slice (some ⟨w.heap.size, 0, none⟩) m n) m ((feedsTo s.data.toList k).map fun x => Value.int .i64 (x : Nat)) ∧ Below w.heap.size w wr ∧ w.heap.size < wr.heap.size)
    (fun _ i _ => s.size - (intOf i).toNat)
  case atStart => exact ⟨0, 0, Nat.zero_le _, rfl, rfl, rfl, hown0, (Below.refl _ _).grown hgrow0 (Nat.le_refl _) (fun k h => by cases h), hsz0⟩
  case round =>
    obtain ⟨k, m, hk, hm, rfl, rfl, hown, hnx, hsz⟩ := hrel
    by_cases hlt : k < s.size
    · have hsucc := feedsTo_succ s.data.toList k
      rw [getD_bytes s k hlt] at hsucc
      by_cases hb : s[k] = 10
      · have e10 : ((s[k].toNat : Int) == 10) = true := by rw [hb]; rfl
        simp only [hb, beq_self_eq_true, if_true] at hsucc
        have hle := feedsTo_len_mono s.data.toList (show k + 1 ≤ s.data.toList.length by simp; omega)
        rw [show (feedsTo s.data.toList s.data.toList.length).length = n from HN.out, hsucc, List.length_append, ← hm] at hle
        simp only [List.length_cons, List.length_nil] at hle
        have HM := hm; have HM2 : Hid (m = (feedsTo s.data.toList k).length) := HM; clear hm HM
        have HS : Hid (feedsTo s.data.toList (k + 1) = feedsTo s.data.toList k ++ [k]) := hsucc; clear hsucc
        clear hb
        go_wp2_with (at_builtin; refine wpList_append_fits _ rfl (.tmp 17) (.tmp 19) 96 rfl w.heap.size 3 i0 1 Tryd.underlying96 hi hz1 w.heap.size m n _ rfl (hown.alloc _) ⟨wr.heap.size, 0, none⟩ 1 1 [.int .i64 k] rfl rfl (cell_one_new _ _ _) (by intro u hu; simp at hu; subst hu; rfl) (by omega) ?_; intro w1 hown1 hgrow1)
        go_roundw
        case rel => exact ⟨k + 1, m + 1, by omega, by rw [HS.out, HM2.out]; simp, by go_num, rfl, by rw [HS.out]; simpa using hown1, (hnx.alloc hnx.size _).grown hgrow1 (by simp; have := hnx.size; omega) (fun k hk => by cases hk; exact Nat.le_refl _), by have := hgrow1.size; simp at this; omega⟩
        case measure => simp [intOf]; omega
      · have e10 : ((s[k].toNat : Int) == 10) = false := byte_ne hb
        simp only [beq_eq_false_iff_ne.2 hb, Bool.false_eq_true, if_false, List.append_nil] at hsucc
        have HM := hm; have HM2 : Hid (m = (feedsTo s.data.toList k).length) := HM; clear hm HM
        have HS : Hid (feedsTo s.data.toList (k + 1) = feedsTo s.data.toList k) := hsucc; clear hsucc
        clear hb
        go_wp2
        go_roundw
        case rel => exact ⟨k + 1, m, by omega, by rw [HS.out, HM2.out], by go_num, rfl, by rw [HS.out]; exact hown, hnx, hsz⟩
        case measure => simp [intOf]; omega
    · obtain rfl : k = s.size := by omega
      clear hlt
      have hmn : m = n := by rw [hm, ← HN.out]; unfold feedsOf; simp
      clear hm
      subst hmn
      go_wp2
      go_ret
      have hfe : feedsOf s.data.toList = feedsTo s.data.toList s.size := by unfold feedsOf; simp
      refine ⟨_, rfl, ⟨hs, by rw [HN.out]; exact hcap, ?_, feedsOf_sorted _, by simp, by simp, w.heap.size, m, ?_, ?_, ?_⟩, hnx.alloc hnx.size _, hnx.size, fun bf o n cap hc => ?_⟩
      · intro x hx; have := feedsOf_lt _ x hx; simpa using this
      · simp; omega
      · rw [HN.out]; simp
      · intro i hi
        rw [World.cell?_alloc_lt _ _ _ hsz]
        rw [HN.out] at hi
        rw [hown.cellAt i (by omega), List.getElem?_map, ← hfe]
        rw [List.getElem?_eq_getElem (by rw [HN.out]; exact hi), List.getD_eq_getElem?_getD, List.getElem?_eq_getElem (by rw [HN.out]; exact hi)]
        rfl
      · simp at hc
        omega

theorem new_any (s : ByteArray) (w : World) (hs : s.size ≤ 4096) :
    Calls Tryd.prog 54 #[.string s] w fun e w' => ∃ b, e = .returned (.pointer (some ⟨b, 0, none⟩)) ∧ Idx w' b s (feedsOf s.data.toList) ∧ Below w.heap.size w w' :=
  (new_full s w hs).mono fun _ _ ⟨b, h1, h2, h3, _⟩ => ⟨b, h1, h2, h3⟩

theorem Idx.setCell {w : World} {B b : Nat} {s : ByteArray} {fs : List Nat} (h : Idx w b s fs) (hf : IdxFrom B w b) {p : Addr} (hp : p.block < B) (v : Value) : Idx (w.setCell p v) b s fs ∧ IdxFrom B (w.setCell p v) b := by
  obtain ⟨h1, h2, h3, hp', h4, h5, bf, cap, h6, h7, h8⟩ := h
  obtain ⟨f1, f2⟩ := hf
  have hbf := f2 _ _ _ _ h7
  have hk : ∀ q : Addr, B ≤ q.block → (w.setCell p v).cell? q = w.cell? q := fun q hq => World.cell?_of_block (w := w) (Below.heap_setCell w p v q.block (by omega))
  have hsz : (w.setCell p v).heap.size = w.heap.size := by simp [World.setCell]
  refine ⟨⟨h1, h2, h3, hp', by rw [hsz]; exact h4, by rw [hk ⟨b, 0, none⟩ f1]; exact h5, bf, cap, by rw [hsz]; exact h6, by rw [hk ⟨b, 1, none⟩ f1]; exact h7, fun i hi => by rw [hk ⟨bf, i, none⟩ hbf]; exact h8 i hi⟩, f1, fun bf' o n cap' hc => ?_⟩
  rw [hk ⟨b, 1, none⟩ f1] at hc
  exact f2 _ _ _ _ hc

end Go.Proofs.YtdcpfpifecnfmaaDoor
