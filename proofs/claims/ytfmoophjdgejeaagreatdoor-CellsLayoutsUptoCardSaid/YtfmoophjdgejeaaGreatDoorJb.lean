import Derived.Test.YtfmoophjdgejeaaGreatDoorRows
import Derived.Test.YtfmoophjdgejeaaGreatDoorJa
import Derived.WalkKit
import Derived.WalkSpells
import Derived.WalkLawsBesides
import Derived.Outline
import Derived.Deep.QuietTactic
import Derived.BigQuiet
import Derived.Test.YtfmoophjdgejeaaGreatDoorShelf
namespace Go.Proofs.YtfmoophjdgejeaaGreatDoor
open Go.RowKit

structure Idx (w : World) (b : Nat) (s : ByteArray) (fs : List Nat) : Prop where
  small : s.size ≤ 4096
  len : fs.length ≤ s.size
  lt : ∀ x ∈ fs, x < s.size
  sorted : fs.Pairwise (· < ·)
  own : b < w.heap.size
  text : w.cell? ⟨b, 0, none⟩ = some (.string s)
  feeds : ∃ bf cap, bf < w.heap.size ∧ w.cell? ⟨b, 1, none⟩ = some (.slice (some ⟨bf, 0, none⟩) fs.length cap) ∧ ∀ i, i < fs.length → w.cell? ⟨bf, i, none⟩ = some (.int .i64 (fs.getD i 0 : Nat))

theorem Idx.below {w w' : World} {b : Nat} {s : ByteArray} {fs : List Nat} (h : Idx w b s fs) (hb : Below w.heap.size w w') : Idx w' b s fs := by
  obtain ⟨h1, h2, h3, hp, h4, h5, bf, cap, h6, h7, h8⟩ := h
  exact ⟨h1, h2, h3, hp, Nat.lt_of_lt_of_le h4 hb.size, by rw [hb.cell (p := ⟨b, 0, none⟩) h4]; exact h5, bf, cap, Nat.lt_of_lt_of_le h6 hb.size, by rw [hb.cell (p := ⟨b, 1, none⟩) h4]; exact h7, fun i hi => by rw [hb.cell (p := ⟨bf, i, none⟩) h6]; exact h8 i hi⟩

theorem Idx.endLe {w : World} {b : Nat} {s : ByteArray} {fs : List Nat} (h : Idx w b s fs) (k : Nat) : endN fs s.size k ≤ s.size := by
  unfold endN
  rw [List.getD_eq_getElem?_getD]
  cases hk : fs[k - 1]? with
  | none => simp
  | some x => have := h.lt x (List.mem_of_getElem? hk); simp; omega

theorem Idx.startLe {w : World} {b : Nat} {s : ByteArray} {fs : List Nat} (h : Idx w b s fs) (k : Nat) : startN fs s.size k ≤ s.size + 1 := by
  unfold startN
  split
  · omega
  · have := h.endLe (k - 1); omega

set_option maxHeartbeats 400000 in
theorem lines_any {w : World} {b : Nat} {s : ByteArray} {fs : List Nat} (h : Idx w b s fs) :
    Calls Tryz.prog 153 #[.pointer (some ⟨b, 0, none⟩)] w fun e w' => e = .returned (.int .i64 (fs.length + 1)) ∧ w = w' := by
  obtain ⟨h1, h2, h3, hp, h4, h5, bf, cap, h6, h7, h8⟩ := h
  clear hp
  have hn : fs.length ≤ 4096 := by omega
  generalize fs.length = n at *
  clear h8 h3 h2
  go_enter Tryz.func153, Tryz.ntmps153
  go_wp2
  go_ret
  exact ⟨rfl, rfl⟩

set_option maxHeartbeats 400000 in
theorem has_any {w : World} {b : Nat} {s : ByteArray} {fs : List Nat} (h : Idx w b s fs) (a : Int) :
    Calls Tryz.prog 141 #[.pointer (some ⟨b, 0, none⟩), .int .i64 a] w fun e w' => e = .returned (.bool (decide (1 ≤ a ∧ a ≤ fs.length + 1))) ∧ w = w' := by
  have hl := lines_any h
  generalize fs.length = n at *
  clear h
  by_cases h1 : 1 ≤ a
  · go_enter Tryz.func141, Tryz.ntmps141
    go_wp2_with (go_at_call 153; refine hl.mono ?_; rintro e w' ⟨rfl, rfl⟩)
    go_ret
    exact ⟨by simp [h1], rfl⟩
  · go_enter Tryz.func141, Tryz.ntmps141
    go_wp2_with (go_at_call 153; refine hl.mono ?_; rintro e w' ⟨rfl, rfl⟩)
    go_ret
    exact ⟨by congr 2; simp; omega, rfl⟩

set_option maxHeartbeats 400000 in
theorem end_any {w : World} {b : Nat} {s : ByteArray} {fs : List Nat} (h : Idx w b s fs) (a : Int) (ha1 : 1 ≤ a) (ha2 : a ≤ fs.length + 1) :
    Calls Tryz.prog 142 #[.pointer (some ⟨b, 0, none⟩), .int .i64 a] w fun e w' => e = .returned (.int .i64 (endN fs s.size a.toNat : Nat)) ∧ w = w' := by
  have hl := lines_any h
  obtain ⟨h1, h2, h3, hp, h4, h5, bf, cap, h6, h7, h8⟩ := h
  clear hp
  have hn : fs.length ≤ 4096 := by omega
  by_cases he : a = fs.length + 1
  · have hv : endN fs s.size a.toNat = s.size := by unfold endN; rw [List.getD_eq_getElem?_getD, List.getElem?_eq_none (by omega)]; rfl
    rw [hv]
    subst he
    generalize fs.length = n at *
    clear hv h8 h3 h2
    go_enter Tryz.func142, Tryz.ntmps142
    go_wp2_with (go_at_call 153; refine hl.mono ?_; rintro e w' ⟨rfl, rfl⟩)
    go_ret
    exact ⟨rfl, rfl⟩
  · obtain ⟨k, rfl⟩ : ∃ k : Nat, a = (k : Int) + 1 := ⟨(a - 1).toNat, by omega⟩
    have hk : k < fs.length := by omega
    have hv : endN fs s.size ((k : Int) + 1).toNat = fs.getD k 0 := by
      unfold endN
      rw [show ((k : Int) + 1).toNat - 1 = k by omega, List.getD_eq_getElem?_getD, List.getD_eq_getElem?_getD]
      rw [List.getElem?_eq_getElem hk]; rfl
    rw [hv]
    have h9 := h8 k hk
    generalize fs.getD k 0 = v at *
    generalize fs.length = n at *
    have hne : ((k : Int) == (n : Int)) = false := beq_eq_false_iff_ne.2 (by omega)
    have hne2 : ((k : Int) + 1 == (n : Int) + 1) = false := beq_eq_false_iff_ne.2 (by omega)
    have hlt : (k : Int) < (n : Int) := by omega
    clear hv h8 h3 h2 he
    go_enter Tryz.func142, Tryz.ntmps142
    go_wp2_with (go_at_call 153; refine hl.mono ?_; rintro e w' ⟨rfl, rfl⟩)
    go_ret
    exact ⟨rfl, rfl⟩

set_option maxHeartbeats 400000 in
theorem start_any {w : World} {b : Nat} {s : ByteArray} {fs : List Nat} (h : Idx w b s fs) (a : Int) (ha1 : 1 ≤ a) (ha2 : a ≤ fs.length + 2) :
    Calls Tryz.prog 140 #[.pointer (some ⟨b, 0, none⟩), .int .i64 a] w fun e w' => e = .returned (.int .i64 (startN fs s.size a.toNat : Nat)) ∧ w = w' := by
  have hsm := h.small
  have hln := h.len
  by_cases he : a = 1
  · subst he
    go_enter Tryz.func140, Tryz.ntmps140
    go_wp2
    go_ret
    exact ⟨rfl, rfl⟩
  · have hl := end_any h (a - 1) (by omega) (by omega)
    have hv : startN fs s.size a.toNat = endN fs s.size (a - 1).toNat + 1 := by
      unfold startN
      rw [if_neg (by omega), show a.toNat - 1 = (a - 1).toNat by omega]
    have hb := h.endLe (a - 1).toNat
    rw [hv]
    generalize endN fs s.size (a - 1).toNat = v at *
    generalize fs.length = n at *
    have hne : (a == 1) = false := beq_eq_false_iff_ne.2 he
    clear h hv he
    go_enter Tryz.func140, Tryz.ntmps140
    go_wp2_with (go_at_call 142; refine hl.mono ?_; rintro e w' ⟨rfl, rfl⟩)
    go_ret
    exact ⟨by simp, rfl⟩

end Go.Proofs.YtfmoophjdgejeaaGreatDoor
namespace Go.Proofs.YtfmoophjdgejeaaGreatDoor
open Go.RowKit

/-- The same contract with the equation of worlds turned round, so that a walk keeps its own name of the world. -/
theorem same {P : Program} {f : FuncId} {args : Array Value} {w : World} {Q : Ending → Prop} (h : Calls P f args w fun e w' => Q e ∧ w' = w) :
    Calls P f args w fun e w' => Q e ∧ w = w' := h.mono fun _ _ ⟨a, b⟩ => ⟨a, b.symm⟩

theorem byte_ne {x c : UInt8} (h : ¬ x = c) : ((x.toNat : Int) == (c.toNat : Int)) = false := by
  rw [beq_eq_false_iff_ne]; intro e; exact h (UInt8.toNat_inj.1 (by omega))

theorem owns_lt {w : World} {base e size g n cap k : Nat} {xs : List Value} (h : w.ownsRow base e size (.slice (some ⟨g, 0, none⟩) n cap) k xs) : g < w.heap.size := by
  obtain ⟨_, h | ⟨g', _, _, h1, _, h2, _⟩⟩ := h
  · simp at h
  · simp only [Value.slice.injEq, Option.some.injEq, Addr.mk.injEq] at h1
    rw [← h1.1.1] at h2
    exact (Array.getElem?_eq_some_iff.1 h2).1

theorem info3 : (Tryz.prog.info? 3).map (fun i => (i.zero, i.size, i.bytes)) = some (some (.int .i64 0), 1, 8) := by kernel_rfl

/-- The index lies in blocks from B on. -/
def IdxFrom (B : Nat) (w : World) (b : Nat) : Prop := B ≤ b ∧ ∀ bf o n cap, w.cell? ⟨b, 1, none⟩ = some (.slice (some ⟨bf, o, none⟩) n cap) → B ≤ bf

set_option maxHeartbeats 800000 in
theorem new_full (s : ByteArray) (w : World) (hs : s.size ≤ 4096) :
    Calls Tryz.prog 93 #[.string s] w fun e w' => ∃ b, e = .returned (.pointer (some ⟨b, 0, none⟩)) ∧ Idx w' b s (feedsOf s.data.toList) ∧ Below w.heap.size w w' ∧ IdxFrom w.heap.size w' b := by
  obtain ⟨i0, hi, hz0, hz1, hz2⟩ := info_parts info3
  have hcnt : Lib.countByte s.data.toList 10 = (feedsOf s.data.toList).length := by rw [feedsOf_len]; rfl
  have hcap := feedsOf_le s.data.toList
  have hsz : s.data.toList.length = s.size := by simp
  rw [hsz] at hcap
  have hc1 := Tryz.strings_Count_one s 10
  rw [hcnt] at hc1
  generalize hn : (feedsOf s.data.toList).length = n at *
  have Hn := hn; have HN : Hid ((feedsOf s.data.toList).length = n) := Hn; clear hn Hn
  clear hcnt hsz
  go_enter Tryz.func93, Tryz.ntmps93
  go_wp2_with (first
    | (go_at_call 110; refine (same (hc1 _)).mono ?_; rintro e w' ⟨rfl, rfl⟩)
    | (at_make; refine wpList_make_own _ rfl _ _ 23 rfl w.heap.size 3 i0 (.int .i64 0) 1 Tryz.underlying23 hi hz0 hz1 _ _ _ n rfl rfl rfl ?b2 ?b3 (Nat.le_refl _) ?_))
  case b2 => rw [hz2]; omega
  case b3 => unfold maxLen; omega
  intro w0 hown0 hgrow0
  have hsz0 : w.heap.size < w0.heap.size := owns_lt hown0
  go_wp2
  go_loopw [3, 10] (fun out i wr => ∃ k m : Nat, k ≤ s.size ∧ m = (feedsTo s.data.toList k).length ∧ i = .int .i64 k ∧ out = .slice (some ⟨w.heap.size, 0, none⟩) m n ∧
      wr.ownsRow w.heap.size 3 1 (.slice (some ⟨w.heap.size, 0, none⟩) m n) m ((feedsTo s.data.toList k).map fun x => Value.int .i64 (x : Nat)) ∧ Below w.heap.size w wr ∧ w.heap.size < wr.heap.size)
    (fun _ i _ => s.size - (intOf i).toNat)
  case atStart => exact ⟨0, 0, Nat.zero_le _, rfl, rfl, rfl, hown0, (Below.refl _ _).grown hgrow0 (Nat.le_refl _) (fun k h => by cases h), hsz0⟩
  case round =>
    obtain ⟨k, m, hk, hm, rfl, rfl, hown, hnx, hsz⟩ := hrel
    by_cases hlt : k < s.size
    · have hsucc := feedsTo_succ s.data.toList k
      rw [getD_bytes s k hlt] at hsucc
      by_cases hb : s[k] = 10
      · have e10 : ((s[k].toNat : Int) == 10) = true := by rw [hb]; rfl
        simp only [hb, beq_self_eq_true, if_true] at hsucc
        have hle := feedsTo_len_mono s.data.toList (show k + 1 ≤ s.data.toList.length by simp; omega)
        rw [show (feedsTo s.data.toList s.data.toList.length).length = n from HN.out, hsucc, List.length_append, ← hm] at hle
        simp only [List.length_cons, List.length_nil] at hle
        have HM := hm; have HM2 : Hid (m = (feedsTo s.data.toList k).length) := HM; clear hm HM
        have HS : Hid (feedsTo s.data.toList (k + 1) = feedsTo s.data.toList k ++ [k]) := hsucc; clear hsucc
        clear hb
        go_wp2_with (at_builtin; refine wpList_append_fits _ rfl (.tmp 17) (.tmp 19) 23 rfl w.heap.size 3 i0 1 Tryz.underlying23 hi hz1 w.heap.size m n _ rfl (hown.alloc _) ⟨wr.heap.size, 0, none⟩ 1 1 [.int .i64 k] rfl rfl (cell_one_new _ _ _) (by intro u hu; simp at hu; subst hu; rfl) (by omega) ?_; intro w1 hown1 hgrow1)
        go_roundw
        case rel => exact ⟨k + 1, m + 1, by omega, by rw [HS.out, HM2.out]; simp, by go_num, rfl, by rw [HS.out]; simpa using hown1, (hnx.alloc hnx.size _).grown hgrow1 (by simp; have := hnx.size; omega) (fun k hk => by cases hk; exact Nat.le_refl _), by have := hgrow1.size; simp at this; omega⟩
        case measure => simp [intOf]; omega
      · have e10 : ((s[k].toNat : Int) == 10) = false := byte_ne hb
        simp only [beq_eq_false_iff_ne.2 hb, Bool.false_eq_true, if_false, List.append_nil] at hsucc
        have HM := hm; have HM2 : Hid (m = (feedsTo s.data.toList k).length) := HM; clear hm HM
        have HS : Hid (feedsTo s.data.toList (k + 1) = feedsTo s.data.toList k) := hsucc; clear hsucc
        clear hb
        go_wp2
        go_roundw
        case rel => exact ⟨k + 1, m, by omega, by rw [HS.out, HM2.out], by go_num, rfl, by rw [HS.out]; exact hown, hnx, hsz⟩
        case measure => simp [intOf]; omega
    · obtain rfl : k = s.size := by omega
      clear hlt
      have hmn : m = n := by rw [hm, ← HN.out]; unfold feedsOf; simp
      clear hm
      subst hmn
      go_wp2
      go_ret
      have hfe : feedsOf s.data.toList = feedsTo s.data.toList s.size := by unfold feedsOf; simp
      refine ⟨_, rfl, ⟨hs, by rw [HN.out]; exact hcap, ?_, feedsOf_sorted _, by simp, by simp, w.heap.size, m, ?_, ?_, ?_⟩, hnx.alloc hnx.size _, hnx.size, fun bf o n cap hc => ?_⟩
      · intro x hx; have := feedsOf_lt _ x hx; simpa using this
      · simp; omega
      · rw [HN.out]; simp
      · intro i hi
        rw [World.cell?_alloc_lt _ _ _ hsz]
        rw [HN.out] at hi
        rw [hown.cellAt i (by omega), List.getElem?_map, ← hfe]
        rw [List.getElem?_eq_getElem (by rw [HN.out]; exact hi), List.getD_eq_getElem?_getD, List.getElem?_eq_getElem (by rw [HN.out]; exact hi)]
        rfl
      · simp at hc
        omega

theorem new_any (s : ByteArray) (w : World) (hs : s.size ≤ 4096) :
    Calls Tryz.prog 93 #[.string s] w fun e w' => ∃ b, e = .returned (.pointer (some ⟨b, 0, none⟩)) ∧ Idx w' b s (feedsOf s.data.toList) ∧ Below w.heap.size w w' :=
  (new_full s w hs).mono fun _ _ ⟨b, h1, h2, h3, _⟩ => ⟨b, h1, h2, h3⟩

theorem Idx.setCell {w : World} {B b : Nat} {s : ByteArray} {fs : List Nat} (h : Idx w b s fs) (hf : IdxFrom B w b) {p : Addr} (hp : p.block < B) (v : Value) : Idx (w.setCell p v) b s fs ∧ IdxFrom B (w.setCell p v) b := by
  obtain ⟨h1, h2, h3, hp', h4, h5, bf, cap, h6, h7, h8⟩ := h
  obtain ⟨f1, f2⟩ := hf
  have hbf := f2 _ _ _ _ h7
  have hk : ∀ q : Addr, B ≤ q.block → (w.setCell p v).cell? q = w.cell? q := fun q hq => World.cell?_of_block (w := w) (Below.heap_setCell w p v q.block (by omega))
  have hsz : (w.setCell p v).heap.size = w.heap.size := by simp [World.setCell]
  refine ⟨⟨h1, h2, h3, hp', by rw [hsz]; exact h4, by rw [hk ⟨b, 0, none⟩ f1]; exact h5, bf, cap, by rw [hsz]; exact h6, by rw [hk ⟨b, 1, none⟩ f1]; exact h7, fun i hi => by rw [hk ⟨bf, i, none⟩ hbf]; exact h8 i hi⟩, f1, fun bf' o n cap' hc => ?_⟩
  rw [hk ⟨b, 1, none⟩ f1] at hc
  exact f2 _ _ _ _ hc

end Go.Proofs.YtfmoophjdgejeaaGreatDoor
namespace Go.Proofs.YtfmoophjdgejeaaGreatDoor
open Go.RowKit Go.Shelf Go.Lib Go.Sort

theorem Idx.drewN {w : World} {b : Nat} {s : ByteArray} {fs : List Nat} (h : Idx w b s fs) (q : Nat) : Idx (w.drewN q) b s fs := h.below (Go.below_drewN (Below.refl _ _) q)

set_option maxHeartbeats 800000 in
theorem less_any {w : World} {b : Nat} {s : ByteArray} {fs : List Nat} (h : Idx w b s fs) (b1 b2 : Nat) (at_ : Int) (i : Nat) (hi : i < fs.length + 1)
    (c1 : w.cell? ⟨b1, 0, none⟩ = some (.func (.func 142) #[.pointer (some ⟨b, 0, none⟩)] #[])) (c2 : w.cell? ⟨b2, 0, none⟩ = some (.int .i64 at_)) :
    Calls Tryz.prog 160 (#[.int .i64 i] ++ #[.pointer (some ⟨b1, 0, none⟩), .pointer (some ⟨b2, 0, none⟩)]) w fun e w' => e = .returned (.bool (decide (at_ ≤ (endN fs s.size (i + 1) : Nat)))) ∧ ∃ q, w' = w.drewN q := by
  have hl : ∀ q, Calls Tryz.prog 142 #[.pointer (some ⟨b, 0, none⟩), .int .i64 ((i : Int) + 1)] (w.drewN q) fun e w'' => e = .returned (.int .i64 (endN fs s.size (i + 1) : Nat)) ∧ w'' = w.drewN q := fun q =>
    (end_any (h.drewN q) ((i : Int) + 1) (by omega) (by omega)).mono fun _ _ ⟨a, b⟩ => ⟨a, b.symm⟩
  have hln := h.len
  have hsm := h.small
  generalize endN fs s.size (i + 1) = v at *
  generalize fs.length = n at *
  clear h
  go_enter Tryz.func160, Tryz.ntmps160
  go_wp2
  go_quiet ((go_at_call 142; exact Calls.quiet_of_same (hl _)))
  go_wp2
  go_ret
  exact ⟨rfl, _, rfl⟩

theorem endN_succ (fs : List Nat) (len i : Nat) (h : i < fs.length) : endN fs len (i + 1) = fs.getD i 0 := by
  unfold endN
  rw [List.getD_eq_getElem?_getD, List.getD_eq_getElem?_getD, Nat.add_sub_cancel, List.getElem?_eq_getElem h]; rfl

theorem lineN_search (fs : List Nat) (len : Nat) (a : Int) : (List.range fs.length).countP (fun i => !decide (a ≤ (endN fs len (i + 1) : Nat))) + 1 = lineN fs a := by
  unfold lineN
  rw [← countP_range_getD fs (fun x : Nat => decide ((x : Int) < a)), Nat.add_comm]
  congr 1
  apply List.countP_congr
  intro i hi
  rw [endN_succ fs len i (by simpa using hi)]
  simp only [Bool.not_eq_true', decide_eq_false_iff_not, decide_eq_true_eq]
  omega

set_option maxHeartbeats 800000 in
theorem firstEnding_any {w : World} {b : Nat} {s : ByteArray} {fs : List Nat} (h : Idx w b s fs) (a : Int) :
    Calls Tryz.prog 152 #[.int .i64 (fs.length + 1), .int .i64 a, .func (.func 142) #[.pointer (some ⟨b, 0, none⟩)] #[]] w fun e w' => e = .returned (.int .i64 (lineN fs a : Nat)) ∧ Below w.heap.size w w' := by
  obtain ⟨W0, hW0⟩ : ∃ W0, W0 = (w.alloc (.cells #[.int .i64 a] 3)).alloc (.cells #[.func (.func 142) #[.pointer (some ⟨b, 0, none⟩)] #[]] 142) := ⟨_, rfl⟩
  have hsize : W0.heap.size = w.heap.size + 1 + 1 := by rw [hW0]; simp
  have hB0 : Below w.heap.size w W0 := by rw [hW0]; exact ((Below.refl _ w).alloc (Nat.le_refl _) _).alloc (by simp) _
  have c2 : W0.cell? ⟨w.heap.size, 0, none⟩ = some (.int .i64 a) := by rw [hW0]; simp
  have c1 : W0.cell? ⟨w.heap.size + 1, 0, none⟩ = some (.func (.func 142) #[.pointer (some ⟨b, 0, none⟩)] #[]) := by rw [hW0]; simp
  have hI : Idx W0 b s fs := h.below hB0
  have eg : ∀ args w, (callFunc 160 args).run Tryz.prog w = .ok (.enter 160 args) w := enters_of Tryz.func160 (by kernel_rfl) rfl
  have hlen := h.len
  have hsm := h.small
  have hS := Any.sort_Search Tryz.search 160 #[.pointer (some ⟨w.heap.size + 1, 0, none⟩), .pointer (some ⟨w.heap.size, 0, none⟩)] fs.length (fun i => decide (a ≤ (endN fs s.size (i + 1) : Nat))) W0 eg (by omega)
    (fun m os i hi => (less_any (hI.below (below_grown_sl _ W0 m os (Nat.le_refl _))) (w.heap.size + 1) w.heap.size a i (by omega) (cell_grown (by simp [hsize]) c1 m os) (cell_grown (by simp [hsize]; omega) c2 m os)).mono
      fun _ _ ⟨he, q, hq⟩ => ⟨he, q, #[], by rw [hq, grow_empty]⟩)
    (fun i j hij hj hp => by
      simp only [decide_eq_true_eq] at hp ⊢
      rw [endN_succ fs _ i (by omega)] at hp
      rw [endN_succ fs _ j hj]
      have := sorted_getD h.sorted hij hj
      omega)
  have hres := lineN_search fs s.size a
  generalize (List.range fs.length).countP (fun i => !decide (a ≤ (endN fs s.size (i + 1) : Nat))) = r at hS hres
  have hr : r ≤ 4096 := by have h1 := hres; unfold lineN at h1; have := List.countP_le_length (p := fun x : Nat => decide ((x : Int) < a)) (l := fs); omega
  rw [← hres]
  change Calls Tryz.prog 159 _ _ _ at hS
  generalize fs.length = n at *
  clear h hI hres c1 c2 eg
  go_enter Tryz.func152, Tryz.ntmps152
  go_wp2_with (go_at_call 159; rw [← hW0]; refine hS.mono ?_; rintro e w' ⟨rfl, q, os, rfl⟩)
  go_ret
  exact ⟨by congr 2; simp; omega, by rw [← hW0]; exact hB0.trans (below_grown_sl w.heap.size W0 q os (by omega))⟩

set_option maxHeartbeats 400000 in
theorem line_any {w : World} {b : Nat} {s : ByteArray} {fs : List Nat} (h : Idx w b s fs) (a : Int) :
    Calls Tryz.prog 139 #[.pointer (some ⟨b, 0, none⟩), .int .i64 a] w fun e w' => e = .returned (.int .i64 (lineN fs a : Nat)) ∧ Below w.heap.size w w' := by
  have hl := lines_any h
  have hf := firstEnding_any h a
  generalize lineN fs a = r at *
  generalize fs.length = n at *
  clear h
  go_enter Tryz.func139, Tryz.ntmps139
  go_wp2_with (first | (go_at_call 153; refine hl.mono ?_; rintro e w' ⟨rfl, rfl⟩) | (go_at_call 152; refine hf.mono ?_; rintro e w' ⟨rfl, hb⟩))
  go_ret
  exact ⟨rfl, hb⟩

set_option maxHeartbeats 400000 in
theorem position_any {w : World} {b : Nat} {s : ByteArray} {fs : List Nat} (h : Idx w b s fs) (a : Int) :
    Calls Tryz.prog 130 #[.pointer (some ⟨b, 0, none⟩), .int .i64 a] w fun e w' =>
      e = .returned (.tuple #[.int .i64 (posN fs s.size a).1, .int .i64 (posN fs s.size a).2]) ∧ Below w.heap.size w w' := by
  have hl := line_any h a
  have hsm := h.small
  have ht := h.text
  by_cases h1 : a < 0
  · have e : posN fs s.size a = (0, 0) := by unfold posN; rw [if_pos (Or.inl h1)]
    rw [e]
    clear e h hl
    go_enter Tryz.func130, Tryz.ntmps130
    go_wp2
    go_ret2
    exact ⟨rfl, Below.refl _ _⟩
  · by_cases h2 : (s.size : Int) < a
    · have e : posN fs s.size a = (0, 0) := by unfold posN; rw [if_pos (Or.inr h2)]
      rw [e]
      clear e h hl
      go_enter Tryz.func130, Tryz.ntmps130
      go_wp2
      go_ret2
      exact ⟨rfl, Below.refl _ _⟩
    · have e : posN fs s.size a = (((lineN fs a : Nat) : Int), a - (startN fs s.size (lineN fs a) : Nat) + 1) := by unfold posN; rw [if_neg (by omega)]
      rw [e]
      have hs : ∀ w', Below w.heap.size w w' → Calls Tryz.prog 140 #[.pointer (some ⟨b, 0, none⟩), .int .i64 (lineN fs a : Nat)] w' fun e w'' => e = .returned (.int .i64 (startN fs s.size (lineN fs a) : Nat)) ∧ w' = w'' := by
        intro w' hb
        have := start_any (h.below hb) (lineN fs a : Nat) (by have := lineN_ge fs a; omega) (by have := lineN_le fs a; omega)
        rwa [Int.toNat_natCast] at this
      have hsl := h.startLe (lineN fs a)
      have hle := lineN_le fs a
      have hln := h.len
      generalize startN fs s.size (lineN fs a) = st at *
      generalize lineN fs a = r at *
      clear e h
      go_enter Tryz.func130, Tryz.ntmps130
      go_wp2_with (first | (go_at_call 139; refine hl.mono ?_; rintro e w' ⟨rfl, hb⟩) | (go_at_call 140; refine (hs _ hb).mono ?_; rintro e w'' ⟨rfl, rfl⟩))
      go_ret2
      exact ⟨by simp, hb⟩

end Go.Proofs.YtfmoophjdgejeaaGreatDoor
namespace Go.Proofs.YtfmoophjdgejeaaGreatDoor
open Go.RowKit Go.Shelf Go.Lib

set_option maxHeartbeats 400000 in
theorem offset_any {w : World} {b : Nat} {s : ByteArray} {fs : List Nat} (h : Idx w b s fs) (line col : Int) (hc1 : -9223372036854775808 ≤ col) (hc2 : col ≤ 9223372036854775807) :
    Calls Tryz.prog 131 #[.pointer (some ⟨b, 0, none⟩), .int .i64 line, .int .i64 col] w fun e w' =>
      e = .returned (.tuple #[.int .i64 (offN fs s.size line col).1, .bool (offN fs s.size line col).2]) ∧ w = w' := by
  have hh := has_any h line
  by_cases h1 : 1 ≤ line ∧ line ≤ fs.length + 1
  · have hd : decide (1 ≤ line ∧ line ≤ fs.length + 1) = true := decide_eq_true h1
    rw [hd] at hh
    have hs := start_any h line h1.1 (by omega)
    have he := end_any h line h1.1 h1.2
    have b1 := h.startLe line.toNat
    have b2 := h.endLe line.toNat
    have hsm := h.small
    have hN : (offN fs s.size line col) = if 1 ≤ col ∧ col ≤ (endN fs s.size line.toNat : Int) - startN fs s.size line.toNat + 1 then ((startN fs s.size line.toNat : Int) + col - 1, true) else (0, false) := by
      unfold offN; simp [h1]
    rw [hN]
    generalize endN fs s.size line.toNat = en at *
    generalize startN fs s.size line.toNat = st at *
    clear h hN hd h1
    by_cases h2 : 1 ≤ col
    · by_cases h3 : col ≤ (en : Int) - st + 1
      · rw [if_pos ⟨h2, h3⟩]
        go_enter Tryz.func131, Tryz.ntmps131
        go_wp2_with (first | (go_at_call 141; refine hh.mono ?_; rintro e w' ⟨rfl, rfl⟩) | (go_at_call 140; refine hs.mono ?_; rintro e w'' ⟨rfl, rfl⟩) | (go_at_call 142; refine he.mono ?_; rintro e w'' ⟨rfl, rfl⟩))
        go_ret2
        exact ⟨rfl, rfl⟩
      · rw [if_neg (by omega)]
        have h3' : (en : Int) - st + 1 < col := by omega
        clear h3
        go_enter Tryz.func131, Tryz.ntmps131
        go_wp2_with (first | (go_at_call 141; refine hh.mono ?_; rintro e w' ⟨rfl, rfl⟩) | (go_at_call 140; refine hs.mono ?_; rintro e w'' ⟨rfl, rfl⟩) | (go_at_call 142; refine he.mono ?_; rintro e w'' ⟨rfl, rfl⟩))
        go_ret2
        exact ⟨rfl, rfl⟩
    · rw [if_neg (by omega)]
      have h2' : col < 1 := by omega
      clear h2
      go_enter Tryz.func131, Tryz.ntmps131
      go_wp2_with (first | (go_at_call 141; refine hh.mono ?_; rintro e w' ⟨rfl, rfl⟩) | (go_at_call 140; refine hs.mono ?_; rintro e w'' ⟨rfl, rfl⟩) | (go_at_call 142; refine he.mono ?_; rintro e w'' ⟨rfl, rfl⟩))
      go_ret2
      exact ⟨rfl, rfl⟩
  · have hd : decide (1 ≤ line ∧ line ≤ fs.length + 1) = false := decide_eq_false h1
    rw [hd] at hh
    have hN : offN fs s.size line col = (0, false) := by unfold offN; rw [if_neg (by intro hx; exact h1 hx.1)]
    rw [hN]
    clear h hN hd h1
    go_enter Tryz.func131, Tryz.ntmps131
    go_wp2_with (go_at_call 141; refine hh.mono ?_; rintro e w' ⟨rfl, rfl⟩)
    go_ret2
    exact ⟨rfl, rfl⟩

end Go.Proofs.YtfmoophjdgejeaaGreatDoor
namespace Go.Proofs.YtfmoophjdgejeaaGreatDoor
open Go.RowKit Go.Shelf Go.Lib

theorem byte_eqI (c d : UInt8) : ((c.toNat : Int) == (d.toNat : Int)) = (c == d) := by
  by_cases h : c = d
  · subst h; simp
  · have := byte_ne h
    rw [this]; simp [h]

set_option maxHeartbeats 400000 in
theorem isSpace_any (c : UInt8) (w : World) : Calls Tryz.prog 111 #[.int .u8 c.toNat] w fun e w' => e = .returned (.bool (whiteB c)) ∧ w = w' := by
  have e1 : ((c.toNat : Int) == 9) = (c == 9) := byte_eqI c 9
  have e2 : ((c.toNat : Int) == 10) = (c == 10) := byte_eqI c 10
  have e3 : ((c.toNat : Int) == 13) = (c == 13) := byte_eqI c 13
  have e4 : ((c.toNat : Int) == 32) = (c == 32) := byte_eqI c 32
  unfold whiteB
  generalize (c == 9) = b1 at *
  generalize (c == 10) = b2 at *
  generalize (c == 13) = b3 at *
  generalize (c == 32) = b4 at *
  cases b1 <;> cases b2 <;> cases b3 <;> cases b4 <;> (go_enter Tryz.func111, Tryz.ntmps111; go_wp2; go_ret; exact ⟨rfl, rfl⟩)

set_option maxHeartbeats 400000 in
theorem isLetter_any (c : UInt8) (w : World) : Calls Tryz.prog 113 #[.int .u8 c.toNat] w fun e w' => e = .returned (.bool (letterB c)) ∧ w = w' := by
  unfold letterB
  by_cases h1 : 97 ≤ c.toNat
  · by_cases h2 : c.toNat ≤ 122
    · rw [decide_eq_true h1, decide_eq_true h2]
      have g1 : (97 : Int) ≤ (c.toNat : Int) := by omega
      have g2 : (c.toNat : Int) ≤ 122 := by omega
      clear h1 h2
      go_enter Tryz.func113, Tryz.ntmps113
      go_wp2
      go_ret
      exact ⟨rfl, rfl⟩
    · rw [decide_eq_true h1, decide_eq_false h2]
      have g1 : (97 : Int) ≤ (c.toNat : Int) := by omega
      have g2 : (122 : Int) < (c.toNat : Int) := by omega
      clear h1 h2
      go_enter Tryz.func113, Tryz.ntmps113
      go_wp2
      go_ret
      exact ⟨by show Ending.returned (.bool (decide ((c.toNat : Int) ≤ 122))) = _; rw [decide_eq_false (by omega)]; rfl, rfl⟩
  · rw [decide_eq_false h1]
    have g1 : (c.toNat : Int) < 97 := by omega
    clear h1
    go_enter Tryz.func113, Tryz.ntmps113
    go_wp2
    go_ret
    exact ⟨rfl, rfl⟩

set_option maxHeartbeats 400000 in
theorem isDigit_any (c : UInt8) (w : World) : Calls Tryz.prog 116 #[.int .u8 c.toNat] w fun e w' => e = .returned (.bool (digitB c)) ∧ w = w' := by
  unfold digitB
  by_cases h1 : 48 ≤ c.toNat
  · by_cases h2 : c.toNat ≤ 57
    · rw [decide_eq_true h1, decide_eq_true h2]
      have g1 : (48 : Int) ≤ (c.toNat : Int) := by omega
      have g2 : (c.toNat : Int) ≤ 57 := by omega
      clear h1 h2
      go_enter Tryz.func116, Tryz.ntmps116
      go_wp2
      go_ret
      exact ⟨rfl, rfl⟩
    · rw [decide_eq_true h1, decide_eq_false h2]
      have g1 : (48 : Int) ≤ (c.toNat : Int) := by omega
      have g2 : (57 : Int) < (c.toNat : Int) := by omega
      clear h1 h2
      go_enter Tryz.func116, Tryz.ntmps116
      go_wp2
      go_ret
      exact ⟨by show Ending.returned (.bool (decide ((c.toNat : Int) ≤ 57))) = _; rw [decide_eq_false (by omega)]; rfl, rfl⟩
  · rw [decide_eq_false h1]
    have g1 : (c.toNat : Int) < 48 := by omega
    clear h1
    go_enter Tryz.func116, Tryz.ntmps116
    go_wp2
    go_ret
    exact ⟨rfl, rfl⟩

set_option maxHeartbeats 400000 in
theorem isPart_any (c : UInt8) (w : World) : Calls Tryz.prog 115 #[.int .u8 c.toNat] w fun e w' => e = .returned (.bool (partB c)) ∧ w = w' := by
  have hl := fun w' => isLetter_any c w'
  have hd := fun w' => isDigit_any c w'
  have e1 : ((c.toNat : Int) == 95) = (c == 95) := byte_eqI c 95
  unfold partB
  generalize (c == 95) = b3 at *
  generalize letterB c = b1 at *
  generalize digitB c = b2 at *
  cases b1 <;> cases b2 <;> cases b3 <;> (go_enter Tryz.func115, Tryz.ntmps115; go_wp2_with (first | (go_at_call 113; (with_reducible refine (hl _).mono ?_); rintro e w1 ⟨rfl, rfl⟩) | (go_at_call 116; (with_reducible refine (hd _).mono ?_); rintro e w1 ⟨rfl, rfl⟩)); go_ret; exact ⟨rfl, rfl⟩)

theorem bt {w a b : World} (h : Below w.heap.size w a) (h2 : Below a.heap.size a b) : Below w.heap.size w b := h.trans (h2.mono h.size)
theorem bq (w : World) (q : Nat) : Below w.heap.size w (w.drewN q) := Go.below_drewN (Below.refl _ _) q

/-- The end of the line of an offset. -/
def lineEndN (l : List UInt8) (k : Nat) : Nat := endN (feedsOf l) l.length (lineN (feedsOf l) (k : Int))

theorem lineEnd_facts (l : List UInt8) (k : Nat) (h : k ≤ l.length) : k ≤ lineEndN l k ∧ lineEndN l k ≤ l.length ∧ (∀ i, k ≤ i → i < lineEndN l k → l.getD i 0 ≠ 10) ∧ (lineEndN l k = l.length ∨ l.getD (lineEndN l k) 0 = 10) := by
  have h1 := lineN_ge (feedsOf l) k
  have h2 := lineN_le (feedsOf l) k
  have h3 := startN_le l l.length k h
  have h4 := endN_ge l k h
  obtain ⟨m, hm⟩ : ∃ m, lineN (feedsOf l) (k : Int) = m + 1 := ⟨lineN (feedsOf l) k - 1, by omega⟩
  unfold lineEndN
  rw [hm] at h3 h4 ⊢
  refine ⟨h4, end_le_len l _, fun i hi hi2 => line_plain l m i (by omega) (by omega) hi2, ?_⟩
  by_cases hh : m < (feedsOf l).length
  · exact Or.inr ((line_end l m).1 hh).2
  · exact Or.inl ((line_end l m).2 (by omega))

theorem bytes_len (s : ByteArray) : s.data.toList.length = s.size := by simp

abbrev scanV (s : ByteArray) (b : Nat) : Value := .agg #[.string s, .pointer (some ⟨b, 0, none⟩)]

set_option maxHeartbeats 800000 in
theorem lineEnd_any {w : World} {b : Nat} {s : ByteArray} (h : Idx w b s (feedsOf s.data.toList)) (k : Nat) (hk : k ≤ s.size) :
    Calls Tryz.prog 112 #[scanV s b, .int .i64 k] w fun e w' => e = .returned (.int .i64 (lineEndN s.data.toList k : Nat)) ∧ Below w.heap.size w w' := by
  have hsm := h.small
  have hlen := h.len
  have hB0 : Below w.heap.size w (w.alloc (.cells #[.string s, .pointer (some ⟨b, 0, none⟩)] 131)) := (Below.refl _ _).alloc (Nat.le_refl _) _
  have hp := position_any (h.below hB0) k
  have hbl := bytes_len s
  have h1 := lineN_ge (feedsOf s.data.toList) k
  have h2 := lineN_le (feedsOf s.data.toList) k
  have hpos : (posN (feedsOf s.data.toList) s.size k).1 = (lineN (feedsOf s.data.toList) k : Nat) := by unfold posN; rw [if_neg (by omega)]
  rw [hpos] at hp
  have ho := fun w' hb => offset_any ((h.below hB0).below (w' := w') hb) ((lineN (feedsOf s.data.toList) k : Nat) + 1) 1 (by omega) (by omega)
  by_cases hl : lineN (feedsOf s.data.toList) k ≤ (feedsOf s.data.toList).length
  · have hoff : offN (feedsOf s.data.toList) s.size ((lineN (feedsOf s.data.toList) k : Nat) + 1) 1 = (((lineEndN s.data.toList k : Nat) : Int) + 1, true) := by
      have hse := start_le_end (feedsOf_sorted s.data.toList) (feedsOf_lt s.data.toList) (lineN (feedsOf s.data.toList) k + 1) (by omega) (by omega)
      have hst : startN (feedsOf s.data.toList) s.size (lineN (feedsOf s.data.toList) k + 1) = lineEndN s.data.toList k + 1 := by unfold startN lineEndN; rw [if_neg (by omega), hbl]; rfl
      rw [hbl, hst] at hse
      unfold offN
      rw [show (((lineN (feedsOf s.data.toList) (k : Int) : Nat) : Int) + 1).toNat = lineN (feedsOf s.data.toList) k + 1 by omega, hst, if_pos ⟨⟨by omega, by omega⟩, by omega, by omega⟩]
      congr 1; omega
    rw [hoff] at ho
    have hle := (lineEnd_facts s.data.toList k (by omega)).2.1
    rw [hbl] at hle
    clear hoff hpos hbl hl h
    generalize lineEndN s.data.toList k = en at *
    generalize (posN (feedsOf s.data.toList) s.size k).2 = col at *
    generalize lineN (feedsOf s.data.toList) k = ln at *
    go_enter Tryz.func112, Tryz.ntmps112
    go_wp2_with (first
      | (go_at_call 130; (with_reducible refine hp.mono ?_); rintro e w1 ⟨rfl, hB1⟩; have c1 := (hB1.cell (p := ⟨w.heap.size, 1, none⟩) (by simp)); simp at c1)
      | (go_at_call 131; (with_reducible refine (ho _ hB1).mono ?_); rintro e w2 ⟨rfl, rfl⟩))
    go_ret
    exact ⟨by simp, bt hB0 hB1⟩
  · have hoff : offN (feedsOf s.data.toList) s.size ((lineN (feedsOf s.data.toList) k : Nat) + 1) 1 = (0, false) := by unfold offN; rw [if_neg (by intro hx; omega)]
    have hle : lineEndN s.data.toList k = s.size := by
      obtain ⟨m, hm⟩ : ∃ m, lineN (feedsOf s.data.toList) (k : Int) = m + 1 := ⟨lineN (feedsOf s.data.toList) k - 1, by omega⟩
      unfold lineEndN; rw [hm]
      have := (line_end s.data.toList m).2 (by omega)
      rw [this, hbl]
    rw [hoff] at ho
    rw [hle]
    clear hoff hpos hbl hl h hle
    generalize (posN (feedsOf s.data.toList) s.size k).2 = col at *
    generalize lineN (feedsOf s.data.toList) k = ln at *
    go_enter Tryz.func112, Tryz.ntmps112
    go_wp2_with (first
      | (go_at_call 130; (with_reducible refine hp.mono ?_); rintro e w1 ⟨rfl, hB1⟩; have c1 := (hB1.cell (p := ⟨w.heap.size, 1, none⟩) (by simp)); have c0 := (hB1.cell (p := ⟨w.heap.size, 0, none⟩) (by simp)); simp at c1 c0)
      | (go_at_call 131; (with_reducible refine (ho _ hB1).mono ?_); rintro e w2 ⟨rfl, rfl⟩))
    go_ret
    exact ⟨rfl, bt hB0 hB1⟩

end Go.Proofs.YtfmoophjdgejeaaGreatDoor
namespace Go.Proofs.YtfmoophjdgejeaaGreatDoor
open Go.RowKit Go.Shelf Go.Lib

def skipTo (l : List UInt8) (k : Nat) : Nat := k + skipF false (l.drop k)
theorem skipTo_le (l : List UInt8) (k : Nat) (h : k ≤ l.length) : skipTo l k ≤ l.length := by
  unfold skipTo; have := skipF_le false (l.drop k); rw [List.length_drop] at this; omega
theorem drop_get (l : List UInt8) (k : Nat) (h : k < l.length) : l.drop k = l.getD k 0 :: l.drop (k + 1) := by
  rw [List.drop_eq_getElem_cons h, List.getD_eq_getElem?_getD, List.getElem?_eq_getElem h]; rfl
theorem skipTo_white (l : List UInt8) (k : Nat) (h : k < l.length) (hw : whiteB (l.getD k 0) = true) : skipTo l k = skipTo l (k + 1) := by
  unfold skipTo; rw [drop_get l k h, skipF, if_pos hw]; omega
theorem skipTo_stop (l : List UInt8) (k : Nat) (h : k < l.length) (hw : whiteB (l.getD k 0) = false) (hc : l.getD k 0 ≠ 35) : skipTo l k = k := by
  unfold skipTo; rw [drop_get l k h, skipF, if_neg (by rw [hw]; simp), if_neg hc]; rfl
theorem skipTo_end (l : List UInt8) : skipTo l l.length = l.length := by unfold skipTo; simp [skipF]
theorem skipTo_hash (l : List UInt8) (k : Nat) (h : k < l.length) (hc : l.getD k 0 = 35) : skipTo l k = skipTo l (lineEndN l k) := by
  obtain ⟨h1, h2, h3, h4⟩ := lineEnd_facts l k (by omega)
  have hne : lineEndN l k ≠ k := by
    intro e
    rw [e] at h4
    rcases h4 with h5 | h5
    · omega
    · rw [hc] at h5; exact absurd h5 (by decide)
  have hs := skip_comment (l.drop (k + 1)) (lineEndN l k - (k + 1)) (by rw [List.length_drop]; omega)
    (fun i hi => by have := h3 (k + 1 + i) (by omega) (by omega); rwa [List.getD_eq_getElem?_getD, List.getElem?_drop, ← List.getD_eq_getElem?_getD])
    (by rw [List.length_drop]; rcases h4 with h5 | h5
        · left; omega
        · right; rw [List.getD_eq_getElem?_getD, List.getElem?_drop, ← List.getD_eq_getElem?_getD, show k + 1 + (lineEndN l k - (k + 1)) = lineEndN l k by omega]; exact h5)
  unfold skipTo
  rw [drop_get l k h, hc, skipF, if_neg (by decide), if_pos rfl, hs, List.drop_drop, show k + 1 + (lineEndN l k - (k + 1)) = lineEndN l k by omega]
  omega

set_option maxHeartbeats 800000 in
theorem skip_any {w : World} {b : Nat} {s : ByteArray} (h : Idx w b s (feedsOf s.data.toList)) (k : Nat) (hk : k ≤ s.size) :
    Calls Tryz.prog 94 #[scanV s b, .int .i64 k] w fun e w' => e = .returned (.int .i64 (skipTo s.data.toList k : Nat)) ∧ Below w.heap.size w w' := by
  have hsm := h.small
  have hbl := bytes_len s
  have hB0 : Below w.heap.size w (w.alloc (.cells #[.string s, .pointer (some ⟨b, 0, none⟩)] 131)) := (Below.refl _ _).alloc (Nat.le_refl _) _
  obtain ⟨W0, hW0⟩ : ∃ W0, W0 = w.alloc (.cells #[.string s, .pointer (some ⟨b, 0, none⟩)] 131) := ⟨_, rfl⟩
  rw [← hW0] at hB0
  have hz : w.heap.size < W0.heap.size := by rw [hW0]; simp
  have c0 : W0.cell? ⟨w.heap.size, 0, none⟩ = some (.string s) := by rw [hW0]; simp
  have c1 : W0.cell? ⟨w.heap.size, 1, none⟩ = some (.pointer (some ⟨b, 0, none⟩)) := by rw [hW0]; simp
  have HI : Hid (Idx W0 b s (feedsOf s.data.toList)) := h.below hB0
  have HC : Hid (W0.cell? ⟨w.heap.size, 0, none⟩ = some (.string s) ∧ W0.cell? ⟨w.heap.size, 1, none⟩ = some (.pointer (some ⟨b, 0, none⟩))) := ⟨c0, c1⟩
  have HL : Hid (s.data.toList.length = s.size) := hbl
  clear h c0 c1 hbl
  go_enter Tryz.func94, Tryz.ntmps94
  go_wp2
  rw [← hW0]
  clear hW0
  go_loopw [1] (fun i wr => ∃ j : Nat, j ≤ s.size ∧ i = .int .i64 j ∧ Hid (skipTo s.data.toList k = skipTo s.data.toList j) ∧ Below W0.heap.size W0 wr) (fun i _ => s.size - (intOf i).toNat)
  case atStart => exact ⟨k, hk, rfl, rfl, Below.refl _ _⟩
  case round =>
    obtain ⟨j, hj, rfl, hs, hnx⟩ := hrel
    have d0 : wr.cell? ⟨w.heap.size, 0, none⟩ = some (.string s) := (hnx.cell (p := ⟨w.heap.size, 0, none⟩) hz).trans HC.out.1
    have d1 : wr.cell? ⟨w.heap.size, 1, none⟩ = some (.pointer (some ⟨b, 0, none⟩)) := (hnx.cell (p := ⟨w.heap.size, 1, none⟩) hz).trans HC.out.2
    by_cases hlt : j < s.size
    · have hsp := fun w' => isSpace_any s[j] w'
      have hg := getD_bytes s j hlt
      cases hw : whiteB s[j] with
      | true =>
        rw [hw] at hsp
        have HS : Hid (skipTo s.data.toList j = skipTo s.data.toList (j + 1)) := skipTo_white _ _ (by rw [HL.out]; exact hlt) (by rw [hg]; exact hw)
        clear hg hw
        go_wp2_with (go_at_call 111; (with_reducible refine (hsp _).mono ?_); rintro e w1 ⟨rfl, rfl⟩)
        go_roundw
        case rel => exact ⟨j + 1, by omega, by go_num, hs.out.trans HS.out, hnx⟩
        case measure => simp [intOf]; omega
      | false =>
        rw [hw] at hsp
        by_cases hc : s[j] = 35
        · have e1 : ((s[j].toNat : Int) == 35) = true := by rw [hc]; rfl
          have HS : Hid (skipTo s.data.toList j = skipTo s.data.toList (lineEndN s.data.toList j)) := skipTo_hash _ _ (by rw [HL.out]; exact hlt) (by rw [hg]; exact hc)
          have hf := lineEnd_facts s.data.toList j (by rw [HL.out]; omega)
          have hgt : j < lineEndN s.data.toList j := by
            rcases Nat.lt_or_eq_of_le hf.1 with h1 | h1
            · exact h1
            · exfalso
              rcases hf.2.2.2 with h2 | h2
              · rw [HL.out] at h2; omega
              · rw [← h1, hg, hc] at h2; exact absurd h2 (by decide)
          have hle := hf.2.1
          rw [HL.out] at hle
          have hln := lineEnd_any (HI.out.below hnx) j hj
          generalize lineEndN s.data.toList j = en at *
          clear hf hg hw hc
          go_wp2_with (first
            | (go_at_call 111; (with_reducible refine (hsp _).mono ?_); rintro e w1 ⟨rfl, rfl⟩)
            | (go_at_call 112; (with_reducible refine hln.mono ?_); rintro e w1 ⟨rfl, hB1⟩))
          go_roundw
          case rel => exact ⟨en, by omega, rfl, hs.out.trans HS.out, bt hnx hB1⟩
          case measure => simp [intOf]; omega
        · have e1 : ((s[j].toNat : Int) == 35) = false := byte_ne hc
          have HS : Hid (skipTo s.data.toList j = j) := skipTo_stop _ _ (by rw [HL.out]; exact hlt) (by rw [hg]; exact hw) (by rw [hg]; exact hc)
          clear hg hw hc
          go_wp2_with (go_at_call 111; (with_reducible refine (hsp _).mono ?_); rintro e w1 ⟨rfl, rfl⟩)
          go_ret
          exact ⟨by rw [hs.out, HS.out]; rfl, hB0.trans (hnx.mono hB0.size)⟩
    · obtain rfl : j = s.size := by omega
      have HS : Hid (skipTo s.data.toList s.size = s.size) := by show _ = _; have := skipTo_end s.data.toList; rwa [HL.out] at this
      clear hlt
      go_wp2
      go_ret
      exact ⟨by rw [hs.out, HS.out]; rfl, hB0.trans (hnx.mono hB0.size)⟩

end Go.Proofs.YtfmoophjdgejeaaGreatDoor
namespace Go.Proofs.YtfmoophjdgejeaaGreatDoor
open Go.RowKit Go.Shelf Go.Lib

def runTo (p : UInt8 → Bool) (l : List UInt8) (k : Nat) : Nat := k + ((l.drop k).takeWhile p).length
theorem runTo_yes (p : UInt8 → Bool) (l : List UInt8) (k : Nat) (h : k < l.length) (hp : p (l.getD k 0) = true) : runTo p l k = runTo p l (k + 1) := by
  unfold runTo; rw [drop_get l k h, List.takeWhile_cons_of_pos hp, List.length_cons]; omega
theorem runTo_no (p : UInt8 → Bool) (l : List UInt8) (k : Nat) (h : k < l.length) (hp : p (l.getD k 0) = false) : runTo p l k = k := by
  unfold runTo; rw [drop_get l k h, List.takeWhile_cons_of_neg (by rw [hp]; simp)]; rfl
theorem runTo_end (p : UInt8 → Bool) (l : List UInt8) : runTo p l l.length = l.length := by unfold runTo; simp
theorem runTo_le (p : UInt8 → Bool) (l : List UInt8) (k : Nat) (h : k ≤ l.length) : runTo p l k ≤ l.length := by
  unfold runTo; have := (List.takeWhile_sublist (l := l.drop k) p).length_le; rw [List.length_drop] at this; omega


set_option maxHeartbeats 800000 in
theorem run_part {w : World} {b : Nat} {s : ByteArray} (h : Idx w b s (feedsOf s.data.toList)) (k : Nat) (hk : k ≤ s.size) :
    Calls Tryz.prog 114 #[scanV s b, .int .i64 k, .func (.func 115) #[] #[]] w fun e w' => e = .returned (.int .i64 (runTo partB s.data.toList k : Nat)) ∧ Below w.heap.size w w' := by
  have hsm := h.small
  have hbl := bytes_len s
  have hB0 : Below w.heap.size w (w.alloc (.cells #[.string s, .pointer (some ⟨b, 0, none⟩)] 131)) := (Below.refl _ _).alloc (Nat.le_refl _) _
  have c0 : (w.alloc (.cells #[.string s, .pointer (some ⟨b, 0, none⟩)] 131)).cell? ⟨w.heap.size, 0, none⟩ = some (.string s) := by simp
  obtain ⟨W0, hW0⟩ : ∃ W0, W0 = w.alloc (.cells #[.string s, .pointer (some ⟨b, 0, none⟩)] 131) := ⟨_, rfl⟩
  rw [← hW0] at hB0 c0
  have HL : Hid (s.data.toList.length = s.size) := hbl
  clear h hbl
  go_enter Tryz.func114, Tryz.ntmps114
  go_wp2
  rw [← hW0]
  clear hW0
  go_loop [1] (fun i => ∃ j : Nat, j ≤ s.size ∧ i = .int .i64 j ∧ Hid (runTo partB s.data.toList k = runTo partB s.data.toList j)) (fun i => s.size - (intOf i).toNat)
  case atStart => exact ⟨k, hk, rfl, rfl⟩
  case round =>
    obtain ⟨j, hj, rfl, hs⟩ := hrel
    by_cases hlt : j < s.size
    · have hsp := fun w' => isPart_any s[j] w'
      have hg := getD_bytes s j hlt
      cases hw : partB s[j] with
      | true =>
        rw [hw] at hsp
        have HS : Hid (runTo partB s.data.toList j = runTo partB s.data.toList (j + 1)) := runTo_yes _ _ _ (by rw [HL.out]; exact hlt) (by rw [hg]; exact hw)
        clear hg hw
        go_wp2_with (go_at_call 115; (with_reducible refine (hsp _).mono ?_); rintro e w1 ⟨rfl, rfl⟩)
        go_round
        case rel => exact ⟨j + 1, by omega, by go_num, hs.out.trans HS.out⟩
        case measure => simp [intOf]; omega
      | false =>
        rw [hw] at hsp
        have HS : Hid (runTo partB s.data.toList j = j) := runTo_no _ _ _ (by rw [HL.out]; exact hlt) (by rw [hg]; exact hw)
        clear hg hw
        go_wp2_with (go_at_call 115; (with_reducible refine (hsp _).mono ?_); rintro e w1 ⟨rfl, rfl⟩)
        go_ret
        exact ⟨by rw [hs.out, HS.out]; rfl, hB0⟩
    · obtain rfl : j = s.size := by omega
      have HS : Hid (runTo partB s.data.toList s.size = s.size) := by show _ = _; have := runTo_end partB s.data.toList; rwa [HL.out] at this
      clear hlt
      go_wp2
      go_ret
      exact ⟨by rw [hs.out, HS.out]; rfl, hB0⟩

set_option maxHeartbeats 800000 in
theorem run_digit {w : World} {b : Nat} {s : ByteArray} (h : Idx w b s (feedsOf s.data.toList)) (k : Nat) (hk : k ≤ s.size) :
    Calls Tryz.prog 114 #[scanV s b, .int .i64 k, .func (.func 116) #[] #[]] w fun e w' => e = .returned (.int .i64 (runTo digitB s.data.toList k : Nat)) ∧ Below w.heap.size w w' := by
  have hsm := h.small
  have hbl := bytes_len s
  have hB0 : Below w.heap.size w (w.alloc (.cells #[.string s, .pointer (some ⟨b, 0, none⟩)] 131)) := (Below.refl _ _).alloc (Nat.le_refl _) _
  have c0 : (w.alloc (.cells #[.string s, .pointer (some ⟨b, 0, none⟩)] 131)).cell? ⟨w.heap.size, 0, none⟩ = some (.string s) := by simp
  obtain ⟨W0, hW0⟩ : ∃ W0, W0 = w.alloc (.cells #[.string s, .pointer (some ⟨b, 0, none⟩)] 131) := ⟨_, rfl⟩
  rw [← hW0] at hB0 c0
  have HL : Hid (s.data.toList.length = s.size) := hbl
  clear h hbl
  go_enter Tryz.func114, Tryz.ntmps114
  go_wp2
  rw [← hW0]
  clear hW0
  go_loop [1] (fun i => ∃ j : Nat, j ≤ s.size ∧ i = .int .i64 j ∧ Hid (runTo digitB s.data.toList k = runTo digitB s.data.toList j)) (fun i => s.size - (intOf i).toNat)
  case atStart => exact ⟨k, hk, rfl, rfl⟩
  case round =>
    obtain ⟨j, hj, rfl, hs⟩ := hrel
    by_cases hlt : j < s.size
    · have hsp := fun w' => isDigit_any s[j] w'
      have hg := getD_bytes s j hlt
      cases hw : digitB s[j] with
      | true =>
        rw [hw] at hsp
        have HS : Hid (runTo digitB s.data.toList j = runTo digitB s.data.toList (j + 1)) := runTo_yes _ _ _ (by rw [HL.out]; exact hlt) (by rw [hg]; exact hw)
        clear hg hw
        go_wp2_with (go_at_call 116; (with_reducible refine (hsp _).mono ?_); rintro e w1 ⟨rfl, rfl⟩)
        go_round
        case rel => exact ⟨j + 1, by omega, by go_num, hs.out.trans HS.out⟩
        case measure => simp [intOf]; omega
      | false =>
        rw [hw] at hsp
        have HS : Hid (runTo digitB s.data.toList j = j) := runTo_no _ _ _ (by rw [HL.out]; exact hlt) (by rw [hg]; exact hw)
        clear hg hw
        go_wp2_with (go_at_call 116; (with_reducible refine (hsp _).mono ?_); rintro e w1 ⟨rfl, rfl⟩)
        go_ret
        exact ⟨by rw [hs.out, HS.out]; rfl, hB0⟩
    · obtain rfl : j = s.size := by omega
      have HS : Hid (runTo digitB s.data.toList s.size = s.size) := by show _ = _; have := runTo_end digitB s.data.toList; rwa [HL.out] at this
      clear hlt
      go_wp2
      go_ret
      exact ⟨by rw [hs.out, HS.out]; rfl, hB0⟩

theorem ext2 (t : ByteArray) (a b : UInt8) (r : List UInt8) (h : t.data.toList = a :: b :: r) (x y : UInt8) : ((t.extract 0 2).toList == [x, y]) = (a == x && b == y) := by
  rw [ByteArray.toList_eq, Lib.extract_data, h]
  show ([a, b] == [x, y]) = _
  by_cases h1 : a = x <;> by_cases h2 : b = y <;> simp [h1, h2]

def oneL : List UInt8 := [60, 62, 61, 43, 45, 42, 40, 41, 123, 125, 44, 58, 59]
theorem one_index (a : UInt8) : (oneB a = true → 0 ≤ Lib.indexByte oneL a) ∧ (oneB a = false → Lib.indexByte oneL a < 0) := by
  refine ⟨fun h => ?_, fun h => ?_⟩
  · have hm : a ∈ oneL := of_decide_eq_true h
    rcases (by omega : Lib.indexByte oneL a < 0 ∨ 0 ≤ Lib.indexByte oneL a) with h1 | h1
    · exfalso
      have h2 : Lib.indexByte oneL a = -1 := by have := Lib.indexByte_ge oneL a; omega
      obtain ⟨k, hk, hk2⟩ := List.getElem_of_mem hm
      exact Lib.indexByte_none h2 k (by rw [List.getElem?_eq_getElem hk, hk2])
    · exact h1
  · have hm : a ∉ oneL := of_decide_eq_false h
    rcases (by omega : Lib.indexByte oneL a < 0 ∨ 0 ≤ Lib.indexByte oneL a) with h1 | h1
    · exact h1
    · exfalso
      obtain ⟨o, ho⟩ : ∃ o : Nat, Lib.indexByte oneL a = o := ⟨(Lib.indexByte oneL a).toNat, by omega⟩
      exact hm (List.mem_of_getElem? (Lib.indexByte_some ho).1)

theorem index_call (a : UInt8) (w : World) : ∃ z : Int, -1 ≤ z ∧ z ≤ 13 ∧ (oneB a = true → 0 ≤ z) ∧ (oneB a = false → z < 0) ∧
    Calls Tryz.prog 132 #[.string ⟨#[60, 62, 61, 43, 45, 42, 40, 41, 123, 125, 44, 58, 59]⟩, .int .u8 a.toNat] w fun e w' => e = .returned (.int .i64 z) ∧ w = w' := by
  have h := Tryz.strings_IndexByte ⟨oneL.toArray⟩ a.toNat w
  have hb : Lib.indexByte oneL a ≤ 13 := by
    rcases (by omega : Lib.indexByte oneL a < 0 ∨ 0 ≤ Lib.indexByte oneL a) with h1 | h1
    · omega
    · obtain ⟨o, ho⟩ : ∃ o : Nat, Lib.indexByte oneL a = o := ⟨(Lib.indexByte oneL a).toNat, by omega⟩
      have := (List.getElem?_eq_some_iff.1 (Lib.indexByte_some ho).1).1
      have h2 : oneL.length = 13 := rfl
      omega
  refine ⟨Lib.indexByte oneL a, Lib.indexByte_ge _ _, hb, (one_index a).1, (one_index a).2, h.mono fun e w' ⟨h1, h2⟩ => ⟨?_, h2.symm⟩⟩
  rw [h1, show ((a.toNat : Int).toNat).toUInt8 = a by simp]

set_option maxHeartbeats 800000 in
theorem symbol_any (t : ByteArray) (ht : 1 ≤ t.size) (hs : t.size ≤ 4096) (w : World) :
    Calls Tryz.prog 117 #[.string t] w fun e w' => e = .returned (.int .i64 (symL t.data.toList : Nat)) ∧ w = w' := by
  have h0 : 0 < t.size := ht
  obtain ⟨a, ha⟩ : ∃ a, t[0] = a := ⟨_, rfl⟩
  have hbl := bytes_len t
  obtain ⟨z, z1, z2, z3, z4, hz⟩ := index_call a w
  cases hl : t.data.toList with
  | nil => rw [hl] at hbl; simp at hbl; omega
  | cons a' r =>
    have haa : a' = a := by
      have := getD_bytes t 0 (by omega)
      rw [hl, ha] at this; exact this
    subst haa
    cases r with
    | nil =>
      have h1 : t.size = 1 := by rw [hl] at hbl; simpa using hbl.symm
      have h2 : (t.size : Int) < 2 := by omega
      have h3 : (0 : Int) < (t.size : Int) := by omega
      show Calls _ _ _ _ fun e w' => e = .returned (.int .i64 ((if oneB a' then 1 else 0 : Nat) : Int)) ∧ w = w'
      clear hl hbl h1
      cases ho : oneB a' with
      | true =>
        have z3 := z3 ho
        clear z4 ho
        go_enter Tryz.func117, Tryz.ntmps117
        go_wp2_with (go_at_call 132; (with_reducible refine hz.mono ?_); rintro e w1 ⟨rfl, rfl⟩)
        go_ret
        exact ⟨rfl, rfl⟩
      | false =>
        have z4 := z4 ho
        clear z3 ho
        go_enter Tryz.func117, Tryz.ntmps117
        go_wp2_with (go_at_call 132; (with_reducible refine hz.mono ?_); rintro e w1 ⟨rfl, rfl⟩)
        go_ret
        exact ⟨rfl, rfl⟩
    | cons b r =>
      have h1 : 2 ≤ t.size := by rw [hl] at hbl; simp at hbl; omega
      have h2 : (2 : Int) ≤ (t.size : Int) := by omega
      have h3 : (0 : Int) < (t.size : Int) := by omega
      have e1 := ext2 t a' b r hl 61 61
      have e2 := ext2 t a' b r hl 33 61
      have e3 := ext2 t a' b r hl 60 61
      have e4 := ext2 t a' b r hl 62 61
      have e5 := ext2 t a' b r hl 46 46
      have h2d : 2 ≤ t.data.size := h1
      show Calls _ _ _ _ fun e w' => e = .returned (.int .i64 ((if twoB a' b then 2 else if oneB a' then 1 else 0 : Nat) : Int)) ∧ w = w'
      have ht2 : twoB a' b = ((a' == 61 && b == 61) || (a' == 33 && b == 61) || (a' == 60 && b == 61) || (a' == 62 && b == 61) || (a' == 46 && b == 46)) := by
        unfold twoB
        cases (b == 61) <;> cases (a' == 61) <;> cases (a' == 33) <;> cases (a' == 60) <;> cases (a' == 62) <;> cases (a' == 46) <;> cases (b == 46) <;> rfl
      rw [ht2]
      generalize (a' == 61 && b == 61) = q1 at *
      generalize (a' == 33 && b == 61) = q2 at *
      generalize (a' == 60 && b == 61) = q3 at *
      generalize (a' == 62 && b == 61) = q4 at *
      generalize (a' == 46 && b == 46) = q5 at *
      clear hl hbl ht2
      cases hq : (q1 || q2 || q3 || q4 || q5) with
      | true =>
        clear hz z1 z2 z3 z4
        cases q1 <;> cases q2 <;> cases q3 <;> cases q4 <;> cases q5 <;> first | (exact absurd hq (by decide)) | (clear hq; go_enter Tryz.func117, Tryz.ntmps117; go_wp2_with fail; go_ret; exact ⟨rfl, rfl⟩)
      | false =>
        obtain ⟨⟨⟨⟨rfl, rfl⟩, rfl⟩, rfl⟩, rfl⟩ : (((q1 = false ∧ q2 = false) ∧ q3 = false) ∧ q4 = false) ∧ q5 = false := by simpa using hq
        clear hq
        cases ho : oneB a' with
        | true =>
          have z3 := z3 ho
          clear z4 ho
          go_enter Tryz.func117, Tryz.ntmps117
          go_wp2_with (go_at_call 132; (with_reducible refine hz.mono ?_); rintro e w1 ⟨rfl, rfl⟩)
          go_ret
          exact ⟨rfl, rfl⟩
        | false =>
          have z4 := z4 ho
          clear z3 ho
          go_enter Tryz.func117, Tryz.ntmps117
          go_wp2_with (go_at_call 132; (with_reducible refine hz.mono ?_); rintro e w1 ⟨rfl, rfl⟩)
          go_ret
          exact ⟨rfl, rfl⟩

end Go.Proofs.YtfmoophjdgejeaaGreatDoor
namespace Go.Proofs.YtfmoophjdgejeaaGreatDoor
open Go.RowKit Go.Shelf Go.Lib

set_option maxHeartbeats 1600000 in
theorem ends_any (t : ByteArray) (ht : 1 ≤ t.size) (hs : t.size ≤ 4096) (w : World) :
    Calls Tryz.prog 133 #[.string t] w fun e w' => e = .returned (.bool (endsB t.data.toList)) ∧ w = w' := by
  have h0 : 0 < t.size := ht
  obtain ⟨a, ha⟩ : ∃ a, t[0] = a := ⟨_, rfl⟩
  have h3 : (0 : Int) < (t.size : Int) := by omega
  have hsp := fun w' => isSpace_any a w'
  have hle := fun w' => isLetter_any a w'
  have hdi := fun w' => isDigit_any a w'
  have hsy := fun w' => symbol_any t ht hs w'
  have e1 : ((a.toNat : Int) == 35) = (a == 35) := byte_eqI a 35
  have hE : endsB t.data.toList = (whiteB a || a == 35 || letterB a || digitB a || decide (0 < symL t.data.toList)) := by
    cases hl : t.data.toList with
    | nil => have := bytes_len t; rw [hl] at this; simp at this; omega
    | cons c r =>
      have : c = a := by have := getD_bytes t 0 (by omega); rw [hl, ha] at this; exact this
      subst this; rfl
  rw [hE]
  generalize (a == 35) = b2 at *
  generalize whiteB a = b1 at *
  generalize letterB a = b3 at *
  generalize digitB a = b4 at *
  generalize symL t.data.toList = n at *
  clear hE
  cases b1 with
  | true =>
    go_enter Tryz.func133, Tryz.ntmps133
    go_wp2_with (go_at_call 111; (with_reducible refine (hsp _).mono ?_); rintro e w1 ⟨rfl, rfl⟩)
    go_ret
    exact ⟨rfl, rfl⟩
  | false =>
    cases b2 with
    | true =>
      go_enter Tryz.func133, Tryz.ntmps133
      go_wp2_with (go_at_call 111; (with_reducible refine (hsp _).mono ?_); rintro e w1 ⟨rfl, rfl⟩)
      go_ret
      exact ⟨rfl, rfl⟩
    | false =>
      cases b3 with
      | true =>
        go_enter Tryz.func133, Tryz.ntmps133
        go_wp2_with (first | (go_at_call 111; (with_reducible refine (hsp _).mono ?_); rintro e w1 ⟨rfl, rfl⟩) | (go_at_call 113; (with_reducible refine (hle _).mono ?_); rintro e w1 ⟨rfl, rfl⟩))
        go_ret
        exact ⟨rfl, rfl⟩
      | false =>
        cases b4 with
        | true =>
          go_enter Tryz.func133, Tryz.ntmps133
          go_wp2_with (first | (go_at_call 111; (with_reducible refine (hsp _).mono ?_); rintro e w1 ⟨rfl, rfl⟩) | (go_at_call 113; (with_reducible refine (hle _).mono ?_); rintro e w1 ⟨rfl, rfl⟩) | (go_at_call 116; (with_reducible refine (hdi _).mono ?_); rintro e w1 ⟨rfl, rfl⟩))
          go_ret
          exact ⟨rfl, rfl⟩
        | false =>
          go_enter Tryz.func133, Tryz.ntmps133
          go_wp2_with (first | (go_at_call 111; (with_reducible refine (hsp _).mono ?_); rintro e w1 ⟨rfl, rfl⟩) | (go_at_call 113; (with_reducible refine (hle _).mono ?_); rintro e w1 ⟨rfl, rfl⟩) | (go_at_call 116; (with_reducible refine (hdi _).mono ?_); rintro e w1 ⟨rfl, rfl⟩) | (go_at_call 117; (with_reducible refine (hsy _).mono ?_); rintro e w1 ⟨rfl, rfl⟩))
          go_ret
          exact ⟨by congr 2, rfl⟩

def wrongTo (l : List UInt8) (k : Nat) : Nat := k + wrongF (l.drop k)
theorem wrongTo_go (l : List UInt8) (k : Nat) (h : k < l.length) (he : endsB (l.drop k) = false) : wrongTo l k = wrongTo l (k + 1) := by
  unfold wrongTo; rw [drop_get l k h] at he ⊢; rw [wrongF, if_neg (by rw [he]; simp)]; omega
theorem wrongTo_stop (l : List UInt8) (k : Nat) (h : k < l.length) (he : endsB (l.drop k) = true) : wrongTo l k = k := by
  unfold wrongTo; rw [drop_get l k h] at he ⊢; rw [wrongF, if_pos he]; rfl
theorem wrongTo_end (l : List UInt8) : wrongTo l l.length = l.length := by unfold wrongTo; simp [wrongF]

theorem ends_from (s : ByteArray) (k : Nat) (hk : k < s.size) (hs : s.size ≤ 4096) (w : World) :
    Calls Tryz.prog 133 #[.string (s.extract k s.size)] w fun e w' => e = .returned (.bool (endsB (s.data.toList.drop k))) ∧ w = w' := by
  have h1 : (s.extract k s.size).size = s.size - k := by rw [Lib.size_eq, Lib.extract_to_end, List.length_drop, bytes_len]
  have := ends_any (s.extract k s.size) (by omega) (by omega) w
  rwa [Lib.extract_to_end] at this

theorem symbol_from (s : ByteArray) (k : Nat) (hk : k < s.size) (hs : s.size ≤ 4096) (w : World) :
    Calls Tryz.prog 117 #[.string (s.extract k s.size)] w fun e w' => e = .returned (.int .i64 (symL (s.data.toList.drop k) : Nat)) ∧ w = w' := by
  have h1 : (s.extract k s.size).size = s.size - k := by rw [Lib.size_eq, Lib.extract_to_end, List.length_drop, bytes_len]
  have := symbol_any (s.extract k s.size) (by omega) (by omega) w
  rwa [Lib.extract_to_end] at this

set_option maxHeartbeats 800000 in
theorem wrong_any {w : World} {b : Nat} {s : ByteArray} (h : Idx w b s (feedsOf s.data.toList)) (k : Nat) (hk : k < s.size) :
    Calls Tryz.prog 118 #[scanV s b, .int .i64 k] w fun e w' => e = .returned (.int .i64 (wrongTo s.data.toList (k + 1) : Nat)) ∧ Below w.heap.size w w' := by
  have hsm := h.small
  have hbl := bytes_len s
  have hB0 : Below w.heap.size w (w.alloc (.cells #[.string s, .pointer (some ⟨b, 0, none⟩)] 131)) := (Below.refl _ _).alloc (Nat.le_refl _) _
  have c0 : (w.alloc (.cells #[.string s, .pointer (some ⟨b, 0, none⟩)] 131)).cell? ⟨w.heap.size, 0, none⟩ = some (.string s) := by simp
  obtain ⟨W0, hW0⟩ : ∃ W0, W0 = w.alloc (.cells #[.string s, .pointer (some ⟨b, 0, none⟩)] 131) := ⟨_, rfl⟩
  rw [← hW0] at hB0 c0
  have HL : Hid (s.data.toList.length = s.size) := hbl
  clear h hbl
  go_enter Tryz.func118, Tryz.ntmps118
  go_wp2
  rw [← hW0]
  clear hW0
  go_loop [5] (fun i => ∃ j : Nat, j ≤ s.size ∧ i = .int .i64 j ∧ Hid (wrongTo s.data.toList (k + 1) = wrongTo s.data.toList j)) (fun i => s.size - (intOf i).toNat)
  case atStart => exact ⟨k + 1, by omega, by go_num, rfl⟩
  case round =>
    obtain ⟨j, hj, rfl, hs⟩ := hrel
    by_cases hlt : j < s.size
    · have hsp := fun w' => ends_from s j hlt hsm w'
      cases hw : endsB (s.data.toList.drop j) with
      | true =>
        rw [hw] at hsp
        have HS : Hid (wrongTo s.data.toList j = j) := wrongTo_stop _ _ (by rw [HL.out]; exact hlt) hw
        clear hw
        go_wp2_with (go_at_call 133; (with_reducible refine (hsp _).mono ?_); rintro e w1 ⟨rfl, rfl⟩)
        go_ret
        exact ⟨by rw [hs.out, HS.out]; rfl, hB0⟩
      | false =>
        rw [hw] at hsp
        have HS : Hid (wrongTo s.data.toList j = wrongTo s.data.toList (j + 1)) := wrongTo_go _ _ (by rw [HL.out]; exact hlt) hw
        clear hw
        go_wp2_with (go_at_call 133; (with_reducible refine (hsp _).mono ?_); rintro e w1 ⟨rfl, rfl⟩)
        go_round
        case rel => exact ⟨j + 1, by omega, by go_num, hs.out.trans HS.out⟩
        case measure => simp [intOf]; omega
    · obtain rfl : j = s.size := by omega
      have HS : Hid (wrongTo s.data.toList s.size = s.size) := by show _ = _; have := wrongTo_end s.data.toList; rwa [HL.out] at this
      clear hlt
      go_wp2
      go_ret
      exact ⟨by rw [hs.out, HS.out]; rfl, hB0⟩

end Go.Proofs.YtfmoophjdgejeaaGreatDoor
namespace Go.Proofs.YtfmoophjdgejeaaGreatDoor
open Go.RowKit Go.Shelf Go.Lib

theorem runTo_tok (p : UInt8 → Bool) (l : List UInt8) (k : Nat) (h : k < l.length) (hp : p (l.getD k 0) = true) : runTo p l k = k + (((l.drop (k + 1)).takeWhile p).length + 1) := by
  unfold runTo; rw [drop_get l k h, List.takeWhile_cons_of_pos hp, List.length_cons]

set_option maxHeartbeats 1600000 in
theorem token_any {w : World} {b : Nat} {s : ByteArray} (h : Idx w b s (feedsOf s.data.toList)) (k : Nat) (hk : k ≤ s.size) :
    Calls Tryz.prog 95 #[scanV s b, .int .i64 k] w fun e w' =>
      e = .returned (.tuple #[.int .i64 ((tokF (s.data.toList.drop k)).1 : Nat), .int .i64 ((k + (tokF (s.data.toList.drop k)).2 : Nat) : Int)]) ∧ Below w.heap.size w w' := by
  have hsm := h.small
  have hbl := bytes_len s
  have hB0 : Below w.heap.size w (w.alloc (.cells #[.string s, .pointer (some ⟨b, 0, none⟩)] 131)) := (Below.refl _ _).alloc (Nat.le_refl _) _
  obtain ⟨W0, hW0⟩ : ∃ W0, W0 = w.alloc (.cells #[.string s, .pointer (some ⟨b, 0, none⟩)] 131) := ⟨_, rfl⟩
  have c0 : W0.cell? ⟨w.heap.size, 0, none⟩ = some (.string s) := by rw [hW0]; simp
  have c1 : W0.cell? ⟨w.heap.size, 1, none⟩ = some (.pointer (some ⟨b, 0, none⟩)) := by rw [hW0]; simp
  have hz : w.heap.size < W0.heap.size := by rw [hW0]; simp
  rw [← hW0] at hB0
  have hI := h.below hB0
  clear h
  by_cases hend : k = s.size
  · subst hend
    rw [show s.data.toList.drop s.size = [] by rw [← hbl]; simp]
    clear hbl hI
    go_enter Tryz.func95, Tryz.ntmps95
    go_wp2_with fail
    go_ret2
    exact ⟨rfl, by rw [← hW0]; exact hB0⟩
  · have hlt : k < s.size := by omega
    have hne : ((k : Int) == (s.size : Int)) = false := by rw [beq_eq_false_iff_ne]; omega
    have hle := fun w' => isLetter_any s[k] w'
    have hdi := fun w' => isDigit_any s[k] w'
    have hrp := run_part hI k hk
    have hrd := run_digit hI k hk
    have hsy := fun w' => symbol_from s k hlt hsm w'
    have hwr := wrong_any hI k hlt
    have hg := getD_bytes s k hlt
    have hdr := drop_get s.data.toList k (by rw [hbl]; exact hlt)
    have hll : s.data.toList.length = s.size := hbl
    rw [hg] at hdr
    clear hI hbl hend
    have HW : Hid (W0 = w.alloc (.cells #[.string s, .pointer (some ⟨b, 0, none⟩)] 131)) := hW0
    clear hW0
    cases hl : letterB s[k] with
    | true =>
      have ht : tokF (s.data.toList.drop k) = (1, ((s.data.toList.drop (k + 1)).takeWhile partB).length + 1) := by rw [hdr, tokF, if_pos hl]
      have hr := runTo_tok partB s.data.toList k (by rw [hll]; exact hlt) (by rw [hg]; unfold partB; rw [hl]; rfl)
      have hru := runTo_le partB s.data.toList k (by rw [hll]; omega)
      rw [ht]
      rw [hr] at hrp
      rw [hl] at hle
      clear ht hdr hg hr hl hrd hwr hsy hdi hru hll
      go_enter Tryz.func95, Tryz.ntmps95
      go_wp2_with (first | (go_at_call 113; (with_reducible refine (hle _).mono ?_); rintro e w1 ⟨rfl, rfl⟩) | (go_at_call 114; rw [← HW.out]; (with_reducible refine hrp.mono ?_); rintro e w1 ⟨rfl, hB1⟩))
      go_ret2
      exact ⟨rfl, bt hB0 hB1⟩
    | false =>
      rw [hl] at hle
      cases hd : digitB s[k] with
      | true =>
        have ht : tokF (s.data.toList.drop k) = (3, ((s.data.toList.drop (k + 1)).takeWhile digitB).length + 1) := by rw [hdr, tokF, if_neg (by rw [hl]; simp), if_pos hd]
        have hr := runTo_tok digitB s.data.toList k (by rw [hll]; exact hlt) (by rw [hg]; exact hd)
        rw [ht]
        rw [hr] at hrd
        rw [hd] at hdi
        clear ht hdr hg hr hl hrp hwr hsy hd hll
        go_enter Tryz.func95, Tryz.ntmps95
        go_wp2_with (first | (go_at_call 113; (with_reducible refine (hle _).mono ?_); rintro e w1 ⟨rfl, rfl⟩) | (go_at_call 116; (with_reducible refine (hdi _).mono ?_); rintro e w1 ⟨rfl, rfl⟩) | (go_at_call 114; rw [← HW.out]; (with_reducible refine hrd.mono ?_); rintro e w1 ⟨rfl, hB1⟩))
        go_ret2
        exact ⟨rfl, bt hB0 hB1⟩
      | false =>
        rw [hd] at hdi
        by_cases hs : 0 < symL (s.data.toList.drop k)
        · have ht : tokF (s.data.toList.drop k) = (4, symL (s.data.toList.drop k)) := by rw [hdr] at hs ⊢; rw [tokF, if_neg (by rw [hl]; simp), if_neg (by rw [hd]; simp), if_pos hs]
          have hsl : symL (s.data.toList.drop k) ≤ 2 := by
            cases s.data.toList.drop k with
            | nil => simp [symL]
            | cons x r => cases r <;> (unfold symL; (repeat' split) <;> omega)
          rw [ht]
          have hs' : (0 : Int) < (symL (s.data.toList.drop k) : Nat) := by omega
          clear ht hdr hg hl hrp hrd hwr hd hll hs
          generalize symL (s.data.toList.drop k) = n at *
          go_enter Tryz.func95, Tryz.ntmps95
          go_wp2_with (first | (go_at_call 113; (with_reducible refine (hle _).mono ?_); rintro e w1 ⟨rfl, rfl⟩) | (go_at_call 116; (with_reducible refine (hdi _).mono ?_); rintro e w1 ⟨rfl, rfl⟩) | (go_at_call 117; (with_reducible refine (hsy _).mono ?_); rintro e w1 ⟨rfl, rfl⟩))
          go_ret2
          exact ⟨by simp, by rw [← HW.out]; exact hB0⟩
        · have ht : tokF (s.data.toList.drop k) = (5, wrongF (s.data.toList.drop (k + 1)) + 1) := by rw [hdr] at hs ⊢; rw [tokF, if_neg (by rw [hl]; simp), if_neg (by rw [hd]; simp), if_neg hs]
          have hw : wrongTo s.data.toList (k + 1) = k + (wrongF (s.data.toList.drop (k + 1)) + 1) := by unfold wrongTo; omega
          have hs0 : symL (s.data.toList.drop k) = 0 := by omega
          rw [ht]
          rw [hw] at hwr
          rw [hs0] at hsy
          clear ht hdr hg hl hrp hrd hd hll hs hw hs0
          go_enter Tryz.func95, Tryz.ntmps95
          go_wp2_with (first | (go_at_call 113; (with_reducible refine (hle _).mono ?_); rintro e w1 ⟨rfl, rfl⟩) | (go_at_call 116; (with_reducible refine (hdi _).mono ?_); rintro e w1 ⟨rfl, rfl⟩) | (go_at_call 117; (with_reducible refine (hsy _).mono ?_); rintro e w1 ⟨rfl, rfl⟩) | (go_at_call 118; rw [← HW.out]; (with_reducible refine hwr.mono ?_); rintro e w1 ⟨rfl, hB1⟩))
          go_ret2
          exact ⟨rfl, bt hB0 hB1⟩

end Go.Proofs.YtfmoophjdgejeaaGreatDoor
namespace Go.Proofs.YtfmoophjdgejeaaGreatDoor
open Go.RowKit Go.Shelf Go.Lib

/-- A token: kind, from, at, end. -/
structure Tok where
  kind : Nat
  from_ : Nat
  at_ : Nat
  end_ : Nat
abbrev tokV (t : Tok) : Value := .agg #[.int .i64 t.kind, .int .i64 t.from_, .int .i64 t.at_, .int .i64 t.end_]

/-- The token behind an offset. -/
def nextT (l : List UInt8) (k : Nat) : Tok := ⟨(tokF (l.drop (skipTo l k))).1, k, skipTo l k, skipTo l k + (tokF (l.drop (skipTo l k))).2⟩

set_option maxHeartbeats 800000 in
theorem next_any {w : World} {b : Nat} {s : ByteArray} (h : Idx w b s (feedsOf s.data.toList)) (k : Nat) (hk : k ≤ s.size) :
    Calls Tryz.prog 84 #[scanV s b, .int .i64 k] w fun e w' => e = .returned (tokV (nextT s.data.toList k)) ∧ Below w.heap.size w w' := by
  have hbl := bytes_len s
  have hsk := skipTo_le s.data.toList k (by rw [hbl]; exact hk)
  rw [hbl] at hsk
  have h1 := fun w' hb => skip_any (h.below (w' := w') hb) k hk
  have h2 := fun w' hb => token_any (h.below (w' := w') hb) (skipTo s.data.toList k) hsk
  unfold tokV nextT
  dsimp only
  generalize skipTo s.data.toList k = at_ at *
  generalize (tokF (s.data.toList.drop at_)).1 = kd at *
  generalize (tokF (s.data.toList.drop at_)).2 = n at *
  clear h hbl
  obtain ⟨W0, hW0⟩ : ∃ W0, W0 = (w.alloc (.cells #[.string s, .pointer (some ⟨b, 0, none⟩)] 131)).alloc (.cells #[.int .i64 0, .int .i64 0, .int .i64 0, .int .i64 0] 115) := ⟨_, rfl⟩
  have hB0 : Below w.heap.size w W0 := by rw [hW0]; exact ((Below.refl _ _).alloc (Nat.le_refl _) _).alloc (by simp) _
  have hz : w.heap.size + 1 < W0.heap.size := by rw [hW0]; simp
  have c0 : W0.cell? ⟨w.heap.size, 0, none⟩ = some (.string s) := by rw [hW0]; simp
  have c1 : W0.cell? ⟨w.heap.size, 1, none⟩ = some (.pointer (some ⟨b, 0, none⟩)) := by rw [hW0]; simp
  have z0 : W0.cell? ⟨w.heap.size + 1, 0, none⟩ = some (.int .i64 0) := by rw [hW0]; simp
  have z1 : W0.cell? ⟨w.heap.size + 1, 1, none⟩ = some (.int .i64 0) := by rw [hW0]; simp
  have z2 : W0.cell? ⟨w.heap.size + 1, 2, none⟩ = some (.int .i64 0) := by rw [hW0]; simp
  have z3 : W0.cell? ⟨w.heap.size + 1, 3, none⟩ = some (.int .i64 0) := by rw [hW0]; simp
  have y0 : W0.frozen? ⟨w.heap.size + 1, 0, none⟩ = false := by rw [hW0]; simp
  have y1 : W0.frozen? ⟨w.heap.size + 1, 1, none⟩ = false := by rw [hW0]; simp
  have y2 : W0.frozen? ⟨w.heap.size + 1, 2, none⟩ = false := by rw [hW0]; simp
  have y3 : W0.frozen? ⟨w.heap.size + 1, 3, none⟩ = false := by rw [hW0]; simp
  have HW : Hid (W0 = (w.alloc (.cells #[.string s, .pointer (some ⟨b, 0, none⟩)] 131)).alloc (.cells #[.int .i64 0, .int .i64 0, .int .i64 0, .int .i64 0] 115)) := hW0
  clear hW0
  go_enter Tryz.func84, Tryz.ntmps84
  go_wp2_with fail
  rw [← HW.out]
  (with_reducible refine (h1 _ hB0).mono ?_)
  rintro e w1 ⟨rfl, hB1⟩
  have g0 : w1.cell? ⟨w.heap.size, 0, none⟩ = some (.string s) := (hB1.cell (p := ⟨w.heap.size, 0, none⟩) (by show w.heap.size < _; omega)).trans c0
  have g1 : w1.cell? ⟨w.heap.size, 1, none⟩ = some (.pointer (some ⟨b, 0, none⟩)) := (hB1.cell (p := ⟨w.heap.size, 1, none⟩) (by show w.heap.size < _; omega)).trans c1
  have hB2 := bt hB0 hB1
  go_wp2_with fail
  (with_reducible refine (h2 _ hB2).mono ?_)
  rintro e w2 ⟨rfl, hB3⟩
  have hB4 := bt hB2 hB3
  have hB5 := bt hB1 hB3
  have k0 : w2.cell? ⟨w.heap.size + 1, 0, none⟩ = some (.int .i64 0) := (hB5.cell (p := ⟨w.heap.size + 1, 0, none⟩) hz).trans z0
  have k1 : w2.cell? ⟨w.heap.size + 1, 1, none⟩ = some (.int .i64 0) := (hB5.cell (p := ⟨w.heap.size + 1, 1, none⟩) hz).trans z1
  have k2 : w2.cell? ⟨w.heap.size + 1, 2, none⟩ = some (.int .i64 0) := (hB5.cell (p := ⟨w.heap.size + 1, 2, none⟩) hz).trans z2
  have k3 : w2.cell? ⟨w.heap.size + 1, 3, none⟩ = some (.int .i64 0) := (hB5.cell (p := ⟨w.heap.size + 1, 3, none⟩) hz).trans z3
  have f0 : w2.frozen? ⟨w.heap.size + 1, 0, none⟩ = false := (hB5.frozen (p := ⟨w.heap.size + 1, 0, none⟩) hz).trans y0
  have f1 : w2.frozen? ⟨w.heap.size + 1, 1, none⟩ = false := (hB5.frozen (p := ⟨w.heap.size + 1, 1, none⟩) hz).trans y1
  have f2 : w2.frozen? ⟨w.heap.size + 1, 2, none⟩ = false := (hB5.frozen (p := ⟨w.heap.size + 1, 2, none⟩) hz).trans y2
  have f3 : w2.frozen? ⟨w.heap.size + 1, 3, none⟩ = false := (hB5.frozen (p := ⟨w.heap.size + 1, 3, none⟩) hz).trans y3
  have hz2 : w.heap.size + 1 < w2.heap.size := by have := hB5.size; omega
  go_wp2_with fail
  refine bodyPost_ret (v := .agg #[.int .i64 kd, .int .i64 k, .int .i64 at_, .int .i64 ((at_ : Int) + n)]) (by simp [results, Tryz.results84, go_sem, k0, k1, k2, k3]) rfl ⟨by simp, ?_⟩
  exact (((hB4.setCell (p := ⟨w.heap.size + 1, 0, none⟩) (by simp) _).setCell (p := ⟨w.heap.size + 1, 1, none⟩) (by simp) _).setCell (p := ⟨w.heap.size + 1, 2, none⟩) (by simp) _).setCell (p := ⟨w.heap.size + 1, 3, none⟩) (by simp) _

set_option maxHeartbeats 400000 in
theorem newScanner_any (s : ByteArray) (w : World) (hs : s.size ≤ 4096) :
    Calls Tryz.prog 83 #[.string s] w fun e w' => ∃ b, e = .returned (scanV s b) ∧ Idx w' b s (feedsOf s.data.toList) ∧ Below w.heap.size w w' ∧ IdxFrom w.heap.size w' b := by
  have hn := fun w' => new_full s w' hs
  go_enter Tryz.func83, Tryz.ntmps83
  go_wp2_with fail
  (with_reducible refine (hn _).mono ?_)
  rintro e w1 ⟨b, rfl, hI, hB1, hF⟩
  have hz : w.heap.size < (w.alloc (.cells #[.string ⟨#[]⟩, .pointer none] 131)).heap.size := by simp
  have k0 : w1.cell? ⟨w.heap.size, 0, none⟩ = some (.string ⟨#[]⟩) := (hB1.cell (p := ⟨w.heap.size, 0, none⟩) hz).trans (by simp)
  have k1 : w1.cell? ⟨w.heap.size, 1, none⟩ = some (.pointer none) := (hB1.cell (p := ⟨w.heap.size, 1, none⟩) hz).trans (by simp)
  have f0 : w1.frozen? ⟨w.heap.size, 0, none⟩ = false := (hB1.frozen (p := ⟨w.heap.size, 0, none⟩) hz).trans (by simp)
  have f1 : w1.frozen? ⟨w.heap.size, 1, none⟩ = false := (hB1.frozen (p := ⟨w.heap.size, 1, none⟩) hz).trans (by simp)
  go_wp2_with fail
  have hA : Below w.heap.size w (w.alloc (.cells #[.string ⟨#[]⟩, .pointer none] 131)) := (Below.refl _ _).alloc (Nat.le_refl _) _
  have hB := bt hA hB1
  refine bodyPost_ret (v := scanV s b) (by simp [results, Tryz.results83, go_sem, k0, k1]) rfl ⟨b, rfl, ?_, ?_, ?_⟩
  · obtain ⟨i1, i2⟩ := hI.setCell hF (p := ⟨w.heap.size, 0, none⟩) hz (.string s)
    exact (i1.setCell i2 (p := ⟨w.heap.size, 1, none⟩) hz _).1
  rotate_left
  · obtain ⟨i1, i2⟩ := hI.setCell hF (p := ⟨w.heap.size, 0, none⟩) hz (.string s)
    obtain ⟨j1, j2⟩ := (i1.setCell i2 (p := ⟨w.heap.size, 1, none⟩) hz (.pointer (some ⟨b, 0, none⟩))).2
    rw [World.size_alloc] at j1 j2
    exact ⟨by omega, fun bf o n cap hc => by have := j2 bf o n cap hc; omega⟩
  · exact ((hB.setCell (p := ⟨w.heap.size, 0, none⟩) (by simp) _).setCell (p := ⟨w.heap.size, 1, none⟩) (by simp) _)

end Go.Proofs.YtfmoophjdgejeaaGreatDoor
