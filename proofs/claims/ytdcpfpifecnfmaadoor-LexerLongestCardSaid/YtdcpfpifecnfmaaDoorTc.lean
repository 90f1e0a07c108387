import Derived.Test.YtdcpfpifecnfmaaDoorTb
namespace Go.Proofs.YtdcpfpifecnfmaaDoor
open Go.RowKit Go.Shelf Go.Lib Go.Sort

theorem Idx.drewN {w : World} {b : Nat} {s : ByteArray} {fs : List Nat} (h : Idx w b s fs) (q : Nat) : Idx (w.drewN q) b s fs := h.below (Go.below_drewN (Below.refl _ _) q)

set_option maxHeartbeats 800000 in
theorem less_any {w : World} {b : Nat} {s : ByteArray} {fs : List Nat} (h : Idx w b s fs) (b1 b2 : Nat) (at_ : Int) (i : Nat) (hi : i < fs.length + 1)
    (c1 : w.cell? ⟨b1, 0, none⟩ = some (.func (.func 111) #[.pointer (some ⟨b, 0, none⟩)] #[])) (c2 : w.cell? ⟨b2, 0, none⟩ = some (.int .i64 at_)) :
    Calls Tryd.prog 127 (#[.int .i64 i] ++ #[.pointer (some ⟨b1, 0, none⟩), .pointer (some ⟨b2, 0, none⟩)]) w fun e w' => e = .returned (.bool (decide (at_ ≤ (endN fs s.size (i + 1) : Nat)))) ∧ ∃ q, w' = w.drewN q := by
  have hl : ∀ q, Calls Tryd.prog 111 #[.pointer (some ⟨b, 0, none⟩), .int .i64 ((i : Int) + 1)] (w.drewN q) fun e w'' => e = .returned (.int .i64 (endN fs s.size (i + 1) : Nat)) ∧ w'' = w.drewN q := fun q =>
    (end_any (h.drewN q) ((i : Int) + 1) (by omega) (by omega)).mono fun _ _ ⟨a, b⟩ => ⟨a, b.symm⟩
  have hln := h.len
  have hsm := h.small
  generalize endN fs s.size (i + 1) = v at *
  generalize fs.length = n at *
  clear h
  go_enter Tryd.func127, Tryd.ntmps127
  go_wp2
  go_quiet ((go_at_call 111; exact Calls.quiet_of_same (hl _)))
  go_wp2
  go_ret
  exact ⟨rfl, _, rfl⟩

theorem endN_succ (fs : List Nat) (len i : Nat) (h : i < fs.length) : endN fs len (i + 1) = fs.getD i 0 := by
  unfold endN
  rw [List.getD_eq_getElem?_getD, List.getD_eq_getElem?_getD, Nat.add_sub_cancel, List.getElem?_eq_getElem h]; rfl

theorem lineN_search (fs : List Nat) (len : Nat) (a : Int) : (List.range fs.length).countP (fun i => !decide (a ≤ (endN fs len (i + 1) : Nat))) + 1 = lineN fs a := by
  unfold lineN
  rw [← countP_range_getD fs (fun x : Nat => decide ((x : Int) < a)), Nat.add_comm]
  congr 1
  apply List.countP_congr
  intro i hi
  rw [endN_succ fs len i (by simpa using hi)]
  simp only [Bool.not_eq_true', decide_eq_false_iff_not, decide_eq_true_eq]
  omega

set_option maxHeartbeats 800000 in
theorem firstEnding_any {w : World} {b : Nat} {s : ByteArray} {fs : List Nat} (h : Idx w b s fs) (a : Int) :
    Calls Tryd.prog 122 #[.int .i64 (fs.length + 1), .int .i64 a, .func (.func 111) #[.pointer (some ⟨b, 0, none⟩)] #[]] w fun e w' => e = .returned (.int .i64 (lineN fs a : Nat)) ∧ Below w.heap.size w w' := by
  obtain ⟨W0, hW0⟩ : ∃ W0, W0 = (w.alloc (.cells #[.int .i64 a] 3)).alloc (.cells #[.func (.func 111) #[.pointer (some ⟨b, 0, none⟩)] #[]] 85) := ⟨_, rfl⟩
  have hsize : W0.heap.size = w.heap.size + 1 + 1 := by rw [hW0]; simp
  have hB0 : Below w.heap.size w W0 := by rw [hW0]; exact ((Below.refl _ w).alloc (Nat.le_refl _) _).alloc (by simp) _
  have c2 : W0.cell? ⟨w.heap.size, 0, none⟩ = some (.int .i64 a) := by rw [hW0]; simp
  have c1 : W0.cell? ⟨w.heap.size + 1, 0, none⟩ = some (.func (.func 111) #[.pointer (some ⟨b, 0, none⟩)] #[]) := by rw [hW0]; simp
  have hI : Idx W0 b s fs := h.below hB0
  have eg : ∀ args w, (callFunc 127 args).run Tryd.prog w = .ok (.enter 127 args) w := enters_of Tryd.func127 (by kernel_rfl) rfl
  have hlen := h.len
  have hsm := h.small
  have hS := Any.sort_Search Tryd.search 127 #[.pointer (some ⟨w.heap.size + 1, 0, none⟩), .pointer (some ⟨w.heap.size, 0, none⟩)] fs.length (fun i => decide (a ≤ (endN fs s.size (i + 1) : Nat))) W0 eg (by omega)
    (fun m os i hi => (less_any (hI.below (below_grown_sl _ W0 m os (Nat.le_refl _))) (w.heap.size + 1) w.heap.size a i (by omega) (cell_grown (by simp [hsize]) c1 m os) (cell_grown (by simp [hsize]; omega) c2 m os)).mono
      fun _ _ ⟨he, q, hq⟩ => ⟨he, q, #[], by rw [hq, grow_empty]⟩)
    (fun i j hij hj hp => by
      simp only [decide_eq_true_eq] at hp ⊢
      rw [endN_succ fs _ i (by omega)] at hp
      rw [endN_succ fs _ j hj]
      have := sorted_getD h.sorted hij hj
      omega)
  have hres := lineN_search fs s.size a
  generalize (List.range fs.length).countP (fun i => !decide (a ≤ (endN fs s.size (i + 1) : Nat))) = r at hS hres
  have hr : r ≤ 4096 := by have h1 := hres; unfold lineN at h1; have := List.countP_le_length (p := fun x : Nat => decide ((x : Int) < a)) (l := fs); omega
  rw [← hres]
  change Calls Tryd.prog 126 _ _ _ at hS
  generalize fs.length = n at *
  clear h hI hres c1 c2 eg
  go_enter Tryd.func122, Tryd.ntmps122
  go_wp2_with (go_at_call 126; rw [← hW0]; refine hS.mono ?_; rintro e w' ⟨rfl, q, os, rfl⟩)
  go_ret
  exact ⟨by congr 2; simp; omega, by rw [← hW0]; exact hB0.trans (below_grown_sl w.heap.size W0 q os (by omega))⟩

set_option maxHeartbeats 400000 in
theorem line_any {w : World} {b : Nat} {s : ByteArray} {fs : List Nat} (h : Idx w b s fs) (a : Int) :
    Calls Tryd.prog 108 #[.pointer (some ⟨b, 0, none⟩), .int .i64 a] w fun e w' => e = .returned (.int .i64 (lineN fs a : Nat)) ∧ Below w.heap.size w w' := by
  have hl := lines_any h
  have hf := firstEnding_any h a
  generalize lineN fs a = r at *
  generalize fs.length = n at *
  clear h
  go_enter Tryd.func108, Tryd.ntmps108
  go_wp2_with (first | (go_at_call 123; refine hl.mono ?_; rintro e w' ⟨rfl, rfl⟩) | (go_at_call 122; refine hf.mono ?_; rintro e w' ⟨rfl, hb⟩))
  go_ret
  exact ⟨rfl, hb⟩

set_option maxHeartbeats 400000 in
theorem position_any {w : World} {b : Nat} {s : ByteArray} {fs : List Nat} (h : Idx w b s fs) (a : Int) :
    Calls Tryd.prog 94 #[.pointer (some ⟨b, 0, none⟩), .int .i64 a] w fun e w' =>
      e = .returned (.tuple #[.int .i64 (posN fs s.size a).1, .int .i64 (posN fs s.size a).2]) ∧ Below w.heap.size w w' := by
  have hl := line_any h a
  have hsm := h.small
  have ht := h.text
  by_cases h1 : a < 0
  · have e : posN fs s.size a = (0, 0) := by unfold posN; rw [if_pos (Or.inl h1)]
    rw [e]
    clear e h hl
    go_enter Tryd.func94, Tryd.ntmps94
    go_wp2
    go_ret2
    exact ⟨rfl, Below.refl _ _⟩
  · by_cases h2 : (s.size : Int) < a
    · have e : posN fs s.size a = (0, 0) := by unfold posN; rw [if_pos (Or.inr h2)]
      rw [e]
      clear e h hl
      go_enter Tryd.func94, Tryd.ntmps94
      go_wp2
      go_ret2
      exact ⟨rfl, Below.refl _ _⟩
    · have e : posN fs s.size a = (((lineN fs a : Nat) : Int), a - (startN fs s.size (lineN fs a) : Nat) + 1) := by unfold posN; rw [if_neg (by omega)]
      rw [e]
      have hs : ∀ w', Below w.heap.size w w' → Calls Tryd.prog 109 #[.pointer (some ⟨b, 0, none⟩), .int .i64 (lineN fs a : Nat)] w' fun e w'' => e = .returned (.int .i64 (startN fs s.size (lineN fs a) : Nat)) ∧ w' = w'' := by
        intro w' hb
        have := start_any (h.below hb) (lineN fs a : Nat) (by have := lineN_ge fs a; omega) (by have := lineN_le fs a; omega)
        rwa [Int.toNat_natCast] at this
      have hsl := h.startLe (lineN fs a)
      have hle := lineN_le fs a
      have hln := h.len
      generalize startN fs s.size (lineN fs a) = st at *
      generalize lineN fs a = r at *
      clear e h
      go_enter Tryd.func94, Tryd.ntmps94
      go_wp2_with (first | (go_at_call 108; refine hl.mono ?_; rintro e w' ⟨rfl, hb⟩) | (go_at_call 109; refine (hs _ hb).mono ?_; rintro e w'' ⟨rfl, rfl⟩))
      go_ret2
      exact ⟨by simp, hb⟩

end Go.Proofs.YtdcpfpifecnfmaaDoor
