import Derived.Test.YtdcpfpifecnfmaaDoorRows
import Derived.Test.YtdcpfpifecnfmaaDoorMb
import Derived.WalkKit
import Derived.WalkSpells
import Derived.WalkLawsBesides
import Derived.Outline
import Derived.Deep.QuietTactic
import Derived.BigQuiet
namespace Go.Proofs.YtdcpfpifecnfmaaDoor
open Go.RowKit

structure Idx (w : World) (b : Nat) (s : ByteArray) (fs : List Nat) : Prop where
  small : s.size ≤ 4096
  len : fs.length ≤ s.size
  lt : ∀ x ∈ fs, x < s.size
  sorted : fs.Pairwise (· < ·)
  own : b < w.heap.size
  text : w.cell? ⟨b, 0, none⟩ = some (.string s)
  feeds : ∃ bf cap, bf < w.heap.size ∧ w.cell? ⟨b, 1, none⟩ = some (.slice (some ⟨bf, 0, none⟩) fs.length cap) ∧ ∀ i, i < fs.length → w.cell? ⟨bf, i, none⟩ = some (.int .i64 (fs.getD i 0 : Nat))

theorem Idx.below {w w' : World} {b : Nat} {s : ByteArray} {fs : List Nat} (h : Idx w b s fs) (hb : Below w.heap.size w w') : Idx w' b s fs := by
  obtain ⟨h1, h2, h3, hp, h4, h5, bf, cap, h6, h7, h8⟩ := h
  exact ⟨h1, h2, h3, hp, Nat.lt_of_lt_of_le h4 hb.size, by rw [hb.cell (p := ⟨b, 0, none⟩) h4]; exact h5, bf, cap, Nat.lt_of_lt_of_le h6 hb.size, by rw [hb.cell (p := ⟨b, 1, none⟩) h4]; exact h7, fun i hi => by rw [hb.cell (p := ⟨bf, i, none⟩) h6]; exact h8 i hi⟩

theorem Idx.endLe {w : World} {b : Nat} {s : ByteArray} {fs : List Nat} (h : Idx w b s fs) (k : Nat) : endN fs s.size k ≤ s.size := by
  unfold endN
  rw [List.getD_eq_getElem?_getD]
  cases hk : fs[k - 1]? with
  | none => simp
  | some x => have := h.lt x (List.mem_of_getElem? hk); simp; omega

theorem Idx.startLe {w : World} {b : Nat} {s : ByteArray} {fs : List Nat} (h : Idx w b s fs) (k : Nat) : startN fs s.size k ≤ s.size + 1 := by
  unfold startN
  split
  · omega
  · have := h.endLe (k - 1); omega

set_option maxHeartbeats 400000 in
theorem lines_any {w : World} {b : Nat} {s : ByteArray} {fs : List Nat} (h : Idx w b s fs) :
    Calls Tryd.prog 123 #[.pointer (some ⟨b, 0, none⟩)] w fun e w' => e = .returned (.int .i64 (fs.length + 1)) ∧ w = w' := by
  obtain ⟨h1, h2, h3, hp, h4, h5, bf, cap, h6, h7, h8⟩ := h
  clear hp
  have hn : fs.length ≤ 4096 := by omega
  generalize fs.length = n at *
  clear h8 h3 h2
  go_enter Tryd.func123, Tryd.ntmps123
  go_wp2
  go_ret
  exact ⟨rfl, rfl⟩

set_option maxHeartbeats 400000 in
theorem has_any {w : World} {b : Nat} {s : ByteArray} {fs : List Nat} (h : Idx w b s fs) (a : Int) :
    Calls Tryd.prog 110 #[.pointer (some ⟨b, 0, none⟩), .int .i64 a] w fun e w' => e = .returned (.bool (decide (1 ≤ a ∧ a ≤ fs.length + 1))) ∧ w = w' := by
  have hl := lines_any h
  generalize fs.length = n at *
  clear h
  by_cases h1 : 1 ≤ a
  · go_enter Tryd.func110, Tryd.ntmps110
    go_wp2_with (go_at_call 123; refine hl.mono ?_; rintro e w' ⟨rfl, rfl⟩)
    go_ret
    exact ⟨by simp [h1], rfl⟩
  · go_enter Tryd.func110, Tryd.ntmps110
    go_wp2_with (go_at_call 123; refine hl.mono ?_; rintro e w' ⟨rfl, rfl⟩)
    go_ret
    exact ⟨by congr 2; simp; omega, rfl⟩

set_option maxHeartbeats 400000 in
theorem end_any {w : World} {b : Nat} {s : ByteArray} {fs : List Nat} (h : Idx w b s fs) (a : Int) (ha1 : 1 ≤ a) (ha2 : a ≤ fs.length + 1) :
    Calls Tryd.prog 111 #[.pointer (some ⟨b, 0, none⟩), .int .i64 a] w fun e w' => e = .returned (.int .i64 (endN fs s.size a.toNat : Nat)) ∧ w = w' := by
  have hl := lines_any h
  obtain ⟨h1, h2, h3, hp, h4, h5, bf, cap, h6, h7, h8⟩ := h
  clear hp
  have hn : fs.length ≤ 4096 := by omega
  by_cases he : a = fs.length + 1
  · have hv : endN fs s.size a.toNat = s.size := by unfold endN; rw [List.getD_eq_getElem?_getD, List.getElem?_eq_none (by omega)]; rfl
    rw [hv]
    subst he
    generalize fs.length = n at *
    clear hv h8 h3 h2
    go_enter Tryd.func111, Tryd.ntmps111
    go_wp2_with (go_at_call 123; refine hl.mono ?_; rintro e w' ⟨rfl, rfl⟩)
    go_ret
    exact ⟨rfl, rfl⟩
  · obtain ⟨k, rfl⟩ : ∃ k : Nat, a = (k : Int) + 1 := ⟨(a - 1).toNat, by omega⟩
    have hk : k < fs.length := by omega
    have hv : endN fs s.size ((k : Int) + 1).toNat = fs.getD k 0 := by
      unfold endN
      rw [show ((k : Int) + 1).toNat - 1 = k by omega, List.getD_eq_getElem?_getD, List.getD_eq_getElem?_getD]
      rw [List.getElem?_eq_getElem hk]; rfl
    rw [hv]
    have h9 := h8 k hk
    generalize fs.getD k 0 = v at *
    generalize fs.length = n at *
    have hne : ((k : Int) == (n : Int)) = false := beq_eq_false_iff_ne.2 (by omega)
    have hne2 : ((k : Int) + 1 == (n : Int) + 1) = false := beq_eq_false_iff_ne.2 (by omega)
    have hlt : (k : Int) < (n : Int) := by omega
    clear hv h8 h3 h2 he
    go_enter Tryd.func111, Tryd.ntmps111
    go_wp2_with (go_at_call 123; refine hl.mono ?_; rintro e w' ⟨rfl, rfl⟩)
    go_ret
    exact ⟨rfl, rfl⟩

set_option maxHeartbeats 400000 in
theorem start_any {w : World} {b : Nat} {s : ByteArray} {fs : List Nat} (h : Idx w b s fs) (a : Int) (ha1 : 1 ≤ a) (ha2 : a ≤ fs.length + 2) :
    Calls Tryd.prog 109 #[.pointer (some ⟨b, 0, none⟩), .int .i64 a] w fun e w' => e = .returned (.int .i64 (startN fs s.size a.toNat : Nat)) ∧ w = w' := by
  have hsm := h.small
  have hln := h.len
  by_cases he : a = 1
  · subst he
    go_enter Tryd.func109, Tryd.ntmps109
    go_wp2
    go_ret
    exact ⟨rfl, rfl⟩
  · have hl := end_any h (a - 1) (by omega) (by omega)
    have hv : startN fs s.size a.toNat = endN fs s.size (a - 1).toNat + 1 := by
      unfold startN
      rw [if_neg (by omega), show a.toNat - 1 = (a - 1).toNat by omega]
    have hb := h.endLe (a - 1).toNat
    rw [hv]
    generalize endN fs s.size (a - 1).toNat = v at *
    generalize fs.length = n at *
    have hne : (a == 1) = false := beq_eq_false_iff_ne.2 he
    clear h hv he
    go_enter Tryd.func109, Tryd.ntmps109
    go_wp2_with (go_at_call 111; refine hl.mono ?_; rintro e w' ⟨rfl, rfl⟩)
    go_ret
    exact ⟨by simp, rfl⟩

end Go.Proofs.YtdcpfpifecnfmaaDoor
