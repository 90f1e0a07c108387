import Derived.Test.YtfmoophjdgejeaaGreatDoorCc
import Derived.Test.YtfmoophjdgejeaaGreatDoorJe
import Derived.Maps.AppendAt
/-
  The sizes of columns; how many cells a table has; a cell.
-/
namespace Go.Proofs.YtfmoophjdgejeaaGreatDoor
open Go.RowKit Go.Shelf

theorem infoI : (Tryz.prog.info? 3).map (fun i => (i.zero, i.size, i.bytes)) = some (some (.int .i64 0), 1, 8) := by kernel_rfl

/-- Numbers as values. -/
def intsC (l : List Nat) : List Value := l.map fun (n : Nat) => .int .i64 (n : Int)

theorem row_ints {w : World} {b : Nat} {e : TypeId} {v : Value} {l : List Nat} (h : w.ownsRow b e 1 v l.length (intsC l)) : IntsV w v (natL l) := by
  rcases h.2 with ⟨rfl, h0⟩ | ⟨g, cap, cur, rfl, h2, h3, h4, h5, h6, h7⟩
  · obtain rfl := List.length_eq_zero_iff.1 h0
    exact ⟨none, 0, 0, 0, rfl, fun h => absurd rfl h, fun i z h => by simp [natL] at h⟩
  · refine ⟨some ⟨g, 0, none⟩, cap, g, 0, by rw [natL_len], fun _ => ⟨rfl, (Array.getElem?_eq_some_iff.1 h3).1⟩, fun i z hz => ?_⟩
    have hi : i < l.length := by have := (List.getElem?_eq_some_iff.1 hz).1; rwa [natL_len] at this
    have hc : w.cell? ⟨g, 0 + i, none⟩ = cur[0 + i]? := by simp [World.cell?, h3]
    rw [hc, Nat.zero_add]
    have h8 : (cur.toList.take (l.length * 1))[i]? = (intsC l)[i]? := by rw [h7]
    rw [List.getElem?_take, if_pos (by omega)] at h8
    rw [← Array.getElem?_toList, h8]
    unfold intsC natL at *
    rw [List.getElem?_map] at hz ⊢
    cases hx : l[i]? with
    | none => rw [hx] at hz; simp at hz
    | some x => rw [hx] at hz; simp at hz; rw [← hz]; rfl

theorem lens_take {ss cs : List Int} {k : Nat} {z : Int} (h : cs[k]? = some z) : lensL ss (cs.take (k + 1)) = lensL ss (cs.take k) ++ [(ss.getD z.toNat 0).toNat] := by
  rw [take_step h]; unfold lensL; simp
theorem lens_len (ss cs : List Int) : (lensL ss cs).length = cs.length := by unfold lensL; simp

theorem cols_at {n : Nat} {cs : List Int} (h : cs.all (colB n) = true) {k : Nat} {z : Int} (hz : cs[k]? = some z) : ∃ m : Nat, z = (m : Int) ∧ m < n := by
  have h1 := List.all_eq_true.1 h z (List.mem_of_getElem? hz)
  unfold colB at h1
  simp only [Bool.and_eq_true, decide_eq_true_eq] at h1
  exact ⟨z.toNat, by omega, by omega⟩

theorem sound_at {ss : List Int} (h : soundB ss = true) {k : Nat} {z : Int} (hz : ss[k]? = some z) : ∃ m : Nat, z = (m : Int) ∧ 1 ≤ m ∧ m ≤ 6 := by
  have h1 := List.all_eq_true.1 h z (List.mem_of_getElem? hz)
  unfold sizeB at h1
  simp only [Bool.and_eq_true, decide_eq_true_eq] at h1
  exact ⟨z.toNat, by omega, by omega, by omega⟩

theorem lens_pos {ss cs : List Int} (h : soundB ss = true) (hc : cs.all (colB ss.length) = true) : ∀ n ∈ lensL ss cs, 1 ≤ n ∧ n ≤ 6 := by
  intro n hn
  unfold lensL at hn
  obtain ⟨z, hz, rfl⟩ := List.mem_map.1 hn
  obtain ⟨k, hk⟩ := List.getElem?_of_mem hz
  obtain ⟨m, rfl, hm⟩ := cols_at hc hk
  have hx : ss[m]? = some ss[m] := List.getElem?_eq_getElem hm
  obtain ⟨y, hy, h1, h2⟩ := sound_at h hx
  rw [Int.toNat_natCast, List.getD_eq_getElem?_getD, hx, hy]
  simp only [Option.getD_some, Int.toNat_natCast]
  exact ⟨h1, h2⟩

set_option maxRecDepth 100000 in
set_option maxHeartbeats 3200000 in
theorem lengths_any (ss cs : List Int) (sv cv : Value) (q : Option Addr) (n c : Nat) (w : World) (hs : IntsV w sv ss) (hc : IntsV w cv cs) (hsnd : soundB ss = true) (hcols : cs.all (colB ss.length) = true) (hl : cs.length ≤ 3) :
    Calls Tryz.prog 40 #[.agg #[sv, .slice q n c], cv] w fun e w' => ∃ v, e = .returned v ∧ w'.ownsRow w.heap.size 3 1 v cs.length (intsC (lensL ss cs)) ∧ Below w.heap.size w w' := by
  obtain ⟨p, cap, g, o, rfl, hp, hcs⟩ := hs
  obtain ⟨pc, capc, gc, oc, rfl, hpc, hcc⟩ := hc
  obtain ⟨i0, hi, hz0, hz1, hz2⟩ := info_parts infoI
  have HP := hidden hp
  have HC := hidden hcs
  have HPC := hidden hpc
  have HCC := hidden hcc
  have HS := hidden hsnd
  have HCO := hidden hcols
  have HL := hidden hl
  clear hp hcs hpc hcc hsnd hcols hl
  go_enter Tryz.func40, Tryz.ntmps40
  go_wp2_with fail
  obtain ⟨W0, hW0⟩ : ∃ W0, W0 = w.alloc (.cells #[.slice p ss.length cap, .slice q n c] 61) := ⟨_, rfl⟩
  have cB : W0.cell? ⟨w.heap.size, 0, none⟩ = some (.slice p ss.length cap) := by rw [hW0]; simp
  have HB0 : Hid (Below w.heap.size w W0) := by rw [hW0]; exact (Below.refl _ _).alloc (Nat.le_refl _) _
  have hz3 : W0.heap.size = w.heap.size + 1 := by rw [hW0]; simp
  rw [← hW0]
  clear hW0
  go_loopw [5, 10] (fun out i wr => ∃ k : Nat, k ≤ cs.length ∧ i = .int .i64 k ∧ wr.ownsRow (w.heap.size + 1) 3 1 out k (intsC (lensL ss (cs.take k))) ∧ Below (w.heap.size + 1) W0 wr) (fun _ i _ => cs.length - (intOf i).toNat)
  case atStart => exact ⟨0, Nat.zero_le _, rfl, ⟨rfl, Or.inl ⟨rfl, rfl⟩⟩, Below.refl _ _⟩
  case round =>
    obtain ⟨k, hk, rfl, hown, hnx⟩ := hrel
    have hwr := hnx.size
    have hl3 := HL.out
    by_cases hlt : k < cs.length
    · have hz : cs[k]? = some cs[k] := List.getElem?_eq_getElem hlt
      generalize cs[k] = z at hz
      obtain ⟨m, rfl, hm⟩ := cols_at HCO.out hz
      have hx : ss[m]? = some ss[m] := List.getElem?_eq_getElem hm
      generalize ss[m] = x at hx
      obtain ⟨y, rfl, hy1, hy2⟩ := sound_at HS.out hx
      obtain ⟨rfl, hg⟩ := HP.out (fun h => by rw [h] at hm; exact absurd hm (Nat.not_lt_zero _))
      obtain ⟨rfl, hgc⟩ := HPC.out (fun h => by rw [h] at hlt; exact absurd hlt (Nat.not_lt_zero _))
      have b1 := HB0.out.trans (hnx.mono (Nat.le_succ _))
      have ci : wr.cell? ⟨gc, oc + k, none⟩ = some (.int .i64 (m : Int)) := (b1.cell (p := ⟨gc, oc + k, none⟩) hgc).trans (HCC.out k _ hz)
      have cj : wr.cell? ⟨g, o + m, none⟩ = some (.int .i64 (y : Int)) := (b1.cell (p := ⟨g, o + m, none⟩) hg).trans (HC.out m _ hx)
      have cb : wr.cell? ⟨w.heap.size, 0, none⟩ = some (.slice (some ⟨g, o, none⟩) ss.length cap) := (hnx.cell (p := ⟨w.heap.size, 0, none⟩) (Nat.lt_succ_self _)).trans cB
      have hltz : (k : Int) < (cs.length : Int) := by omega
      have hmz : (m : Int) < (ss.length : Int) := by omega
      have HT : Hid (lensL ss (cs.take (k + 1)) = lensL ss (cs.take k) ++ [y]) := by
        have h := lens_take (ss := ss) hz
        rw [Int.toNat_natCast, List.getD_eq_getElem?_getD, hx] at h
        exact h
      clear hz hx b1
      go_wp2_with (at_builtin; refine wpList_append_own _ rfl (.tmp 14) (.tmp 20) 23 rfl (w.heap.size + 1) 3 i0 (.int .i64 0) 1 8 Tryz.underlying23 hi hz0 hz1 hz2 rfl (by decide) _ _ _ rfl (hown.alloc _) ⟨wr.heap.size, 0, none⟩ 1 1 [.int .i64 (y : Int)] rfl rfl (cell_one_new _ _ _) (by intro u hu; simp at hu; subst hu; rfl) (by unfold maxLen; omega) (by omega) (by simp; omega) ?_; intro v' w5 hown5 hgrow5 _)
      go_roundw
      case rel => exact ⟨k + 1, hlt, rfl, by rw [HT.out]; simpa [intsC] using hown5, (hnx.alloc (by omega) _).grown hgrow5 (by simp; omega) (row_block hown)⟩
      case measure => simp [intOf]; omega
    · obtain rfl : k = cs.length := by omega
      have hltz : ¬ (cs.length : Int) < (cs.length : Int) := by omega
      rw [List.take_length] at hown
      have HO := hidden hown
      have HN := hidden (HB0.out.trans (hnx.mono (Nat.le_succ _)))
      clear hown hnx hlt
      go_wp2_with fail
      go_ret
      exact ⟨_, rfl, row_mono HO.out (Nat.le_succ _), HN.out⟩

end Go.Proofs.YtfmoophjdgejeaaGreatDoor
