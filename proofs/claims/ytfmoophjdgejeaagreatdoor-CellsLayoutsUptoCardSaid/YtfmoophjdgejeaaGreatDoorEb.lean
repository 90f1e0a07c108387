import Derived.Test.YtfmoophjdgejeaaGreatDoorEa
/-
  The reference: the tuple with an index, the place of a tuple.
-/
namespace Go.Proofs.YtfmoophjdgejeaaGreatDoor
open Go.RowKit Go.Shelf Go.Lib
attribute [local go_sem] Oper.semAt_some

theorem tup_at : ∀ {ss : List Nat} {k i n : Nat}, ss[i]? = some n → (tupN ss k)[i]? = some (k / prodL (ss.drop (i + 1)) % n)
  | [], _, _, _, h => by simp at h
  | m :: ss, k, 0, n, h => by
    simp at h
    subst h
    simp [tupN]
  | m :: ss, k, i + 1, n, h => by
    rw [tupN, List.getElem?_cons_succ, List.drop_succ_cons]
    exact tup_at (by simpa using h)

theorem prod_drop {ss : List Nat} {i n : Nat} (h : ss[i]? = some n) : prodL (ss.drop i) = n * prodL (ss.drop (i + 1)) := by
  rw [drop_step h, prodL]

theorem tup_drop {ss : List Nat} {k i n : Nat} (h : ss[i]? = some n) : (tupN ss k).drop i = (k / prodL (ss.drop (i + 1)) % n) :: (tupN ss k).drop (i + 1) := drop_step (tup_at h)

theorem lens_at {ss cs : List Int} {j m y : Nat} (hx : cs[j]? = some (m : Int)) (hy : ss[m]? = some (y : Int)) : (lensL ss cs)[j]? = some y := by
  unfold lensL
  rw [List.getElem?_map, hx]
  simp [hy]

set_option maxRecDepth 100000 in
set_option maxHeartbeats 6400000 in
theorem refNth_any (ss cs : List Int) (k0 : Nat) (sv cv : Value) (w : World) (hs : IntsV w sv ss) (hc : IntsV w cv cs) (hsd : soundB ss = true) (hco : cs.all (colB ss.length) = true) (hc3 : cs.length ≤ 3) (hk0 : k0 ≤ 100000) :
    Calls Tryz.prog 46 #[sv, cv, .int .i64 (k0 : Int)] w fun e w' => ∃ C, e = .returned (.slice (some ⟨w.heap.size, 0, none⟩) cs.length C) ∧ TupAt w' w.heap.size (tupN (lensL ss cs) k0) ∧ w.heap.size < w'.heap.size ∧ Below w.heap.size w w' := by
  obtain ⟨p, cap, g, o, rfl, hp, hci⟩ := hs
  obtain ⟨pc, capc, gc, oc, rfl, hpc, hcci⟩ := hc
  have hmk := run_make_row' (P := Tryz.prog) 23 3 (.int .i64 0) 8 Tryz.underlying23 infoI rfl .i64 .i64 cs.length (by omega) (by omega)
  have hll := lens_len ss cs
  have hlp := lens_pos hsd hco
  have HP := hidden hp
  have HCI := hidden hci
  have HPC := hidden hpc
  have HCC := hidden hcci
  have HSD := hidden hsd
  have HCO := hidden hco
  have HLL := hidden hll
  have HLP := hidden hlp
  have HC3 := hidden hc3
  clear hp hci hpc hcci hsd hco hll hlp
  go_enter Tryz.func46, Tryz.ntmps46
  go_wp2_with fail
  obtain ⟨W1, hW1⟩ : ∃ W1, W1 = w.alloc (.cells (madeCells #[.int .i64 0] cs.length) 3) := ⟨_, rfl⟩
  have hB1 : Below w.heap.size w W1 := by rw [hW1]; exact (Below.refl _ _).alloc (Nat.le_refl _) _
  have hz1 : W1.heap.size = w.heap.size + 1 := by rw [hW1]; simp
  have hT1 : TupAt W1 w.heap.size (List.replicate cs.length 0) := by rw [hW1]; exact TupAt.made w cs.length
  rw [← hW1]
  have HB1 := hidden hB1
  have HT1 := hidden hT1
  have HZ1 := hidden hz1
  clear hW1 hB1 hT1 hz1 hmk
  go_loopw [2, 8] (fun kv i wr => ∃ m K : Nat, m ≤ cs.length ∧ K ≤ 100000 ∧ kv = .int .i64 (K : Int) ∧ i = .int .i64 ((m : Int) - 1) ∧ ∃ z : List Nat, Hid (K = k0 / prodL ((lensL ss cs).drop m) ∧ z.length = m ∧ TupAt wr w.heap.size (z ++ (tupN (lensL ss cs) k0).drop m) ∧ OnlyAt w.heap.size W1 wr)) (fun _ i _ => (intOf i + 1).toNat)
  case atStart =>
    refine ⟨cs.length, k0, Nat.le_refl _, hk0, rfl, rfl, List.replicate cs.length 0, ?_⟩
    have h1 : (lensL ss cs).drop cs.length = [] := List.drop_eq_nil_of_le (by rw [HLL.out]; exact Nat.le_refl _)
    have h2 : (tupN (lensL ss cs) k0).drop cs.length = [] := List.drop_eq_nil_of_le (by rw [tup_len, HLL.out]; exact Nat.le_refl _)
    refine ⟨by rw [h1]; simp [prodL], by simp, ?_, OnlyAt.refl _ _⟩
    rw [h2, List.append_nil]; exact HT1.out
  case round =>
    obtain ⟨m, K, hm, hK, rfl, hi, z, hh⟩ := hrel
    rcases Nat.eq_zero_or_pos m with rfl | hpos
    · have e0 : ((0 : Nat) : Int) - 1 = -1 := rfl
      rw [e0] at hi
      subst hi
      go_wp2_with fail
      go_ret
      obtain ⟨h1, h2, h3, h4⟩ := hh.out
      have hz0 : z = [] := List.length_eq_zero_iff.1 h2
      rw [hz0, List.nil_append, List.drop_zero] at h3
      exact ⟨_, rfl, h3, by rw [h4.size, HZ1.out]; omega, HB1.out.trans (h4.below (Nat.le_refl _))⟩
    · obtain ⟨j, rfl⟩ : ∃ j, m = j + 1 := ⟨m - 1, by omega⟩
      have e1 : ((j + 1 : Nat) : Int) - 1 = (j : Int) := by omega
      rw [e1] at hi
      subst hi
      obtain ⟨h1, h2, h3, h4⟩ := hh.out
      have hx : cs[j]? = some cs[j] := List.getElem?_eq_getElem (by omega)
      generalize cs[j] = x at hx
      obtain ⟨mm, rfl, hmm⟩ := cols_at HCO.out hx
      have hy0 : ss[mm]? = some ss[mm] := List.getElem?_eq_getElem hmm
      generalize ss[mm] = y at hy0
      obtain ⟨y, rfl, hy1, hy2⟩ := sound_at HSD.out hy0
      obtain ⟨rfl, hg⟩ := HPC.out (fun h => by rw [h] at hx; simp at hx)
      obtain ⟨rfl, hgs⟩ := HP.out (fun h => by rw [h] at hy0; simp at hy0)
      have ci : wr.cell? ⟨gc, oc + j, none⟩ = some (.int .i64 (mm : Int)) := (World.cell?_of_block (a := ⟨gc, oc + j, none⟩) ((h4.block gc (Nat.ne_of_lt hg)).trans (HB1.out.block gc hg))).trans (HCC.out j _ hx)
      have cj : wr.cell? ⟨g, o + mm, none⟩ = some (.int .i64 (y : Int)) := (World.cell?_of_block (a := ⟨g, o + mm, none⟩) ((h4.block g (Nat.ne_of_lt hgs)).trans (HB1.out.block g hgs))).trans (HCI.out mm _ hy0)
      have hly := lens_at hx hy0
      obtain ⟨z', u, rfl⟩ : ∃ z' u, z = z' ++ [u] := ⟨z.dropLast, z.getLast (fun h => by rw [h] at h2; simp at h2), (List.dropLast_concat_getLast _).symm⟩
      have hz'l : z'.length = j := by simpa using h2
      rw [List.append_assoc] at h3
      have hput := TupAt.put (a := z') (x := u) h3 (K % y)
      rw [hz'l] at hput
      have c0 : wr.cell? ⟨w.heap.size, j, none⟩ = some (.int .i64 (u : Int)) := by
        have := h3.1 j u (by rw [List.getElem?_append_right (by omega), hz'l]; simp)
        exact this
      have f0 : wr.frozen? ⟨w.heap.size, j, none⟩ = false := h3.2 j (by simp; omega)
      have hjz : (j : Int) < (cs.length : Int) := by omega
      have hmz : (mm : Int) < (ss.length : Int) := by omega
      have hj0 : ¬ (j : Int) < 0 := by omega
      have hj1 : (0 : Int) ≤ (j : Int) := by omega
      have hgw : g ≠ w.heap.size := Nat.ne_of_lt hgs
      have hgcw : gc ≠ w.heap.size := Nat.ne_of_lt hg
      have hwg : w.heap.size ≠ g := fun h => hgw h.symm
      have hwgc : w.heap.size ≠ gc := fun h => hgcw h.symm
      have hcast : ((K : Int) % (y : Int)) = ((K % y : Nat) : Int) := (Int.natCast_emod K y).symm
      have hcast2 : ((K : Int) / (y : Int)) = ((K / y : Nat) : Int) := (Int.natCast_ediv K y).symm
      obtain ⟨W2, hW2⟩ : ∃ W2, W2 = wr.setCell ⟨w.heap.size, j, none⟩ (.int .i64 ((K : Int) % (y : Int))) := ⟨_, rfl⟩
      have hO2 : OnlyAt w.heap.size W1 W2 := by rw [hW2]; exact h4.set _ _
      have hT2 : TupAt W2 w.heap.size (z' ++ (K % y) :: (tupN (lensL ss cs) k0).drop (j + 1)) := by rw [hW2, hcast]; simpa using hput
      have di : W2.cell? ⟨gc, oc + j, none⟩ = some (.int .i64 (mm : Int)) := (World.cell?_of_block (a := ⟨gc, oc + j, none⟩) ((hO2.block gc hgcw).trans (HB1.out.block gc hg))).trans (HCC.out j _ hx)
      have dj : W2.cell? ⟨g, o + mm, none⟩ = some (.int .i64 (y : Int)) := (World.cell?_of_block (a := ⟨g, o + mm, none⟩) ((hO2.block g hgw).trans (HB1.out.block g hgs))).trans (HCI.out mm _ hy0)
      have hKd : K / y ≤ 100000 := Nat.le_trans (Nat.div_le_self _ _) hK
      have hq0 : 0 ≤ (K : Int) / (y : Int) := by rw [hcast2]; exact Int.natCast_nonneg _
      have hq1 : (K : Int) / (y : Int) ≤ 100000 := by rw [hcast2]; exact Int.ofNat_le.2 hKd
      have HR : Hid (K / y = k0 / prodL ((lensL ss cs).drop j) ∧ z'.length = j ∧ TupAt W2 w.heap.size (z' ++ (tupN (lensL ss cs) k0).drop j) ∧ OnlyAt w.heap.size W1 W2) := by
        refine ⟨?_, hz'l, ?_, hO2⟩
        · rw [prod_drop hly, h1, Nat.div_div_eq_div_mul, Nat.mul_comm]
        · rw [tup_drop hly, ← h1]; exact hT2
      have HW2 := hidden hW2
      have HC2 := hidden hcast2
      clear hh h1 h2 h3 h4 hx hy0 hly hput hT2 hO2 hcast hcast2 hz'l
      go_wp2_with fail
      rw [← hW2]
      clear hW2 c0 f0 ci cj
      go_wp2_with fail
      go_roundw
      case rel => exact ⟨j, K / y, by omega, hKd, by rw [← HC2.out], rfl, z', HR⟩
      case measure => simp [intOf]

/-- The place of a tuple, as the reference looks for it. -/
theorem place_at {ss : List Nat} (hp : Pos ss) {t : List Nat} (h : InL ss t) : (tups ss)[hornL ss t]? = some t := by
  rw [tups_get ss _ (horn_lt h), tup_horn hp h]

end Go.Proofs.YtfmoophjdgejeaaGreatDoor
