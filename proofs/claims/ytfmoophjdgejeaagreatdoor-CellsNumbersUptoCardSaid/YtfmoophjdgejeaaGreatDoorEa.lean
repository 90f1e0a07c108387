import Derived.Test.YtfmoophjdgejeaaGreatDoorDc
import Derived.IntWalk
/-
  The reference: lists of integers, sizes, numbers of tuples, the tuple with an index.
-/
namespace Go.Proofs.YtfmoophjdgejeaaGreatDoor
open Go.RowKit Go.Shelf Go.Lib
attribute [local go_sem] Oper.semAt_some

set_option maxRecDepth 100000 in
set_option maxHeartbeats 1600000 in
theorem refInts_any (xs ys : List Int) (v u : Value) (w : World) (hx : IntsV w v xs) (hy : IntsV w u ys) (hlx : xs.length ≤ 1048576) (_hly : ys.length ≤ 1048576) :
    Calls Tryz.prog 10 #[v, u] w fun e w' => e = .returned (.bool (decide (xs = ys))) ∧ ∃ q, w' = w.drewN q := by
  obtain ⟨p1, c1, b1, o1, rfl, hp1, hx⟩ := hx
  obtain ⟨p2, c2, b2, o2, rfl, hp2, hy⟩ := hy
  by_cases hl : xs.length = ys.length
  · have hx' : ∀ i, i < xs.length → p1 = some ⟨b1, o1, none⟩ ∧ ∀ q, (w.drewN q).cell? ⟨b1, o1 + i, none⟩ = some (.int .i64 (xs.getD i 0)) := fun i hi => by
      refine ⟨(hp1 (fun h => by rw [h] at hi; exact absurd hi (Nat.not_lt_zero _))).1, fun q => ?_⟩
      have := hx i (xs.getD i 0) (by rw [List.getD_eq_getElem?_getD, List.getElem?_eq_getElem hi]; rfl)
      exact this
    have hy' : ∀ i, i < xs.length → p2 = some ⟨b2, o2, none⟩ ∧ ∀ q, (w.drewN q).cell? ⟨b2, o2 + i, none⟩ = some (.int .i64 (ys.getD i 0)) := fun i hi => by
      refine ⟨(hp2 (fun h => by rw [h, List.length_nil] at hl; omega)).1, fun q => ?_⟩
      have := hy i (ys.getD i 0) (by rw [List.getD_eq_getElem?_getD, List.getElem?_eq_getElem (by omega)]; rfl)
      exact this
    have hfin : (∀ j, j < xs.length → xs.getD j 0 = ys.getD j 0) → decide (xs = ys) = true := fun h => decide_eq_true (by
      apply List.ext_getElem hl
      intro i h1 h2
      have := h i h1
      rwa [List.getD_eq_getElem?_getD, List.getD_eq_getElem?_getD, List.getElem?_eq_getElem h1, List.getElem?_eq_getElem h2] at this)
    have hbad : ∀ j, xs.getD j 0 ≠ ys.getD j 0 → decide (xs = ys) = false := fun j h => decide_eq_false fun e => h (by rw [e])
    rw [← hl]
    generalize decide (xs = ys) = r at *
    generalize hn : xs.length = n at *
    have HF : Hid (((∀ j, j < n → xs.getD j 0 = ys.getD j 0) → r = true) ∧ ∀ j, xs.getD j 0 ≠ ys.getD j 0 → r = false) := ⟨hfin, hbad⟩
    have HX := hidden hx'
    have HY := hidden hy'
    clear hx hy hx' hy' hfin hbad hl hn hp1 hp2
    go_enter Tryz.func10, Tryz.ntmps10
    go_wp2
    go_loopw [5] (fun i wr => ∃ k q : Nat, k ≤ n ∧ i = .int .i64 k ∧ wr = w.drewN q ∧ Hid (∀ j, j < k → xs.getD j 0 = ys.getD j 0)) (fun i _ => n - (intOf i).toNat)
    case atStart => exact ⟨0, 0, Nat.zero_le _, rfl, rfl, fun j hj => by omega⟩
    case round =>
      obtain ⟨k, q, hk, rfl, rfl, hall⟩ := hrel
      by_cases hlt : k < n
      · obtain ⟨rfl, g1⟩ := HX.out k hlt
        obtain ⟨rfl, g2⟩ := HY.out k hlt
        have hlz : (k : Int) < (n : Int) := by omega
        have hs : xs.getD k 0 = ys.getD k 0 → Hid (∀ j, j < k + 1 → xs.getD j 0 = ys.getD j 0) := fun e j hj => by
          rcases Nat.lt_or_eq_of_le (Nat.le_of_lt_succ hj) with h | rfl
          · exact hall.out j h
          · exact e
        have hb := HF.out.2 k
        generalize xs.getD k 0 = x at *
        generalize ys.getD k 0 = y at *
        clear hall
        by_cases e : x = y
        · have HS := hs e
          subst e
          clear hs hb
          go_wp2
          go_quiet (fail)
          go_wp2
          go_roundw
          case rel => exact ⟨k + 1, _, by omega, by go_num, rfl, HS⟩
          case measure => simp [intOf]; omega
        · have HB : Hid (r = false) := hb e
          have e1 : (x == y) = false := beq_eq_false_iff_ne.2 e
          have e2 : (x != y) = true := by rw [bne_iff_ne]; exact e
          clear hs hb e
          go_wp2
          go_quiet (fail)
          go_wp2
          go_ret
          exact ⟨by rw [HB.out]; rfl, _, World.drewN_drewN _ _ _⟩
      · obtain rfl : k = n := by omega
        have HB : Hid (r = true) := HF.out.1 hall.out
        clear hlt hall
        go_wp2
        go_ret
        exact ⟨by rw [HB.out]; rfl, _, rfl⟩
  · have e : decide (xs = ys) = false := decide_eq_false fun h => hl (by rw [h])
    rw [e]
    have hne : ((xs.length : Int) != (ys.length : Int)) = true := by rw [bne_iff_ne]; omega
    have hne' : ((xs.length : Int) == (ys.length : Int)) = false := by rw [beq_eq_false_iff_ne]; omega
    generalize xs.length = n at *
    generalize ys.length = m at *
    clear e hl hx hy hp1 hp2
    go_enter Tryz.func10, Tryz.ntmps10
    go_wp2
    go_ret
    exact ⟨rfl, 0, rfl⟩

set_option maxRecDepth 100000 in
set_option maxHeartbeats 1600000 in
theorem refSound_any (ss : List Int) (sv : Value) (w : World) (hs : IntsV w sv ss) (hl : ss.length ≤ 1048576) :
    Calls Tryz.prog 33 #[sv] w fun e w' => e = .returned (.bool (soundB ss)) ∧ w' = w := by
  obtain ⟨p, cap, g, o, rfl, hp, hc⟩ := hs
  obtain ⟨r, hr⟩ : ∃ r, soundB ss = r := ⟨_, rfl⟩
  rw [hr]
  have HP := hidden hp
  have HC := hidden hc
  have HR := hidden hr
  clear hp hc hr
  go_enter Tryz.func33, Tryz.ntmps33
  go_wp2_with fail
  go_loop [3] (fun i => ∃ k : Nat, k ≤ ss.length ∧ i = .int .i64 k ∧ Hid (soundB (ss.drop k) = r)) (fun i => ss.length - (intOf i).toNat)
  case atStart => exact ⟨0, Nat.zero_le _, rfl, HR.out⟩
  case round =>
    obtain ⟨k, hk, rfl, hh⟩ := hrel
    by_cases hlt : k < ss.length
    · have hz : ss[k]? = some ss[k] := List.getElem?_eq_getElem hlt
      generalize ss[k] = z at hz
      obtain ⟨rfl, hg⟩ := HP.out (fun h => by rw [h] at hlt; exact absurd hlt (Nat.not_lt_zero _))
      have ci : w.cell? ⟨g, o + k, none⟩ = some (.int .i64 z) := HC.out k z hz
      have hltz : (k : Int) < (ss.length : Int) := by omega
      have hd := sound_drop hz
      rw [hh.out] at hd
      clear hh hz
      by_cases h1 : z < 1
      · have e : sizeB z = false := by unfold sizeB; rw [decide_eq_false (by omega)]; rfl
        rw [e] at hd
        have HD := hidden hd
        clear hd e
        go_wp2_with fail
        go_ret
        exact ⟨by rw [HD.out]; rfl, rfl⟩
      · by_cases h2 : 6 < z
        · have e : sizeB z = false := by unfold sizeB; rw [decide_eq_false (show ¬ z ≤ 6 by omega)]; simp
          rw [e] at hd
          have HD := hidden hd
          clear hd e
          go_wp2_with fail
          go_ret
          exact ⟨by rw [HD.out]; rfl, rfl⟩
        · have e : sizeB z = true := by unfold sizeB; rw [decide_eq_true (show 1 ≤ z by omega), decide_eq_true (show z ≤ 6 by omega)]; rfl
          rw [e, Bool.true_and] at hd
          have HD := hidden hd
          clear hd e
          go_wp2_with fail
          go_round
          case rel => exact ⟨k + 1, hlt, by go_num, HD.out.symm⟩
          case measure => simp [intOf]; omega
    · obtain rfl : k = ss.length := by omega
      have hltz : ¬ (ss.length : Int) < (ss.length : Int) := by omega
      have hh2 := hh.out
      rw [List.drop_length] at hh2
      have HE : Hid (r = true) := hh2.symm
      clear hlt hh hh2
      go_wp2_with fail
      go_ret
      exact ⟨by rw [HE.out]; rfl, rfl⟩

/-- The number of tuples, as the reference counts. -/
def cntB (ss cs : List Int) : Nat := if cs.length ≤ 3 ∧ soundB ss = true ∧ cs.all (colB ss.length) = true then prodL (lensL ss cs) else 0

theorem refStrict_any (z : Int) (w : World) : Calls Tryz.prog 36 #[.int .i64 z] w fun e w' => e = .returned (.bool (strictB z)) ∧ w' = w := by
  by_cases h0 : z = 0
  · have b0 : (z == 0) = true := by rw [h0]; rfl
    have e : strictB z = true := by unfold strictB; rw [b0]; rfl
    rw [e]
    clear h0 e
    go_enter Tryz.func36, Tryz.ntmps36
    go_wp2_with fail
    go_ret
    exact ⟨rfl, rfl⟩
  · have b0 : (z == 0) = false := by rw [beq_eq_false_iff_ne]; exact h0
    obtain ⟨r, hr⟩ : ∃ r, (z == 1) = r := ⟨_, rfl⟩
    have e : strictB z = r := by unfold strictB; rw [b0, ← hr]; rfl
    rw [e]
    clear h0 e
    cases r with
    | true =>
      go_enter Tryz.func36, Tryz.ntmps36
      go_wp2_with fail
      go_ret
      exact ⟨rfl, rfl⟩
    | false =>
      go_enter Tryz.func36, Tryz.ntmps36
      go_wp2_with fail
      go_ret
      exact ⟨rfl, rfl⟩

set_option maxRecDepth 100000 in
set_option maxHeartbeats 3200000 in
theorem refNumber_any (ss cs : List Int) (sv cv : Value) (w : World) (hs : IntsV w sv ss) (hc : IntsV w cv cs) (hl : ss.length ≤ 1048576) (hlc : cs.length ≤ 1048576) :
    Calls Tryz.prog 34 #[sv, cv] w fun e w' => e = .returned (.int .i64 (cntB ss cs : Nat)) ∧ w' = w := by
  have hsn := refSound_any ss sv w hs hl
  obtain ⟨p, cap, g, o, rfl, hp, hci⟩ := hs
  obtain ⟨pc, capc, gc, oc, rfl, hpc, hcci⟩ := hc
  obtain ⟨r, hr⟩ : ∃ r, cntB ss cs = r := ⟨_, rfl⟩
  rw [hr]
  have HP := hidden hp
  have HCI := hidden hci
  have HPC := hidden hpc
  have HCC := hidden hcci
  have HR := hidden hr
  clear hp hci hpc hcci hr
  by_cases h3 : 3 < cs.length
  · have h3z : (3 : Int) < (cs.length : Int) := by omega
    have H0 : Hid (r = 0) := by show _ = _; rw [← HR.out]; unfold cntB; rw [if_neg (by omega)]
    clear hl hlc h3 hsn
    go_enter Tryz.func34, Tryz.ntmps34
    go_wp2_with fail
    go_ret
    exact ⟨by rw [H0.out]; rfl, rfl⟩
  · have h3z : ¬ (3 : Int) < (cs.length : Int) := by omega
    by_cases hsd : soundB ss = true
    · rw [hsd] at hsn
      have HSD := hidden hsd
      have HC3 : Hid (cs.length ≤ 3) := by show _ ≤ _; omega
      clear hsd h3
      go_enter Tryz.func34, Tryz.ntmps34
      go_wp2_with fail
      (with_reducible refine hsn.mono ?_)
      rintro e w1 ⟨rfl, hw1⟩
      rw [hw1]
      clear hw1 hsn
      go_wp2_with fail
      go_loop [5, 6] (fun pr i => ∃ k : Nat, k ≤ cs.length ∧ pr = .int .i64 (prodL (lensL ss (cs.take k)) : Nat) ∧ i = .int .i64 k ∧ Hid ((cs.take k).all (colB ss.length) = true)) (fun _ i => cs.length - (intOf i).toNat)
      case atStart => exact ⟨0, Nat.zero_le _, rfl, rfl, rfl⟩
      case round =>
        obtain ⟨k, hk, rfl, rfl, hh⟩ := hrel
        by_cases hlt : k < cs.length
        · have hx : cs[k]? = some cs[k] := List.getElem?_eq_getElem hlt
          generalize cs[k] = x at hx
          obtain ⟨rfl, hg⟩ := HPC.out (fun h => by rw [h] at hlt; exact absurd hlt (Nat.not_lt_zero _))
          have ci : w.cell? ⟨gc, oc + k, none⟩ = some (.int .i64 x) := HCC.out k x hx
          have hkz : (k : Int) < (cs.length : Int) := by omega
          have HX := hidden hx
          clear hx
          by_cases hgood : 0 ≤ x ∧ x < ss.length
          · obtain ⟨m, rfl⟩ : ∃ m : Nat, x = m := ⟨x.toNat, by omega⟩
            have hm : m < ss.length := by omega
            have hy0 : ss[m]? = some ss[m] := List.getElem?_eq_getElem hm
            generalize ss[m] = y at hy0
            obtain ⟨y, rfl, hy1, hy2⟩ := sound_at HSD.out hy0
            obtain ⟨rfl, hgs⟩ := HP.out (fun h => by rw [h] at hm; exact absurd hm (Nat.not_lt_zero _))
            have cj : w.cell? ⟨g, o + m, none⟩ = some (.int .i64 (y : Int)) := HCI.out m _ hy0
            have hm0 : ¬ (m : Int) < 0 := by omega
            have hm1 : (m : Int) < (ss.length : Int) := by omega
            have hm2 : ¬ (ss.length : Int) ≤ (m : Int) := by omega
            have HST : Hid ((cs.take (k + 1)).all (colB ss.length) = true) := by
              show _ = _
              rw [take_step HX.out, List.all_append, hh.out]
              simp [colB, hm]
            have hln : lensL ss (cs.take (k + 1)) = lensL ss (cs.take k) ++ [y] := by
              have h := lens_take (ss := ss) HX.out
              rw [Int.toNat_natCast, List.getD_eq_getElem?_getD, hy0] at h
              exact h
            have HPR : Hid (prodL (lensL ss (cs.take (k + 1))) = prodL (lensL ss (cs.take k)) * y) := by
              show _ = _
              rw [hln, prod_snoc]
            have hpk : prodL (lensL ss (cs.take k)) ≤ 216 := prod_le (by rw [lens_len, List.length_take]; have := HC3.out; omega) (fun n hn => (lens_pos HSD.out hh.out n hn).2)
            have hle : prodL (lensL ss (cs.take k)) * y ≤ 216 * 6 := Nat.mul_le_mul hpk hy2
            have hmm : ((prodL (lensL ss (cs.take k)) : Nat) : Int) * (y : Int) = ((prodL (lensL ss (cs.take k)) * y : Nat) : Int) := by rw [Int.natCast_mul]
            have HM := hidden hmm
            have hm3 : ((prodL (lensL ss (cs.take k)) : Nat) : Int) * (y : Int) ≤ 1296 := by rw [hmm]; omega
            have hm4 : 0 ≤ ((prodL (lensL ss (cs.take k)) : Nat) : Int) * (y : Int) := by rw [hmm]; omega
            generalize prodL (lensL ss (cs.take k)) = PP at *
            clear hgood hy0 hln hle hmm hh
            go_wp2_with fail
            go_round
            case rel => exact ⟨k + 1, hlt, by rw [HPR.out, ← HM.out], by go_num, HST⟩
            case measure => simp [intOf]; omega
          · have H0 : Hid (r = 0) := by
              show _ = _
              rw [← HR.out]
              unfold cntB
              rw [if_neg]
              rintro ⟨_, _, h1⟩
              have h2 := List.all_eq_true.1 h1 x (List.mem_of_getElem? HX.out)
              simp only [colB, Bool.and_eq_true, decide_eq_true_eq] at h2
              exact hgood h2
            have hbad : x < 0 ∨ (0 ≤ x ∧ (ss.length : Int) ≤ x) := by omega
            clear hgood hh
            rcases hbad with hb | ⟨hb1, hb⟩
            · go_wp2_with fail
              go_ret
              exact ⟨by rw [H0.out]; rfl, rfl⟩
            · have hb2 : ¬ x < 0 := by omega
              go_wp2_with fail
              go_ret
              exact ⟨by rw [H0.out]; rfl, rfl⟩
        · obtain rfl : k = cs.length := by omega
          have hkz : ¬ (cs.length : Int) < (cs.length : Int) := by omega
          have hco := hh.out
          rw [List.take_length] at hco
          have H0 : Hid (r = prodL (lensL ss cs)) := by
            show _ = _
            rw [← HR.out]
            unfold cntB
            rw [if_pos ⟨HC3.out, HSD.out, hco⟩]
          clear hh hlt hco
          go_wp2_with fail
          go_ret
          exact ⟨by rw [H0.out]; rfl, rfl⟩
    · have hsf : soundB ss = false := by simpa using hsd
      rw [hsf] at hsn
      have H0 : Hid (r = 0) := by show _ = _; rw [← HR.out]; unfold cntB; rw [if_neg (fun h => hsd h.2.1)]
      clear hsd hsf h3
      go_enter Tryz.func34, Tryz.ntmps34
      go_wp2_with fail
      (with_reducible refine hsn.mono ?_)
      rintro e w1 ⟨rfl, hw1⟩
      rw [hw1]
      clear hw1 hsn
      go_wp2_with fail
      go_ret
      exact ⟨by rw [H0.out]; rfl, rfl⟩

end Go.Proofs.YtfmoophjdgejeaaGreatDoor
