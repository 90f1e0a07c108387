import Derived.Test.YtfmoophjdgejeaaGreatDoorEg
/-
  CellsNumbers.
-/
namespace Go.Proofs.YtfmoophjdgejeaaGreatDoor
open Go.RowKit Go.Shelf Go.Lib
attribute [local go_sem] Oper.semAt_some

def ansX (o : Option (Nat × List Nat)) : Nat := match o with | some x => x.1 | none => 0
def ansL (o : Option (Nat × List Nat)) : List Nat := match o with | some x => x.2 | none => []
def ansB (o : Option (Nat × List Nat)) : Bool := match o with | some _ => true | none => false

theorem nil_ints (w : World) : IntsV w (.slice none 0 0) (natL []) := ⟨none, 0, 0, 0, rfl, fun h => absurd rfl h, fun i z h => by simp [natL] at h⟩

theorem tupAt_ints' {w : World} {T C : Nat} {l : List Nat} (h : TupAt w T l) (hT : T < w.heap.size) : IntsV w (.slice (some ⟨T, 0, none⟩) l.length C) (natL l) := by
  refine ⟨some ⟨T, 0, none⟩, C, T, 0, by rw [natL_len], fun _ => ⟨rfl, hT⟩, fun i z hz => ?_⟩
  have hi : i < l.length := by have := (List.getElem?_eq_some_iff.1 hz).1; rwa [natL_len] at this
  rw [natL_get (List.getElem?_eq_getElem hi)] at hz
  cases hz
  rw [Nat.zero_add]
  exact h.1 i _ (List.getElem?_eq_getElem hi)

theorem ans_len {ss : List Int} {ts : List Tab} {isS : Bool} {c : Int} : (ansL (cellAt (cellsOf ss ts isS) c)).length ≤ 3 := by
  cases h : cellAt (cellsOf ss ts isS) c with
  | none => simp [ansL]
  | some x =>
    unfold cellAt at h
    split at h
    · by_cases hv : validB ss ts = true
      · exact (at_len hv h).1
      · unfold cellsOf at h
        rw [if_neg hv] at h
        simp at h
    · cases h

set_option maxRecDepth 100000 in
set_option maxHeartbeats 12800000 in
theorem numbersLaw_walk (ss : List Int) (ts : List Tab) (z : Int) (l : List Int) (c : Int) (sv tv lv : Value) (w : World) (hs : IntsV w sv ss) (ht : TabsV w tv ts) (hlv : IntsV w lv l) (hm : MaxAt w) (hl : ss.length ≤ 1048576) (hlt : ts.length ≤ 1048576) (hll : l.length ≤ 1048576)
    (hc1 : c ≤ 9223372036854775807) :
    Calls Tryz.prog 4 #[sv, tv, .int .i64 z, lv, .int .i64 c] w fun e w' => e = .returned (.bool true) ∧ Below w.heap.size w w' := by
  have haw := awake_any w hm
  have hfew := fun w' (h : Below w.heap.size w w') => few_any ss ts sv tv w' (hs.later h) (ht.later h) hl hlt
  have hs2 := hs
  have ht2 := ht
  have hlv2 := hlv
  obtain ⟨p, cap, g, o, rfl, _, _⟩ := hs
  obtain ⟨q, tcap, tg, to, ks, rfl, _, _⟩ := ht
  obtain ⟨pt, capt, gt, ot, rfl, _, _⟩ := hlv
  by_cases hf : fewB ss ts = true
  · obtain ⟨hf1, hf2, hf3⟩ := few_parts hf
    rw [hf] at hfew
    by_cases h20 : 20 < l.length
    · have h20z : (20 : Int) < (l.length : Int) := by omega
      have HFEW := hidden hfew
      clear hs2 ht2 hlv2 hm hl hlt hll hf hf1 hf2 hf3 hfew h20
      go_enter Tryz.func4, Tryz.ntmps4
      go_wp2_with fail
      (with_reducible refine haw.mono ?_)
      rintro e w1 ⟨rfl, hB1⟩
      have hfw := HFEW.out w1 hB1
      have HB1 := hidden hB1
      clear hB1 haw HFEW
      go_wp2_with fail
      (with_reducible refine hfw.mono ?_)
      rintro e w2 ⟨rfl, hw2⟩
      rw [hw2]
      clear hw2 hfw
      go_wp2_with fail
      go_ret
      exact ⟨rfl, HB1.out⟩
    · have h20z : ¬ (20 : Int) < (l.length : Int) := by omega
      have hsm : ∀ t ∈ ts, t.name.size ≤ 4096 ∧ t.cols.length ≤ 4611686018427387904 := fun t h => ⟨by have := (hf1 t h).1; omega, by have := (hf1 t h).2; omega⟩
      have hsm2 : ∀ t ∈ ts, t.name.size ≤ 4096 ∧ t.cols.length ≤ 1048576 := fun t h => ⟨by have := (hf1 t h).1; omega, by have := (hf1 t h).2; omega⟩
      have HCE : Hid (∀ w', Below w.heap.size w w' → Calls Tryz.prog 20 #[.slice p ss.length cap, .slice q ts.length tcap, .int .i64 z, .slice pt l.length capt] w' fun e w2 => e = .returned (.tuple #[.int .i64 (cellB ss ts z l).1, .int .i64 (cellB ss ts z l).2]) ∧ Below w'.heap.size w' w2) :=
        fun w' h => cellOf_any ss ts z l _ _ _ w' (hs2.later h) (ht2.later h) (hlv2.later h) (by omega) (by omega) (by omega) hsm (hm.keep h)
      have HRC : Hid (∀ w', Below w.heap.size w w' → Calls Tryz.prog 21 #[.slice p ss.length cap, .slice q ts.length tcap, .int .i64 z, .slice pt l.length capt] w' fun e w2 => e = .returned (.tuple #[.int .i64 (cellB ss ts z l).1, .int .i64 (cellB ss ts z l).2]) ∧ Below w'.heap.size w' w2) :=
        fun w' h => refCell_any ss ts z l _ _ _ w' (hs2.later h) (ht2.later h) (hlv2.later h) hl hlt hll hsm2
      have HTU : Hid (∀ isS w', Below w.heap.size w w' → Calls Tryz.prog 22 #[.slice p ss.length cap, .slice q ts.length tcap, .bool isS, .int .i64 c] w' fun e w2 =>
          ∃ P C, e = .returned (.tuple #[.int .i64 (ansX (cellAt (cellsOf ss ts isS) c) : Int), .slice P (ansL (cellAt (cellsOf ss ts isS) c)).length C, .bool (ansB (cellAt (cellsOf ss ts isS) c))]) ∧ Hid (IntsV w2 (.slice P (ansL (cellAt (cellsOf ss ts isS) c)).length C) (natL (ansL (cellAt (cellsOf ss ts isS) c)))) ∧ Below w'.heap.size w' w2) :=
        fun isS w' h => (tuple_any ss ts isS c _ _ w' (hs2.later h) (ht2.later h) (by omega) (by omega) hsm (hm.keep h)).mono (by
          rintro e w2 ⟨hb, ⟨y, T, C, h1, rfl, _, h3, h4⟩ | ⟨h1, rfl⟩⟩
          · rw [h1]; exact ⟨_, C, rfl, tupAt_ints' h4 h3, hb⟩
          · rw [h1]; exact ⟨none, 0, rfl, nil_ints w2, hb⟩)
      have HRT : Hid (∀ isS w', Below w.heap.size w w' → Calls Tryz.prog 23 #[.slice p ss.length cap, .slice q ts.length tcap, .bool isS, .int .i64 c] w' fun e w2 =>
          ∃ P C, e = .returned (.tuple #[.int .i64 (ansX (cellAt (cellsOf ss ts isS) c) : Int), .slice P (ansL (cellAt (cellsOf ss ts isS) c)).length C, .bool (ansB (cellAt (cellsOf ss ts isS) c))]) ∧ Hid (IntsV w2 (.slice P (ansL (cellAt (cellsOf ss ts isS) c)).length C) (natL (ansL (cellAt (cellsOf ss ts isS) c)))) ∧ Below w'.heap.size w' w2) :=
        fun isS w' h => (refTuple_any ss ts isS c _ _ w' (hs2.later h) (ht2.later h) hl hlt hsm2 hc1).mono (by
          rintro e w2 ⟨hb, ⟨y, T, C, h1, rfl, h3, h4⟩ | ⟨h1, rfl⟩⟩
          · rw [h1]; exact ⟨_, C, rfl, tupAt_ints' h4 h3, hb⟩
          · rw [h1]; exact ⟨none, 0, rfl, nil_ints w2, hb⟩)
      have HIN : Hid (∀ isS w' P C P' C', IntsV w' (.slice P (ansL (cellAt (cellsOf ss ts isS) c)).length C) (natL (ansL (cellAt (cellsOf ss ts isS) c))) → IntsV w' (.slice P' (ansL (cellAt (cellsOf ss ts isS) c)).length C') (natL (ansL (cellAt (cellsOf ss ts isS) c))) →
          Calls Tryz.prog 10 #[.slice P (ansL (cellAt (cellsOf ss ts isS) c)).length C, .slice P' (ansL (cellAt (cellsOf ss ts isS) c)).length C'] w' fun e w2 => e = .returned (.bool true) ∧ ∃ q, w2 = w'.drewN q) := fun isS w' P C P' C' h1 h2 => by
        have h3 := refInts_any _ _ _ _ w' h1 h2 (by rw [natL_len]; have := ans_len (ss := ss) (ts := ts) (isS := isS) (c := c); omega) (by rw [natL_len]; have := ans_len (ss := ss) (ts := ts) (isS := isS) (c := c); omega)
        rw [decide_eq_true rfl] at h3
        exact h3
      have HFEW := hidden hfew
      obtain ⟨r1, hr1⟩ : ∃ r, (cellB ss ts z l).1 = r := ⟨_, rfl⟩
      obtain ⟨r2, hr2⟩ : ∃ r, (cellB ss ts z l).2 = r := ⟨_, rfl⟩
      rw [hr1, hr2] at HCE HRC
      clear hs2 ht2 hlv2 hm hl hlt hll hf hf1 hf2 hf3 hfew h20 hsm hsm2 hr1 hr2 hc1
      go_enter Tryz.func4, Tryz.ntmps4
      go_wp2_with fail
      (with_reducible refine haw.mono ?_)
      rintro e w1 ⟨rfl, hB1⟩
      have hfw := HFEW.out w1 hB1
      have hce := HCE.out w1 hB1
      have HB1 := hidden hB1
      clear hB1 haw HFEW
      go_wp2_with fail
      (with_reducible refine hfw.mono ?_)
      rintro e w2 ⟨rfl, hw2⟩
      rw [hw2]
      clear hw2 hfw
      go_wp2_with fail
      (with_reducible refine hce.mono ?_)
      rintro e w3 ⟨rfl, hB3⟩
      have HB3 := hidden (bt HB1.out hB3)
      have hrc := HRC.out w3 HB3.out
      clear hB3 hce HB1
      go_wp2_with fail
      (with_reducible refine hrc.mono ?_)
      rintro e w4 ⟨rfl, hB4⟩
      have hBw := bt HB3.out hB4
      obtain ⟨W4, hW4⟩ : ∃ W4, W4 = w4.alloc (.cells #[.bool true, .bool false] 4) := ⟨_, rfl⟩
      have hB5 : Below w.heap.size w W4 := by rw [hW4]; exact hBw.alloc hBw.size _
      have b0 : W4.cell? ⟨w4.heap.size, 0, none⟩ = some (.bool true) := by rw [hW4]; simp [go_sem]
      have b1 : W4.cell? ⟨w4.heap.size, 1, none⟩ = some (.bool false) := by rw [hW4]; simp [go_sem]
      have hz4 : W4.heap.size = w4.heap.size + 1 := by rw [hW4]; simp
      have HB5 := hidden hB5
      have HBS : Hid (W4.cell? ⟨w4.heap.size, 0, none⟩ = some (.bool true) ∧ W4.cell? ⟨w4.heap.size, 1, none⟩ = some (.bool false) ∧ w4.heap.size < W4.heap.size) := ⟨b0, b1, by omega⟩
      clear hB4 hBw hB5 b0 b1 hz4 hrc HB3
      go_wp2_with fail
      rw [← hW4]
      clear hW4
      go_loopw [60] (fun i wr => ∃ k : Nat, k ≤ 2 ∧ i = .int .i64 k ∧ Hid (Below W4.heap.size W4 wr)) (fun i _ => 2 - (intOf i).toNat)
      case atStart => exact ⟨0, by omega, rfl, Below.refl _ _⟩
      case round =>
        obtain ⟨k, hk, rfl, hBr⟩ := hrel
        by_cases hlt : k < 2
        · obtain ⟨isS, hb⟩ : ∃ isS, wr.cell? ⟨w4.heap.size, k, none⟩ = some (.bool isS) := by
            rcases k with _ | _ | k
            · exact ⟨true, (hBr.out.cell (p := ⟨w4.heap.size, 0, none⟩) HBS.out.2.2).trans HBS.out.1⟩
            · exact ⟨false, (hBr.out.cell (p := ⟨w4.heap.size, 1, none⟩) HBS.out.2.2).trans HBS.out.2.1⟩
            · omega
          have hkz : (k : Int) < 2 := by omega
          have HBw := hidden (HB5.out.trans (hBr.out.mono HB5.out.size))
          have htu := HTU.out isS wr HBw.out
          have hrt := fun w' h => HRT.out isS w' h
          have hin := HIN.out isS
          generalize ansX (cellAt (cellsOf ss ts isS) c) = X at *
          generalize ansL (cellAt (cellsOf ss ts isS) c) = L at *
          generalize ansB (cellAt (cellsOf ss ts isS) c) = OB at *
          have HRT2 := hidden hrt
          have HIN2 := hidden hin
          have HLT := hidden hlt
          clear hlt hrt hin
          cases OB
          all_goals
            go_wp2_with fail
            (with_reducible refine htu.mono ?_)
            rintro e w6 ⟨P, C, rfl, HI6, hB6⟩
            have hrt := HRT2.out w6 (bt HBw.out hB6)
            have HB6 := hidden (bt hBr.out hB6)
            clear hB6 htu hb
            go_wp2_with fail
            (with_reducible refine hrt.mono ?_)
            rintro e w7 ⟨P', C', rfl, HI7, hB7⟩
            have hin := HIN2.out w7 P C P' C' (HI6.out.later hB7) HI7.out
            have HB7 := hidden (bt HB6.out hB7)
            clear hB7 hrt HI6 HI7
            go_wp2_with fail
            (with_reducible refine hin.mono ?_)
            rintro e w8 ⟨rfl, qn, hw8⟩
            have HB8 : Hid (Below W4.heap.size W4 w8) := by rw [hw8]; exact below_drewN HB7.out qn
            clear hw8 hin
            go_wp2_with fail
            go_roundw
            case rel => exact ⟨k + 1, HLT.out, rfl, HB8.out⟩
            case measure => simp [intOf]; have := HLT.out; omega
        · obtain rfl : k = 2 := by omega
          have HF := hidden (HB5.out.trans (hBr.out.mono HB5.out.size))
          clear hlt hBr
          go_wp2_with fail
          go_ret
          exact ⟨rfl, HF.out⟩
  · have hff : fewB ss ts = false := by simpa using hf
    rw [hff] at hfew
    have HFEW := hidden hfew
    clear hs2 ht2 hlv2 hm hl hlt hll hf hfew hff
    go_enter Tryz.func4, Tryz.ntmps4
    go_wp2_with fail
    (with_reducible refine haw.mono ?_)
    rintro e w1 ⟨rfl, hB1⟩
    have hfw := HFEW.out w1 hB1
    have HB1 := hidden hB1
    clear hB1 haw
    go_wp2_with fail
    (with_reducible refine hfw.mono ?_)
    rintro e w2 ⟨rfl, hw2⟩
    rw [hw2]
    clear hw2 hfw HFEW
    go_wp2_with fail
    go_ret
    exact ⟨rfl, HB1.out⟩

end Go.Proofs.YtfmoophjdgejeaaGreatDoor
