import Derived.Test.YtfmoophjdgejeaaGreatDoorEk
import Derived.Test.YtfmoophjdgejeaaGreatDoorDc
import Derived.IntWalk
/-
  CellsReads.
-/
namespace Go.Proofs.YtfmoophjdgejeaaGreatDoor
open Go.RowKit Go.Shelf Go.Lib
attribute [local go_sem] Oper.semAt_some

/-- What stays while the map of texts is written: what the call was given, and one block of its own. -/
def StK (w W4 : World) (B1 : Nat) (wr : World) : Prop := Below w.heap.size w wr ∧ wr.heap[B1]? = W4.heap[B1]? ∧ W4.heap.size ≤ wr.heap.size

theorem StK.later {w W4 wr w' : World} {B1 : Nat} (h : StK w W4 B1 wr) (hB : B1 < W4.heap.size) (hb : Below wr.heap.size wr w') : StK w W4 B1 w' :=
  ⟨h.1.trans (hb.mono h.1.size), (hb.block B1 (Nat.lt_of_lt_of_le hB h.2.2)).trans h.2.1, Nat.le_trans h.2.2 hb.size⟩

theorem StK.grown {w W4 wr w' : World} {B1 b : Nat} (h : StK w W4 B1 wr) (hB : B1 < W4.heap.size) (hg : wr.grownBy w' (some b)) (hb : w.heap.size ≤ b) (hne : B1 ≠ b) : StK w W4 B1 w' :=
  ⟨h.1.grown hg h.1.size (fun k e => by cases e; exact hb), (hg.block B1 (Nat.lt_of_lt_of_le hB h.2.2) (fun e => hne (Option.some.inj e))).trans h.2.1, Nat.le_trans h.2.2 hg.size⟩

/-- The texts that have been seen ahead of a cell. -/
def Older (ss : List Int) (ts : List Tab) (isS : Bool) (c : Nat) (s : ByteArray) : Prop :=
  ∃ (S' : Bool) (c' : Nat), s = fmtOf ss ts S' (c' : Int) ∧ c' < (cellsOf ss ts S').length ∧ ((S' = isS ∧ c' < c) ∨ (S' = true ∧ isS = false))

theorem older_not {ss : List Int} {ts : List Tab} {isS : Bool} {c : Nat} {T : List ByteArray} (h : validB ss ts = true) (hc : c < (cellsOf ss ts isS).length) (hT : ∀ s ∈ T, Older ss ts isS c s) : fmtOf ss ts isS (c : Int) ∉ T := fun hm => by
  obtain ⟨S', c', h1, h2, h3⟩ := hT _ hm
  obtain ⟨e1, e2⟩ := fmt_inj h hc h2 h1
  rcases h3 with ⟨_, h4⟩ | ⟨h4, h5⟩
  · omega
  · rw [e1, h4] at h5; cases h5

theorem older_next {ss : List Int} {ts : List Tab} {isS : Bool} {c : Nat} {T : List ByteArray} (hc : c < (cellsOf ss ts isS).length) (hT : ∀ s ∈ T, Older ss ts isS c s) : ∀ s ∈ fmtOf ss ts isS (c : Int) :: T, Older ss ts isS (c + 1) s := fun s hs => by
  rcases List.mem_cons.1 hs with rfl | hs
  · exact ⟨isS, c, rfl, hc, .inl ⟨rfl, Nat.lt_succ_self c⟩⟩
  · obtain ⟨S', c', h1, h2, h3⟩ := hT s hs
    exact ⟨S', c', h1, h2, h3.imp (fun h => ⟨h.1, Nat.lt_succ_of_lt h.2⟩) id⟩

set_option maxRecDepth 100000 in
set_option maxHeartbeats 25600000 in
theorem readsLaw_walk (ss : List Int) (ts : List Tab) (bl : Int) (sv tv : Value) (w : World) (hs : IntsV w sv ss) (ht : TabsV w tv ts) (hm : MaxAt w) (hl : ss.length ≤ 1048576) (hlt : ts.length ≤ 1048576) (hbl : 0 ≤ bl ∧ bl ≤ 255) :
    Calls Tryz.prog 6 #[sv, tv, .int .u8 bl] w fun e w' => e = .returned (.bool true) ∧ Below w.heap.size w w' := by
  have haw := awake_any w hm
  have hfew := fun w' (h : Below w.heap.size w w') => few_any ss ts sv tv w' (hs.later h) (ht.later h) hl hlt
  have hs2 := hs
  have ht2 := ht
  obtain ⟨p, cap, g, o, rfl, _, _⟩ := hs
  obtain ⟨q, tcap, tg, to, ks, rfl, hqp, hat⟩ := ht
  by_cases hf : fewB ss ts = true
  · obtain ⟨hf1, hf2, hf3⟩ := few_parts hf
    have hsm : ∀ t ∈ ts, t.name.size ≤ 4096 ∧ t.cols.length ≤ 4611686018427387904 := fun t h => ⟨by have := (hf1 t h).1; omega, by have := (hf1 t h).2; omega⟩
    have hva := fun w' (h : Below w.heap.size w w') => validAll_any ss ts _ _ w' (hs2.later h) (ht2.later h) (by omega) (by omega) hsm (hm.keep h)
    rw [hf] at hfew
    by_cases hv : validB ss ts = true
    · rw [hv] at hva
      have HCO : Hid (∀ isS w', Below w.heap.size w w' → Calls Tryz.prog 18 #[.slice p ss.length cap, .slice q ts.length tcap, .bool isS] w' fun e w2 => e = .returned (.int .i64 ((cellsOf ss ts isS).length : Int)) ∧ Below w'.heap.size w' w2) :=
        fun isS w' h => count_any ss ts isS _ _ w' (hs2.later h) (ht2.later h) (by omega) (by omega) hsm (hm.keep h)
      have HFM : Hid (∀ isS (c : Nat) w', Below w.heap.size w w' → Calls Tryz.prog 24 #[.slice p ss.length cap, .slice q ts.length tcap, .bool isS, .int .i64 (c : Int)] w' fun e w2 => e = .returned (.string (fmtOf ss ts isS (c : Int))) ∧ Below w'.heap.size w' w2) :=
        fun isS c w' h => format_any ss ts isS c _ _ w' (hs2.later h) (ht2.later h) (by omega) (by omega) hsm (hm.keep h)
      have HPA : Hid (∀ (s : ByteArray) w', s.size ≤ 4096 → Below w.heap.size w w' → Calls Tryz.prog 27 #[.slice p ss.length cap, .slice q ts.length tcap, .string s] w' fun e w2 => e = .returned (.tuple #[.int .i64 (parseS ss ts s).1, .int .i64 (parseS ss ts s).2.1, .int .i64 (parseS ss ts s).2.2]) ∧ Below w'.heap.size w' w2) :=
        fun s w' h1 h => parse_any ss ts s _ _ w' (hs2.later h) (ht2.later h) (by omega) (by omega) hsm (hm.keep h) h1
      have hmm := @run_makeMap Tryz.prog
      have HV := hidden hv
      have HFEW := hidden hfew
      have HVA := hidden hva
      have HQP := hidden hqp
      have HAT := hidden hat
      clear hs2 ht2 hqp hat hm hl hlt hf hf1 hf2 hf3 hsm hv hfew hva
      obtain ⟨m, rfl⟩ : ∃ m : Nat, bl = m := ⟨bl.toNat, by omega⟩
      have hm255 : m ≤ 255 := by omega
      clear hbl
      go_enter Tryz.func6, Tryz.ntmps6
      go_wp2_with fail
      (with_reducible refine haw.mono ?_)
      rintro e w1 ⟨rfl, hB1⟩
      have hfw := HFEW.out w1 hB1
      have HB1 := hidden hB1
      clear hB1 haw
      go_wp2_with fail
      (with_reducible refine hfw.mono ?_)
      rintro e w2 ⟨rfl, hw2⟩
      rw [hw2]
      clear hw2 hfw HFEW
      have hvw := HVA.out w1 HB1.out
      go_wp2_with fail
      (with_reducible refine hvw.mono ?_)
      rintro e w3 ⟨rfl, hB3⟩
      have hBw := bt HB1.out hB3
      obtain ⟨b, hb⟩ : ∃ b, b = w3.heap.size := ⟨_, rfl⟩
      obtain ⟨W4, hW4⟩ : ∃ W4, W4 = (w3.alloc (.map #[] 0)).alloc (.cells #[.bool true, .bool false] 4) := ⟨_, rfl⟩
      have hB4 : Below w.heap.size w W4 := by rw [hW4]; exact (hBw.alloc hBw.size _).alloc (by have := hBw.size; simp; omega) _
      have b0 : W4.cell? ⟨b + 1, 0, none⟩ = some (.bool true) := by rw [hW4, hb]; simp [go_sem]
      have b1 : W4.cell? ⟨b + 1, 1, none⟩ = some (.bool false) := by rw [hW4, hb]; simp [go_sem]
      have hz4 : W4.heap.size = b + 2 := by rw [hW4, hb]; simp
      have hwb : w.heap.size ≤ b := by rw [hb]; exact hBw.size
      have hsn : SeenM W4 b 0 [] := by
        rw [hW4, hb]
        exact (SeenM.made w3).later ((Below.refl _ _).alloc (Nat.le_refl _) _)
      have HS4 : Hid (StK w W4 (b + 1) W4 ∧ SeenM W4 b 0 []) := ⟨⟨hB4, rfl, Nat.le_refl _⟩, hsn⟩
      have HBS : Hid (W4.cell? ⟨b + 1, 0, none⟩ = some (.bool true) ∧ W4.cell? ⟨b + 1, 1, none⟩ = some (.bool false) ∧ b + 1 < W4.heap.size ∧ w.heap.size ≤ b) := ⟨b0, b1, by omega, hwb⟩
      clear hB3 hBw hB4 b0 b1 hz4 hwb hsn hvw HVA HB1
      go_wp2_with fail
      rw [← hW4, ← hb]
      clear hW4 hb
      go_loopw [33] (fun i wr => ∃ (k n : Nat) (T : List ByteArray), k ≤ 2 ∧ i = .int .i64 k ∧ Hid (StK w W4 (b + 1) wr ∧ SeenM wr b n T ∧ n ≤ k * 128 ∧ (k = 0 → T = []) ∧ (k = 1 → ∀ s ∈ T, ∃ c', s = fmtOf ss ts true ((c' : Nat) : Int) ∧ c' < (cellsOf ss ts true).length))) (fun i _ => 2 - (intOf i).toNat)
      case atStart => exact ⟨0, 0, [], by omega, rfl, HS4.out.1, HS4.out.2, by omega, fun _ => rfl, fun h => by omega⟩
      case round =>
        obtain ⟨k, n, T, hk, rfl, hh⟩ := hrel
        by_cases hlt : k < 2
        · obtain ⟨hst, hsn, hn, hT0, hT1⟩ := hh.out
          obtain ⟨isS, hb', HKS⟩ : ∃ isS, wr.cell? ⟨b + 1, k, none⟩ = some (.bool isS) ∧ Hid ((k = 0 ∧ isS = true) ∨ (k = 1 ∧ isS = false)) := by
            rcases k with _ | _ | k
            · exact ⟨true, (World.cell?_of_block (a := ⟨b + 1, 0, none⟩) hst.2.1).trans HBS.out.1, .inl ⟨rfl, rfl⟩⟩
            · exact ⟨false, (World.cell?_of_block (a := ⟨b + 1, 1, none⟩) hst.2.1).trans HBS.out.2.1, .inr ⟨rfl, rfl⟩⟩
            · omega
          have hold : ∀ s ∈ T, Older ss ts isS 0 s := fun s hs => by
            rcases HKS.out with ⟨h1, h2⟩ | ⟨h1, h2⟩
            · rw [hT0 h1] at hs; cases hs
            · obtain ⟨c', e1, e2⟩ := hT1 h1 s hs
              exact ⟨true, c', e1, e2, .inr ⟨rfl, h2⟩⟩
          have hkz : (k : Int) < 2 := by omega
          have hco := HCO.out isS wr hst.1
          have HLT := hidden hlt
          have HST := hidden hst
          have HSN := hidden hsn
          have HNN := hidden hn
          have HOLD := hidden hold
          obtain ⟨N, hN⟩ : ∃ N, (cellsOf ss ts isS).length = N := ⟨_, rfl⟩
          have hN128 : N ≤ 128 := by rw [← hN]; exact cellsOf_le HV.out
          rw [hN] at hco
          have HN := hidden hN
          clear hlt hN hst hsn hn hT0 hT1 hold hh
          go_wp2_with fail
          (with_reducible refine hco.mono ?_)
          rintro e w5 ⟨rfl, hB5⟩
          have HST5 := hidden (HST.out.later HBS.out.2.2.1 hB5)
          have HSN5 := hidden (HSN.out.later hB5)
          clear hB5 hco hb' HST HSN
          go_wp2_with fail
          go_loopw [41] (fun i wr => ∃ (c n : Nat) (T : List ByteArray), c ≤ N ∧ i = .int .i64 c ∧ Hid (StK w W4 (b + 1) wr ∧ SeenM wr b n T ∧ n ≤ k * 128 + c ∧ ∀ s ∈ T, Older ss ts isS c s)) (fun i _ => N - (intOf i).toNat)
          case atStart => exact ⟨0, n, T, Nat.zero_le _, rfl, HST5.out, HSN5.out, by have := HNN.out; omega, HOLD.out⟩
          case round =>
            obtain ⟨c, n2, T2, hc, rfl, hh⟩ := hrel
            by_cases hlt2 : c < N
            · have hcl : c < (cellsOf ss ts isS).length := by rw [HN.out]; exact hlt2
              have hx : (cellsOf ss ts isS)[c]? = some ((cellsOf ss ts isS)[c]'hcl) := List.getElem?_eq_getElem _
              generalize (cellsOf ss ts isS)[c]'hcl = x at hx
              obtain ⟨hst, hsn, hn2, hold⟩ := hh.out
              obtain ⟨t, htx, hks, hfm, hwf, hsz, hjn, hne⟩ := fmt_is HV.out hx
              have hno := older_not HV.out hcl hold
              have hnx := older_next hcl hold
              have hfmt := HFM.out isS c wr hst.1
              have hpw := fun s hs => parse_words HV.out hx htx (s := s) hs
              have hxl := (List.getElem?_eq_some_iff.1 htx).1
              obtain ⟨rfl, hg⟩ := HQP.out (fun h => by rw [h] at hxl; exact absurd hxl (Nat.not_lt_zero _))
              obtain ⟨hta, _⟩ := HAT.out x.1 t htx
              rw [hfm] at hno hnx hfmt
              obtain ⟨X, hX⟩ : ∃ X, x.1 = X := ⟨_, rfl⟩
              rw [hX] at hpw hta
              have hXz : (X : Int) < (ts.length : Int) := by rw [← hX]; omega
              generalize hF : fmtS t.name x.2 = F at *
              obtain ⟨KS, hKS⟩ : ∃ KS, callK t.name.data.toList x.2 = KS := ⟨_, rfl⟩
              rw [hKS] at hwf hpw hjn
              have hKne : KS ≠ [] := by rw [← hKS]; unfold callK; simp
              have hKl : KS.length ≤ 10000 := by
                have h2 : (wordsB F).length = KS.length := by rw [hwf, List.length_map]
                have h3 := wordsB_len F (by omega)
                omega
              have hp1 := hpw F hwf
              have HPW := hidden hpw
              have HJN := hidden hjn
              have HWF := hidden hwf
              have HP1 := hidden hp1
              have HST := hidden hst
              have HSN := hidden hsn
              have HN2 := hidden hn2
              have HNO := hidden (seen_no hno)
              have HNX := hidden hnx
              have HTA := hidden hta
              have HG := hidden hg
              have HKS2 := hidden hks
              have HLT2 := hidden hlt2
              have HKL := hidden hKl
              have HKN := hidden hKne
              have he0 : ¬ F.toList = [] := by
                rw [ByteArray.toList_eq]
                intro h
                apply hne
                apply ByteArray.ext
                apply Array.ext'
                exact h
              have he1 : F.toList.isEmpty = false := by rw [List.isEmpty_eq_false_iff]; exact he0
              have hcz : (c : Int) < (N : Int) := by omega
              have HSZ := hidden hsz
              clear hh hst hsn hn2 hold hno hnx hta hg hks hlt2 hcl hx hfm hwf hsz hjn hne hpw hxl htx hX hF hKS hKne hKl hp1
              go_wp2_with fail
              (with_reducible refine hfmt.mono ?_)
              rintro e w6 ⟨rfl, hB6⟩
              have hst6 := HST.out.later HBS.out.2.2.1 hB6
              have hsn6 := HSN.out.later hB6
              have hlook := hsn6.look F (by have := HSZ.out; omega)
              rw [HNO.out] at hlook
              obtain ⟨w7, hup, hsn7, hg7⟩ := hsn6.update (by have := HN2.out; have := HLT.out; omega) F (by have := HSZ.out; omega)
              have HST7 := hidden (hst6.grown HBS.out.2.2.1 hg7 HBS.out.2.2.2 (by omega))
              have HSN7 := hidden hsn7
              clear hB6 hst6 hsn6 hsn7 hg7 hfmt HST HSN
              obtain ⟨kl, hkl⟩ : ∃ kl, KS.length = kl + 1 := ⟨KS.length - 1, by have := List.length_pos_iff.2 HKN.out; omega⟩
              have HWD : Hid (∀ w', Calls Tryz.prog 26 #[.string F] w' fun e w2 => ∃ bk cap2, e = .returned (.slice (some ⟨bk, 0, none⟩) (kl + 1) cap2) ∧
                  Hid (∀ sep : ByteArray, sep.data.toList ∈ gapsC → Calls Tryz.prog 25 #[.slice (some ⟨bk, 0, none⟩) (kl + 1) cap2, .string sep] w2 fun e w4 => ∃ s2, e = .returned (.string s2) ∧ Hid (parseS ss ts s2 = ((X : Int), (c : Int), 0) ∧ s2.size ≤ 200) ∧ Below w2.heap.size w2 w4) ∧ Below w'.heap.size w' w2) := fun w' =>
                (words_any F (by have := HSZ.out; omega) w').mono (by
                  rintro e w2 ⟨v, rfl, hrow, hb2⟩
                  rw [HWF.out] at hrow
                  rw [List.length_map, hkl] at hrow
                  have hrow1 := hrow
                  obtain ⟨bk, cap2, rfl⟩ := ownsRow_succ hrow
                  refine ⟨bk, cap2, rfl, fun sep hsep => ?_, hb2⟩
                  obtain ⟨_, ⟨h1, _⟩ | ⟨g8, cap8, cur, he, hg8, hb8, hmc, hcap, _⟩⟩ := hrow
                  · cases h1
                  injection he with he1 he2 he3
                  injection he1 with he1
                  injection he1 with he1
                  subst he1
                  have hxs : (KS.map ba).map (·.data.toList) = KS.map (·.2) := by rw [List.map_map]; exact List.map_congr_left (fun a _ => ba_list a)
                  have hj := HJN.out sep.data.toList hsep ⟨(Lib.join (KS.map (·.2)) sep.data.toList).toArray⟩ (by simp)
                  have hlen : (Lib.join (KS.map (·.2)) sep.data.toList).length ≤ 200 := by
                    have h2 := hj.2
                    rw [← bytes_len] at h2
                    simpa using h2
                  have hjoin := Tryz.strings_Join bk 0 cap2 (KS.map ba) sep w2
                    (fun j x hx => by
                      have hjl := (List.getElem?_eq_some_iff.1 hx).1
                      have hca : w2.cell? ⟨bk, j, none⟩ = ((KS.map ba).map Value.string)[j]? := hrow1.cellAt j (by rw [List.length_map] at hjl; omega)
                      rw [Nat.zero_add, hca, List.getElem?_map, hx]; rfl)
                    (Array.getElem?_eq_some_iff.1 hb8).1 (by rw [List.length_map]; have := HKL.out; omega) (by rw [List.length_map, hkl, he3]; omega) (by rw [hxs]; omega)
                  rw [hxs, List.length_map, hkl] at hjoin
                  refine hjoin.mono ?_
                  rintro e w4 ⟨rfl, hb4⟩
                  exact ⟨_, rfl, ⟨HPW.out _ hj.1, hj.2⟩, hb4⟩)
              have hkind : ((t.kind == 0) = true ∧ isS = true) ∨ ((t.kind == 0) = false ∧ (t.kind == 1) = true ∧ isS = true) ∨ ((t.kind == 0) = false ∧ (t.kind == 1) = false ∧ isS = false) := by
                have h1 := HKS2.out
                unfold strictB at h1
                revert h1
                cases h0 : (t.kind == 0) <;> cases h1 : (t.kind == 1) <;> cases isS <;> simp
              have HKIND := hidden hkind
              have hm4 : m % 4 = 0 ∨ m % 4 = 1 ∨ m % 4 = 2 ∨ m % 4 = 3 := by omega
              clear hkind
              rcases hm4 with hq | hq | hq | hq
              all_goals
                (first | (have hmz : (m : Int) % 4 = 0 := by omega) | (have hmz : (m : Int) % 4 = 1 := by omega) | (have hmz : (m : Int) % 4 = 2 := by omega) | (have hmz : (m : Int) % 4 = 3 := by omega))
                clear hq hkl
                go_wp2_with fail
                (with_reducible refine (HWD.out _).mono ?_)
                rintro e w9 ⟨bk, cap2, rfl, HJ9, hB9⟩
                have hB9' : Below w7.heap.size w7 w9 := ((Below.refl _ _).alloc (Nat.le_refl _) _).trans (hB9.mono (by simp))
                have HB9 := hidden hB9'
                have hj9 := HJ9.out
                clear hB9 hB9' hup hlook
                go_wp2_with fail
                (with_reducible refine (hj9 _ (by simp [gapsC])).mono ?_)
                rintro e w10 ⟨s2, rfl, HP2, hB10⟩
                have hB10' := bt HB9.out hB10
                obtain ⟨W11, hW11⟩ : ∃ W11, W11 = w10.alloc (.cells #[.string F, .string s2] 9) := ⟨_, rfl⟩
                have hB11 : Below w7.heap.size w7 W11 := by rw [hW11]; exact hB10'.alloc hB10'.size _
                have f0 : W11.cell? ⟨w10.heap.size, 0, none⟩ = some (.string F) := by rw [hW11]; simp [go_sem]
                have f1 : W11.cell? ⟨w10.heap.size, 1, none⟩ = some (.string s2) := by rw [hW11]; simp [go_sem]
                have f2 : w10.heap.size < W11.heap.size := by rw [hW11]; simp
                have HF := hidden (And.intro f0 (And.intro f1 f2))
                have HB11 := hidden hB11
                clear hB10 hB10' hB11 f0 f1 f2 hj9 HJ9
                go_wp2_with fail
                rw [← hW11]
                clear hW11
                go_loopw [71] (fun i wr => ∃ j : Nat, j ≤ 2 ∧ i = .int .i64 j ∧ Hid (Below W11.heap.size W11 wr)) (fun i _ => 2 - (intOf i).toNat)
                case atStart => exact ⟨0, by omega, rfl, Below.refl _ _⟩
                case round =>
                  obtain ⟨j, hj, rfl, hBr⟩ := hrel
                  have HB12 := hidden (bt HB11.out hBr.out)
                  by_cases hlt3 : j < 2
                  · obtain ⟨tx, htxc, hpx, hxs⟩ : ∃ tx, wr.cell? ⟨w10.heap.size, j, none⟩ = some (.string tx) ∧ parseS ss ts tx = ((X : Int), (c : Int), 0) ∧ tx.size ≤ 4096 := by
                      rcases j with _ | _ | j
                      · exact ⟨F, (hBr.out.cell (p := ⟨w10.heap.size, 0, none⟩) HF.out.2.2).trans HF.out.1, HP1.out, by have := HSZ.out; omega⟩
                      · exact ⟨s2, (hBr.out.cell (p := ⟨w10.heap.size, 1, none⟩) HF.out.2.2).trans HF.out.2.1, HP2.out.1, by have := HP2.out.2; omega⟩
                      · omega
                    have hjz : (j : Int) < 2 := by omega
                    have hBww := HST7.out.1.trans (HB12.out.mono HST7.out.1.size)
                    have hpa := HPA.out tx wr hxs hBww
                    rw [hpx] at hpa
                    dsimp only at hpa
                    have HBWW := hidden hBww
                    have HLT3 := hidden hlt3
                    clear hpx hxs hlt3 hBww
                    go_wp2_with fail
                    (with_reducible refine hpa.mono ?_)
                    rintro e w13 ⟨rfl, hB13⟩
                    have hta13 := HTA.out.of_block ((bt HBWW.out hB13).block tg HG.out)
                    have c1 := hta13.c1
                    have HB13 := hidden (bt hBr.out hB13)
                    clear hB13 hpa htxc hta13
                    rcases HKIND.out with ⟨h0, hS⟩ | ⟨h0, h1, hS⟩ | ⟨h0, h1, hS⟩
                    all_goals
                      subst hS
                      go_wp2_with fail
                      go_roundw
                      case rel => exact ⟨j + 1, HLT3.out, rfl, HB13.out⟩
                      case measure => simp [intOf]; have := HLT3.out; omega
                  · obtain rfl : j = 2 := by omega
                    clear hlt3
                    have HSTr : Hid (StK w W4 (b + 1) wr ∧ SeenM wr b (n2 + 1) (F :: T2)) := ⟨HST7.out.later HBS.out.2.2.1 HB12.out, HSN7.out.later HB12.out⟩
                    go_wp2_with fail
                    go_roundw
                    case rel => exact ⟨c + 1, n2 + 1, F :: T2, HLT2.out, by go_num, HSTr.out.1, HSTr.out.2, by have := HN2.out; omega, HNX.out⟩
                    case measure => simp [intOf]; have := HLT2.out; omega
            · obtain rfl : c = N := by omega
              have hcz : ¬ (c : Int) < (c : Int) := by omega
              clear hlt2
              go_wp2_with fail
              go_roundw
              case rel =>
                obtain ⟨hst, hsn, hn2, hold⟩ := hh.out
                refine ⟨k + 1, n2, T2, HLT.out, rfl, hst, hsn, by omega, fun h => by omega, fun hk1 s hs => ?_⟩
                rcases HKS.out with ⟨h1, h2⟩ | ⟨h1, h2⟩
                · obtain ⟨S', c', e1, e2, e3⟩ := hold s hs
                  have hS : S' = true := by
                    rcases e3 with ⟨h, _⟩ | ⟨h, _⟩
                    · rw [h, h2]
                    · exact h
                  subst hS
                  exact ⟨c', e1, e2⟩
                · omega
              case measure => simp [intOf]; have := HLT.out; omega
        · obtain rfl : k = 2 := by omega
          have HF := hidden hh.out.1.1
          clear hlt hh
          go_wp2_with fail
          go_ret
          exact ⟨rfl, HF.out⟩
    · have hvf : validB ss ts = false := by simpa using hv
      rw [hvf] at hva
      have HFEW := hidden hfew
      have HVA := hidden hva
      clear hs2 ht2 hqp hat hm hl hlt hf hf1 hf2 hf3 hsm hv hfew hva hvf
      go_enter Tryz.func6, Tryz.ntmps6
      go_wp2_with fail
      (with_reducible refine haw.mono ?_)
      rintro e w1 ⟨rfl, hB1⟩
      have hfw := HFEW.out w1 hB1
      have HB1 := hidden hB1
      clear hB1 haw
      go_wp2_with fail
      (with_reducible refine hfw.mono ?_)
      rintro e w2 ⟨rfl, hw2⟩
      rw [hw2]
      clear hw2 hfw HFEW
      have hvw := HVA.out w1 HB1.out
      go_wp2_with fail
      (with_reducible refine hvw.mono ?_)
      rintro e w3 ⟨rfl, hB3⟩
      have HBw := hidden (bt HB1.out hB3)
      clear hB3 hvw HVA
      go_wp2_with fail
      go_ret
      exact ⟨rfl, HBw.out⟩
  · have hff : fewB ss ts = false := by simpa using hf
    rw [hff] at hfew
    have HFEW := hidden hfew
    clear hs2 ht2 hqp hat hm hl hlt hf hfew hff
    go_enter Tryz.func6, Tryz.ntmps6
    go_wp2_with fail
    (with_reducible refine haw.mono ?_)
    rintro e w1 ⟨rfl, hB1⟩
    have hfw := HFEW.out w1 hB1
    have HB1 := hidden hB1
    clear hB1 haw
    go_wp2_with fail
    (with_reducible refine hfw.mono ?_)
    rintro e w2 ⟨rfl, hw2⟩
    rw [hw2]
    clear hw2 hfw HFEW
    go_wp2_with fail
    go_ret
    exact ⟨rfl, HB1.out⟩

end Go.Proofs.YtfmoophjdgejeaaGreatDoor
