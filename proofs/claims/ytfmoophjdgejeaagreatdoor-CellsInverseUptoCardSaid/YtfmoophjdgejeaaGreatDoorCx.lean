import Derived.Test.YtfmoophjdgejeaaGreatDoorCw
/-
  The example's answers are as the chapter says.
-/
namespace Go.Proofs.YtfmoophjdgejeaaGreatDoor
open Go.RowKit Go.Shelf
attribute [local go_sem] Oper.semAt_some

theorem IntsV.at_ {w : World} {v : Value} {l : List Int} (h : IntsV w v l) (hl : l ≠ []) : ∃ g o cap, v = .slice (some ⟨g, o, none⟩) l.length cap ∧ g < w.heap.size ∧ ∀ j, j < l.length → w.cell? ⟨g, o + j, none⟩ = some (.int .i64 (l.getD j 0)) := by
  obtain ⟨p, cap, g, o, rfl, h1, h2⟩ := h
  obtain ⟨rfl, hg⟩ := h1 hl
  refine ⟨g, o, cap, rfl, hg, fun j hj => ?_⟩
  have hx := h2 j l[j] (List.getElem?_eq_getElem hj)
  rw [hx, List.getD_eq_getElem?_getD, List.getElem?_eq_getElem hj]
  rfl

theorem intsEqual_any {w : World} {v u : Value} {l m : List Int} (h1 : IntsV w v l) (h2 : IntsV w u m) (hl : l ≠ []) (hm : m ≠ []) (hl2 : l.length ≤ 10000) (hm2 : m.length ≤ 10000) :
    Calls Tryz.prog 30 #[v, u] w fun e w' => e = .returned (.bool (l == m)) ∧ Below w.heap.size w w' := by
  obtain ⟨g, o, cap, rfl, _, hc⟩ := h1.at_ hl
  obtain ⟨g', o', cap', rfl, _, hc'⟩ := h2.at_ hm
  refine (Tryz.slices_Equal_int g o l.length cap g' o' m.length cap' l m w (Nat.le_refl _) (Nat.le_refl _) (by omega) (by omega) hc hc').mono ?_
  rintro e w' ⟨rfl, q, rfl⟩
  rw [List.take_length, List.take_length]
  exact ⟨rfl, below_drewN (Below.refl w.heap.size w) q⟩

theorem cells_ex (isS : Bool) : cellsOf exSs exTs isS = cellsFrom exSs isS exTs 0 := by unfold cellsOf; rw [if_pos ex_valid]
theorem ex_cell : cellB exSs exTs 1 [2] = (2, 0) := by unfold cellB; rw [if_pos ex_valid]; decide
theorem ex_cell0 : cellB exSs exTs 0 [1, 2] = (5, 0) := by unfold cellB; rw [if_pos ex_valid]; decide
theorem ex_table : tableN exTs ⟨#[114]⟩ = 0 := by decide
theorem ex_parse : parseS exSs exTs ⟨#[114, 32, 40, 32, 49, 44, 48, 50, 32, 41]⟩ = (0, 5, 0) := by
  unfold parseS
  rw [if_pos ex_valid, ex_words]
  simp only [ex_table, ex_cell0]
  rfl
theorem ex_format : fmtOf exSs exTs true 6 = ⟨#[99, 40, 41]⟩ := by
  unfold fmtOf
  rw [cells_ex, ex_tuple2]
  exact ex_fmt

set_option maxRecDepth 100000 in
set_option maxHeartbeats 12800000 in
theorem awake_any (w : World) (hm : MaxAt w) : Calls Tryz.prog 8 #[] w fun e w' => e = .returned (.bool true) ∧ Below w.heap.size w w' := by
  have hex := example_any w
  have HM : Hid (∀ w', Below w.heap.size w w' → MaxAt w') := fun w' h => hm.keep h
  clear hm
  go_enter Tryz.func8, Tryz.ntmps8
  go_wp2_with fail
  (with_reducible refine hex.mono ?_)
  rintro e w1 ⟨sv, tv, rfl, hs, ht, hB1⟩
  have HS : Hid (∀ w', Below w1.heap.size w1 w' → IntsV w' sv exSs) := fun w' h => hs.later h
  have HT : Hid (∀ w', Below w1.heap.size w1 w' → TabsV w' tv exTs) := fun w' h => ht.later h
  have HB1 := hidden hB1
  have HX : Hid (∀ w', Below w1.heap.size w1 w' → MaxAt w') := fun w' h => HM.out w' (bt HB1.out h)
  have hl : exSs.length ≤ 4611686018427387904 := by decide
  have hlt : exTs.length ≤ 4611686018427387903 := by decide
  have TU : Hid (∀ w' c, Below w1.heap.size w1 w' → Calls Tryz.prog 22 #[sv, tv, .bool true, .int .i64 c] w' fun e w2 => Below w'.heap.size w' w2 ∧
      ((∃ x T C, cellAt (cellsOf exSs exTs true) c = some x ∧ e = .returned (.tuple #[.int .i64 (x.1 : Int), .slice (some ⟨T, 0, none⟩) x.2.length C, .bool true]) ∧ w'.heap.size ≤ T ∧ T < w2.heap.size ∧ TupAt w2 T x.2) ∨
        (cellAt (cellsOf exSs exTs true) c = none ∧ e = .returned (.tuple #[.int .i64 0, .slice none 0 0, .bool false])))) := fun w' c h => tuple_any exSs exTs true c sv tv w' (HS.out w' h) (HT.out w' h) hl hlt ex_names (HX.out w' h)
  have PA : Hid (∀ w', Below w1.heap.size w1 w' → Calls Tryz.prog 27 #[sv, tv, .string ⟨#[114, 32, 40, 32, 49, 44, 48, 50, 32, 41]⟩] w' fun e w2 => e = .returned (.tuple #[.int .i64 0, .int .i64 5, .int .i64 0]) ∧ Below w'.heap.size w' w2) := fun w' h => by
    have h1 := parse_any exSs exTs ⟨#[114, 32, 40, 32, 49, 44, 48, 50, 32, 41]⟩ sv tv w' (HS.out w' h) (HT.out w' h) hl hlt ex_names (HX.out w' h) (by decide)
    rw [ex_parse] at h1
    exact h1
  have CE : Hid (∀ w' v, Below w1.heap.size w1 w' → IntsV w' v [2] → Calls Tryz.prog 20 #[sv, tv, .int .i64 1, v] w' fun e w2 => e = .returned (.tuple #[.int .i64 2, .int .i64 0]) ∧ Below w'.heap.size w' w2) := fun w' v h hv => by
    have h1 := cellOf_any exSs exTs 1 [2] sv tv v w' (HS.out w' h) (HT.out w' h) hv hl hlt (by decide) ex_names (HX.out w' h)
    rw [ex_cell] at h1
    exact h1
  have VA : Hid (∀ w', Below w1.heap.size w1 w' → Calls Tryz.prog 13 #[sv, tv] w' fun e w2 => e = .returned (.bool true) ∧ Below w'.heap.size w' w2) := fun w' h => by
    have h1 := validAll_any exSs exTs sv tv w' (HS.out w' h) (HT.out w' h) hl hlt ex_names (HX.out w' h)
    rw [ex_valid] at h1
    exact h1
  have C1 : Hid (∀ w', Below w1.heap.size w1 w' → Calls Tryz.prog 18 #[sv, tv, .bool true] w' fun e w2 => e = .returned (.int .i64 7) ∧ Below w'.heap.size w' w2) := fun w' h => by
    have h1 := count_any exSs exTs true sv tv w' (HS.out w' h) (HT.out w' h) hl hlt ex_names (HX.out w' h)
    rw [cells_ex, ex_count1] at h1
    exact h1
  have C2 : Hid (∀ w', Below w1.heap.size w1 w' → Calls Tryz.prog 18 #[sv, tv, .bool false] w' fun e w2 => e = .returned (.int .i64 3) ∧ Below w'.heap.size w' w2) := fun w' h => by
    have h1 := count_any exSs exTs false sv tv w' (HS.out w' h) (HT.out w' h) hl hlt ex_names (HX.out w' h)
    rw [cells_ex, ex_count2] at h1
    exact h1
  have FO : Hid (∀ w', Below w1.heap.size w1 w' → Calls Tryz.prog 24 #[sv, tv, .bool true, .int .i64 6] w' fun e w2 => e = .returned (.string ⟨#[99, 40, 41]⟩) ∧ Below w'.heap.size w' w2) := fun w' h => by
    have h1 := format_any exSs exTs true 6 sv tv w' (HS.out w' h) (HT.out w' h) hl hlt ex_names (HX.out w' h)
    rw [ex_format] at h1
    exact h1
  have RA : Hid (∀ w', Below w1.heap.size w1 w' → Calls Tryz.prog 31 #[sv, tv, .bool true] w' fun e w2 => (∃ p c, e = .returned (.slice p 7 c)) ∧ Below w'.heap.size w' w2) := fun w' h => by
    have h1 := ranges_any exSs exTs true sv tv w' (HS.out w' h) (HT.out w' h) hl hlt ex_names (HX.out w' h)
    rw [cells_ex, ex_count1] at h1
    refine h1.mono ?_
    rintro e w2 ⟨v, rfl, hr, hb⟩
    obtain ⟨p, c, rfl⟩ := row_form hr
    exact ⟨⟨p, c, rfl⟩, hb⟩
  have TP : Hid (∀ w' v, Below w1.heap.size w1 w' → IntsV w' v [1, 0] → Calls Tryz.prog 16 #[sv, v] w' fun e w2 => (∃ p c, e = .returned (.slice p 6 c)) ∧ Below w'.heap.size w' w2) := fun w' v h hv => by
    have h1 := tuplesAll_any exSs [1, 0] sv v w' (HS.out w' h) hv hl (by decide)
    refine h1.mono ?_
    rintro e w2 ⟨v, rfl, ⟨svs, _, hr, _⟩, hb⟩
    obtain ⟨p, c, rfl⟩ := row_form hr.1
    rw [ex_tups]
    exact ⟨⟨p, c, rfl⟩, hb⟩
  clear hs ht hB1 hex hl hlt
  go_wp2_with fail
  (with_reducible refine (TU.out _ 5 (Below.refl _ _)).mono ?_)
  rintro e w2 ⟨hB2, (⟨x, T, C, hx, rfl, hT1, hT2, hT3⟩ | ⟨hx, rfl⟩)⟩
  · rw [cells_ex, ex_tuple] at hx
    obtain rfl : (0, [1, 2]) = x := by injection hx
    have HLV := hidden (TupAt.ints (C := C) hT3 hT2)
    have HK2 := hidden hB2
    simp only [List.length_cons, List.length_nil, Nat.reduceAdd]
    clear hB2 hx hT1 hT3
    go_wp2_with fail
    (with_reducible refine (PA.out _ HK2.out).mono ?_)
    rintro e w3 ⟨rfl, hB3⟩
    have HL3 := hidden (HLV.out.later hB3)
    have HK3 := hidden (bt HK2.out hB3)
    clear hB3
    go_wp2_with fail
    (with_reducible refine (CE.out _ _ (HK3.out.alloc HK3.out.size _) (ints_lit1 w3 2)).mono ?_)
    rintro e w4 ⟨rfl, hB4⟩
    have hB34 : Below w3.heap.size w3 w4 := bt ((Below.refl _ _).alloc (Nat.le_refl _) _) hB4
    have HL4 := hidden (HL3.out.later hB34)
    have HK4 := hidden (bt HK3.out hB34)
    clear hB4 hB34
    go_wp2_with fail
    (with_reducible refine (VA.out _ HK4.out).mono ?_)
    rintro e w5 ⟨rfl, hB5⟩
    have HL5 := hidden (HL4.out.later hB5)
    have HK5 := hidden (bt HK4.out hB5)
    clear hB5
    go_wp2_with fail
    (with_reducible refine (C1.out _ HK5.out).mono ?_)
    rintro e w6 ⟨rfl, hB6⟩
    have HL6 := hidden (HL5.out.later hB6)
    have HK6 := hidden (bt HK5.out hB6)
    clear hB6
    go_wp2_with fail
    (with_reducible refine (C2.out _ HK6.out).mono ?_)
    rintro e w7 ⟨rfl, hB7⟩
    have HL7 := hidden (HL6.out.later hB7)
    have HK7 := hidden (bt HK6.out hB7)
    clear hB7
    have heq : Calls Tryz.prog 30 #[.slice (some ⟨T, 0, none⟩) 2 C, .slice (some ⟨w7.heap.size, 0, none⟩) 2 2] (w7.alloc (.cells #[.int .i64 1, .int .i64 2] 3)) fun e w' => e = .returned (.bool true) ∧ Below w7.heap.size w7 w' := by
      have h7 : IntsV w7 (.slice (some ⟨T, 0, none⟩) 2 C) [1, 2] := HL7.out
      have hb : Below w7.heap.size w7 (w7.alloc (.cells #[.int .i64 1, .int .i64 2] 3)) := (Below.refl _ _).alloc (Nat.le_refl _) _
      refine (intsEqual_any (h7.later hb) (ints_lit2 w7 1 2) (by decide) (by decide) (by decide) (by decide)).mono ?_
      rintro e w' ⟨rfl, h⟩
      exact ⟨by rw [show (([1, 2] : List Int) == [1, 2]) = true from by decide], bt hb h⟩
    go_wp2_with fail
    (with_reducible refine heq.mono ?_)
    rintro e w8 ⟨rfl, hB8⟩
    have HK8 := hidden (bt HK7.out hB8)
    clear hB8 heq HL3 HL4 HL5 HL6 HL7 HLV
    go_wp2_with fail
    (with_reducible refine (FO.out _ HK8.out).mono ?_)
    rintro e w9 ⟨rfl, hB9⟩
    have HK9 := hidden (bt HK8.out hB9)
    clear hB9
    go_wp2_with fail
    (with_reducible refine (RA.out _ HK9.out).mono ?_)
    rintro e w10 ⟨⟨rp, rc, rfl⟩, hB10⟩
    have HK10 := hidden (bt HK9.out hB10)
    clear hB10
    go_wp2_with fail
    (with_reducible refine (TP.out _ _ (HK10.out.alloc HK10.out.size _) (ints_lit2 w10 1 0)).mono ?_)
    rintro e w11 ⟨⟨tp, tc, rfl⟩, hB11⟩
    have HK11 := hidden (bt (bt HK10.out ((Below.refl w10.heap.size w10).alloc (Nat.le_refl _) _)) hB11)
    clear hB11
    have hsz : Calls Tryz.prog 11 #[.slice (some ⟨w11.heap.size, 0, none⟩) 1 1] (w11.alloc (.cells #[.string ⟨#[115]⟩, .int .i64 2] 59)) fun e w' => ∃ g c, e = .returned (.slice (some ⟨g, 0, none⟩) 1 c) ∧ IntsV w' (.slice (some ⟨g, 0, none⟩) 1 c) [2] ∧ Below w11.heap.size w11 w' := by
      refine (sizes_any [(⟨#[115]⟩, 2)] _ _ ⟨_, 1, w11.heap.size, 0, rfl, fun _ => ⟨rfl, by simp⟩, fun i x h => ?_⟩ (by decide)).mono ?_
      · match i with
        | 0 => simp at h; subst h; constructor <;> simp
        | i + 1 => simp at h
      · rintro e w' ⟨v, rfl, h1, h2⟩
        have h3 : IntsV w' v [2] := row_intsZ (l := [2]) h1
        rcases h1.2 with ⟨_, h4⟩ | ⟨g, c, cur, rfl, _⟩
        · simp at h4
        · exact ⟨g, c, rfl, h3, bt ((Below.refl w11.heap.size w11).alloc (Nat.le_refl _) _) h2⟩
    go_wp2_with fail
    (with_reducible refine hsz.mono ?_)
    rintro e w12 ⟨g, gc, rfl, hI, hB12⟩
    have HK12 := hidden (bt HK11.out hB12)
    have heq2 : Calls Tryz.prog 30 #[.slice (some ⟨g, 0, none⟩) 1 gc, .slice (some ⟨w12.heap.size, 0, none⟩) 1 1] (w12.alloc (.cells #[.int .i64 2] 3)) fun e w' => e = .returned (.bool true) ∧ Below w12.heap.size w12 w' := by
      have hb : Below w12.heap.size w12 (w12.alloc (.cells #[.int .i64 2] 3)) := (Below.refl _ _).alloc (Nat.le_refl _) _
      refine (intsEqual_any (hI.later hb) (ints_lit1 w12 2) (by decide) (by decide) (by decide) (by decide)).mono ?_
      rintro e w' ⟨rfl, h⟩
      exact ⟨by rw [show (([2] : List Int) == [2]) = true from by decide], bt hb h⟩
    clear hB12 hsz hI
    go_wp2_with fail
    (with_reducible refine heq2.mono ?_)
    rintro e w13 ⟨rfl, hB13⟩
    have HF := hidden (bt HB1.out (bt HK12.out hB13))
    clear hB13 heq2
    go_wp2_with fail
    go_ret
    exact ⟨rfl, HF.out⟩
  · rw [cells_ex, ex_tuple] at hx
    cases hx

end Go.Proofs.YtfmoophjdgejeaaGreatDoor
