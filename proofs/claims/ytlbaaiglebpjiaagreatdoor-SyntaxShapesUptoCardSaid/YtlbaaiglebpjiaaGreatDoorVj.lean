/-
  The reference's kids, kind by kind. By gen_vh.py.
-/
import Derived.Test.YtlbaaiglebpjiaaGreatDoorJp
namespace Go.Proofs.YtlbaaiglebpjiaaGreatDoor
open Go Go.RowKit Go.Shelf Go.Lib

set_option maxRecDepth 100000 in
set_option maxHeartbeats 6400000 in
theorem refKids_6 (t : Tree) (p : Option Addr) (cap : Nat) (h : Bool) (w : World) (hk : KidsV w (.slice p t.kids.length cap) t.kids) (hkl : t.kids.length ≤ 4194304) (hkd : t.kind = 6) :
    Calls Tryz.prog 71 #[nodeV t (.slice p t.kids.length cap), .bool h] w fun e w' => e = .returned (.bool (kindsB [[10], [38]] t.kids && wordB setT (t.kids.getD 1 zeroT))) ∧ Below w.heap.size w w' := by
  have hB1 : Below w.heap.size w (w.alloc (.cells #[.int .i64 6, .string t.text, .int .i64 t.at_, .int .i64 t.end_, .slice p t.kids.length cap] 24)).drew := ((Below.refl _ _).alloc (Nat.le_refl _) _).drew
  have HN : NodeAt (w.alloc (.cells #[.int .i64 6, .string t.text, .int .i64 t.at_, .int .i64 t.end_, .slice p t.kids.length cap] 24)).drew w.heap.size 0 t (.slice p t.kids.length cap) := by constructor <;> simp [go_sem, hkd]
  have HK : KidsV (w.alloc (.cells #[.int .i64 6, .string t.text, .int .i64 t.at_, .int .i64 t.end_, .slice p t.kids.length cap] 24)).drew (.slice p t.kids.length cap) t.kids := hk.later hB1
  have hop := HK.open
  simp only [nodeV, hkd]
  cases hb : kindsB [[10], [38]] t.kids with
  | false =>
    have hb' : Value.bool (kindsB [[10], [38]] t.kids) = .bool false := by rw [hb]
    simp only [Bool.false_and]
    go_enter Tryz.func71, Tryz.ntmps71
    go_wp2_with fail
    refine region_spec (by kernel_rfl) [79, 80, 81, 82, 83, 84, 85, 86, 87, 88, 89, 90, 91, 92, 93, 4] (fun i => (([.is (nodeV t (.slice p t.kids.length cap)), .ints [10], .ints [10], .ints [38], .ints [38], .lists [[10], [38]], .is (.bool (kindsB [[10], [38]] t.kids)), .is (.bool (kindsB [[10], [38]] t.kids)), .is undef, .is undef, .is undef, .is undef, .is undef, .is undef, .is (.bool false), .is (.bool false)] : List Ph).getD i .any).says) rfl (by decide) 339 rfl (by decide) (by kernel_rfl) (fun _ _ _ _ h hb => Ph.later h hb) ?_ ?_
    · intro i hi a w' hN hall
      have HN' := HN.stays hN.below
      have HK' := HK.later hN.below
      have hi' : i < 16 := hi
      rcases (show i = 0 ∨ i = 1 ∨ i = 2 ∨ i = 3 ∨ i = 4 ∨ i = 5 ∨ i = 6 ∨ i = 7 ∨ i = 8 ∨ i = 9 ∨ i = 10 ∨ i = 11 ∨ i = 12 ∨ i = 13 ∨ i = 14 ∨ i = 15 by omega) with rfl | rfl | rfl | rfl | rfl | rfl | rfl | rfl | rfl | rfl | rfl | rfl | rfl | rfl | rfl | rfl
      · exact do_node rfl (hN.base 2 (by decide)) HN'
      · exact do_ints1 10 rfl
      · exact do_one rfl (hall 1 rfl)
      · exact do_ints1 38 rfl
      · exact do_one rfl (hall 3 rfl)
      · exact do_lists2 rfl (hall 2 rfl) (hall 4 rfl)
      · exact do_kinds rfl HK' hkl (by decide) (hall 0 rfl) (hall 5 rfl)
      · exact do_move rfl (wanted_free rfl) (hall 6 rfl)
      · exact do_nothing rfl (wanted_is rfl rfl (Eq.trans (hall 7 rfl) hb'))
      · exact do_nothing rfl (wanted_is rfl rfl (Eq.trans (hall 7 rfl) hb'))
      · exact do_nothing rfl (wanted_is rfl rfl (Eq.trans (hall 7 rfl) hb'))
      · exact do_nothing rfl (wanted_is rfl rfl (Eq.trans (hall 7 rfl) hb'))
      · exact do_nothing rfl (wanted_is rfl rfl (Eq.trans (hall 7 rfl) hb'))
      · exact do_nothing rfl (wanted_is rfl rfl (Eq.trans (hall 7 rfl) hb'))
      · exact do_pickF rfl (wanted_free rfl) (Eq.trans (hall 7 rfl) hb') rfl
      · exact do_assign rfl (hall 14 rfl)
    · intro a w' hN hall
      have h4 : a.eval (.tmp 4) = (.bool false) := hall 15 (by decide)
      go_wp2_with fail
      exact bodyPost_ret (v := (.bool false)) (by rw [← h4]; exact results_tmp rfl _ _ _) hN.defers ⟨rfl, bt hB1 hN.below⟩
  | true =>
    have hb' : Value.bool (kindsB [[10], [38]] t.kids) = .bool true := by rw [hb]
    simp only [Bool.true_and]
    have hlen : t.kids.length = 2 := Decidable.byContradiction fun hne => by rw [kindsB_len hne] at hb; cases hb
    have hlt : 1 < t.kids.length := by omega
    obtain ⟨x, hx⟩ : ∃ x, t.kids[1]? = some x := ⟨_, List.getElem?_eq_getElem hlt⟩
    rw [show t.kids.getD 1 zeroT = x by rw [List.getD_eq_getElem?_getD, hx]; rfl]
    obtain ⟨p0, cap0, g, o, hv, hpp, hat⟩ := hop
    injection hv with e1 e2 e3
    subst e1
    obtain ⟨rfl, _⟩ := hpp (fun e => by rw [e] at hx; simp at hx)
    obtain ⟨kx, HX, HXK⟩ := hat 1 x hx
    clear hat hb hpp e2 e3 hx hlen
    go_enter Tryz.func71, Tryz.ntmps71
    go_wp2_with fail
    refine region_spec (by kernel_rfl) [79, 80, 81, 82, 83, 84, 85, 86, 87, 88, 89, 90, 91, 92, 93, 4] (fun i => (([.is (nodeV t (.slice (some ⟨g, o, none⟩) t.kids.length cap)), .ints [10], .ints [10], .ints [38], .ints [38], .lists [[10], [38]], .is (.bool (kindsB [[10], [38]] t.kids)), .is (.bool (kindsB [[10], [38]] t.kids)), .is (.pointer (some ⟨w.heap.size, 4, none⟩)), .is (.slice (some ⟨g, o, none⟩) t.kids.length cap), .is (.pointer (some ⟨g, o + 1 * 5, none⟩)), .kid x, .strs setT, .is (.bool (wordB setT x)), .is (.bool (wordB setT x)), .is (.bool (wordB setT x))] : List Ph).getD i .any).says) rfl (by decide) 339 rfl (by decide) (by kernel_rfl) (fun _ _ _ _ h hb => Ph.later h hb) ?_ ?_
    · intro i hi a w' hN hall
      have HN' := HN.stays hN.below
      have HK' := HK.later hN.below
      have HX' := HX.stays hN.below
      have HXK' := HXK.later hN.below
      have hi' : i < 16 := hi
      rcases (show i = 0 ∨ i = 1 ∨ i = 2 ∨ i = 3 ∨ i = 4 ∨ i = 5 ∨ i = 6 ∨ i = 7 ∨ i = 8 ∨ i = 9 ∨ i = 10 ∨ i = 11 ∨ i = 12 ∨ i = 13 ∨ i = 14 ∨ i = 15 by omega) with rfl | rfl | rfl | rfl | rfl | rfl | rfl | rfl | rfl | rfl | rfl | rfl | rfl | rfl | rfl | rfl
      · exact do_node rfl (hN.base 2 (by decide)) HN'
      · exact do_ints1 10 rfl
      · exact do_one rfl (hall 1 rfl)
      · exact do_ints1 38 rfl
      · exact do_one rfl (hall 3 rfl)
      · exact do_lists2 rfl (hall 2 rfl) (hall 4 rfl)
      · exact do_kinds rfl HK' hkl (by decide) (hall 0 rfl) (hall 5 rfl)
      · exact do_move rfl (wanted_free rfl) (hall 6 rfl)
      · exact do_field (o := 0) (f := 4) (.inr rfl) rfl (wanted_is rfl rfl (Eq.trans (hall 7 rfl) hb')) (hN.base 2 (by decide))
      · exact do_loadS rfl (wanted_is rfl rfl (Eq.trans (hall 7 rfl) hb')) (hall 8 rfl) HN'.c4
      · exact do_index (k := 1) rfl (wanted_is rfl rfl (Eq.trans (hall 7 rfl) hb')) (hall 9 rfl) hlt
      · exact do_kid rfl (wanted_is rfl rfl (Eq.trans (hall 7 rfl) hb')) (hall 10 rfl) HX' HXK'
      · exact do_strs2 _ _ rfl (wanted_is rfl rfl (Eq.trans (hall 7 rfl) hb'))
      · exact do_word (by decide) (by decide) rfl (wanted_is rfl rfl (Eq.trans (hall 7 rfl) hb')) (hall 11 rfl) (hall 12 rfl)
      · exact do_pickT rfl (wanted_free rfl) (Eq.trans (hall 7 rfl) hb') (hall 13 rfl)
      · exact do_assign rfl (hall 14 rfl)
    · intro a w' hN hall
      have h4 : a.eval (.tmp 4) = (.bool (wordB setT x)) := hall 15 (by decide)
      go_wp2_with fail
      exact bodyPost_ret (v := (.bool (wordB setT x))) (by rw [← h4]; exact results_tmp rfl _ _ _) hN.defers ⟨rfl, bt hB1 hN.below⟩

set_option maxRecDepth 100000 in
set_option maxHeartbeats 6400000 in
theorem refKids_7 (t : Tree) (p : Option Addr) (cap : Nat) (h : Bool) (w : World) (hk : KidsV w (.slice p t.kids.length cap) t.kids) (hkl : t.kids.length ≤ 4194304) (hkd : t.kind = 7) :
    Calls Tryz.prog 71 #[nodeV t (.slice p t.kids.length cap), .bool h] w fun e w' => e = .returned (.bool (kindsB [[10], [12], [38]] t.kids && wordB regT (t.kids.getD 2 zeroT))) ∧ Below w.heap.size w w' := by
  have hB1 : Below w.heap.size w (w.alloc (.cells #[.int .i64 7, .string t.text, .int .i64 t.at_, .int .i64 t.end_, .slice p t.kids.length cap] 24)).drew := ((Below.refl _ _).alloc (Nat.le_refl _) _).drew
  have HN : NodeAt (w.alloc (.cells #[.int .i64 7, .string t.text, .int .i64 t.at_, .int .i64 t.end_, .slice p t.kids.length cap] 24)).drew w.heap.size 0 t (.slice p t.kids.length cap) := by constructor <;> simp [go_sem, hkd]
  have HK : KidsV (w.alloc (.cells #[.int .i64 7, .string t.text, .int .i64 t.at_, .int .i64 t.end_, .slice p t.kids.length cap] 24)).drew (.slice p t.kids.length cap) t.kids := hk.later hB1
  have hop := HK.open
  simp only [nodeV, hkd]
  cases hb : kindsB [[10], [12], [38]] t.kids with
  | false =>
    have hb' : Value.bool (kindsB [[10], [12], [38]] t.kids) = .bool false := by rw [hb]
    simp only [Bool.false_and]
    go_enter Tryz.func71, Tryz.ntmps71
    go_wp2_with fail
    refine region_spec (by kernel_rfl) [96, 97, 98, 99, 100, 101, 102, 103, 104, 105, 106, 107, 108, 109, 110, 111, 112, 4] (fun i => (([.is (nodeV t (.slice p t.kids.length cap)), .ints [10], .ints [10], .ints [12], .ints [12], .ints [38], .ints [38], .lists [[10], [12], [38]], .is (.bool (kindsB [[10], [12], [38]] t.kids)), .is (.bool (kindsB [[10], [12], [38]] t.kids)), .is undef, .is undef, .is undef, .is undef, .is undef, .is undef, .is (.bool false), .is (.bool false)] : List Ph).getD i .any).says) rfl (by decide) 339 rfl (by decide) (by kernel_rfl) (fun _ _ _ _ h hb => Ph.later h hb) ?_ ?_
    · intro i hi a w' hN hall
      have HN' := HN.stays hN.below
      have HK' := HK.later hN.below
      have hi' : i < 18 := hi
      rcases (show i = 0 ∨ i = 1 ∨ i = 2 ∨ i = 3 ∨ i = 4 ∨ i = 5 ∨ i = 6 ∨ i = 7 ∨ i = 8 ∨ i = 9 ∨ i = 10 ∨ i = 11 ∨ i = 12 ∨ i = 13 ∨ i = 14 ∨ i = 15 ∨ i = 16 ∨ i = 17 by omega) with rfl | rfl | rfl | rfl | rfl | rfl | rfl | rfl | rfl | rfl | rfl | rfl | rfl | rfl | rfl | rfl | rfl | rfl
      · exact do_node rfl (hN.base 2 (by decide)) HN'
      · exact do_ints1 10 rfl
      · exact do_one rfl (hall 1 rfl)
      · exact do_ints1 12 rfl
      · exact do_one rfl (hall 3 rfl)
      · exact do_ints1 38 rfl
      · exact do_one rfl (hall 5 rfl)
      · exact do_lists3 rfl (hall 2 rfl) (hall 4 rfl) (hall 6 rfl)
      · exact do_kinds rfl HK' hkl (by decide) (hall 0 rfl) (hall 7 rfl)
      · exact do_move rfl (wanted_free rfl) (hall 8 rfl)
      · exact do_nothing rfl (wanted_is rfl rfl (Eq.trans (hall 9 rfl) hb'))
      · exact do_nothing rfl (wanted_is rfl rfl (Eq.trans (hall 9 rfl) hb'))
      · exact do_nothing rfl (wanted_is rfl rfl (Eq.trans (hall 9 rfl) hb'))
      · exact do_nothing rfl (wanted_is rfl rfl (Eq.trans (hall 9 rfl) hb'))
      · exact do_nothing rfl (wanted_is rfl rfl (Eq.trans (hall 9 rfl) hb'))
      · exact do_nothing rfl (wanted_is rfl rfl (Eq.trans (hall 9 rfl) hb'))
      · exact do_pickF rfl (wanted_free rfl) (Eq.trans (hall 9 rfl) hb') rfl
      · exact do_assign rfl (hall 16 rfl)
    · intro a w' hN hall
      have h4 : a.eval (.tmp 4) = (.bool false) := hall 17 (by decide)
      go_wp2_with fail
      exact bodyPost_ret (v := (.bool false)) (by rw [← h4]; exact results_tmp rfl _ _ _) hN.defers ⟨rfl, bt hB1 hN.below⟩
  | true =>
    have hb' : Value.bool (kindsB [[10], [12], [38]] t.kids) = .bool true := by rw [hb]
    simp only [Bool.true_and]
    have hlen : t.kids.length = 3 := Decidable.byContradiction fun hne => by rw [kindsB_len hne] at hb; cases hb
    have hlt : 2 < t.kids.length := by omega
    obtain ⟨x, hx⟩ : ∃ x, t.kids[2]? = some x := ⟨_, List.getElem?_eq_getElem hlt⟩
    rw [show t.kids.getD 2 zeroT = x by rw [List.getD_eq_getElem?_getD, hx]; rfl]
    obtain ⟨p0, cap0, g, o, hv, hpp, hat⟩ := hop
    injection hv with e1 e2 e3
    subst e1
    obtain ⟨rfl, _⟩ := hpp (fun e => by rw [e] at hx; simp at hx)
    obtain ⟨kx, HX, HXK⟩ := hat 2 x hx
    clear hat hb hpp e2 e3 hx hlen
    go_enter Tryz.func71, Tryz.ntmps71
    go_wp2_with fail
    refine region_spec (by kernel_rfl) [96, 97, 98, 99, 100, 101, 102, 103, 104, 105, 106, 107, 108, 109, 110, 111, 112, 4] (fun i => (([.is (nodeV t (.slice (some ⟨g, o, none⟩) t.kids.length cap)), .ints [10], .ints [10], .ints [12], .ints [12], .ints [38], .ints [38], .lists [[10], [12], [38]], .is (.bool (kindsB [[10], [12], [38]] t.kids)), .is (.bool (kindsB [[10], [12], [38]] t.kids)), .is (.pointer (some ⟨w.heap.size, 4, none⟩)), .is (.slice (some ⟨g, o, none⟩) t.kids.length cap), .is (.pointer (some ⟨g, o + 2 * 5, none⟩)), .kid x, .strs regT, .is (.bool (wordB regT x)), .is (.bool (wordB regT x)), .is (.bool (wordB regT x))] : List Ph).getD i .any).says) rfl (by decide) 339 rfl (by decide) (by kernel_rfl) (fun _ _ _ _ h hb => Ph.later h hb) ?_ ?_
    · intro i hi a w' hN hall
      have HN' := HN.stays hN.below
      have HK' := HK.later hN.below
      have HX' := HX.stays hN.below
      have HXK' := HXK.later hN.below
      have hi' : i < 18 := hi
      rcases (show i = 0 ∨ i = 1 ∨ i = 2 ∨ i = 3 ∨ i = 4 ∨ i = 5 ∨ i = 6 ∨ i = 7 ∨ i = 8 ∨ i = 9 ∨ i = 10 ∨ i = 11 ∨ i = 12 ∨ i = 13 ∨ i = 14 ∨ i = 15 ∨ i = 16 ∨ i = 17 by omega) with rfl | rfl | rfl | rfl | rfl | rfl | rfl | rfl | rfl | rfl | rfl | rfl | rfl | rfl | rfl | rfl | rfl | rfl
      · exact do_node rfl (hN.base 2 (by decide)) HN'
      · exact do_ints1 10 rfl
      · exact do_one rfl (hall 1 rfl)
      · exact do_ints1 12 rfl
      · exact do_one rfl (hall 3 rfl)
      · exact do_ints1 38 rfl
      · exact do_one rfl (hall 5 rfl)
      · exact do_lists3 rfl (hall 2 rfl) (hall 4 rfl) (hall 6 rfl)
      · exact do_kinds rfl HK' hkl (by decide) (hall 0 rfl) (hall 7 rfl)
      · exact do_move rfl (wanted_free rfl) (hall 8 rfl)
      · exact do_field (o := 0) (f := 4) (.inr rfl) rfl (wanted_is rfl rfl (Eq.trans (hall 9 rfl) hb')) (hN.base 2 (by decide))
      · exact do_loadS rfl (wanted_is rfl rfl (Eq.trans (hall 9 rfl) hb')) (hall 10 rfl) HN'.c4
      · exact do_index (k := 2) rfl (wanted_is rfl rfl (Eq.trans (hall 9 rfl) hb')) (hall 11 rfl) hlt
      · exact do_kid rfl (wanted_is rfl rfl (Eq.trans (hall 9 rfl) hb')) (hall 12 rfl) HX' HXK'
      · exact do_strs2 _ _ rfl (wanted_is rfl rfl (Eq.trans (hall 9 rfl) hb'))
      · exact do_word (by decide) (by decide) rfl (wanted_is rfl rfl (Eq.trans (hall 9 rfl) hb')) (hall 13 rfl) (hall 14 rfl)
      · exact do_pickT rfl (wanted_free rfl) (Eq.trans (hall 9 rfl) hb') (hall 15 rfl)
      · exact do_assign rfl (hall 16 rfl)
    · intro a w' hN hall
      have h4 : a.eval (.tmp 4) = (.bool (wordB regT x)) := hall 17 (by decide)
      go_wp2_with fail
      exact bodyPost_ret (v := (.bool (wordB regT x))) (by rw [← h4]; exact results_tmp rfl _ _ _) hN.defers ⟨rfl, bt hB1 hN.below⟩

set_option maxRecDepth 100000 in
set_option maxHeartbeats 6400000 in
theorem refKids_9 (t : Tree) (p : Option Addr) (cap : Nat) (h : Bool) (w : World) (hk : KidsV w (.slice p t.kids.length cap) t.kids) (hkl : t.kids.length ≤ 4194304) (hkd : t.kind = 9) :
    Calls Tryz.prog 71 #[nodeV t (.slice p t.kids.length cap), .bool h] w fun e w' => e = .returned (.bool (kindsB [[23], [1, 38], [25]] t.kids && (((t.kids.getD 1 zeroT).kind == 1) || wordB ordT (t.kids.getD 1 zeroT)))) ∧ Below w.heap.size w w' := by
  have hB1 : Below w.heap.size w (w.alloc (.cells #[.int .i64 9, .string t.text, .int .i64 t.at_, .int .i64 t.end_, .slice p t.kids.length cap] 24)).drew := ((Below.refl _ _).alloc (Nat.le_refl _) _).drew
  have HN : NodeAt (w.alloc (.cells #[.int .i64 9, .string t.text, .int .i64 t.at_, .int .i64 t.end_, .slice p t.kids.length cap] 24)).drew w.heap.size 0 t (.slice p t.kids.length cap) := by constructor <;> simp [go_sem, hkd]
  have HK : KidsV (w.alloc (.cells #[.int .i64 9, .string t.text, .int .i64 t.at_, .int .i64 t.end_, .slice p t.kids.length cap] 24)).drew (.slice p t.kids.length cap) t.kids := hk.later hB1
  have hop := HK.open
  simp only [nodeV, hkd]
  cases hb : kindsB [[23], [1, 38], [25]] t.kids with
  | false =>
    have hb' : Value.bool (kindsB [[23], [1, 38], [25]] t.kids) = .bool false := by rw [hb]
    simp only [Bool.false_and]
    go_enter Tryz.func71, Tryz.ntmps71
    go_wp2_with fail
    refine region_spec (by kernel_rfl) [122, 123, 124, 125, 126, 127, 128, 129, 130, 131, 132, 133, 134, 135, 136, 137, 138, 139, 140, 141, 142, 143, 144, 145, 146, 4] (fun i => (([.is (nodeV t (.slice p t.kids.length cap)), .ints [23], .ints [23], .ints [1, 38], .ints [1, 38], .ints [25], .ints [25], .lists [[23], [1, 38], [25]], .is (.bool (kindsB [[23], [1, 38], [25]] t.kids)), .is (.bool (kindsB [[23], [1, 38], [25]] t.kids)), .is undef, .is undef, .is undef, .is undef, .is undef, .is undef, .is undef, .is undef, .is undef, .is undef, .is undef, .is undef, .is undef, .is undef, .is (.bool false), .is (.bool false)] : List Ph).getD i .any).says) rfl (by decide) 339 rfl (by decide) (by kernel_rfl) (fun _ _ _ _ h hb => Ph.later h hb) ?_ ?_
    · intro i hi a w' hN hall
      have HN' := HN.stays hN.below
      have HK' := HK.later hN.below
      have hi' : i < 26 := hi
      rcases (show i = 0 ∨ i = 1 ∨ i = 2 ∨ i = 3 ∨ i = 4 ∨ i = 5 ∨ i = 6 ∨ i = 7 ∨ i = 8 ∨ i = 9 ∨ i = 10 ∨ i = 11 ∨ i = 12 ∨ i = 13 ∨ i = 14 ∨ i = 15 ∨ i = 16 ∨ i = 17 ∨ i = 18 ∨ i = 19 ∨ i = 20 ∨ i = 21 ∨ i = 22 ∨ i = 23 ∨ i = 24 ∨ i = 25 by omega) with rfl | rfl | rfl | rfl | rfl | rfl | rfl | rfl | rfl | rfl | rfl | rfl | rfl | rfl | rfl | rfl | rfl | rfl | rfl | rfl | rfl | rfl | rfl | rfl | rfl | rfl
      · exact do_node rfl (hN.base 2 (by decide)) HN'
      · exact do_ints1 23 rfl
      · exact do_one rfl (hall 1 rfl)
      · exact do_ints2 1 38 rfl
      · exact do_one rfl (hall 3 rfl)
      · exact do_ints1 25 rfl
      · exact do_one rfl (hall 5 rfl)
      · exact do_lists3 rfl (hall 2 rfl) (hall 4 rfl) (hall 6 rfl)
      · exact do_kinds rfl HK' hkl (by decide) (hall 0 rfl) (hall 7 rfl)
      · exact do_move rfl (wanted_free rfl) (hall 8 rfl)
      · exact do_nothing rfl (wanted_is rfl rfl (Eq.trans (hall 9 rfl) hb'))
      · exact do_nothing rfl (wanted_is rfl rfl (Eq.trans (hall 9 rfl) hb'))
      · exact do_nothing rfl (wanted_is rfl rfl (Eq.trans (hall 9 rfl) hb'))
      · exact do_nothing rfl (wanted_is rfl rfl (Eq.trans (hall 9 rfl) hb'))
      · exact do_nothing rfl (wanted_is rfl rfl (Eq.trans (hall 9 rfl) hb'))
      · exact do_nothing rfl (wanted_is rfl rfl (Eq.trans (hall 9 rfl) hb'))
      · exact do_nothing rfl (wanted_is rfl rfl (Eq.trans (hall 9 rfl) hb'))
      · exact do_nothing rfl (wanted_not rfl rfl (hall 16 rfl))
      · exact do_nothing rfl (wanted_not rfl rfl (hall 16 rfl))
      · exact do_nothing rfl (wanted_not rfl rfl (hall 16 rfl))
      · exact do_nothing rfl (wanted_not rfl rfl (hall 16 rfl))
      · exact do_nothing rfl (wanted_not rfl rfl (hall 16 rfl))
      · exact do_nothing rfl (wanted_not rfl rfl (hall 16 rfl))
      · exact do_nothing rfl (wanted_is rfl rfl (Eq.trans (hall 9 rfl) hb'))
      · exact do_pickF rfl (wanted_free rfl) (Eq.trans (hall 9 rfl) hb') rfl
      · exact do_assign rfl (hall 24 rfl)
    · intro a w' hN hall
      have h4 : a.eval (.tmp 4) = (.bool false) := hall 25 (by decide)
      go_wp2_with fail
      exact bodyPost_ret (v := (.bool false)) (by rw [← h4]; exact results_tmp rfl _ _ _) hN.defers ⟨rfl, bt hB1 hN.below⟩
  | true =>
    have hb' : Value.bool (kindsB [[23], [1, 38], [25]] t.kids) = .bool true := by rw [hb]
    simp only [Bool.true_and]
    have hlen : t.kids.length = 3 := Decidable.byContradiction fun hne => by rw [kindsB_len hne] at hb; cases hb
    have hlt : 1 < t.kids.length := by omega
    obtain ⟨x, hx⟩ : ∃ x, t.kids[1]? = some x := ⟨_, List.getElem?_eq_getElem hlt⟩
    rw [show t.kids.getD 1 zeroT = x by rw [List.getD_eq_getElem?_getD, hx]; rfl]
    obtain ⟨p0, cap0, g, o, hv, hpp, hat⟩ := hop
    injection hv with e1 e2 e3
    subst e1
    obtain ⟨rfl, _⟩ := hpp (fun e => by rw [e] at hx; simp at hx)
    obtain ⟨kx, HX, HXK⟩ := hat 1 x hx
    clear hat hb hpp e2 e3 hx hlen
    cases hc : (x.kind == 1) with
    | true =>
      have hc' : Value.bool (x.kind == 1) = .bool true := by rw [hc]
      simp only [Bool.true_or]
      go_enter Tryz.func71, Tryz.ntmps71
      go_wp2_with fail
      refine region_spec (by kernel_rfl) [122, 123, 124, 125, 126, 127, 128, 129, 130, 131, 132, 133, 134, 135, 136, 137, 138, 139, 140, 141, 142, 143, 144, 145, 146, 4] (fun i => (([.is (nodeV t (.slice (some ⟨g, o, none⟩) t.kids.length cap)), .ints [23], .ints [23], .ints [1, 38], .ints [1, 38], .ints [25], .ints [25], .lists [[23], [1, 38], [25]], .is (.bool (kindsB [[23], [1, 38], [25]] t.kids)), .is (.bool (kindsB [[23], [1, 38], [25]] t.kids)), .is (.pointer (some ⟨w.heap.size, 4, none⟩)), .is (.slice (some ⟨g, o, none⟩) t.kids.length cap), .is (.pointer (some ⟨g, o + 1 * 5, none⟩)), .is (.pointer (some ⟨g, o + 1 * 5, none⟩)), .is (.int .i64 x.kind), .is (.bool (x.kind == 1)), .is (.bool (x.kind == 1)), .is undef, .is undef, .is undef, .is undef, .is undef, .is undef, .is (.bool true), .is (.bool true), .is (.bool true)] : List Ph).getD i .any).says) rfl (by decide) 339 rfl (by decide) (by kernel_rfl) (fun _ _ _ _ h hb => Ph.later h hb) ?_ ?_
      · intro i hi a w' hN hall
        have HN' := HN.stays hN.below
        have HK' := HK.later hN.below
        have HX' := HX.stays hN.below
        have hi' : i < 26 := hi
        rcases (show i = 0 ∨ i = 1 ∨ i = 2 ∨ i = 3 ∨ i = 4 ∨ i = 5 ∨ i = 6 ∨ i = 7 ∨ i = 8 ∨ i = 9 ∨ i = 10 ∨ i = 11 ∨ i = 12 ∨ i = 13 ∨ i = 14 ∨ i = 15 ∨ i = 16 ∨ i = 17 ∨ i = 18 ∨ i = 19 ∨ i = 20 ∨ i = 21 ∨ i = 22 ∨ i = 23 ∨ i = 24 ∨ i = 25 by omega) with rfl | rfl | rfl | rfl | rfl | rfl | rfl | rfl | rfl | rfl | rfl | rfl | rfl | rfl | rfl | rfl | rfl | rfl | rfl | rfl | rfl | rfl | rfl | rfl | rfl | rfl
        · exact do_node rfl (hN.base 2 (by decide)) HN'
        · exact do_ints1 23 rfl
        · exact do_one rfl (hall 1 rfl)
        · exact do_ints2 1 38 rfl
        · exact do_one rfl (hall 3 rfl)
        · exact do_ints1 25 rfl
        · exact do_one rfl (hall 5 rfl)
        · exact do_lists3 rfl (hall 2 rfl) (hall 4 rfl) (hall 6 rfl)
        · exact do_kinds rfl HK' hkl (by decide) (hall 0 rfl) (hall 7 rfl)
        · exact do_move rfl (wanted_free rfl) (hall 8 rfl)
        · exact do_field (o := 0) (f := 4) (.inr rfl) rfl (wanted_is rfl rfl (Eq.trans (hall 9 rfl) hb')) (hN.base 2 (by decide))
        · exact do_loadS rfl (wanted_is rfl rfl (Eq.trans (hall 9 rfl) hb')) (hall 10 rfl) HN'.c4
        · exact do_index (k := 1) rfl (wanted_is rfl rfl (Eq.trans (hall 9 rfl) hb')) (hall 11 rfl) hlt
        · exact do_field (o := o + 1 * 5) (f := 0) (.inl rfl) rfl (wanted_is rfl rfl (Eq.trans (hall 9 rfl) hb')) (hall 12 rfl)
        · exact do_loadI rfl (wanted_is rfl rfl (Eq.trans (hall 9 rfl) hb')) (hall 13 rfl) HX'.c0
        · exact do_is1 rfl (wanted_is rfl rfl (Eq.trans (hall 9 rfl) hb')) (hall 14 rfl)
        · exact do_move rfl (wanted_is rfl rfl (Eq.trans (hall 9 rfl) hb')) (hall 15 rfl)
        · exact do_nothing rfl (wanted_is rfl rfl (Eq.trans (hall 16 rfl) hc'))
        · exact do_nothing rfl (wanted_is rfl rfl (Eq.trans (hall 16 rfl) hc'))
        · exact do_nothing rfl (wanted_is rfl rfl (Eq.trans (hall 16 rfl) hc'))
        · exact do_nothing rfl (wanted_is rfl rfl (Eq.trans (hall 16 rfl) hc'))
        · exact do_nothing rfl (wanted_is rfl rfl (Eq.trans (hall 16 rfl) hc'))
        · exact do_nothing rfl (wanted_is rfl rfl (Eq.trans (hall 16 rfl) hc'))
        · exact do_pickT rfl (wanted_is rfl rfl (Eq.trans (hall 9 rfl) hb')) (Eq.trans (hall 16 rfl) hc') rfl
        · exact do_pickT rfl (wanted_free rfl) (Eq.trans (hall 9 rfl) hb') (hall 23 rfl)
        · exact do_assign rfl (hall 24 rfl)
      · intro a w' hN hall
        have h4 : a.eval (.tmp 4) = (.bool true) := hall 25 (by decide)
        go_wp2_with fail
        exact bodyPost_ret (v := (.bool true)) (by rw [← h4]; exact results_tmp rfl _ _ _) hN.defers ⟨rfl, bt hB1 hN.below⟩
    | false =>
      have hc' : Value.bool (x.kind == 1) = .bool false := by rw [hc]
      simp only [Bool.false_or]
      go_enter Tryz.func71, Tryz.ntmps71
      go_wp2_with fail
      refine region_spec (by kernel_rfl) [122, 123, 124, 125, 126, 127, 128, 129, 130, 131, 132, 133, 134, 135, 136, 137, 138, 139, 140, 141, 142, 143, 144, 145, 146, 4] (fun i => (([.is (nodeV t (.slice (some ⟨g, o, none⟩) t.kids.length cap)), .ints [23], .ints [23], .ints [1, 38], .ints [1, 38], .ints [25], .ints [25], .lists [[23], [1, 38], [25]], .is (.bool (kindsB [[23], [1, 38], [25]] t.kids)), .is (.bool (kindsB [[23], [1, 38], [25]] t.kids)), .is (.pointer (some ⟨w.heap.size, 4, none⟩)), .is (.slice (some ⟨g, o, none⟩) t.kids.length cap), .is (.pointer (some ⟨g, o + 1 * 5, none⟩)), .is (.pointer (some ⟨g, o + 1 * 5, none⟩)), .is (.int .i64 x.kind), .is (.bool (x.kind == 1)), .is (.bool (x.kind == 1)), .is (.pointer (some ⟨w.heap.size, 4, none⟩)), .is (.slice (some ⟨g, o, none⟩) t.kids.length cap), .is (.pointer (some ⟨g, o + 1 * 5, none⟩)), .kid x, .strs ordT, .is (.bool (wordB ordT x)), .is (.bool (wordB ordT x)), .is (.bool (wordB ordT x)), .is (.bool (wordB ordT x))] : List Ph).getD i .any).says) rfl (by decide) 339 rfl (by decide) (by kernel_rfl) (fun _ _ _ _ h hb => Ph.later h hb) ?_ ?_
      · intro i hi a w' hN hall
        have HN' := HN.stays hN.below
        have HK' := HK.later hN.below
        have HX' := HX.stays hN.below
        have HXK' := HXK.later hN.below
        have hi' : i < 26 := hi
        rcases (show i = 0 ∨ i = 1 ∨ i = 2 ∨ i = 3 ∨ i = 4 ∨ i = 5 ∨ i = 6 ∨ i = 7 ∨ i = 8 ∨ i = 9 ∨ i = 10 ∨ i = 11 ∨ i = 12 ∨ i = 13 ∨ i = 14 ∨ i = 15 ∨ i = 16 ∨ i = 17 ∨ i = 18 ∨ i = 19 ∨ i = 20 ∨ i = 21 ∨ i = 22 ∨ i = 23 ∨ i = 24 ∨ i = 25 by omega) with rfl | rfl | rfl | rfl | rfl | rfl | rfl | rfl | rfl | rfl | rfl | rfl | rfl | rfl | rfl | rfl | rfl | rfl | rfl | rfl | rfl | rfl | rfl | rfl | rfl | rfl
        · exact do_node rfl (hN.base 2 (by decide)) HN'
        · exact do_ints1 23 rfl
        · exact do_one rfl (hall 1 rfl)
        · exact do_ints2 1 38 rfl
        · exact do_one rfl (hall 3 rfl)
        · exact do_ints1 25 rfl
        · exact do_one rfl (hall 5 rfl)
        · exact do_lists3 rfl (hall 2 rfl) (hall 4 rfl) (hall 6 rfl)
        · exact do_kinds rfl HK' hkl (by decide) (hall 0 rfl) (hall 7 rfl)
        · exact do_move rfl (wanted_free rfl) (hall 8 rfl)
        · exact do_field (o := 0) (f := 4) (.inr rfl) rfl (wanted_is rfl rfl (Eq.trans (hall 9 rfl) hb')) (hN.base 2 (by decide))
        · exact do_loadS rfl (wanted_is rfl rfl (Eq.trans (hall 9 rfl) hb')) (hall 10 rfl) HN'.c4
        · exact do_index (k := 1) rfl (wanted_is rfl rfl (Eq.trans (hall 9 rfl) hb')) (hall 11 rfl) hlt
        · exact do_field (o := o + 1 * 5) (f := 0) (.inl rfl) rfl (wanted_is rfl rfl (Eq.trans (hall 9 rfl) hb')) (hall 12 rfl)
        · exact do_loadI rfl (wanted_is rfl rfl (Eq.trans (hall 9 rfl) hb')) (hall 13 rfl) HX'.c0
        · exact do_is1 rfl (wanted_is rfl rfl (Eq.trans (hall 9 rfl) hb')) (hall 14 rfl)
        · exact do_move rfl (wanted_is rfl rfl (Eq.trans (hall 9 rfl) hb')) (hall 15 rfl)
        · exact do_field (o := 0) (f := 4) (.inr rfl) rfl (wanted_is rfl rfl (Eq.trans (hall 16 rfl) hc')) (hN.base 2 (by decide))
        · exact do_loadS rfl (wanted_is rfl rfl (Eq.trans (hall 16 rfl) hc')) (hall 17 rfl) HN'.c4
        · exact do_index (k := 1) rfl (wanted_is rfl rfl (Eq.trans (hall 16 rfl) hc')) (hall 18 rfl) hlt
        · exact do_kid rfl (wanted_is rfl rfl (Eq.trans (hall 16 rfl) hc')) (hall 19 rfl) HX' HXK'
        · exact do_strs1 _ rfl (wanted_is rfl rfl (Eq.trans (hall 16 rfl) hc'))
        · exact do_word (by decide) (by decide) rfl (wanted_is rfl rfl (Eq.trans (hall 16 rfl) hc')) (hall 20 rfl) (hall 21 rfl)
        · exact do_pickF rfl (wanted_is rfl rfl (Eq.trans (hall 9 rfl) hb')) (Eq.trans (hall 16 rfl) hc') (hall 22 rfl)
        · exact do_pickT rfl (wanted_free rfl) (Eq.trans (hall 9 rfl) hb') (hall 23 rfl)
        · exact do_assign rfl (hall 24 rfl)
      · intro a w' hN hall
        have h4 : a.eval (.tmp 4) = (.bool (wordB ordT x)) := hall 25 (by decide)
        go_wp2_with fail
        exact bodyPost_ret (v := (.bool (wordB ordT x))) (by rw [← h4]; exact results_tmp rfl _ _ _) hN.defers ⟨rfl, bt hB1 hN.below⟩

set_option maxRecDepth 100000 in
set_option maxHeartbeats 6400000 in
theorem refKids_14 (t : Tree) (p : Option Addr) (cap : Nat) (h : Bool) (w : World) (hk : KidsV w (.slice p t.kids.length cap) t.kids) (hkl : t.kids.length ≤ 4194304) (hkd : t.kind = 14) :
    Calls Tryz.prog 71 #[nodeV t (.slice p t.kids.length cap), .bool h] w fun e w' => e = .returned (.bool (kindsB [[35], [35], [1, 38]] t.kids && (((t.kids.getD 2 zeroT).kind == 1) || wordB hideT (t.kids.getD 2 zeroT)))) ∧ Below w.heap.size w w' := by
  have hB1 : Below w.heap.size w (w.alloc (.cells #[.int .i64 14, .string t.text, .int .i64 t.at_, .int .i64 t.end_, .slice p t.kids.length cap] 24)).drew := ((Below.refl _ _).alloc (Nat.le_refl _) _).drew
  have HN : NodeAt (w.alloc (.cells #[.int .i64 14, .string t.text, .int .i64 t.at_, .int .i64 t.end_, .slice p t.kids.length cap] 24)).drew w.heap.size 0 t (.slice p t.kids.length cap) := by constructor <;> simp [go_sem, hkd]
  have HK : KidsV (w.alloc (.cells #[.int .i64 14, .string t.text, .int .i64 t.at_, .int .i64 t.end_, .slice p t.kids.length cap] 24)).drew (.slice p t.kids.length cap) t.kids := hk.later hB1
  have hop := HK.open
  simp only [nodeV, hkd]
  cases hb : kindsB [[35], [35], [1, 38]] t.kids with
  | false =>
    have hb' : Value.bool (kindsB [[35], [35], [1, 38]] t.kids) = .bool false := by rw [hb]
    simp only [Bool.false_and]
    go_enter Tryz.func71, Tryz.ntmps71
    go_wp2_with fail
    refine region_spec (by kernel_rfl) [177, 178, 179, 180, 181, 182, 183, 184, 185, 186, 187, 188, 189, 190, 191, 192, 193, 194, 195, 196, 197, 198, 199, 200, 201, 4] (fun i => (([.is (nodeV t (.slice p t.kids.length cap)), .ints [35], .ints [35], .ints [35], .ints [35], .ints [1, 38], .ints [1, 38], .lists [[35], [35], [1, 38]], .is (.bool (kindsB [[35], [35], [1, 38]] t.kids)), .is (.bool (kindsB [[35], [35], [1, 38]] t.kids)), .is undef, .is undef, .is undef, .is undef, .is undef, .is undef, .is undef, .is undef, .is undef, .is undef, .is undef, .is undef, .is undef, .is undef, .is (.bool false), .is (.bool false)] : List Ph).getD i .any).says) rfl (by decide) 339 rfl (by decide) (by kernel_rfl) (fun _ _ _ _ h hb => Ph.later h hb) ?_ ?_
    · intro i hi a w' hN hall
      have HN' := HN.stays hN.below
      have HK' := HK.later hN.below
      have hi' : i < 26 := hi
      rcases (show i = 0 ∨ i = 1 ∨ i = 2 ∨ i = 3 ∨ i = 4 ∨ i = 5 ∨ i = 6 ∨ i = 7 ∨ i = 8 ∨ i = 9 ∨ i = 10 ∨ i = 11 ∨ i = 12 ∨ i = 13 ∨ i = 14 ∨ i = 15 ∨ i = 16 ∨ i = 17 ∨ i = 18 ∨ i = 19 ∨ i = 20 ∨ i = 21 ∨ i = 22 ∨ i = 23 ∨ i = 24 ∨ i = 25 by omega) with rfl | rfl | rfl | rfl | rfl | rfl | rfl | rfl | rfl | rfl | rfl | rfl | rfl | rfl | rfl | rfl | rfl | rfl | rfl | rfl | rfl | rfl | rfl | rfl | rfl | rfl
      · exact do_node rfl (hN.base 2 (by decide)) HN'
      · exact do_ints1 35 rfl
      · exact do_one rfl (hall 1 rfl)
      · exact do_ints1 35 rfl
      · exact do_one rfl (hall 3 rfl)
      · exact do_ints2 1 38 rfl
      · exact do_one rfl (hall 5 rfl)
      · exact do_lists3 rfl (hall 2 rfl) (hall 4 rfl) (hall 6 rfl)
      · exact do_kinds rfl HK' hkl (by decide) (hall 0 rfl) (hall 7 rfl)
      · exact do_move rfl (wanted_free rfl) (hall 8 rfl)
      · exact do_nothing rfl (wanted_is rfl rfl (Eq.trans (hall 9 rfl) hb'))
      · exact do_nothing rfl (wanted_is rfl rfl (Eq.trans (hall 9 rfl) hb'))
      · exact do_nothing rfl (wanted_is rfl rfl (Eq.trans (hall 9 rfl) hb'))
      · exact do_nothing rfl (wanted_is rfl rfl (Eq.trans (hall 9 rfl) hb'))
      · exact do_nothing rfl (wanted_is rfl rfl (Eq.trans (hall 9 rfl) hb'))
      · exact do_nothing rfl (wanted_is rfl rfl (Eq.trans (hall 9 rfl) hb'))
      · exact do_nothing rfl (wanted_is rfl rfl (Eq.trans (hall 9 rfl) hb'))
      · exact do_nothing rfl (wanted_not rfl rfl (hall 16 rfl))
      · exact do_nothing rfl (wanted_not rfl rfl (hall 16 rfl))
      · exact do_nothing rfl (wanted_not rfl rfl (hall 16 rfl))
      · exact do_nothing rfl (wanted_not rfl rfl (hall 16 rfl))
      · exact do_nothing rfl (wanted_not rfl rfl (hall 16 rfl))
      · exact do_nothing rfl (wanted_not rfl rfl (hall 16 rfl))
      · exact do_nothing rfl (wanted_is rfl rfl (Eq.trans (hall 9 rfl) hb'))
      · exact do_pickF rfl (wanted_free rfl) (Eq.trans (hall 9 rfl) hb') rfl
      · exact do_assign rfl (hall 24 rfl)
    · intro a w' hN hall
      have h4 : a.eval (.tmp 4) = (.bool false) := hall 25 (by decide)
      go_wp2_with fail
      exact bodyPost_ret (v := (.bool false)) (by rw [← h4]; exact results_tmp rfl _ _ _) hN.defers ⟨rfl, bt hB1 hN.below⟩
  | true =>
    have hb' : Value.bool (kindsB [[35], [35], [1, 38]] t.kids) = .bool true := by rw [hb]
    simp only [Bool.true_and]
    have hlen : t.kids.length = 3 := Decidable.byContradiction fun hne => by rw [kindsB_len hne] at hb; cases hb
    have hlt : 2 < t.kids.length := by omega
    obtain ⟨x, hx⟩ : ∃ x, t.kids[2]? = some x := ⟨_, List.getElem?_eq_getElem hlt⟩
    rw [show t.kids.getD 2 zeroT = x by rw [List.getD_eq_getElem?_getD, hx]; rfl]
    obtain ⟨p0, cap0, g, o, hv, hpp, hat⟩ := hop
    injection hv with e1 e2 e3
    subst e1
    obtain ⟨rfl, _⟩ := hpp (fun e => by rw [e] at hx; simp at hx)
    obtain ⟨kx, HX, HXK⟩ := hat 2 x hx
    clear hat hb hpp e2 e3 hx hlen
    cases hc : (x.kind == 1) with
    | true =>
      have hc' : Value.bool (x.kind == 1) = .bool true := by rw [hc]
      simp only [Bool.true_or]
      go_enter Tryz.func71, Tryz.ntmps71
      go_wp2_with fail
      refine region_spec (by kernel_rfl) [177, 178, 179, 180, 181, 182, 183, 184, 185, 186, 187, 188, 189, 190, 191, 192, 193, 194, 195, 196, 197, 198, 199, 200, 201, 4] (fun i => (([.is (nodeV t (.slice (some ⟨g, o, none⟩) t.kids.length cap)), .ints [35], .ints [35], .ints [35], .ints [35], .ints [1, 38], .ints [1, 38], .lists [[35], [35], [1, 38]], .is (.bool (kindsB [[35], [35], [1, 38]] t.kids)), .is (.bool (kindsB [[35], [35], [1, 38]] t.kids)), .is (.pointer (some ⟨w.heap.size, 4, none⟩)), .is (.slice (some ⟨g, o, none⟩) t.kids.length cap), .is (.pointer (some ⟨g, o + 2 * 5, none⟩)), .is (.pointer (some ⟨g, o + 2 * 5, none⟩)), .is (.int .i64 x.kind), .is (.bool (x.kind == 1)), .is (.bool (x.kind == 1)), .is undef, .is undef, .is undef, .is undef, .is undef, .is undef, .is (.bool true), .is (.bool true), .is (.bool true)] : List Ph).getD i .any).says) rfl (by decide) 339 rfl (by decide) (by kernel_rfl) (fun _ _ _ _ h hb => Ph.later h hb) ?_ ?_
      · intro i hi a w' hN hall
        have HN' := HN.stays hN.below
        have HK' := HK.later hN.below
        have HX' := HX.stays hN.below
        have hi' : i < 26 := hi
        rcases (show i = 0 ∨ i = 1 ∨ i = 2 ∨ i = 3 ∨ i = 4 ∨ i = 5 ∨ i = 6 ∨ i = 7 ∨ i = 8 ∨ i = 9 ∨ i = 10 ∨ i = 11 ∨ i = 12 ∨ i = 13 ∨ i = 14 ∨ i = 15 ∨ i = 16 ∨ i = 17 ∨ i = 18 ∨ i = 19 ∨ i = 20 ∨ i = 21 ∨ i = 22 ∨ i = 23 ∨ i = 24 ∨ i = 25 by omega) with rfl | rfl | rfl | rfl | rfl | rfl | rfl | rfl | rfl | rfl | rfl | rfl | rfl | rfl | rfl | rfl | rfl | rfl | rfl | rfl | rfl | rfl | rfl | rfl | rfl | rfl
        · exact do_node rfl (hN.base 2 (by decide)) HN'
        · exact do_ints1 35 rfl
        · exact do_one rfl (hall 1 rfl)
        · exact do_ints1 35 rfl
        · exact do_one rfl (hall 3 rfl)
        · exact do_ints2 1 38 rfl
        · exact do_one rfl (hall 5 rfl)
        · exact do_lists3 rfl (hall 2 rfl) (hall 4 rfl) (hall 6 rfl)
        · exact do_kinds rfl HK' hkl (by decide) (hall 0 rfl) (hall 7 rfl)
        · exact do_move rfl (wanted_free rfl) (hall 8 rfl)
        · exact do_field (o := 0) (f := 4) (.inr rfl) rfl (wanted_is rfl rfl (Eq.trans (hall 9 rfl) hb')) (hN.base 2 (by decide))
        · exact do_loadS rfl (wanted_is rfl rfl (Eq.trans (hall 9 rfl) hb')) (hall 10 rfl) HN'.c4
        · exact do_index (k := 2) rfl (wanted_is rfl rfl (Eq.trans (hall 9 rfl) hb')) (hall 11 rfl) hlt
        · exact do_field (o := o + 2 * 5) (f := 0) (.inl rfl) rfl (wanted_is rfl rfl (Eq.trans (hall 9 rfl) hb')) (hall 12 rfl)
        · exact do_loadI rfl (wanted_is rfl rfl (Eq.trans (hall 9 rfl) hb')) (hall 13 rfl) HX'.c0
        · exact do_is1 rfl (wanted_is rfl rfl (Eq.trans (hall 9 rfl) hb')) (hall 14 rfl)
        · exact do_move rfl (wanted_is rfl rfl (Eq.trans (hall 9 rfl) hb')) (hall 15 rfl)
        · exact do_nothing rfl (wanted_is rfl rfl (Eq.trans (hall 16 rfl) hc'))
        · exact do_nothing rfl (wanted_is rfl rfl (Eq.trans (hall 16 rfl) hc'))
        · exact do_nothing rfl (wanted_is rfl rfl (Eq.trans (hall 16 rfl) hc'))
        · exact do_nothing rfl (wanted_is rfl rfl (Eq.trans (hall 16 rfl) hc'))
        · exact do_nothing rfl (wanted_is rfl rfl (Eq.trans (hall 16 rfl) hc'))
        · exact do_nothing rfl (wanted_is rfl rfl (Eq.trans (hall 16 rfl) hc'))
        · exact do_pickT rfl (wanted_is rfl rfl (Eq.trans (hall 9 rfl) hb')) (Eq.trans (hall 16 rfl) hc') rfl
        · exact do_pickT rfl (wanted_free rfl) (Eq.trans (hall 9 rfl) hb') (hall 23 rfl)
        · exact do_assign rfl (hall 24 rfl)
      · intro a w' hN hall
        have h4 : a.eval (.tmp 4) = (.bool true) := hall 25 (by decide)
        go_wp2_with fail
        exact bodyPost_ret (v := (.bool true)) (by rw [← h4]; exact results_tmp rfl _ _ _) hN.defers ⟨rfl, bt hB1 hN.below⟩
    | false =>
      have hc' : Value.bool (x.kind == 1) = .bool false := by rw [hc]
      simp only [Bool.false_or]
      go_enter Tryz.func71, Tryz.ntmps71
      go_wp2_with fail
      refine region_spec (by kernel_rfl) [177, 178, 179, 180, 181, 182, 183, 184, 185, 186, 187, 188, 189, 190, 191, 192, 193, 194, 195, 196, 197, 198, 199, 200, 201, 4] (fun i => (([.is (nodeV t (.slice (some ⟨g, o, none⟩) t.kids.length cap)), .ints [35], .ints [35], .ints [35], .ints [35], .ints [1, 38], .ints [1, 38], .lists [[35], [35], [1, 38]], .is (.bool (kindsB [[35], [35], [1, 38]] t.kids)), .is (.bool (kindsB [[35], [35], [1, 38]] t.kids)), .is (.pointer (some ⟨w.heap.size, 4, none⟩)), .is (.slice (some ⟨g, o, none⟩) t.kids.length cap), .is (.pointer (some ⟨g, o + 2 * 5, none⟩)), .is (.pointer (some ⟨g, o + 2 * 5, none⟩)), .is (.int .i64 x.kind), .is (.bool (x.kind == 1)), .is (.bool (x.kind == 1)), .is (.pointer (some ⟨w.heap.size, 4, none⟩)), .is (.slice (some ⟨g, o, none⟩) t.kids.length cap), .is (.pointer (some ⟨g, o + 2 * 5, none⟩)), .kid x, .strs hideT, .is (.bool (wordB hideT x)), .is (.bool (wordB hideT x)), .is (.bool (wordB hideT x)), .is (.bool (wordB hideT x))] : List Ph).getD i .any).says) rfl (by decide) 339 rfl (by decide) (by kernel_rfl) (fun _ _ _ _ h hb => Ph.later h hb) ?_ ?_
      · intro i hi a w' hN hall
        have HN' := HN.stays hN.below
        have HK' := HK.later hN.below
        have HX' := HX.stays hN.below
        have HXK' := HXK.later hN.below
        have hi' : i < 26 := hi
        rcases (show i = 0 ∨ i = 1 ∨ i = 2 ∨ i = 3 ∨ i = 4 ∨ i = 5 ∨ i = 6 ∨ i = 7 ∨ i = 8 ∨ i = 9 ∨ i = 10 ∨ i = 11 ∨ i = 12 ∨ i = 13 ∨ i = 14 ∨ i = 15 ∨ i = 16 ∨ i = 17 ∨ i = 18 ∨ i = 19 ∨ i = 20 ∨ i = 21 ∨ i = 22 ∨ i = 23 ∨ i = 24 ∨ i = 25 by omega) with rfl | rfl | rfl | rfl | rfl | rfl | rfl | rfl | rfl | rfl | rfl | rfl | rfl | rfl | rfl | rfl | rfl | rfl | rfl | rfl | rfl | rfl | rfl | rfl | rfl | rfl
        · exact do_node rfl (hN.base 2 (by decide)) HN'
        · exact do_ints1 35 rfl
        · exact do_one rfl (hall 1 rfl)
        · exact do_ints1 35 rfl
        · exact do_one rfl (hall 3 rfl)
        · exact do_ints2 1 38 rfl
        · exact do_one rfl (hall 5 rfl)
        · exact do_lists3 rfl (hall 2 rfl) (hall 4 rfl) (hall 6 rfl)
        · exact do_kinds rfl HK' hkl (by decide) (hall 0 rfl) (hall 7 rfl)
        · exact do_move rfl (wanted_free rfl) (hall 8 rfl)
        · exact do_field (o := 0) (f := 4) (.inr rfl) rfl (wanted_is rfl rfl (Eq.trans (hall 9 rfl) hb')) (hN.base 2 (by decide))
        · exact do_loadS rfl (wanted_is rfl rfl (Eq.trans (hall 9 rfl) hb')) (hall 10 rfl) HN'.c4
        · exact do_index (k := 2) rfl (wanted_is rfl rfl (Eq.trans (hall 9 rfl) hb')) (hall 11 rfl) hlt
        · exact do_field (o := o + 2 * 5) (f := 0) (.inl rfl) rfl (wanted_is rfl rfl (Eq.trans (hall 9 rfl) hb')) (hall 12 rfl)
        · exact do_loadI rfl (wanted_is rfl rfl (Eq.trans (hall 9 rfl) hb')) (hall 13 rfl) HX'.c0
        · exact do_is1 rfl (wanted_is rfl rfl (Eq.trans (hall 9 rfl) hb')) (hall 14 rfl)
        · exact do_move rfl (wanted_is rfl rfl (Eq.trans (hall 9 rfl) hb')) (hall 15 rfl)
        · exact do_field (o := 0) (f := 4) (.inr rfl) rfl (wanted_is rfl rfl (Eq.trans (hall 16 rfl) hc')) (hN.base 2 (by decide))
        · exact do_loadS rfl (wanted_is rfl rfl (Eq.trans (hall 16 rfl) hc')) (hall 17 rfl) HN'.c4
        · exact do_index (k := 2) rfl (wanted_is rfl rfl (Eq.trans (hall 16 rfl) hc')) (hall 18 rfl) hlt
        · exact do_kid rfl (wanted_is rfl rfl (Eq.trans (hall 16 rfl) hc')) (hall 19 rfl) HX' HXK'
        · exact do_strs1 _ rfl (wanted_is rfl rfl (Eq.trans (hall 16 rfl) hc'))
        · exact do_word (by decide) (by decide) rfl (wanted_is rfl rfl (Eq.trans (hall 16 rfl) hc')) (hall 20 rfl) (hall 21 rfl)
        · exact do_pickF rfl (wanted_is rfl rfl (Eq.trans (hall 9 rfl) hb')) (Eq.trans (hall 16 rfl) hc') (hall 22 rfl)
        · exact do_pickT rfl (wanted_free rfl) (Eq.trans (hall 9 rfl) hb') (hall 23 rfl)
        · exact do_assign rfl (hall 24 rfl)
      · intro a w' hN hall
        have h4 : a.eval (.tmp 4) = (.bool (wordB hideT x)) := hall 25 (by decide)
        go_wp2_with fail
        exact bodyPost_ret (v := (.bool (wordB hideT x))) (by rw [← h4]; exact results_tmp rfl _ _ _) hN.defers ⟨rfl, bt hB1 hN.below⟩

end Go.Proofs.YtlbaaiglebpjiaaGreatDoor
