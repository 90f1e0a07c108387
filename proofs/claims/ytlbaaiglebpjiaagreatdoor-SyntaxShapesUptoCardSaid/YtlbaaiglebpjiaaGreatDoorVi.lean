/-
  The reference's kids, kind by kind. By gen_vh.py.
-/
import Derived.Test.YtlbaaiglebpjiaaGreatDoorJp
namespace Go.Proofs.YtlbaaiglebpjiaaGreatDoor
open Go Go.RowKit Go.Shelf Go.Lib

set_option maxRecDepth 100000 in
set_option maxHeartbeats 6400000 in
theorem refKids_21 (t : Tree) (p : Option Addr) (cap : Nat) (h : Bool) (w : World) (hk : KidsV w (.slice p t.kids.length cap) t.kids) (hkl : t.kids.length ≤ 4194304) (hkd : t.kind = 21) :
    Calls Tryz.prog 71 #[nodeV t (.slice p t.kids.length cap), .bool h] w fun e w' => e = .returned (.bool (kindsB [[1, 36], [1, 10], [22]] t.kids)) ∧ Below w.heap.size w w' := by
  have hB1 : Below w.heap.size w (w.alloc (.cells #[.int .i64 21, .string t.text, .int .i64 t.at_, .int .i64 t.end_, .slice p t.kids.length cap] 24)).drew := ((Below.refl _ _).alloc (Nat.le_refl _) _).drew
  have HN : NodeAt (w.alloc (.cells #[.int .i64 21, .string t.text, .int .i64 t.at_, .int .i64 t.end_, .slice p t.kids.length cap] 24)).drew w.heap.size 0 t (.slice p t.kids.length cap) := by constructor <;> simp [go_sem, hkd]
  have HK : KidsV (w.alloc (.cells #[.int .i64 21, .string t.text, .int .i64 t.at_, .int .i64 t.end_, .slice p t.kids.length cap] 24)).drew (.slice p t.kids.length cap) t.kids := hk.later hB1
  simp only [nodeV, hkd]
  go_enter Tryz.func71, Tryz.ntmps71
  go_wp2_with fail
  refine region_spec (by kernel_rfl) [252, 253, 254, 255, 256, 257, 258, 259, 260, 4] (fun i => (([.is (nodeV t (.slice p t.kids.length cap)), .ints [1, 36], .ints [1, 36], .ints [1, 10], .ints [1, 10], .ints [22], .ints [22], .lists [[1, 36], [1, 10], [22]], .is (.bool (kindsB [[1, 36], [1, 10], [22]] t.kids)), .is (.bool (kindsB [[1, 36], [1, 10], [22]] t.kids))] : List Ph).getD i .any).says) rfl (by decide) 339 rfl (by decide) (by kernel_rfl) (fun _ _ _ _ h hb => Ph.later h hb) ?_ ?_
  · intro i hi a w' hN hall
    have HN' := HN.stays hN.below
    have HK' := HK.later hN.below
    have hi' : i < 10 := hi
    rcases (show i = 0 ∨ i = 1 ∨ i = 2 ∨ i = 3 ∨ i = 4 ∨ i = 5 ∨ i = 6 ∨ i = 7 ∨ i = 8 ∨ i = 9 by omega) with rfl | rfl | rfl | rfl | rfl | rfl | rfl | rfl | rfl | rfl
    · exact do_node rfl (hN.base 2 (by decide)) HN'
    · exact do_ints2 1 36 rfl
    · exact do_one rfl (hall 1 rfl)
    · exact do_ints2 1 10 rfl
    · exact do_one rfl (hall 3 rfl)
    · exact do_ints1 22 rfl
    · exact do_one rfl (hall 5 rfl)
    · exact do_lists3 rfl (hall 2 rfl) (hall 4 rfl) (hall 6 rfl)
    · exact do_kinds rfl HK' hkl (by decide) (hall 0 rfl) (hall 7 rfl)
    · exact do_assign rfl (hall 8 rfl)
  · intro a w' hN hall
    have h4 : a.eval (.tmp 4) = (.bool (kindsB [[1, 36], [1, 10], [22]] t.kids)) := hall 9 (by decide)
    go_wp2_with fail
    exact bodyPost_ret (v := (.bool (kindsB [[1, 36], [1, 10], [22]] t.kids))) (by rw [← h4]; exact results_tmp rfl _ _ _) hN.defers ⟨rfl, bt hB1 hN.below⟩

set_option maxRecDepth 100000 in
set_option maxHeartbeats 6400000 in
theorem refKids_24 (t : Tree) (p : Option Addr) (cap : Nat) (h : Bool) (w : World) (hk : KidsV w (.slice p t.kids.length cap) t.kids) (hkl : t.kids.length ≤ 4194304) (hkd : t.kind = 24) :
    Calls Tryz.prog 71 #[nodeV t (.slice p t.kids.length cap), .bool h] w fun e w' => e = .returned (.bool (kindsB [[35, 12]] t.kids)) ∧ Below w.heap.size w w' := by
  have hB1 : Below w.heap.size w (w.alloc (.cells #[.int .i64 24, .string t.text, .int .i64 t.at_, .int .i64 t.end_, .slice p t.kids.length cap] 24)).drew := ((Below.refl _ _).alloc (Nat.le_refl _) _).drew
  have HN : NodeAt (w.alloc (.cells #[.int .i64 24, .string t.text, .int .i64 t.at_, .int .i64 t.end_, .slice p t.kids.length cap] 24)).drew w.heap.size 0 t (.slice p t.kids.length cap) := by constructor <;> simp [go_sem, hkd]
  have HK : KidsV (w.alloc (.cells #[.int .i64 24, .string t.text, .int .i64 t.at_, .int .i64 t.end_, .slice p t.kids.length cap] 24)).drew (.slice p t.kids.length cap) t.kids := hk.later hB1
  simp only [nodeV, hkd]
  go_enter Tryz.func71, Tryz.ntmps71
  go_wp2_with fail
  refine region_spec (by kernel_rfl) [273, 274, 275, 276, 277, 4] (fun i => (([.is (nodeV t (.slice p t.kids.length cap)), .ints [35, 12], .ints [35, 12], .lists [[35, 12]], .is (.bool (kindsB [[35, 12]] t.kids)), .is (.bool (kindsB [[35, 12]] t.kids))] : List Ph).getD i .any).says) rfl (by decide) 339 rfl (by decide) (by kernel_rfl) (fun _ _ _ _ h hb => Ph.later h hb) ?_ ?_
  · intro i hi a w' hN hall
    have HN' := HN.stays hN.below
    have HK' := HK.later hN.below
    have hi' : i < 6 := hi
    rcases (show i = 0 ∨ i = 1 ∨ i = 2 ∨ i = 3 ∨ i = 4 ∨ i = 5 by omega) with rfl | rfl | rfl | rfl | rfl | rfl
    · exact do_node rfl (hN.base 2 (by decide)) HN'
    · exact do_ints2 35 12 rfl
    · exact do_one rfl (hall 1 rfl)
    · exact do_lists1 rfl (hall 2 rfl)
    · exact do_kinds rfl HK' hkl (by decide) (hall 0 rfl) (hall 3 rfl)
    · exact do_assign rfl (hall 4 rfl)
  · intro a w' hN hall
    have h4 : a.eval (.tmp 4) = (.bool (kindsB [[35, 12]] t.kids)) := hall 5 (by decide)
    go_wp2_with fail
    exact bodyPost_ret (v := (.bool (kindsB [[35, 12]] t.kids))) (by rw [← h4]; exact results_tmp rfl _ _ _) hN.defers ⟨rfl, bt hB1 hN.below⟩

set_option maxRecDepth 100000 in
set_option maxHeartbeats 6400000 in
theorem refKids_26 (t : Tree) (p : Option Addr) (cap : Nat) (h : Bool) (w : World) (hk : KidsV w (.slice p t.kids.length cap) t.kids) (hkl : t.kids.length ≤ 4194304) (hkd : t.kind = 26) :
    Calls Tryz.prog 71 #[nodeV t (.slice p t.kids.length cap), .bool h] w fun e w' => e = .returned (.bool (kindsB [[35, 36, 39, 40]] t.kids)) ∧ Below w.heap.size w w' := by
  have hB1 : Below w.heap.size w (w.alloc (.cells #[.int .i64 26, .string t.text, .int .i64 t.at_, .int .i64 t.end_, .slice p t.kids.length cap] 24)).drew := ((Below.refl _ _).alloc (Nat.le_refl _) _).drew
  have HN : NodeAt (w.alloc (.cells #[.int .i64 26, .string t.text, .int .i64 t.at_, .int .i64 t.end_, .slice p t.kids.length cap] 24)).drew w.heap.size 0 t (.slice p t.kids.length cap) := by constructor <;> simp [go_sem, hkd]
  have HK : KidsV (w.alloc (.cells #[.int .i64 26, .string t.text, .int .i64 t.at_, .int .i64 t.end_, .slice p t.kids.length cap] 24)).drew (.slice p t.kids.length cap) t.kids := hk.later hB1
  simp only [nodeV, hkd]
  go_enter Tryz.func71, Tryz.ntmps71
  go_wp2_with fail
  refine region_spec (by kernel_rfl) [281, 282, 283, 284, 4] (fun i => (([.is (nodeV t (.slice p t.kids.length cap)), .ints [35, 36, 39, 40], .lists [[35, 36, 39, 40]], .is (.bool (kindsB [[35, 36, 39, 40]] t.kids)), .is (.bool (kindsB [[35, 36, 39, 40]] t.kids))] : List Ph).getD i .any).says) rfl (by decide) 339 rfl (by decide) (by kernel_rfl) (fun _ _ _ _ h hb => Ph.later h hb) ?_ ?_
  · intro i hi a w' hN hall
    have HN' := HN.stays hN.below
    have HK' := HK.later hN.below
    have hi' : i < 5 := hi
    rcases (show i = 0 ∨ i = 1 ∨ i = 2 ∨ i = 3 ∨ i = 4 by omega) with rfl | rfl | rfl | rfl | rfl
    · exact do_node rfl (hN.base 2 (by decide)) HN'
    · exact do_exprs rfl
    · exact do_lists1 rfl (hall 1 rfl)
    · exact do_kinds rfl HK' hkl (by decide) (hall 0 rfl) (hall 2 rfl)
    · exact do_assign rfl (hall 3 rfl)
  · intro a w' hN hall
    have h4 : a.eval (.tmp 4) = (.bool (kindsB [[35, 36, 39, 40]] t.kids)) := hall 4 (by decide)
    go_wp2_with fail
    exact bodyPost_ret (v := (.bool (kindsB [[35, 36, 39, 40]] t.kids))) (by rw [← h4]; exact results_tmp rfl _ _ _) hN.defers ⟨rfl, bt hB1 hN.below⟩

set_option maxRecDepth 100000 in
set_option maxHeartbeats 6400000 in
theorem refKids_39 (t : Tree) (p : Option Addr) (cap : Nat) (h : Bool) (w : World) (hk : KidsV w (.slice p t.kids.length cap) t.kids) (hkl : t.kids.length ≤ 4194304) (hkd : t.kind = 39) :
    Calls Tryz.prog 71 #[nodeV t (.slice p t.kids.length cap), .bool h] w fun e w' => e = .returned (.bool (kindsB [[35, 36, 39, 40]] t.kids)) ∧ Below w.heap.size w w' := by
  have hB1 : Below w.heap.size w (w.alloc (.cells #[.int .i64 39, .string t.text, .int .i64 t.at_, .int .i64 t.end_, .slice p t.kids.length cap] 24)).drew := ((Below.refl _ _).alloc (Nat.le_refl _) _).drew
  have HN : NodeAt (w.alloc (.cells #[.int .i64 39, .string t.text, .int .i64 t.at_, .int .i64 t.end_, .slice p t.kids.length cap] 24)).drew w.heap.size 0 t (.slice p t.kids.length cap) := by constructor <;> simp [go_sem, hkd]
  have HK : KidsV (w.alloc (.cells #[.int .i64 39, .string t.text, .int .i64 t.at_, .int .i64 t.end_, .slice p t.kids.length cap] 24)).drew (.slice p t.kids.length cap) t.kids := hk.later hB1
  simp only [nodeV, hkd]
  go_enter Tryz.func71, Tryz.ntmps71
  go_wp2_with fail
  refine region_spec (by kernel_rfl) [281, 282, 283, 284, 4] (fun i => (([.is (nodeV t (.slice p t.kids.length cap)), .ints [35, 36, 39, 40], .lists [[35, 36, 39, 40]], .is (.bool (kindsB [[35, 36, 39, 40]] t.kids)), .is (.bool (kindsB [[35, 36, 39, 40]] t.kids))] : List Ph).getD i .any).says) rfl (by decide) 339 rfl (by decide) (by kernel_rfl) (fun _ _ _ _ h hb => Ph.later h hb) ?_ ?_
  · intro i hi a w' hN hall
    have HN' := HN.stays hN.below
    have HK' := HK.later hN.below
    have hi' : i < 5 := hi
    rcases (show i = 0 ∨ i = 1 ∨ i = 2 ∨ i = 3 ∨ i = 4 by omega) with rfl | rfl | rfl | rfl | rfl
    · exact do_node rfl (hN.base 2 (by decide)) HN'
    · exact do_exprs rfl
    · exact do_lists1 rfl (hall 1 rfl)
    · exact do_kinds rfl HK' hkl (by decide) (hall 0 rfl) (hall 2 rfl)
    · exact do_assign rfl (hall 3 rfl)
  · intro a w' hN hall
    have h4 : a.eval (.tmp 4) = (.bool (kindsB [[35, 36, 39, 40]] t.kids)) := hall 4 (by decide)
    go_wp2_with fail
    exact bodyPost_ret (v := (.bool (kindsB [[35, 36, 39, 40]] t.kids))) (by rw [← h4]; exact results_tmp rfl _ _ _) hN.defers ⟨rfl, bt hB1 hN.below⟩

set_option maxRecDepth 100000 in
set_option maxHeartbeats 6400000 in
theorem refKids_27 (t : Tree) (p : Option Addr) (cap : Nat) (h : Bool) (w : World) (hk : KidsV w (.slice p t.kids.length cap) t.kids) (hkl : t.kids.length ≤ 4194304) (hkd : t.kind = 27) :
    Calls Tryz.prog 71 #[nodeV t (.slice p t.kids.length cap), .bool h] w fun e w' => e = .returned (.bool (kindsB [[20], [19]] t.kids)) ∧ Below w.heap.size w w' := by
  have hB1 : Below w.heap.size w (w.alloc (.cells #[.int .i64 27, .string t.text, .int .i64 t.at_, .int .i64 t.end_, .slice p t.kids.length cap] 24)).drew := ((Below.refl _ _).alloc (Nat.le_refl _) _).drew
  have HN : NodeAt (w.alloc (.cells #[.int .i64 27, .string t.text, .int .i64 t.at_, .int .i64 t.end_, .slice p t.kids.length cap] 24)).drew w.heap.size 0 t (.slice p t.kids.length cap) := by constructor <;> simp [go_sem, hkd]
  have HK : KidsV (w.alloc (.cells #[.int .i64 27, .string t.text, .int .i64 t.at_, .int .i64 t.end_, .slice p t.kids.length cap] 24)).drew (.slice p t.kids.length cap) t.kids := hk.later hB1
  simp only [nodeV, hkd]
  go_enter Tryz.func71, Tryz.ntmps71
  go_wp2_with fail
  refine region_spec (by kernel_rfl) [287, 288, 289, 290, 291, 292, 293, 4] (fun i => (([.is (nodeV t (.slice p t.kids.length cap)), .ints [20], .ints [20], .ints [19], .ints [19], .lists [[20], [19]], .is (.bool (kindsB [[20], [19]] t.kids)), .is (.bool (kindsB [[20], [19]] t.kids))] : List Ph).getD i .any).says) rfl (by decide) 339 rfl (by decide) (by kernel_rfl) (fun _ _ _ _ h hb => Ph.later h hb) ?_ ?_
  · intro i hi a w' hN hall
    have HN' := HN.stays hN.below
    have HK' := HK.later hN.below
    have hi' : i < 8 := hi
    rcases (show i = 0 ∨ i = 1 ∨ i = 2 ∨ i = 3 ∨ i = 4 ∨ i = 5 ∨ i = 6 ∨ i = 7 by omega) with rfl | rfl | rfl | rfl | rfl | rfl | rfl | rfl
    · exact do_node rfl (hN.base 2 (by decide)) HN'
    · exact do_ints1 20 rfl
    · exact do_one rfl (hall 1 rfl)
    · exact do_ints1 19 rfl
    · exact do_one rfl (hall 3 rfl)
    · exact do_lists2 rfl (hall 2 rfl) (hall 4 rfl)
    · exact do_kinds rfl HK' hkl (by decide) (hall 0 rfl) (hall 5 rfl)
    · exact do_assign rfl (hall 6 rfl)
  · intro a w' hN hall
    have h4 : a.eval (.tmp 4) = (.bool (kindsB [[20], [19]] t.kids)) := hall 7 (by decide)
    go_wp2_with fail
    exact bodyPost_ret (v := (.bool (kindsB [[20], [19]] t.kids))) (by rw [← h4]; exact results_tmp rfl _ _ _) hN.defers ⟨rfl, bt hB1 hN.below⟩

set_option maxRecDepth 100000 in
set_option maxHeartbeats 6400000 in
theorem refKids_28 (t : Tree) (p : Option Addr) (cap : Nat) (h : Bool) (w : World) (hk : KidsV w (.slice p t.kids.length cap) t.kids) (hkl : t.kids.length ≤ 4194304) (hkd : t.kind = 28) :
    Calls Tryz.prog 71 #[nodeV t (.slice p t.kids.length cap), .bool h] w fun e w' => e = .returned (.bool (kindsB [[22]] t.kids)) ∧ Below w.heap.size w w' := by
  have hB1 : Below w.heap.size w (w.alloc (.cells #[.int .i64 28, .string t.text, .int .i64 t.at_, .int .i64 t.end_, .slice p t.kids.length cap] 24)).drew := ((Below.refl _ _).alloc (Nat.le_refl _) _).drew
  have HN : NodeAt (w.alloc (.cells #[.int .i64 28, .string t.text, .int .i64 t.at_, .int .i64 t.end_, .slice p t.kids.length cap] 24)).drew w.heap.size 0 t (.slice p t.kids.length cap) := by constructor <;> simp [go_sem, hkd]
  have HK : KidsV (w.alloc (.cells #[.int .i64 28, .string t.text, .int .i64 t.at_, .int .i64 t.end_, .slice p t.kids.length cap] 24)).drew (.slice p t.kids.length cap) t.kids := hk.later hB1
  simp only [nodeV, hkd]
  go_enter Tryz.func71, Tryz.ntmps71
  go_wp2_with fail
  refine region_spec (by kernel_rfl) [299, 300, 301, 302, 303, 4] (fun i => (([.is (nodeV t (.slice p t.kids.length cap)), .ints [22], .ints [22], .lists [[22]], .is (.bool (kindsB [[22]] t.kids)), .is (.bool (kindsB [[22]] t.kids))] : List Ph).getD i .any).says) rfl (by decide) 339 rfl (by decide) (by kernel_rfl) (fun _ _ _ _ h hb => Ph.later h hb) ?_ ?_
  · intro i hi a w' hN hall
    have HN' := HN.stays hN.below
    have HK' := HK.later hN.below
    have hi' : i < 6 := hi
    rcases (show i = 0 ∨ i = 1 ∨ i = 2 ∨ i = 3 ∨ i = 4 ∨ i = 5 by omega) with rfl | rfl | rfl | rfl | rfl | rfl
    · exact do_node rfl (hN.base 2 (by decide)) HN'
    · exact do_ints1 22 rfl
    · exact do_one rfl (hall 1 rfl)
    · exact do_lists1 rfl (hall 2 rfl)
    · exact do_kinds rfl HK' hkl (by decide) (hall 0 rfl) (hall 3 rfl)
    · exact do_assign rfl (hall 4 rfl)
  · intro a w' hN hall
    have h4 : a.eval (.tmp 4) = (.bool (kindsB [[22]] t.kids)) := hall 5 (by decide)
    go_wp2_with fail
    exact bodyPost_ret (v := (.bool (kindsB [[22]] t.kids))) (by rw [← h4]; exact results_tmp rfl _ _ _) hN.defers ⟨rfl, bt hB1 hN.below⟩

set_option maxRecDepth 100000 in
set_option maxHeartbeats 6400000 in
theorem refKids_29 (t : Tree) (p : Option Addr) (cap : Nat) (h : Bool) (w : World) (hk : KidsV w (.slice p t.kids.length cap) t.kids) (hkl : t.kids.length ≤ 4194304) (hkd : t.kind = 29) :
    Calls Tryz.prog 71 #[nodeV t (.slice p t.kids.length cap), .bool h] w fun e w' => e = .returned (.bool (kindsB [[22]] t.kids)) ∧ Below w.heap.size w w' := by
  have hB1 : Below w.heap.size w (w.alloc (.cells #[.int .i64 29, .string t.text, .int .i64 t.at_, .int .i64 t.end_, .slice p t.kids.length cap] 24)).drew := ((Below.refl _ _).alloc (Nat.le_refl _) _).drew
  have HN : NodeAt (w.alloc (.cells #[.int .i64 29, .string t.text, .int .i64 t.at_, .int .i64 t.end_, .slice p t.kids.length cap] 24)).drew w.heap.size 0 t (.slice p t.kids.length cap) := by constructor <;> simp [go_sem, hkd]
  have HK : KidsV (w.alloc (.cells #[.int .i64 29, .string t.text, .int .i64 t.at_, .int .i64 t.end_, .slice p t.kids.length cap] 24)).drew (.slice p t.kids.length cap) t.kids := hk.later hB1
  simp only [nodeV, hkd]
  go_enter Tryz.func71, Tryz.ntmps71
  go_wp2_with fail
  refine region_spec (by kernel_rfl) [299, 300, 301, 302, 303, 4] (fun i => (([.is (nodeV t (.slice p t.kids.length cap)), .ints [22], .ints [22], .lists [[22]], .is (.bool (kindsB [[22]] t.kids)), .is (.bool (kindsB [[22]] t.kids))] : List Ph).getD i .any).says) rfl (by decide) 339 rfl (by decide) (by kernel_rfl) (fun _ _ _ _ h hb => Ph.later h hb) ?_ ?_
  · intro i hi a w' hN hall
    have HN' := HN.stays hN.below
    have HK' := HK.later hN.below
    have hi' : i < 6 := hi
    rcases (show i = 0 ∨ i = 1 ∨ i = 2 ∨ i = 3 ∨ i = 4 ∨ i = 5 by omega) with rfl | rfl | rfl | rfl | rfl | rfl
    · exact do_node rfl (hN.base 2 (by decide)) HN'
    · exact do_ints1 22 rfl
    · exact do_one rfl (hall 1 rfl)
    · exact do_lists1 rfl (hall 2 rfl)
    · exact do_kinds rfl HK' hkl (by decide) (hall 0 rfl) (hall 3 rfl)
    · exact do_assign rfl (hall 4 rfl)
  · intro a w' hN hall
    have h4 : a.eval (.tmp 4) = (.bool (kindsB [[22]] t.kids)) := hall 5 (by decide)
    go_wp2_with fail
    exact bodyPost_ret (v := (.bool (kindsB [[22]] t.kids))) (by rw [← h4]; exact results_tmp rfl _ _ _) hN.defers ⟨rfl, bt hB1 hN.below⟩

set_option maxRecDepth 100000 in
set_option maxHeartbeats 6400000 in
theorem refKids_31 (t : Tree) (p : Option Addr) (cap : Nat) (h : Bool) (w : World) (hk : KidsV w (.slice p t.kids.length cap) t.kids) (hkl : t.kids.length ≤ 4194304) (hkd : t.kind = 31) :
    Calls Tryz.prog 71 #[nodeV t (.slice p t.kids.length cap), .bool h] w fun e w' => e = .returned (.bool (kindsB [[22]] t.kids)) ∧ Below w.heap.size w w' := by
  have hB1 : Below w.heap.size w (w.alloc (.cells #[.int .i64 31, .string t.text, .int .i64 t.at_, .int .i64 t.end_, .slice p t.kids.length cap] 24)).drew := ((Below.refl _ _).alloc (Nat.le_refl _) _).drew
  have HN : NodeAt (w.alloc (.cells #[.int .i64 31, .string t.text, .int .i64 t.at_, .int .i64 t.end_, .slice p t.kids.length cap] 24)).drew w.heap.size 0 t (.slice p t.kids.length cap) := by constructor <;> simp [go_sem, hkd]
  have HK : KidsV (w.alloc (.cells #[.int .i64 31, .string t.text, .int .i64 t.at_, .int .i64 t.end_, .slice p t.kids.length cap] 24)).drew (.slice p t.kids.length cap) t.kids := hk.later hB1
  simp only [nodeV, hkd]
  go_enter Tryz.func71, Tryz.ntmps71
  go_wp2_with fail
  refine region_spec (by kernel_rfl) [299, 300, 301, 302, 303, 4] (fun i => (([.is (nodeV t (.slice p t.kids.length cap)), .ints [22], .ints [22], .lists [[22]], .is (.bool (kindsB [[22]] t.kids)), .is (.bool (kindsB [[22]] t.kids))] : List Ph).getD i .any).says) rfl (by decide) 339 rfl (by decide) (by kernel_rfl) (fun _ _ _ _ h hb => Ph.later h hb) ?_ ?_
  · intro i hi a w' hN hall
    have HN' := HN.stays hN.below
    have HK' := HK.later hN.below
    have hi' : i < 6 := hi
    rcases (show i = 0 ∨ i = 1 ∨ i = 2 ∨ i = 3 ∨ i = 4 ∨ i = 5 by omega) with rfl | rfl | rfl | rfl | rfl | rfl
    · exact do_node rfl (hN.base 2 (by decide)) HN'
    · exact do_ints1 22 rfl
    · exact do_one rfl (hall 1 rfl)
    · exact do_lists1 rfl (hall 2 rfl)
    · exact do_kinds rfl HK' hkl (by decide) (hall 0 rfl) (hall 3 rfl)
    · exact do_assign rfl (hall 4 rfl)
  · intro a w' hN hall
    have h4 : a.eval (.tmp 4) = (.bool (kindsB [[22]] t.kids)) := hall 5 (by decide)
    go_wp2_with fail
    exact bodyPost_ret (v := (.bool (kindsB [[22]] t.kids))) (by rw [← h4]; exact results_tmp rfl _ _ _) hN.defers ⟨rfl, bt hB1 hN.below⟩

set_option maxRecDepth 100000 in
set_option maxHeartbeats 6400000 in
theorem refKids_32 (t : Tree) (p : Option Addr) (cap : Nat) (h : Bool) (w : World) (hk : KidsV w (.slice p t.kids.length cap) t.kids) (hkl : t.kids.length ≤ 4194304) (hkd : t.kind = 32) :
    Calls Tryz.prog 71 #[nodeV t (.slice p t.kids.length cap), .bool h] w fun e w' => e = .returned (.bool (kindsB [[22]] t.kids)) ∧ Below w.heap.size w w' := by
  have hB1 : Below w.heap.size w (w.alloc (.cells #[.int .i64 32, .string t.text, .int .i64 t.at_, .int .i64 t.end_, .slice p t.kids.length cap] 24)).drew := ((Below.refl _ _).alloc (Nat.le_refl _) _).drew
  have HN : NodeAt (w.alloc (.cells #[.int .i64 32, .string t.text, .int .i64 t.at_, .int .i64 t.end_, .slice p t.kids.length cap] 24)).drew w.heap.size 0 t (.slice p t.kids.length cap) := by constructor <;> simp [go_sem, hkd]
  have HK : KidsV (w.alloc (.cells #[.int .i64 32, .string t.text, .int .i64 t.at_, .int .i64 t.end_, .slice p t.kids.length cap] 24)).drew (.slice p t.kids.length cap) t.kids := hk.later hB1
  simp only [nodeV, hkd]
  go_enter Tryz.func71, Tryz.ntmps71
  go_wp2_with fail
  refine region_spec (by kernel_rfl) [299, 300, 301, 302, 303, 4] (fun i => (([.is (nodeV t (.slice p t.kids.length cap)), .ints [22], .ints [22], .lists [[22]], .is (.bool (kindsB [[22]] t.kids)), .is (.bool (kindsB [[22]] t.kids))] : List Ph).getD i .any).says) rfl (by decide) 339 rfl (by decide) (by kernel_rfl) (fun _ _ _ _ h hb => Ph.later h hb) ?_ ?_
  · intro i hi a w' hN hall
    have HN' := HN.stays hN.below
    have HK' := HK.later hN.below
    have hi' : i < 6 := hi
    rcases (show i = 0 ∨ i = 1 ∨ i = 2 ∨ i = 3 ∨ i = 4 ∨ i = 5 by omega) with rfl | rfl | rfl | rfl | rfl | rfl
    · exact do_node rfl (hN.base 2 (by decide)) HN'
    · exact do_ints1 22 rfl
    · exact do_one rfl (hall 1 rfl)
    · exact do_lists1 rfl (hall 2 rfl)
    · exact do_kinds rfl HK' hkl (by decide) (hall 0 rfl) (hall 3 rfl)
    · exact do_assign rfl (hall 4 rfl)
  · intro a w' hN hall
    have h4 : a.eval (.tmp 4) = (.bool (kindsB [[22]] t.kids)) := hall 5 (by decide)
    go_wp2_with fail
    exact bodyPost_ret (v := (.bool (kindsB [[22]] t.kids))) (by rw [← h4]; exact results_tmp rfl _ _ _) hN.defers ⟨rfl, bt hB1 hN.below⟩

set_option maxRecDepth 100000 in
set_option maxHeartbeats 6400000 in
theorem refKids_30 (t : Tree) (p : Option Addr) (cap : Nat) (h : Bool) (w : World) (hk : KidsV w (.slice p t.kids.length cap) t.kids) (hkl : t.kids.length ≤ 4194304) (hkd : t.kind = 30) :
    Calls Tryz.prog 71 #[nodeV t (.slice p t.kids.length cap), .bool h] w fun e w' => e = .returned (.bool (kindsB [[35, 36, 39, 40], [22]] t.kids)) ∧ Below w.heap.size w w' := by
  have hB1 : Below w.heap.size w (w.alloc (.cells #[.int .i64 30, .string t.text, .int .i64 t.at_, .int .i64 t.end_, .slice p t.kids.length cap] 24)).drew := ((Below.refl _ _).alloc (Nat.le_refl _) _).drew
  have HN : NodeAt (w.alloc (.cells #[.int .i64 30, .string t.text, .int .i64 t.at_, .int .i64 t.end_, .slice p t.kids.length cap] 24)).drew w.heap.size 0 t (.slice p t.kids.length cap) := by constructor <;> simp [go_sem, hkd]
  have HK : KidsV (w.alloc (.cells #[.int .i64 30, .string t.text, .int .i64 t.at_, .int .i64 t.end_, .slice p t.kids.length cap] 24)).drew (.slice p t.kids.length cap) t.kids := hk.later hB1
  simp only [nodeV, hkd]
  go_enter Tryz.func71, Tryz.ntmps71
  go_wp2_with fail
  refine region_spec (by kernel_rfl) [306, 307, 308, 309, 310, 311, 4] (fun i => (([.is (nodeV t (.slice p t.kids.length cap)), .ints [35, 36, 39, 40], .ints [22], .ints [22], .lists [[35, 36, 39, 40], [22]], .is (.bool (kindsB [[35, 36, 39, 40], [22]] t.kids)), .is (.bool (kindsB [[35, 36, 39, 40], [22]] t.kids))] : List Ph).getD i .any).says) rfl (by decide) 339 rfl (by decide) (by kernel_rfl) (fun _ _ _ _ h hb => Ph.later h hb) ?_ ?_
  · intro i hi a w' hN hall
    have HN' := HN.stays hN.below
    have HK' := HK.later hN.below
    have hi' : i < 7 := hi
    rcases (show i = 0 ∨ i = 1 ∨ i = 2 ∨ i = 3 ∨ i = 4 ∨ i = 5 ∨ i = 6 by omega) with rfl | rfl | rfl | rfl | rfl | rfl | rfl
    · exact do_node rfl (hN.base 2 (by decide)) HN'
    · exact do_exprs rfl
    · exact do_ints1 22 rfl
    · exact do_one rfl (hall 2 rfl)
    · exact do_lists2 rfl (hall 1 rfl) (hall 3 rfl)
    · exact do_kinds rfl HK' hkl (by decide) (hall 0 rfl) (hall 4 rfl)
    · exact do_assign rfl (hall 5 rfl)
  · intro a w' hN hall
    have h4 : a.eval (.tmp 4) = (.bool (kindsB [[35, 36, 39, 40], [22]] t.kids)) := hall 6 (by decide)
    go_wp2_with fail
    exact bodyPost_ret (v := (.bool (kindsB [[35, 36, 39, 40], [22]] t.kids))) (by rw [← h4]; exact results_tmp rfl _ _ _) hN.defers ⟨rfl, bt hB1 hN.below⟩

set_option maxRecDepth 100000 in
set_option maxHeartbeats 6400000 in
theorem refKids_33 (t : Tree) (p : Option Addr) (cap : Nat) (h : Bool) (w : World) (hk : KidsV w (.slice p t.kids.length cap) t.kids) (hkl : t.kids.length ≤ 4194304) (hkd : t.kind = 33) :
    Calls Tryz.prog 71 #[nodeV t (.slice p t.kids.length cap), .bool h] w fun e w' => e = .returned (.bool (kindsB [[22], [35, 36, 39, 40]] t.kids)) ∧ Below w.heap.size w w' := by
  have hB1 : Below w.heap.size w (w.alloc (.cells #[.int .i64 33, .string t.text, .int .i64 t.at_, .int .i64 t.end_, .slice p t.kids.length cap] 24)).drew := ((Below.refl _ _).alloc (Nat.le_refl _) _).drew
  have HN : NodeAt (w.alloc (.cells #[.int .i64 33, .string t.text, .int .i64 t.at_, .int .i64 t.end_, .slice p t.kids.length cap] 24)).drew w.heap.size 0 t (.slice p t.kids.length cap) := by constructor <;> simp [go_sem, hkd]
  have HK : KidsV (w.alloc (.cells #[.int .i64 33, .string t.text, .int .i64 t.at_, .int .i64 t.end_, .slice p t.kids.length cap] 24)).drew (.slice p t.kids.length cap) t.kids := hk.later hB1
  simp only [nodeV, hkd]
  go_enter Tryz.func71, Tryz.ntmps71
  go_wp2_with fail
  refine region_spec (by kernel_rfl) [314, 315, 316, 317, 318, 319, 4] (fun i => (([.is (nodeV t (.slice p t.kids.length cap)), .ints [22], .ints [22], .ints [35, 36, 39, 40], .lists [[22], [35, 36, 39, 40]], .is (.bool (kindsB [[22], [35, 36, 39, 40]] t.kids)), .is (.bool (kindsB [[22], [35, 36, 39, 40]] t.kids))] : List Ph).getD i .any).says) rfl (by decide) 339 rfl (by decide) (by kernel_rfl) (fun _ _ _ _ h hb => Ph.later h hb) ?_ ?_
  · intro i hi a w' hN hall
    have HN' := HN.stays hN.below
    have HK' := HK.later hN.below
    have hi' : i < 7 := hi
    rcases (show i = 0 ∨ i = 1 ∨ i = 2 ∨ i = 3 ∨ i = 4 ∨ i = 5 ∨ i = 6 by omega) with rfl | rfl | rfl | rfl | rfl | rfl | rfl
    · exact do_node rfl (hN.base 2 (by decide)) HN'
    · exact do_ints1 22 rfl
    · exact do_one rfl (hall 1 rfl)
    · exact do_exprs rfl
    · exact do_lists2 rfl (hall 2 rfl) (hall 3 rfl)
    · exact do_kinds rfl HK' hkl (by decide) (hall 0 rfl) (hall 4 rfl)
    · exact do_assign rfl (hall 5 rfl)
  · intro a w' hN hall
    have h4 : a.eval (.tmp 4) = (.bool (kindsB [[22], [35, 36, 39, 40]] t.kids)) := hall 6 (by decide)
    go_wp2_with fail
    exact bodyPost_ret (v := (.bool (kindsB [[22], [35, 36, 39, 40]] t.kids))) (by rw [← h4]; exact results_tmp rfl _ _ _) hN.defers ⟨rfl, bt hB1 hN.below⟩

set_option maxRecDepth 100000 in
set_option maxHeartbeats 6400000 in
theorem refKids_34 (t : Tree) (p : Option Addr) (cap : Nat) (h : Bool) (w : World) (hk : KidsV w (.slice p t.kids.length cap) t.kids) (hkl : t.kids.length ≤ 4194304) (hkd : t.kind = 34) :
    Calls Tryz.prog 71 #[nodeV t (.slice p t.kids.length cap), .bool h] w fun e w' => e = .returned (.bool (kindsB [[11], [35, 36, 39, 40, 1], [25]] t.kids)) ∧ Below w.heap.size w w' := by
  have hB1 : Below w.heap.size w (w.alloc (.cells #[.int .i64 34, .string t.text, .int .i64 t.at_, .int .i64 t.end_, .slice p t.kids.length cap] 24)).drew := ((Below.refl _ _).alloc (Nat.le_refl _) _).drew
  have HN : NodeAt (w.alloc (.cells #[.int .i64 34, .string t.text, .int .i64 t.at_, .int .i64 t.end_, .slice p t.kids.length cap] 24)).drew w.heap.size 0 t (.slice p t.kids.length cap) := by constructor <;> simp [go_sem, hkd]
  have HK : KidsV (w.alloc (.cells #[.int .i64 34, .string t.text, .int .i64 t.at_, .int .i64 t.end_, .slice p t.kids.length cap] 24)).drew (.slice p t.kids.length cap) t.kids := hk.later hB1
  simp only [nodeV, hkd]
  go_enter Tryz.func71, Tryz.ntmps71
  go_wp2_with fail
  refine region_spec (by kernel_rfl) [322, 323, 324, 325, 326, 327, 328, 329, 330, 331, 4] (fun i => (([.is (nodeV t (.slice p t.kids.length cap)), .ints [11], .ints [11], .full [35, 36, 39, 40], .ints [1], .ints [35, 36, 39, 40, 1], .ints [25], .ints [25], .lists [[11], [35, 36, 39, 40, 1], [25]], .is (.bool (kindsB [[11], [35, 36, 39, 40, 1], [25]] t.kids)), .is (.bool (kindsB [[11], [35, 36, 39, 40, 1], [25]] t.kids))] : List Ph).getD i .any).says) rfl (by decide) 339 rfl (by decide) (by kernel_rfl) (fun _ _ _ _ h hb => Ph.later h hb) ?_ ?_
  · intro i hi a w' hN hall
    have HN' := HN.stays hN.below
    have HK' := HK.later hN.below
    have hi' : i < 11 := hi
    rcases (show i = 0 ∨ i = 1 ∨ i = 2 ∨ i = 3 ∨ i = 4 ∨ i = 5 ∨ i = 6 ∨ i = 7 ∨ i = 8 ∨ i = 9 ∨ i = 10 by omega) with rfl | rfl | rfl | rfl | rfl | rfl | rfl | rfl | rfl | rfl | rfl
    · exact do_node rfl (hN.base 2 (by decide)) HN'
    · exact do_ints1 11 rfl
    · exact do_one rfl (hall 1 rfl)
    · exact do_exprsF rfl
    · exact do_ints1 1 rfl
    · exact do_append rfl (hall 3 rfl) (hall 4 rfl)
    · exact do_ints1 25 rfl
    · exact do_one rfl (hall 6 rfl)
    · exact do_lists3 rfl (hall 2 rfl) (hall 5 rfl) (hall 7 rfl)
    · exact do_kinds rfl HK' hkl (by decide) (hall 0 rfl) (hall 8 rfl)
    · exact do_assign rfl (hall 9 rfl)
  · intro a w' hN hall
    have h4 : a.eval (.tmp 4) = (.bool (kindsB [[11], [35, 36, 39, 40, 1], [25]] t.kids)) := hall 10 (by decide)
    go_wp2_with fail
    exact bodyPost_ret (v := (.bool (kindsB [[11], [35, 36, 39, 40, 1], [25]] t.kids))) (by rw [← h4]; exact results_tmp rfl _ _ _) hN.defers ⟨rfl, bt hB1 hN.below⟩

set_option maxRecDepth 100000 in
set_option maxHeartbeats 6400000 in
theorem refKids_40 (t : Tree) (p : Option Addr) (cap : Nat) (h : Bool) (w : World) (hk : KidsV w (.slice p t.kids.length cap) t.kids) (hkl : t.kids.length ≤ 4194304) (hkd : t.kind = 40) :
    Calls Tryz.prog 71 #[nodeV t (.slice p t.kids.length cap), .bool h] w fun e w' => e = .returned (.bool (kindsB [[35, 36, 39, 40], [35, 36, 39, 40]] t.kids)) ∧ Below w.heap.size w w' := by
  have hB1 : Below w.heap.size w (w.alloc (.cells #[.int .i64 40, .string t.text, .int .i64 t.at_, .int .i64 t.end_, .slice p t.kids.length cap] 24)).drew := ((Below.refl _ _).alloc (Nat.le_refl _) _).drew
  have HN : NodeAt (w.alloc (.cells #[.int .i64 40, .string t.text, .int .i64 t.at_, .int .i64 t.end_, .slice p t.kids.length cap] 24)).drew w.heap.size 0 t (.slice p t.kids.length cap) := by constructor <;> simp [go_sem, hkd]
  have HK : KidsV (w.alloc (.cells #[.int .i64 40, .string t.text, .int .i64 t.at_, .int .i64 t.end_, .slice p t.kids.length cap] 24)).drew (.slice p t.kids.length cap) t.kids := hk.later hB1
  simp only [nodeV, hkd]
  go_enter Tryz.func71, Tryz.ntmps71
  go_wp2_with fail
  refine region_spec (by kernel_rfl) [334, 335, 336, 337, 338, 4] (fun i => (([.is (nodeV t (.slice p t.kids.length cap)), .ints [35, 36, 39, 40], .ints [35, 36, 39, 40], .lists [[35, 36, 39, 40], [35, 36, 39, 40]], .is (.bool (kindsB [[35, 36, 39, 40], [35, 36, 39, 40]] t.kids)), .is (.bool (kindsB [[35, 36, 39, 40], [35, 36, 39, 40]] t.kids))] : List Ph).getD i .any).says) rfl (by decide) 339 rfl (by decide) (by kernel_rfl) (fun _ _ _ _ h hb => Ph.later h hb) ?_ ?_
  · intro i hi a w' hN hall
    have HN' := HN.stays hN.below
    have HK' := HK.later hN.below
    have hi' : i < 6 := hi
    rcases (show i = 0 ∨ i = 1 ∨ i = 2 ∨ i = 3 ∨ i = 4 ∨ i = 5 by omega) with rfl | rfl | rfl | rfl | rfl | rfl
    · exact do_node rfl (hN.base 2 (by decide)) HN'
    · exact do_exprs rfl
    · exact do_exprs rfl
    · exact do_lists2 rfl (hall 1 rfl) (hall 2 rfl)
    · exact do_kinds rfl HK' hkl (by decide) (hall 0 rfl) (hall 3 rfl)
    · exact do_assign rfl (hall 4 rfl)
  · intro a w' hN hall
    have h4 : a.eval (.tmp 4) = (.bool (kindsB [[35, 36, 39, 40], [35, 36, 39, 40]] t.kids)) := hall 5 (by decide)
    go_wp2_with fail
    exact bodyPost_ret (v := (.bool (kindsB [[35, 36, 39, 40], [35, 36, 39, 40]] t.kids))) (by rw [← h4]; exact results_tmp rfl _ _ _) hN.defers ⟨rfl, bt hB1 hN.below⟩

end Go.Proofs.YtlbaaiglebpjiaaGreatDoor
