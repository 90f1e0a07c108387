/-
  The reference's kids, kind by kind. By gen_vh.py.
-/
import Derived.Test.YtlbaaiglebpjiaaGreatDoorJp
namespace Go.Proofs.YtlbaaiglebpjiaaGreatDoor
open Go Go.RowKit Go.Shelf Go.Lib

set_option maxRecDepth 100000 in
set_option maxHeartbeats 6400000 in
theorem refKids_3 (t : Tree) (p : Option Addr) (cap : Nat) (h : Bool) (w : World) (hk : KidsV w (.slice p t.kids.length cap) t.kids) (hkl : t.kids.length ≤ 4194304) (hkd : t.kind = 3) :
    Calls Tryz.prog 71 #[nodeV t (.slice p t.kids.length cap), .bool h] w fun e w' => e = .returned (.bool (kindsB [[36]] t.kids)) ∧ Below w.heap.size w w' := by
  have hB1 : Below w.heap.size w (w.alloc (.cells #[.int .i64 3, .string t.text, .int .i64 t.at_, .int .i64 t.end_, .slice p t.kids.length cap] 24)).drew := ((Below.refl _ _).alloc (Nat.le_refl _) _).drew
  have HN : NodeAt (w.alloc (.cells #[.int .i64 3, .string t.text, .int .i64 t.at_, .int .i64 t.end_, .slice p t.kids.length cap] 24)).drew w.heap.size 0 t (.slice p t.kids.length cap) := by constructor <;> simp [go_sem, hkd]
  have HK : KidsV (w.alloc (.cells #[.int .i64 3, .string t.text, .int .i64 t.at_, .int .i64 t.end_, .slice p t.kids.length cap] 24)).drew (.slice p t.kids.length cap) t.kids := hk.later hB1
  simp only [nodeV, hkd]
  go_enter Tryz.func71, Tryz.ntmps71
  go_wp2_with fail
  refine region_spec (by kernel_rfl) [56, 57, 58, 59, 60, 4] (fun i => (([.is (nodeV t (.slice p t.kids.length cap)), .ints [36], .ints [36], .lists [[36]], .is (.bool (kindsB [[36]] t.kids)), .is (.bool (kindsB [[36]] t.kids))] : List Ph).getD i .any).says) rfl (by decide) 339 rfl (by decide) (by kernel_rfl) (fun _ _ _ _ h hb => Ph.later h hb) ?_ ?_
  · intro i hi a w' hN hall
    have HN' := HN.stays hN.below
    have HK' := HK.later hN.below
    have hi' : i < 6 := hi
    rcases (show i = 0 ∨ i = 1 ∨ i = 2 ∨ i = 3 ∨ i = 4 ∨ i = 5 by omega) with rfl | rfl | rfl | rfl | rfl | rfl
    · exact do_node rfl (hN.base 2 (by decide)) HN'
    · exact do_ints1 36 rfl
    · exact do_one rfl (hall 1 rfl)
    · exact do_lists1 rfl (hall 2 rfl)
    · exact do_kinds rfl HK' hkl (by decide) (hall 0 rfl) (hall 3 rfl)
    · exact do_assign rfl (hall 4 rfl)
  · intro a w' hN hall
    have h4 : a.eval (.tmp 4) = (.bool (kindsB [[36]] t.kids)) := hall 5 (by decide)
    go_wp2_with fail
    exact bodyPost_ret (v := (.bool (kindsB [[36]] t.kids))) (by rw [← h4]; exact results_tmp rfl _ _ _) hN.defers ⟨rfl, bt hB1 hN.below⟩

set_option maxRecDepth 100000 in
set_option maxHeartbeats 6400000 in
theorem refKids_4 (t : Tree) (p : Option Addr) (cap : Nat) (h : Bool) (w : World) (hk : KidsV w (.slice p t.kids.length cap) t.kids) (hkl : t.kids.length ≤ 4194304) (hkd : t.kind = 4) :
    Calls Tryz.prog 71 #[nodeV t (.slice p t.kids.length cap), .bool h] w fun e w' => e = .returned (.bool (kindsB [[10]] t.kids)) ∧ Below w.heap.size w w' := by
  have hB1 : Below w.heap.size w (w.alloc (.cells #[.int .i64 4, .string t.text, .int .i64 t.at_, .int .i64 t.end_, .slice p t.kids.length cap] 24)).drew := ((Below.refl _ _).alloc (Nat.le_refl _) _).drew
  have HN : NodeAt (w.alloc (.cells #[.int .i64 4, .string t.text, .int .i64 t.at_, .int .i64 t.end_, .slice p t.kids.length cap] 24)).drew w.heap.size 0 t (.slice p t.kids.length cap) := by constructor <;> simp [go_sem, hkd]
  have HK : KidsV (w.alloc (.cells #[.int .i64 4, .string t.text, .int .i64 t.at_, .int .i64 t.end_, .slice p t.kids.length cap] 24)).drew (.slice p t.kids.length cap) t.kids := hk.later hB1
  simp only [nodeV, hkd]
  go_enter Tryz.func71, Tryz.ntmps71
  go_wp2_with fail
  refine region_spec (by kernel_rfl) [63, 64, 65, 66, 67, 4] (fun i => (([.is (nodeV t (.slice p t.kids.length cap)), .ints [10], .ints [10], .lists [[10]], .is (.bool (kindsB [[10]] t.kids)), .is (.bool (kindsB [[10]] t.kids))] : List Ph).getD i .any).says) rfl (by decide) 339 rfl (by decide) (by kernel_rfl) (fun _ _ _ _ h hb => Ph.later h hb) ?_ ?_
  · intro i hi a w' hN hall
    have HN' := HN.stays hN.below
    have HK' := HK.later hN.below
    have hi' : i < 6 := hi
    rcases (show i = 0 ∨ i = 1 ∨ i = 2 ∨ i = 3 ∨ i = 4 ∨ i = 5 by omega) with rfl | rfl | rfl | rfl | rfl | rfl
    · exact do_node rfl (hN.base 2 (by decide)) HN'
    · exact do_ints1 10 rfl
    · exact do_one rfl (hall 1 rfl)
    · exact do_lists1 rfl (hall 2 rfl)
    · exact do_kinds rfl HK' hkl (by decide) (hall 0 rfl) (hall 3 rfl)
    · exact do_assign rfl (hall 4 rfl)
  · intro a w' hN hall
    have h4 : a.eval (.tmp 4) = (.bool (kindsB [[10]] t.kids)) := hall 5 (by decide)
    go_wp2_with fail
    exact bodyPost_ret (v := (.bool (kindsB [[10]] t.kids))) (by rw [← h4]; exact results_tmp rfl _ _ _) hN.defers ⟨rfl, bt hB1 hN.below⟩

set_option maxRecDepth 100000 in
set_option maxHeartbeats 6400000 in
theorem refKids_5 (t : Tree) (p : Option Addr) (cap : Nat) (h : Bool) (w : World) (hk : KidsV w (.slice p t.kids.length cap) t.kids) (hkl : t.kids.length ≤ 4194304) (hkd : t.kind = 5) :
    Calls Tryz.prog 71 #[nodeV t (.slice p t.kids.length cap), .bool h] w fun e w' => e = .returned (.bool (kindsB [[10], [12]] t.kids)) ∧ Below w.heap.size w w' := by
  have hB1 : Below w.heap.size w (w.alloc (.cells #[.int .i64 5, .string t.text, .int .i64 t.at_, .int .i64 t.end_, .slice p t.kids.length cap] 24)).drew := ((Below.refl _ _).alloc (Nat.le_refl _) _).drew
  have HN : NodeAt (w.alloc (.cells #[.int .i64 5, .string t.text, .int .i64 t.at_, .int .i64 t.end_, .slice p t.kids.length cap] 24)).drew w.heap.size 0 t (.slice p t.kids.length cap) := by constructor <;> simp [go_sem, hkd]
  have HK : KidsV (w.alloc (.cells #[.int .i64 5, .string t.text, .int .i64 t.at_, .int .i64 t.end_, .slice p t.kids.length cap] 24)).drew (.slice p t.kids.length cap) t.kids := hk.later hB1
  simp only [nodeV, hkd]
  go_enter Tryz.func71, Tryz.ntmps71
  go_wp2_with fail
  refine region_spec (by kernel_rfl) [70, 71, 72, 73, 74, 75, 76, 4] (fun i => (([.is (nodeV t (.slice p t.kids.length cap)), .ints [10], .ints [10], .ints [12], .ints [12], .lists [[10], [12]], .is (.bool (kindsB [[10], [12]] t.kids)), .is (.bool (kindsB [[10], [12]] t.kids))] : List Ph).getD i .any).says) rfl (by decide) 339 rfl (by decide) (by kernel_rfl) (fun _ _ _ _ h hb => Ph.later h hb) ?_ ?_
  · intro i hi a w' hN hall
    have HN' := HN.stays hN.below
    have HK' := HK.later hN.below
    have hi' : i < 8 := hi
    rcases (show i = 0 ∨ i = 1 ∨ i = 2 ∨ i = 3 ∨ i = 4 ∨ i = 5 ∨ i = 6 ∨ i = 7 by omega) with rfl | rfl | rfl | rfl | rfl | rfl | rfl | rfl
    · exact do_node rfl (hN.base 2 (by decide)) HN'
    · exact do_ints1 10 rfl
    · exact do_one rfl (hall 1 rfl)
    · exact do_ints1 12 rfl
    · exact do_one rfl (hall 3 rfl)
    · exact do_lists2 rfl (hall 2 rfl) (hall 4 rfl)
    · exact do_kinds rfl HK' hkl (by decide) (hall 0 rfl) (hall 5 rfl)
    · exact do_assign rfl (hall 6 rfl)
  · intro a w' hN hall
    have h4 : a.eval (.tmp 4) = (.bool (kindsB [[10], [12]] t.kids)) := hall 7 (by decide)
    go_wp2_with fail
    exact bodyPost_ret (v := (.bool (kindsB [[10], [12]] t.kids))) (by rw [← h4]; exact results_tmp rfl _ _ _) hN.defers ⟨rfl, bt hB1 hN.below⟩

set_option maxRecDepth 100000 in
set_option maxHeartbeats 6400000 in
theorem refKids_8 (t : Tree) (p : Option Addr) (cap : Nat) (h : Bool) (w : World) (hk : KidsV w (.slice p t.kids.length cap) t.kids) (hkl : t.kids.length ≤ 4194304) (hkd : t.kind = 8) :
    Calls Tryz.prog 71 #[nodeV t (.slice p t.kids.length cap), .bool h] w fun e w' => e = .returned (.bool (kindsB [[13, 14, 15, 16, 17]] t.kids)) ∧ Below w.heap.size w w' := by
  have hB1 : Below w.heap.size w (w.alloc (.cells #[.int .i64 8, .string t.text, .int .i64 t.at_, .int .i64 t.end_, .slice p t.kids.length cap] 24)).drew := ((Below.refl _ _).alloc (Nat.le_refl _) _).drew
  have HN : NodeAt (w.alloc (.cells #[.int .i64 8, .string t.text, .int .i64 t.at_, .int .i64 t.end_, .slice p t.kids.length cap] 24)).drew w.heap.size 0 t (.slice p t.kids.length cap) := by constructor <;> simp [go_sem, hkd]
  have HK : KidsV (w.alloc (.cells #[.int .i64 8, .string t.text, .int .i64 t.at_, .int .i64 t.end_, .slice p t.kids.length cap] 24)).drew (.slice p t.kids.length cap) t.kids := hk.later hB1
  simp only [nodeV, hkd]
  go_enter Tryz.func71, Tryz.ntmps71
  go_wp2_with fail
  refine region_spec (by kernel_rfl) [115, 116, 117, 118, 119, 4] (fun i => (([.is (nodeV t (.slice p t.kids.length cap)), .ints [13, 14, 15, 16, 17], .ints [13, 14, 15, 16, 17], .lists [[13, 14, 15, 16, 17]], .is (.bool (kindsB [[13, 14, 15, 16, 17]] t.kids)), .is (.bool (kindsB [[13, 14, 15, 16, 17]] t.kids))] : List Ph).getD i .any).says) rfl (by decide) 339 rfl (by decide) (by kernel_rfl) (fun _ _ _ _ h hb => Ph.later h hb) ?_ ?_
  · intro i hi a w' hN hall
    have HN' := HN.stays hN.below
    have HK' := HK.later hN.below
    have hi' : i < 6 := hi
    rcases (show i = 0 ∨ i = 1 ∨ i = 2 ∨ i = 3 ∨ i = 4 ∨ i = 5 by omega) with rfl | rfl | rfl | rfl | rfl | rfl
    · exact do_node rfl (hN.base 2 (by decide)) HN'
    · exact do_ints5 13 14 15 16 17 rfl
    · exact do_one rfl (hall 1 rfl)
    · exact do_lists1 rfl (hall 2 rfl)
    · exact do_kinds rfl HK' hkl (by decide) (hall 0 rfl) (hall 3 rfl)
    · exact do_assign rfl (hall 4 rfl)
  · intro a w' hN hall
    have h4 : a.eval (.tmp 4) = (.bool (kindsB [[13, 14, 15, 16, 17]] t.kids)) := hall 5 (by decide)
    go_wp2_with fail
    exact bodyPost_ret (v := (.bool (kindsB [[13, 14, 15, 16, 17]] t.kids))) (by rw [← h4]; exact results_tmp rfl _ _ _) hN.defers ⟨rfl, bt hB1 hN.below⟩

set_option maxRecDepth 100000 in
set_option maxHeartbeats 6400000 in
theorem refKids_11 (t : Tree) (p : Option Addr) (cap : Nat) (h : Bool) (w : World) (hk : KidsV w (.slice p t.kids.length cap) t.kids) (hkl : t.kids.length ≤ 4194304) (hkd : t.kind = 11) :
    Calls Tryz.prog 71 #[nodeV t (.slice p t.kids.length cap), .bool h] w fun e w' => e = .returned (.bool (kindsB [[35]] t.kids)) ∧ Below w.heap.size w w' := by
  have hB1 : Below w.heap.size w (w.alloc (.cells #[.int .i64 11, .string t.text, .int .i64 t.at_, .int .i64 t.end_, .slice p t.kids.length cap] 24)).drew := ((Below.refl _ _).alloc (Nat.le_refl _) _).drew
  have HN : NodeAt (w.alloc (.cells #[.int .i64 11, .string t.text, .int .i64 t.at_, .int .i64 t.end_, .slice p t.kids.length cap] 24)).drew w.heap.size 0 t (.slice p t.kids.length cap) := by constructor <;> simp [go_sem, hkd]
  have HK : KidsV (w.alloc (.cells #[.int .i64 11, .string t.text, .int .i64 t.at_, .int .i64 t.end_, .slice p t.kids.length cap] 24)).drew (.slice p t.kids.length cap) t.kids := hk.later hB1
  simp only [nodeV, hkd]
  go_enter Tryz.func71, Tryz.ntmps71
  go_wp2_with fail
  refine region_spec (by kernel_rfl) [154, 155, 156, 157, 158, 4] (fun i => (([.is (nodeV t (.slice p t.kids.length cap)), .ints [35], .ints [35], .lists [[35]], .is (.bool (kindsB [[35]] t.kids)), .is (.bool (kindsB [[35]] t.kids))] : List Ph).getD i .any).says) rfl (by decide) 339 rfl (by decide) (by kernel_rfl) (fun _ _ _ _ h hb => Ph.later h hb) ?_ ?_
  · intro i hi a w' hN hall
    have HN' := HN.stays hN.below
    have HK' := HK.later hN.below
    have hi' : i < 6 := hi
    rcases (show i = 0 ∨ i = 1 ∨ i = 2 ∨ i = 3 ∨ i = 4 ∨ i = 5 by omega) with rfl | rfl | rfl | rfl | rfl | rfl
    · exact do_node rfl (hN.base 2 (by decide)) HN'
    · exact do_ints1 35 rfl
    · exact do_one rfl (hall 1 rfl)
    · exact do_lists1 rfl (hall 2 rfl)
    · exact do_kinds rfl HK' hkl (by decide) (hall 0 rfl) (hall 3 rfl)
    · exact do_assign rfl (hall 4 rfl)
  · intro a w' hN hall
    have h4 : a.eval (.tmp 4) = (.bool (kindsB [[35]] t.kids)) := hall 5 (by decide)
    go_wp2_with fail
    exact bodyPost_ret (v := (.bool (kindsB [[35]] t.kids))) (by rw [← h4]; exact results_tmp rfl _ _ _) hN.defers ⟨rfl, bt hB1 hN.below⟩

set_option maxRecDepth 100000 in
set_option maxHeartbeats 6400000 in
theorem refKids_12 (t : Tree) (p : Option Addr) (cap : Nat) (h : Bool) (w : World) (hk : KidsV w (.slice p t.kids.length cap) t.kids) (hkl : t.kids.length ≤ 4194304) (hkd : t.kind = 12) :
    Calls Tryz.prog 71 #[nodeV t (.slice p t.kids.length cap), .bool h] w fun e w' => e = .returned (.bool (kindsB [[37], [37]] t.kids)) ∧ Below w.heap.size w w' := by
  have hB1 : Below w.heap.size w (w.alloc (.cells #[.int .i64 12, .string t.text, .int .i64 t.at_, .int .i64 t.end_, .slice p t.kids.length cap] 24)).drew := ((Below.refl _ _).alloc (Nat.le_refl _) _).drew
  have HN : NodeAt (w.alloc (.cells #[.int .i64 12, .string t.text, .int .i64 t.at_, .int .i64 t.end_, .slice p t.kids.length cap] 24)).drew w.heap.size 0 t (.slice p t.kids.length cap) := by constructor <;> simp [go_sem, hkd]
  have HK : KidsV (w.alloc (.cells #[.int .i64 12, .string t.text, .int .i64 t.at_, .int .i64 t.end_, .slice p t.kids.length cap] 24)).drew (.slice p t.kids.length cap) t.kids := hk.later hB1
  simp only [nodeV, hkd]
  go_enter Tryz.func71, Tryz.ntmps71
  go_wp2_with fail
  refine region_spec (by kernel_rfl) [161, 162, 163, 164, 165, 166, 167, 4] (fun i => (([.is (nodeV t (.slice p t.kids.length cap)), .ints [37], .ints [37], .ints [37], .ints [37], .lists [[37], [37]], .is (.bool (kindsB [[37], [37]] t.kids)), .is (.bool (kindsB [[37], [37]] t.kids))] : List Ph).getD i .any).says) rfl (by decide) 339 rfl (by decide) (by kernel_rfl) (fun _ _ _ _ h hb => Ph.later h hb) ?_ ?_
  · intro i hi a w' hN hall
    have HN' := HN.stays hN.below
    have HK' := HK.later hN.below
    have hi' : i < 8 := hi
    rcases (show i = 0 ∨ i = 1 ∨ i = 2 ∨ i = 3 ∨ i = 4 ∨ i = 5 ∨ i = 6 ∨ i = 7 by omega) with rfl | rfl | rfl | rfl | rfl | rfl | rfl | rfl
    · exact do_node rfl (hN.base 2 (by decide)) HN'
    · exact do_ints1 37 rfl
    · exact do_one rfl (hall 1 rfl)
    · exact do_ints1 37 rfl
    · exact do_one rfl (hall 3 rfl)
    · exact do_lists2 rfl (hall 2 rfl) (hall 4 rfl)
    · exact do_kinds rfl HK' hkl (by decide) (hall 0 rfl) (hall 5 rfl)
    · exact do_assign rfl (hall 6 rfl)
  · intro a w' hN hall
    have h4 : a.eval (.tmp 4) = (.bool (kindsB [[37], [37]] t.kids)) := hall 7 (by decide)
    go_wp2_with fail
    exact bodyPost_ret (v := (.bool (kindsB [[37], [37]] t.kids))) (by rw [← h4]; exact results_tmp rfl _ _ _) hN.defers ⟨rfl, bt hB1 hN.below⟩

set_option maxRecDepth 100000 in
set_option maxHeartbeats 6400000 in
theorem refKids_13 (t : Tree) (p : Option Addr) (cap : Nat) (h : Bool) (w : World) (hk : KidsV w (.slice p t.kids.length cap) t.kids) (hkl : t.kids.length ≤ 4194304) (hkd : t.kind = 13) :
    Calls Tryz.prog 71 #[nodeV t (.slice p t.kids.length cap), .bool h] w fun e w' => e = .returned (.bool (kindsB [[18]] t.kids)) ∧ Below w.heap.size w w' := by
  have hB1 : Below w.heap.size w (w.alloc (.cells #[.int .i64 13, .string t.text, .int .i64 t.at_, .int .i64 t.end_, .slice p t.kids.length cap] 24)).drew := ((Below.refl _ _).alloc (Nat.le_refl _) _).drew
  have HN : NodeAt (w.alloc (.cells #[.int .i64 13, .string t.text, .int .i64 t.at_, .int .i64 t.end_, .slice p t.kids.length cap] 24)).drew w.heap.size 0 t (.slice p t.kids.length cap) := by constructor <;> simp [go_sem, hkd]
  have HK : KidsV (w.alloc (.cells #[.int .i64 13, .string t.text, .int .i64 t.at_, .int .i64 t.end_, .slice p t.kids.length cap] 24)).drew (.slice p t.kids.length cap) t.kids := hk.later hB1
  simp only [nodeV, hkd]
  go_enter Tryz.func71, Tryz.ntmps71
  go_wp2_with fail
  refine region_spec (by kernel_rfl) [170, 171, 172, 173, 174, 4] (fun i => (([.is (nodeV t (.slice p t.kids.length cap)), .ints [18], .ints [18], .lists [[18]], .is (.bool (kindsB [[18]] t.kids)), .is (.bool (kindsB [[18]] t.kids))] : List Ph).getD i .any).says) rfl (by decide) 339 rfl (by decide) (by kernel_rfl) (fun _ _ _ _ h hb => Ph.later h hb) ?_ ?_
  · intro i hi a w' hN hall
    have HN' := HN.stays hN.below
    have HK' := HK.later hN.below
    have hi' : i < 6 := hi
    rcases (show i = 0 ∨ i = 1 ∨ i = 2 ∨ i = 3 ∨ i = 4 ∨ i = 5 by omega) with rfl | rfl | rfl | rfl | rfl | rfl
    · exact do_node rfl (hN.base 2 (by decide)) HN'
    · exact do_ints1 18 rfl
    · exact do_one rfl (hall 1 rfl)
    · exact do_lists1 rfl (hall 2 rfl)
    · exact do_kinds rfl HK' hkl (by decide) (hall 0 rfl) (hall 3 rfl)
    · exact do_assign rfl (hall 4 rfl)
  · intro a w' hN hall
    have h4 : a.eval (.tmp 4) = (.bool (kindsB [[18]] t.kids)) := hall 5 (by decide)
    go_wp2_with fail
    exact bodyPost_ret (v := (.bool (kindsB [[18]] t.kids))) (by rw [← h4]; exact results_tmp rfl _ _ _) hN.defers ⟨rfl, bt hB1 hN.below⟩

set_option maxRecDepth 100000 in
set_option maxHeartbeats 6400000 in
theorem refKids_15 (t : Tree) (p : Option Addr) (cap : Nat) (h : Bool) (w : World) (hk : KidsV w (.slice p t.kids.length cap) t.kids) (hkl : t.kids.length ≤ 4194304) (hkd : t.kind = 15) :
    Calls Tryz.prog 71 #[nodeV t (.slice p t.kids.length cap), .bool h] w fun e w' => e = .returned (.bool (kindsB [[18], [19]] t.kids)) ∧ Below w.heap.size w w' := by
  have hB1 : Below w.heap.size w (w.alloc (.cells #[.int .i64 15, .string t.text, .int .i64 t.at_, .int .i64 t.end_, .slice p t.kids.length cap] 24)).drew := ((Below.refl _ _).alloc (Nat.le_refl _) _).drew
  have HN : NodeAt (w.alloc (.cells #[.int .i64 15, .string t.text, .int .i64 t.at_, .int .i64 t.end_, .slice p t.kids.length cap] 24)).drew w.heap.size 0 t (.slice p t.kids.length cap) := by constructor <;> simp [go_sem, hkd]
  have HK : KidsV (w.alloc (.cells #[.int .i64 15, .string t.text, .int .i64 t.at_, .int .i64 t.end_, .slice p t.kids.length cap] 24)).drew (.slice p t.kids.length cap) t.kids := hk.later hB1
  simp only [nodeV, hkd]
  go_enter Tryz.func71, Tryz.ntmps71
  go_wp2_with fail
  refine region_spec (by kernel_rfl) [204, 205, 206, 207, 208, 209, 210, 4] (fun i => (([.is (nodeV t (.slice p t.kids.length cap)), .ints [18], .ints [18], .ints [19], .ints [19], .lists [[18], [19]], .is (.bool (kindsB [[18], [19]] t.kids)), .is (.bool (kindsB [[18], [19]] t.kids))] : List Ph).getD i .any).says) rfl (by decide) 339 rfl (by decide) (by kernel_rfl) (fun _ _ _ _ h hb => Ph.later h hb) ?_ ?_
  · intro i hi a w' hN hall
    have HN' := HN.stays hN.below
    have HK' := HK.later hN.below
    have hi' : i < 8 := hi
    rcases (show i = 0 ∨ i = 1 ∨ i = 2 ∨ i = 3 ∨ i = 4 ∨ i = 5 ∨ i = 6 ∨ i = 7 by omega) with rfl | rfl | rfl | rfl | rfl | rfl | rfl | rfl
    · exact do_node rfl (hN.base 2 (by decide)) HN'
    · exact do_ints1 18 rfl
    · exact do_one rfl (hall 1 rfl)
    · exact do_ints1 19 rfl
    · exact do_one rfl (hall 3 rfl)
    · exact do_lists2 rfl (hall 2 rfl) (hall 4 rfl)
    · exact do_kinds rfl HK' hkl (by decide) (hall 0 rfl) (hall 5 rfl)
    · exact do_assign rfl (hall 6 rfl)
  · intro a w' hN hall
    have h4 : a.eval (.tmp 4) = (.bool (kindsB [[18], [19]] t.kids)) := hall 7 (by decide)
    go_wp2_with fail
    exact bodyPost_ret (v := (.bool (kindsB [[18], [19]] t.kids))) (by rw [← h4]; exact results_tmp rfl _ _ _) hN.defers ⟨rfl, bt hB1 hN.below⟩

set_option maxRecDepth 100000 in
set_option maxHeartbeats 6400000 in
theorem refKids_17 (t : Tree) (p : Option Addr) (cap : Nat) (h : Bool) (w : World) (hk : KidsV w (.slice p t.kids.length cap) t.kids) (hkl : t.kids.length ≤ 4194304) (hkd : t.kind = 17) :
    Calls Tryz.prog 71 #[nodeV t (.slice p t.kids.length cap), .bool h] w fun e w' => e = .returned (.bool (kindsB [[10], [20], [19]] t.kids)) ∧ Below w.heap.size w w' := by
  have hB1 : Below w.heap.size w (w.alloc (.cells #[.int .i64 17, .string t.text, .int .i64 t.at_, .int .i64 t.end_, .slice p t.kids.length cap] 24)).drew := ((Below.refl _ _).alloc (Nat.le_refl _) _).drew
  have HN : NodeAt (w.alloc (.cells #[.int .i64 17, .string t.text, .int .i64 t.at_, .int .i64 t.end_, .slice p t.kids.length cap] 24)).drew w.heap.size 0 t (.slice p t.kids.length cap) := by constructor <;> simp [go_sem, hkd]
  have HK : KidsV (w.alloc (.cells #[.int .i64 17, .string t.text, .int .i64 t.at_, .int .i64 t.end_, .slice p t.kids.length cap] 24)).drew (.slice p t.kids.length cap) t.kids := hk.later hB1
  simp only [nodeV, hkd]
  go_enter Tryz.func71, Tryz.ntmps71
  go_wp2_with fail
  refine region_spec (by kernel_rfl) [213, 214, 215, 216, 217, 218, 219, 220, 221, 4] (fun i => (([.is (nodeV t (.slice p t.kids.length cap)), .ints [10], .ints [10], .ints [20], .ints [20], .ints [19], .ints [19], .lists [[10], [20], [19]], .is (.bool (kindsB [[10], [20], [19]] t.kids)), .is (.bool (kindsB [[10], [20], [19]] t.kids))] : List Ph).getD i .any).says) rfl (by decide) 339 rfl (by decide) (by kernel_rfl) (fun _ _ _ _ h hb => Ph.later h hb) ?_ ?_
  · intro i hi a w' hN hall
    have HN' := HN.stays hN.below
    have HK' := HK.later hN.below
    have hi' : i < 10 := hi
    rcases (show i = 0 ∨ i = 1 ∨ i = 2 ∨ i = 3 ∨ i = 4 ∨ i = 5 ∨ i = 6 ∨ i = 7 ∨ i = 8 ∨ i = 9 by omega) with rfl | rfl | rfl | rfl | rfl | rfl | rfl | rfl | rfl | rfl
    · exact do_node rfl (hN.base 2 (by decide)) HN'
    · exact do_ints1 10 rfl
    · exact do_one rfl (hall 1 rfl)
    · exact do_ints1 20 rfl
    · exact do_one rfl (hall 3 rfl)
    · exact do_ints1 19 rfl
    · exact do_one rfl (hall 5 rfl)
    · exact do_lists3 rfl (hall 2 rfl) (hall 4 rfl) (hall 6 rfl)
    · exact do_kinds rfl HK' hkl (by decide) (hall 0 rfl) (hall 7 rfl)
    · exact do_assign rfl (hall 8 rfl)
  · intro a w' hN hall
    have h4 : a.eval (.tmp 4) = (.bool (kindsB [[10], [20], [19]] t.kids)) := hall 9 (by decide)
    go_wp2_with fail
    exact bodyPost_ret (v := (.bool (kindsB [[10], [20], [19]] t.kids))) (by rw [← h4]; exact results_tmp rfl _ _ _) hN.defers ⟨rfl, bt hB1 hN.below⟩

set_option maxRecDepth 100000 in
set_option maxHeartbeats 6400000 in
theorem refKids_190 (t : Tree) (p : Option Addr) (cap : Nat) (w : World) (hk : KidsV w (.slice p t.kids.length cap) t.kids) (hkl : t.kids.length ≤ 4194304) (hkd : t.kind = 19) :
    Calls Tryz.prog 71 #[nodeV t (.slice p t.kids.length cap), .bool false] w fun e w' => e = .returned (.bool (kindsB [[37]] t.kids)) ∧ Below w.heap.size w w' := by
  have hB1 : Below w.heap.size w (w.alloc (.cells #[.int .i64 19, .string t.text, .int .i64 t.at_, .int .i64 t.end_, .slice p t.kids.length cap] 24)).drew := ((Below.refl _ _).alloc (Nat.le_refl _) _).drew
  have HN : NodeAt (w.alloc (.cells #[.int .i64 19, .string t.text, .int .i64 t.at_, .int .i64 t.end_, .slice p t.kids.length cap] 24)).drew w.heap.size 0 t (.slice p t.kids.length cap) := by constructor <;> simp [go_sem, hkd]
  have HK : KidsV (w.alloc (.cells #[.int .i64 19, .string t.text, .int .i64 t.at_, .int .i64 t.end_, .slice p t.kids.length cap] 24)).drew (.slice p t.kids.length cap) t.kids := hk.later hB1
  simp only [nodeV, hkd]
  go_enter Tryz.func71, Tryz.ntmps71
  go_wp2_with fail
  refine region_spec (by kernel_rfl) [234, 235, 236, 237, 238, 4] (fun i => (([.is (nodeV t (.slice p t.kids.length cap)), .ints [37], .ints [37], .lists [[37]], .is (.bool (kindsB [[37]] t.kids)), .is (.bool (kindsB [[37]] t.kids))] : List Ph).getD i .any).says) rfl (by decide) 339 rfl (by decide) (by kernel_rfl) (fun _ _ _ _ h hb => Ph.later h hb) ?_ ?_
  · intro i hi a w' hN hall
    have HN' := HN.stays hN.below
    have HK' := HK.later hN.below
    have hi' : i < 6 := hi
    rcases (show i = 0 ∨ i = 1 ∨ i = 2 ∨ i = 3 ∨ i = 4 ∨ i = 5 by omega) with rfl | rfl | rfl | rfl | rfl | rfl
    · exact do_node rfl (hN.base 2 (by decide)) HN'
    · exact do_ints1 37 rfl
    · exact do_one rfl (hall 1 rfl)
    · exact do_lists1 rfl (hall 2 rfl)
    · exact do_kinds rfl HK' hkl (by decide) (hall 0 rfl) (hall 3 rfl)
    · exact do_assign rfl (hall 4 rfl)
  · intro a w' hN hall
    have h4 : a.eval (.tmp 4) = (.bool (kindsB [[37]] t.kids)) := hall 5 (by decide)
    go_wp2_with fail
    exact bodyPost_ret (v := (.bool (kindsB [[37]] t.kids))) (by rw [← h4]; exact results_tmp rfl _ _ _) hN.defers ⟨rfl, bt hB1 hN.below⟩

set_option maxRecDepth 100000 in
set_option maxHeartbeats 6400000 in
theorem refKids_191 (t : Tree) (p : Option Addr) (cap : Nat) (w : World) (hk : KidsV w (.slice p t.kids.length cap) t.kids) (hkl : t.kids.length ≤ 4194304) (hkd : t.kind = 19) :
    Calls Tryz.prog 71 #[nodeV t (.slice p t.kids.length cap), .bool true] w fun e w' => e = .returned (.bool (kindsB [[35, 36, 39, 40]] t.kids)) ∧ Below w.heap.size w w' := by
  have hB1 : Below w.heap.size w (w.alloc (.cells #[.int .i64 19, .string t.text, .int .i64 t.at_, .int .i64 t.end_, .slice p t.kids.length cap] 24)).drew := ((Below.refl _ _).alloc (Nat.le_refl _) _).drew
  have HN : NodeAt (w.alloc (.cells #[.int .i64 19, .string t.text, .int .i64 t.at_, .int .i64 t.end_, .slice p t.kids.length cap] 24)).drew w.heap.size 0 t (.slice p t.kids.length cap) := by constructor <;> simp [go_sem, hkd]
  have HK : KidsV (w.alloc (.cells #[.int .i64 19, .string t.text, .int .i64 t.at_, .int .i64 t.end_, .slice p t.kids.length cap] 24)).drew (.slice p t.kids.length cap) t.kids := hk.later hB1
  simp only [nodeV, hkd]
  go_enter Tryz.func71, Tryz.ntmps71
  go_wp2_with fail
  refine region_spec (by kernel_rfl) [230, 231, 232, 233, 4] (fun i => (([.is (nodeV t (.slice p t.kids.length cap)), .ints [35, 36, 39, 40], .lists [[35, 36, 39, 40]], .is (.bool (kindsB [[35, 36, 39, 40]] t.kids)), .is (.bool (kindsB [[35, 36, 39, 40]] t.kids))] : List Ph).getD i .any).says) rfl (by decide) 339 rfl (by decide) (by kernel_rfl) (fun _ _ _ _ h hb => Ph.later h hb) ?_ ?_
  · intro i hi a w' hN hall
    have HN' := HN.stays hN.below
    have HK' := HK.later hN.below
    have hi' : i < 5 := hi
    rcases (show i = 0 ∨ i = 1 ∨ i = 2 ∨ i = 3 ∨ i = 4 by omega) with rfl | rfl | rfl | rfl | rfl
    · exact do_node rfl (hN.base 2 (by decide)) HN'
    · exact do_exprs rfl
    · exact do_lists1 rfl (hall 1 rfl)
    · exact do_kinds rfl HK' hkl (by decide) (hall 0 rfl) (hall 2 rfl)
    · exact do_assign rfl (hall 3 rfl)
  · intro a w' hN hall
    have h4 : a.eval (.tmp 4) = (.bool (kindsB [[35, 36, 39, 40]] t.kids)) := hall 4 (by decide)
    go_wp2_with fail
    exact bodyPost_ret (v := (.bool (kindsB [[35, 36, 39, 40]] t.kids))) (by rw [← h4]; exact results_tmp rfl _ _ _) hN.defers ⟨rfl, bt hB1 hN.below⟩

end Go.Proofs.YtlbaaiglebpjiaaGreatDoor
