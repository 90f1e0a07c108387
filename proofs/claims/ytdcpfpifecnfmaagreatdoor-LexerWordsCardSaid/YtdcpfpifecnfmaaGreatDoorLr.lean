import Derived.Test.YtdcpfpifecnfmaaGreatDoorLq
/-
  The examples of the chapter.
-/
namespace Go.Proofs.YtdcpfpifecnfmaaGreatDoor
open Go.RowKit Go.Shelf Go.Lib

theorem ex_words : wordsB ⟨#[97, 100, 100, 32, 50, 32, 116, 111, 32, 97, 40, 120, 41, 59, 35, 101, 110, 100]⟩ = [⟨#[97, 100, 100]⟩, ⟨#[50]⟩, ⟨#[116, 111]⟩, ⟨#[97]⟩, ⟨#[40]⟩, ⟨#[120]⟩, ⟨#[41]⟩, ⟨#[59]⟩] := by kernel_rfl
theorem ex_words2 : wordsB ⟨#[49, 46, 46, 51]⟩ = [⟨#[49]⟩, ⟨#[46, 46]⟩, ⟨#[51]⟩] := by kernel_rfl
theorem ex_compact : compactB ⟨#[97, 100, 100, 32, 50, 32, 116, 111, 32, 97, 40, 120, 41, 59, 35, 101, 110, 100]⟩ = ⟨#[97, 100, 100, 32, 50, 116, 111, 32, 97, 40, 120, 41, 59]⟩ := by kernel_rfl
theorem ex_sep : sepB ⟨#[61]⟩ ⟨#[61]⟩ = true := by kernel_rfl
theorem ex_sep2 : sepB ⟨#[40]⟩ ⟨#[40]⟩ = false := by kernel_rfl
theorem ex_kind : kindN ⟨#[46]⟩ = 5 := by kernel_rfl

theorem Strs.lit (w : World) (xs : List ByteArray) : Strs (w.alloc (.cells (xs.map Value.string).toArray 9)) (.slice (some ⟨w.heap.size, 0, none⟩) xs.length xs.length) xs := by
  refine .inr ⟨w.heap.size, xs.length, rfl, by simp, fun j hj => ?_⟩
  rw [Nat.zero_add, World.cell?_alloc_new, List.getElem?_toArray, List.getElem?_map, List.getD_eq_getElem?_getD, List.getElem?_eq_getElem hj]
  rfl

set_option maxRecDepth 100000 in
set_option maxHeartbeats 1600000 in
theorem awake_any (w : World) :
    Calls Tryz.prog 4 #[] w fun e w' => e = .returned (.bool true) ∧ Below w.heap.size w w' := by
  have h1 := words_any (⟨#[97, 100, 100, 32, 50, 32, 116, 111, 32, 97, 40, 120, 41, 59, 35, 101, 110, 100]⟩ : ByteArray) (by decide) w
  have h5 := fun w' => compact_any (⟨#[97, 100, 100, 32, 50, 32, 116, 111, 32, 97, 40, 120, 41, 59, 35, 101, 110, 100]⟩ : ByteArray) (by decide) w'
  have h9 := fun w' => words_any (⟨#[49, 46, 46, 51]⟩ : ByteArray) (by decide) w'
  have h14 := fun w' => kind_plain (⟨#[46]⟩ : ByteArray) (by decide) (by rw [ex_kind]; decide) w'
  have h18 := fun w' => separate_any (⟨#[61]⟩ : ByteArray) (⟨#[61]⟩ : ByteArray) (by decide) w'
  have h21 := fun w' => separate_any (⟨#[40]⟩ : ByteArray) (⟨#[40]⟩ : ByteArray) (by decide) w'
  rw [ex_words] at h1
  rw [ex_compact] at h5
  rw [ex_words2] at h9
  rw [ex_kind] at h14
  rw [ex_sep] at h18
  rw [ex_sep2] at h21
  unfold RowOf at h1 h9
  go_enter Tryz.func4, Tryz.ntmps4
  go_wp2_with fail
  (with_reducible refine h1.mono ?_)
  rintro e w1 ⟨v, rfl, hr1, hB1⟩
  have k1 := equal_any ((Strs.of_row hr1).below ((Below.refl _ w1).alloc (Nat.le_refl _) _)) (Strs.lit w1 [(⟨#[97, 100, 100]⟩ : ByteArray), (⟨#[50]⟩ : ByteArray), (⟨#[116, 111]⟩ : ByteArray), (⟨#[97]⟩ : ByteArray), (⟨#[40]⟩ : ByteArray), (⟨#[120]⟩ : ByteArray), (⟨#[41]⟩ : ByteArray), (⟨#[59]⟩ : ByteArray)]) (by decide) (by decide)
  have HB1 : Hid (Below w.heap.size w (w1.alloc (.cells (List.map Value.string [(⟨#[97, 100, 100]⟩ : ByteArray), (⟨#[50]⟩ : ByteArray), (⟨#[116, 111]⟩ : ByteArray), (⟨#[97]⟩ : ByteArray), (⟨#[40]⟩ : ByteArray), (⟨#[120]⟩ : ByteArray), (⟨#[41]⟩ : ByteArray), (⟨#[59]⟩ : ByteArray)]).toArray 9))) := hB1.alloc hB1.size _
  rw [decide_eq_true rfl] at k1
  change Calls Tryz.prog 11 #[v, .slice (some ⟨w1.heap.size, 0, none⟩) 8 8] (w1.alloc (.cells #[.string (⟨#[97, 100, 100]⟩ : ByteArray), .string (⟨#[50]⟩ : ByteArray), .string (⟨#[116, 111]⟩ : ByteArray), .string (⟨#[97]⟩ : ByteArray), .string (⟨#[40]⟩ : ByteArray), .string (⟨#[120]⟩ : ByteArray), .string (⟨#[41]⟩ : ByteArray), .string (⟨#[59]⟩ : ByteArray)] 9)) _ at k1
  clear hr1 hB1 h1
  go_wp2_with fail
  (with_reducible refine k1.mono ?_)
  rintro e w2 ⟨rfl, q, rfl⟩
  have HB2 := hidden (below_drewN HB1.out q)
  clear k1 HB1
  go_wp2_with fail
  (with_reducible refine (h5 _).mono ?_)
  rintro e w3 ⟨rfl, hB3⟩
  have hB4 := bt HB2.out hB3
  have k9 := h9 w3
  clear h5 h9 hB3 HB2
  have HB4 := hidden hB4
  clear hB4
  go_wp2_with fail
  (with_reducible refine k9.mono ?_)
  rintro e w4 ⟨v2, rfl, hr4, hB5⟩
  have k2 := equal_any ((Strs.of_row hr4).below ((Below.refl _ w4).alloc (Nat.le_refl _) _)) (Strs.lit w4 [(⟨#[49]⟩ : ByteArray), (⟨#[46, 46]⟩ : ByteArray), (⟨#[51]⟩ : ByteArray)]) (by decide) (by decide)
  rw [decide_eq_true rfl] at k2
  change Calls Tryz.prog 11 #[v2, .slice (some ⟨w4.heap.size, 0, none⟩) 3 3] (w4.alloc (.cells #[.string (⟨#[49]⟩ : ByteArray), .string (⟨#[46, 46]⟩ : ByteArray), .string (⟨#[51]⟩ : ByteArray)] 9)) _ at k2
  have hB6 := bt HB4.out hB5
  have HB6 : Hid (Below w.heap.size w (w4.alloc (.cells (List.map Value.string [(⟨#[49]⟩ : ByteArray), (⟨#[46, 46]⟩ : ByteArray), (⟨#[51]⟩ : ByteArray)]).toArray 9))) := hB6.alloc hB6.size _
  clear hr4 hB5 hB6 k9 HB4
  go_wp2_with fail
  (with_reducible refine k2.mono ?_)
  rintro e w5 ⟨rfl, q2, rfl⟩
  have HB7 := hidden (below_drewN HB6.out q2)
  clear k2 HB6
  go_wp2_with fail
  (with_reducible refine (h14 _).mono ?_)
  rintro e w6 ⟨rfl, hB6⟩
  have HB8 := hidden (bt HB7.out hB6)
  clear h14 HB7 hB6
  go_wp2_with fail
  (with_reducible refine (h18 _).mono ?_)
  rintro e w7 ⟨rfl, hB7⟩
  have HB9 := hidden (bt HB8.out hB7)
  clear h18 HB8 hB7
  go_wp2_with fail
  (with_reducible refine (h21 _).mono ?_)
  rintro e w8 ⟨rfl, hB8⟩
  have HB10 := hidden (bt HB9.out hB8)
  clear h21 HB9 hB8
  go_wp2_with fail
  go_ret
  exact ⟨rfl, HB10.out⟩

end Go.Proofs.YtdcpfpifecnfmaaGreatDoor
