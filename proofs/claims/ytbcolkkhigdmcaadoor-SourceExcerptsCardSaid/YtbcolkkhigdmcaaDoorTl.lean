import Derived.Test.YtbcolkkhigdmcaaDoorTk
import Derived.Deep.RegionHeld
namespace Go.Proofs.YtbcolkkhigdmcaaDoor
open Go.RowKit Go.Shelf Go.Lib

theorem StrRow.below {w w' : World} {v : Value} {xs : List ByteArray} (h : StrRow w v xs) (hb : Below w.heap.size w w') : StrRow w' v xs := by
  obtain ⟨p, cap, hv, hc⟩ := h
  refine ⟨p, cap, hv, fun i hi => ?_⟩
  obtain ⟨b, o, e, hcell⟩ := hc i hi
  exact ⟨b, o, e, by rw [hb.cell (p := ⟨b, o + i, none⟩) (World.block_lt_of_cell? w _ hcell)]; exact hcell⟩

def exText : List UInt8 := [97, 98, 10, 99, 100]
theorem ex1 : feedsOf exText = [2] := by decide +kernel
theorem ex2 : posN [2] 5 4 = (2, 2) := by decide +kernel
theorem ex3 : offN [2] 5 2 2 = (4, true) := by decide +kernel
theorem ex4 : contentL exText [2] 2 = [99, 100] := by decide +kernel
theorem exItoa1 : Lib.itoa ((1 : Nat) : Int) = [49] := by rw [itoa_nat, Lib.decDigits_one (by omega)]; rfl
theorem exItoa2 : Lib.itoa ((2 : Nat) : Int) = [50] := by rw [itoa_nat, Lib.decDigits_one (by omega)]; rfl
theorem ex5 : excL exText [2] 1 4 = [[49, 32, 124, 32, 97, 98], [32, 32, 32, 32, 32, 94], [50, 32, 124, 32, 99, 100], [32, 32, 32, 32, 94]] := by
  unfold excL
  rw [show lineN [2] (max ((1 : Nat) : Int) (((4 : Nat) : Int) - 1)) = 2 by decide +kernel, show lineN [2] ((1 : Nat) : Int) = 1 by decide +kernel, exItoa2]
  show excRow exText [2] 1 4 1 1 ++ (excRow exText [2] 1 4 1 2 ++ []) = _
  unfold excRow marginL
  rw [exItoa1, exItoa2]
  decide +kernel

set_option maxHeartbeats 1600000 in
theorem awake_any {w : World} (ht : Tab w) : Calls Tryd.prog 10 #[] w fun e w' => e = .returned (.bool true) ∧ Below w.heap.size w w' := by
  have hnew := new_any ⟨exText.toArray⟩ w (by decide)
  have hfe : feedsOf (ByteArray.mk exText.toArray).data.toList = [2] := ex1
  rw [hfe] at hnew
  go_enter Tryd.func10, Tryd.ntmps10
  go_wp2_with (go_at_call 11; refine hnew.mono ?_; rintro e w1 ⟨b, rfl, hI, hB1⟩)
  have hT1 := ht.below hB1
  have hli := lines_any hI
  have hpo := position_any hI 4
  have hxs : (ByteArray.mk exText.toArray).size = 5 := rfl
  rw [hxs, ex2] at hpo
  have hof : ∀ w', Below w1.heap.size w1 w' → Calls Tryd.prog 14 #[.pointer (some ⟨b, 0, none⟩), .int .i64 2, .int .i64 2] w' fun e w'' => e = .returned (.tuple #[.int .i64 4, .bool true]) ∧ w' = w'' := fun w' hb => by
    have := offset_any (hI.below hb) 2 2 (by omega) (by omega)
    rwa [hxs, ex3] at this
  have hco : ∀ w', Below w1.heap.size w1 w' → Calls Tryd.prog 18 #[.pointer (some ⟨b, 0, none⟩), .int .i64 2] w' fun e w'' => e = .returned (.string ⟨#[99, 100]⟩) ∧ ∃ q, w'' = w'.drewN q := fun w' hb => by
    have := content_any (hI.below hb) 2
    have e : contentL (ByteArray.mk exText.toArray).data.toList [2] 2 = [99, 100] := ex4
    rwa [e] at this
  have hex : ∀ w', Below w1.heap.size w1 w' → Calls Tryd.prog 21 #[.pointer (some ⟨b, 0, none⟩), .int .i64 1, .int .i64 4] w' fun e w'' => ∃ v, e = .returned v ∧ ListRow w'' v [[49, 32, 124, 32, 97, 98], [32, 32, 32, 32, 32, 94], [50, 32, 124, 32, 99, 100], [32, 32, 32, 32, 94]] ∧ Below w'.heap.size w' w'' := fun w' hb => by
    have := excerpt_any (hI.below hb) (hT1.below hb) 1 4 (by omega) (by rw [hxs]; omega)
    have e : excL (ByteArray.mk exText.toArray).data.toList [2] 1 4 = _ := ex5
    rwa [e] at this
  have hst : ∀ w' v, ListRow w' v [[49, 32, 124, 32, 97, 98], [32, 32, 32, 32, 32, 94], [50, 32, 124, 32, 99, 100], [32, 32, 32, 32, 94]] →
      Calls Tryd.prog 20 #[v, .slice (some ⟨w'.heap.size, 0, none⟩) 4 4] (w'.alloc (.cells #[.string ⟨#[49, 32, 124, 32, 97, 98]⟩, .string ⟨#[32, 32, 32, 32, 32, 94]⟩, .string ⟨#[50, 32, 124, 32, 99, 100]⟩, .string ⟨#[32, 32, 32, 32, 94]⟩] 9)) fun e w'' => e = .returned (.bool true) ∧ ∃ q, w'' = (w'.alloc (.cells #[.string ⟨#[49, 32, 124, 32, 97, 98]⟩, .string ⟨#[32, 32, 32, 32, 32, 94]⟩, .string ⟨#[50, 32, 124, 32, 99, 100]⟩, .string ⟨#[32, 32, 32, 32, 94]⟩] 9)).drewN q := fun w' v hv => by
    have := strings_any (StrRow.below hv ((Below.refl _ _).alloc (Nat.le_refl _) (.cells #[.string ⟨#[49, 32, 124, 32, 97, 98]⟩, .string ⟨#[32, 32, 32, 32, 32, 94]⟩, .string ⟨#[50, 32, 124, 32, 99, 100]⟩, .string ⟨#[32, 32, 32, 32, 94]⟩] 9)))
      (u := .slice (some ⟨w'.heap.size, 0, none⟩) 4 4) (ys := [⟨#[49, 32, 124, 32, 97, 98]⟩, ⟨#[32, 32, 32, 32, 32, 94]⟩, ⟨#[50, 32, 124, 32, 99, 100]⟩, ⟨#[32, 32, 32, 32, 94]⟩])
      ⟨some ⟨w'.heap.size, 0, none⟩, 4, rfl, fun i hi => ⟨w'.heap.size, 0, rfl, by
        rw [Nat.zero_add, World.cell?_alloc_new]
        match i, hi with
        | 0, _ => rfl
        | 1, _ => rfl
        | 2, _ => rfl
        | 3, _ => rfl⟩⟩ (by simp) (by simp)
    exact this
  clear hnew
  go_wp2_with (first
    | (go_at_call 16; refine hli.mono ?_; rintro e w2 ⟨rfl, rfl⟩)
    | (go_at_call 12; refine hpo.mono ?_; rintro e w2 ⟨rfl, hB2⟩)
    | (go_at_call 14; refine (hof _ hB2).mono ?_; rintro e w2 ⟨rfl, rfl⟩)
    | (go_at_call 18; refine (hco _ hB2).mono ?_; rintro e w2 ⟨rfl, q, rfl⟩; have hB3 := bt hB2 (bq _ q))
    | (go_at_call 21; refine (hex _ hB3).mono ?_; rintro e w3 ⟨v, rfl, hv, hB4⟩)
    | (go_at_call 20; refine (hst _ _ hv).mono ?_; rintro e w4 ⟨rfl, q2, rfl⟩))
  go_ret
  exact ⟨rfl, bt (bt (bt hB1 (bt hB3 hB4)) ((Below.refl _ _).alloc (Nat.le_refl _) _)) (bq _ q2)⟩

end Go.Proofs.YtbcolkkhigdmcaaDoor
