import Derived.Test.YtbcolkkhigdmcaaDoorTi
import Derived.Lib.AppendIntMem
import Derived.Lib.SmallJoins
namespace Go.Proofs.YtbcolkkhigdmcaaDoor
open Go.RowKit Go.Shelf Go.Lib

/-- The library's table of powers of ten, in this world and in all that keep what lay in it. -/
def Tab (w : World) : Prop := Lib.TabBelow Tryd.prog w.heap.size w "internal/strconv.uint64pow10" .u64 Lib.pow10Tab
theorem Tab.below {w w' : World} (h : Tab w) (hb : Below w.heap.size w w') : Tab w' := tabBelow_of_tabIs (h w' hb)

theorem itoa_any (n : Nat) (hn : n ≤ 1000000) {w : World} (ht : Tab w) :
    Calls Tryd.prog 33 #[.int .i64 n] w fun e w' => e = .returned (.string ⟨(Lib.itoa n).toArray⟩) ∧ Below w.heap.size w w' :=
  (Tryd.strconv_Itoa n (by omega) (by omega) w ht.here).mono fun _ _ ⟨a, k, os, b⟩ => ⟨a, by rw [b]; exact Lib.below_grow _ _ (Nat.le_refl _) _ _⟩

theorem repeat_any (c : UInt8) (n : Nat) (hn : n ≤ 100000) (w : World) :
    Calls Tryd.prog 35 #[.string ⟨#[c]⟩, .int .i64 n] w fun e w' => e = .returned (.string ⟨(List.replicate n c).toArray⟩) ∧ Below w.heap.size w w' := by
  have h := Tryd.strings_Repeat ⟨#[c]⟩ n w (by omega) (by show 1 * n ≤ _; omega)
  have e : ∀ k, Lib.repeatL [c] k = List.replicate k c := fun k => by
    induction k with
    | zero => rfl
    | succ k ih => rw [Lib.repeatL, ih, List.replicate_succ]; rfl
  have e2 : Lib.repeatL (ByteArray.mk #[c]).data.toList n = List.replicate n c := e n
  rw [e2] at h
  exact h

theorem rep_mk (n : Nat) (c : UInt8) : ({ data := Array.replicate n c } : ByteArray) = ⟨(List.replicate n c).toArray⟩ := by rw [List.toArray_replicate]

theorem mk_app (a b : List UInt8) : (({ data := a.toArray } : ByteArray) ++ { data := b.toArray }) = ⟨(a ++ b).toArray⟩ := by
  rw [← Lib.mk_data (({ data := a.toArray } : ByteArray) ++ { data := b.toArray }), Joins.data_append]

/-- What stands in front of a line's content. -/
def marginL (line digits : Nat) : List UInt8 := List.replicate (digits - (Lib.itoa line).length) 32 ++ Lib.itoa line ++ [32, 124, 32]

set_option maxHeartbeats 400000 in
theorem margin_any (line digits : Nat) (hl : line ≤ 1000000) (hd : (Lib.itoa line).length ≤ digits) (hd2 : digits ≤ 3000) {w : World} (ht : Tab w) :
    Calls Tryd.prog 34 #[.int .i64 line, .int .i64 digits] w fun e w' => e = .returned (.string ⟨(marginL line digits).toArray⟩) ∧ Below w.heap.size w w' := by
  have hi := itoa_any line hl ht
  unfold marginL
  generalize Lib.itoa line = num at *
  have hr : ∀ w', Calls Tryd.prog 35 #[.string ⟨#[32]⟩, .int .i64 ((digits : Int) - (num.length : Int))] w' fun e w'' => e = .returned (.string ⟨(List.replicate (digits - num.length) 32).toArray⟩) ∧ Below w'.heap.size w' w'' := fun w' => by
    have := repeat_any 32 (digits - num.length) (by omega) w'
    rwa [show ((digits - num.length : Nat) : Int) = (digits : Int) - (num.length : Int) by omega] at this
  go_enter Tryd.func34, Tryd.ntmps34
  go_wp2_with (first | (go_at_call 33; refine hi.mono ?_; rintro e w1 ⟨rfl, hb⟩) | (go_at_call 35; refine (hr _).mono ?_; rintro e w2 ⟨rfl, hb2⟩))
  go_ret
  exact ⟨by show Ending.returned (.string (({ data := Array.replicate (digits - num.length) 32 } : ByteArray) ++ { data := num.toArray } ++ { data := #[32, 124, 32] })) = _; rw [rep_mk, mk_app (List.replicate (digits - num.length) 32) num]; exact congrArg (fun x => Ending.returned (.string x)) (mk_app (List.replicate (digits - num.length) 32 ++ num) [32, 124, 32]), hb.trans (hb2.mono hb.size)⟩

/-- What stands below a line's content. -/
def marksL (a e : Int) (len : Nat) : List UInt8 := List.replicate (max a 0).toNat 32 ++ List.replicate (max (min e len - max a 0) 1).toNat 94

set_option maxHeartbeats 400000 in
theorem marks_any (a e : Int) (len : Nat) (ha : -3000 ≤ a) (ha2 : a ≤ 3000) (he : -3000 ≤ e) (he2 : e ≤ 3000) (hl : len ≤ 3000) {w : World} :
    Calls Tryd.prog 36 #[.int .i64 a, .int .i64 e, .int .i64 len] w fun e' w' => e' = .returned (.string ⟨(marksL a e len).toArray⟩) ∧ Below w.heap.size w w' := by
  unfold marksL
  have hr1 : ∀ w', Calls Tryd.prog 35 #[.string ⟨#[32]⟩, .int .i64 (max a 0)] w' fun e' w'' => e' = .returned (.string ⟨(List.replicate (max a 0).toNat 32).toArray⟩) ∧ Below w'.heap.size w' w'' := fun w' => by
    have := repeat_any 32 (max a 0).toNat (by omega) w'
    rwa [show (((max a 0).toNat : Nat) : Int) = max a 0 by omega] at this
  have hr2 : ∀ w', Calls Tryd.prog 35 #[.string ⟨#[94]⟩, .int .i64 (max (min e len - max a 0) 1)] w' fun e' w'' => e' = .returned (.string ⟨(List.replicate (max (min e len - max a 0) 1).toNat 94).toArray⟩) ∧ Below w'.heap.size w' w'' := fun w' => by
    have := repeat_any 94 (max (min e len - max a 0) 1).toNat (by omega) w'
    rwa [show (((max (min e len - max a 0) 1).toNat : Nat) : Int) = max (min e len - max a 0) 1 by omega] at this
  go_enter Tryd.func36, Tryd.ntmps36
  go_wp2_with (first | (go_at_call_of 35 ((.string ⟨#[32]⟩ : Value)); refine (hr1 _).mono ?_; rintro e w1 ⟨rfl, hb⟩) | (go_at_call 35; refine (hr2 _).mono ?_; rintro e w2 ⟨rfl, hb2⟩))
  go_ret
  exact ⟨by show Ending.returned (.string (({ data := Array.replicate (max a 0).toNat 32 } : ByteArray) ++ { data := Array.replicate (max (min e len - max a 0) 1).toNat 94 })) = _; rw [rep_mk, rep_mk, mk_app], hb.trans (hb2.mono hb.size)⟩

theorem marks_len (a e : Int) (len : Nat) (ha2 : a ≤ 3000) (hl : len ≤ 3000) : (marksL a e len).length ≤ 10000 := by
  unfold marksL; simp only [List.length_append, List.length_replicate]; omega

end Go.Proofs.YtbcolkkhigdmcaaDoor
