import Derived.Test.YtfmoophjdgejeaaGreatDoorCd
import Derived.Test.YtfmoophjdgejeaaGreatDoorCh
import Derived.Maps.Own
import Derived.Maps.OwnSet
/-
  How many cells a table has; the map of numbers of cells.
-/
namespace Go.Proofs.YtfmoophjdgejeaaGreatDoor
open Go.RowKit Go.Shelf
open Go.Maps (Keyed)

/-- The numbers of strict and of other cells so far. -/
def CntM (w : World) (b n x y : Nat) : Prop :=
  ∃ D, w.ownsMap Tryz.prog 4 (plainElem (H := Unit) Tryz.prog 3) b n D ∧ D.atKey (.bool true) (.lit (.int .i64 0)) = .lit (.int .i64 (x : Int)) ∧ D.atKey (.bool false) (.lit (.int .i64 0)) = .lit (.int .i64 (y : Int))

theorem CntM.made (w : World) : CntM (w.alloc (.map #[] 0)) w.heap.size 0 0 0 := ⟨_, World.ownsMap_made w _ _ _, rfl, rfl⟩
theorem CntM.lt {w : World} {b n x y : Nat} (h : CntM w b n x y) : b < w.heap.size := by
  obtain ⟨D, h, _⟩ := h; exact h.lt
theorem CntM.grown {w w' : World} {b n x y : Nat} {row : Option Nat} (h : CntM w b n x y) (hg : w.grownBy w' row) (hne : some b ≠ row) : CntM w' b n x y := by
  obtain ⟨D, h, h1⟩ := h; exact ⟨D, h.kept hg hne, h1⟩
theorem CntM.later {w w' : World} {b n x y : Nat} (h : CntM w b n x y) (hb : Below w.heap.size w w') : CntM w' b n x y :=
  h.grown (row := none) ⟨hb.os, hb.tape, hb.output, hb.size, fun k hk _ => hb.block k hk⟩ (by simp)

theorem CntM.look {w : World} {b n x y : Nat} (h : CntM w b n x y) (q : Bool) : (Instr.lookup 103 (.map (some b)) (.bool q) false).run Tryz.prog w = .ok (.int .i64 (if q then (x : Int) else y)) w := by
  obtain ⟨D, h, h1, h2⟩ := h
  obtain ⟨c, hrun, hat, _⟩ := h.lookup_int (t := 103) (Maps.bool_keyed Tryz.underlying4) Tryz.underlying103 Tryz.underlying3 (Tryz.zeroValue3 _) (Maps.keyOf_bool_mk Tryz.underlying4 q)
  cases q with
  | true =>
    rw [h1] at hat
    have e := (Lit.int.inj (DataW.lit.inj hat)).2
    rw [hrun, ← e, if_pos rfl]
  | false =>
    rw [h2] at hat
    have e := (Lit.int.inj (DataW.lit.inj hat)).2
    rw [hrun, ← e, if_neg (by simp)]

theorem int_wf (z : Nat) (h : z ≤ 100000) : (Lit.int .i64 (z : Int)).wf = true := WalkArith.wf_i64 (by omega)

theorem CntM.update {w : World} {b n x y : Nat} (h : CntM w b n x y) (hn : n ≤ 100) (q : Bool) (z : Nat) (hz : z ≤ 100000) :
    ∃ w', (Instr.mapUpdate 103 (.map (some b)) (.bool q) (.int .i64 (z : Int))).run Tryz.prog w = .ok () w' ∧ CntM w' b (n + 1) (if q then z else x) (if q then y else z) ∧ w.grownBy w' (some b) := by
  obtain ⟨D, h, h1, h2⟩ := h
  have hm := h.isMap
  obtain ⟨w', hrun, ho, hg⟩ := h.update (t := 103) (Maps.bool_keyed Tryz.underlying4) Tryz.underlying103 (by unfold maxLen; omega) (Maps.keyOf_bool_mk Tryz.underlying4 q) (plainElem_int (H := Unit) Tryz.underlying3 (int_wf z hz))
  refine ⟨w', hrun, ⟨_, ho, ?_, ?_⟩, hg⟩
  · cases q with
    | true => exact Maps.atKey_put_same hm (by simp [WideAt.IsKeyLit]) _ _
    | false => exact (Maps.atKey_put_other (fun e => by cases e) _ _).trans h1
  · cases q with
    | true => exact (Maps.atKey_put_other (fun e => by cases e) _ _).trans h2
    | false => exact Maps.atKey_put_same hm (by simp [WideAt.IsKeyLit]) _ _

set_option maxRecDepth 100000 in
set_option maxHeartbeats 3200000 in
theorem area_any (ss : List Int) (t : Tab) (sv cv : Value) (q : Option Addr) (n c : Nat) (w : World) (hs : IntsV w sv ss) (hc : IntsV w cv t.cols) (hsnd : soundB ss = true) (hcols : t.cols.all (colB ss.length) = true) (hl : t.cols.length ≤ 3) :
    Calls Tryz.prog 59 #[.agg #[sv, .slice q n c], tabV t cv] w fun e w' => e = .returned (.int .i64 (prodL (lensL ss t.cols) : Nat)) ∧ Below w.heap.size w w' := by
  have hs2 := hs
  have hc2 := hc
  obtain ⟨p, cap, g, o, rfl, _, _⟩ := hs
  obtain ⟨pc, capc, gc, oc, rfl, _, _⟩ := hc
  have hln := fun w' (h : Below w.heap.size w w') => lengths_any ss t.cols _ _ q n c w' (hs2.later h) (hc2.later h) hsnd hcols hl
  have hll := lens_len ss t.cols
  have hlp := fun n hn => (lens_pos hsnd hcols n hn).2
  have hpl := prod_le (ls := lensL ss t.cols) (by rw [hll]; exact hl) hlp
  generalize lensL ss t.cols = ls at *
  have HLN := hidden hln
  have HLL := hidden hll
  have HLP := hidden hlp
  have HPL := hidden hpl
  clear hln hll hlp hs2 hc2 hsnd hcols hpl
  simp only [tabV]
  go_enter Tryz.func59, Tryz.ntmps59
  go_wp2_with fail
  obtain ⟨W2, hW2⟩ : ∃ W2, W2 = (w.alloc (.cells #[.slice p ss.length cap, .slice q n c] 61)).alloc (.cells #[.string t.name, .int .i64 t.kind, .slice pc t.cols.length capc, .int .i64 t.lo, .int .i64 t.hi, .int .i64 t.first] 44) := ⟨_, rfl⟩
  have hB2 : Below w.heap.size w W2 := by rw [hW2]; exact ((Below.refl _ _).alloc (Nat.le_refl _) _).alloc (by simp) _
  have hl2 := HLN.out W2 hB2
  have HB2 := hidden hB2
  rw [← hW2]
  clear hW2 hB2 HLN
  (with_reducible refine hl2.mono ?_)
  rintro e w3 ⟨lv, rfl, hrow, hB3⟩
  rw [← HLL.out] at hrow
  obtain ⟨lp, lcap, lg, lo, hlv, hlp3, hlc3⟩ := row_ints hrow
  rw [natL_len] at hlv
  subst hlv
  have HB3 := hidden (HB2.out.trans (hB3.mono HB2.out.size))
  have HLP3 := hidden hlp3
  have HLC3 := hidden hlc3
  have hl3 : ls.length ≤ 3 := by rw [HLL.out]; exact hl
  clear hl2 hrow hB3 hlp3 hlc3 HB2
  go_wp2_with fail
  go_loop [5, 13] (fun pv i => ∃ k : Nat, k ≤ ls.length ∧ i = .int .i64 k ∧ pv = .int .i64 (prodL (ls.take k) : Nat)) (fun _ i => ls.length - (intOf i).toNat)
  case atStart => exact ⟨0, Nat.zero_le _, rfl, rfl⟩
  case round =>
    obtain ⟨k, hk, rfl, rfl⟩ := hrel
    by_cases hlt : k < ls.length
    · have hx : ls[k]? = some ls[k] := List.getElem?_eq_getElem hlt
      have hx6 := HLP.out _ (List.getElem_mem hlt)
      generalize ls[k] = x at hx hx6
      obtain ⟨rfl, hg⟩ := HLP3.out (fun h => by rw [← List.length_eq_zero_iff, natL_len] at h; omega)
      have ci : w3.cell? ⟨lg, lo + k, none⟩ = some (.int .i64 (x : Int)) := HLC3.out k _ (natL_get hx)
      have hkz : (k : Int) < (ls.length : Int) := by omega
      have hpk : prodL (ls.take k) ≤ 216 := prod_le (by rw [List.length_take]; omega) (fun n hn => HLP.out n (List.mem_of_mem_take hn))
      have HS : Hid (prodL (ls.take (k + 1)) = prodL (ls.take k) * x) := by
        show _ = _
        rw [take_step hx, prod_snoc]
      have hle : prodL (ls.take k) * x ≤ 216 * 6 := Nat.mul_le_mul hpk hx6
      have hm : ((prodL (ls.take k) : Nat) : Int) * (x : Int) = ((prodL (ls.take k) * x : Nat) : Int) := by rw [Int.natCast_mul]
      have HM := hidden hm
      have hm1 : ((prodL (ls.take k) : Nat) : Int) * (x : Int) ≤ 1296 := by rw [hm]; omega
      have hm2 : 0 ≤ ((prodL (ls.take k) : Nat) : Int) * (x : Int) := by rw [hm]; omega
      generalize prodL (ls.take k) = P at *
      clear hm hx hle
      go_wp2_with fail
      go_round
      case rel => exact ⟨k + 1, hlt, rfl, by rw [HS.out, ← HM.out]⟩
      case measure => simp [intOf]; omega
    · obtain rfl : k = ls.length := by omega
      have hkz : ¬ (ls.length : Int) < (ls.length : Int) := by omega
      rw [List.take_length]
      clear hlt
      go_wp2_with fail
      go_ret
      exact ⟨rfl, HB3.out⟩

end Go.Proofs.YtfmoophjdgejeaaGreatDoor
