import Derived.Test.YtfmoophjdgejeaaGreatDoorJg
import Derived.Test.YtfmoophjdgejeaaGreatDoorChecked
import Derived.Test.YtfmoophjdgejeaaGreatDoorJc
/-
  Sizes, columns, ranges, kinds: what only reads.
-/
namespace Go.Proofs.YtfmoophjdgejeaaGreatDoor
open Go.RowKit Go.Shelf

theorem sound_drop {ss : List Int} {k : Nat} {z : Int} (h : ss[k]? = some z) : soundB (ss.drop k) = (sizeB z && soundB (ss.drop (k + 1))) := by
  rw [drop_step h]; rfl

set_option maxRecDepth 100000 in
set_option maxHeartbeats 1600000 in
theorem validSizes_any (ss : List Int) (sv : Value) (q : Option Addr) (n c : Nat) (w : World) (hs : IntsV w sv ss) (hl : ss.length ≤ 4611686018427387904) :
    Calls Tryz.prog 37 #[.agg #[sv, .slice q n c]] w fun e w' => e = .returned (.bool (soundB ss)) ∧ Below w.heap.size w w' := by
  obtain ⟨p, cap, g, o, rfl, hp, hc⟩ := hs
  obtain ⟨r, hr⟩ : ∃ r, soundB ss = r := ⟨_, rfl⟩
  rw [hr]
  have HP := hidden hp
  have HC := hidden hc
  have HR := hidden hr
  clear hp hc hr
  go_enter Tryz.func37, Tryz.ntmps37
  go_wp2_with fail
  have HB : Hid (Below w.heap.size w (w.alloc (.cells #[.slice p ss.length cap, .slice q n c] 61))) := (Below.refl _ _).alloc (Nat.le_refl _) _
  go_loop [8] (fun i => ∃ k : Nat, k ≤ ss.length ∧ i = .int .i64 k ∧ Hid (soundB (ss.drop k) = r)) (fun i => ss.length - (intOf i).toNat)
  case atStart => exact ⟨0, Nat.zero_le _, rfl, HR.out⟩
  case round =>
    obtain ⟨k, hk, rfl, hh⟩ := hrel
    by_cases hlt : k < ss.length
    · have hz : ss[k]? = some ss[k] := List.getElem?_eq_getElem hlt
      generalize ss[k] = z at hz
      obtain ⟨rfl, hg⟩ := HP.out (fun h => by rw [h] at hlt; exact absurd hlt (Nat.not_lt_zero _))
      have hg2 : g ≠ w.heap.size := by omega
      have ci : w.cell? ⟨g, o + k, none⟩ = some (.int .i64 z) := HC.out k z hz
      have hltz : (k : Int) < (ss.length : Int) := by omega
      have hd := sound_drop hz
      rw [hh.out] at hd
      clear hh hz
      by_cases h1 : z < 1
      · have e : sizeB z = false := by unfold sizeB; rw [decide_eq_false (by omega)]; rfl
        rw [e] at hd
        have HD := hidden hd
        clear hd e
        go_wp2_with fail
        go_ret
        exact ⟨by rw [HD.out]; rfl, HB.out⟩
      · by_cases h2 : 6 < z
        · have e : sizeB z = false := by unfold sizeB; rw [decide_eq_false (show ¬ z ≤ 6 by omega)]; simp
          rw [e] at hd
          have HD := hidden hd
          clear hd e
          go_wp2_with fail
          go_ret
          exact ⟨by rw [HD.out]; rfl, HB.out⟩
        · have e : sizeB z = true := by unfold sizeB; rw [decide_eq_true (show 1 ≤ z by omega), decide_eq_true (show z ≤ 6 by omega)]; rfl
          rw [e, Bool.true_and] at hd
          have HD := hidden hd
          clear hd e
          go_wp2_with fail
          go_round
          case rel => exact ⟨k + 1, hlt, rfl, HD.out.symm⟩
          case measure => simp [intOf]; omega
    · have hltz : ¬ (k : Int) < (ss.length : Int) := by omega
      have hd := hh.out
      rw [List.drop_eq_nil_of_le (by omega)] at hd
      have HD := hidden hd
      clear hd hh
      go_wp2_with fail
      go_ret
      exact ⟨by rw [← HD.out]; rfl, HB.out⟩

theorem cols_drop {n : Nat} {cs : List Int} {k : Nat} {z : Int} (h : cs[k]? = some z) : (cs.drop k).all (colB n) = (colB n z && (cs.drop (k + 1)).all (colB n)) := by
  rw [drop_step h]; rfl

set_option maxRecDepth 100000 in
set_option maxHeartbeats 1600000 in
theorem validColumns_any (N : Nat) (cs : List Int) (cv : Value) (p : Option Addr) (cap : Nat) (q : Option Addr) (n c : Nat) (w : World) (hs : IntsV w cv cs) (hl : cs.length ≤ 4611686018427387904) :
    Calls Tryz.prog 38 #[.agg #[.slice p N cap, .slice q n c], cv] w fun e w' => e = .returned (.bool (cs.all (colB N) && decide (cs.length ≤ 3))) ∧ Below w.heap.size w w' := by
  obtain ⟨pc, capc, g, o, rfl, hp, hc⟩ := hs
  obtain ⟨r, hr⟩ : ∃ r, cs.all (colB N) = r := ⟨_, rfl⟩
  rw [hr]
  have HP := hidden hp
  have HC := hidden hc
  have HR := hidden hr
  clear hp hc hr
  go_enter Tryz.func38, Tryz.ntmps38
  go_wp2_with fail
  have HB : Hid (Below w.heap.size w (w.alloc (.cells #[.slice p N cap, .slice q n c] 61))) := (Below.refl _ _).alloc (Nat.le_refl _) _
  go_loop [9] (fun i => ∃ k : Nat, k ≤ cs.length ∧ i = .int .i64 k ∧ Hid ((cs.drop k).all (colB N) = r)) (fun i => cs.length - (intOf i).toNat)
  case atStart => exact ⟨0, Nat.zero_le _, rfl, HR.out⟩
  case round =>
    obtain ⟨k, hk, rfl, hh⟩ := hrel
    by_cases hlt : k < cs.length
    · have hz : cs[k]? = some cs[k] := List.getElem?_eq_getElem hlt
      generalize cs[k] = z at hz
      obtain ⟨rfl, hg⟩ := HP.out (fun h => by rw [h] at hlt; exact absurd hlt (Nat.not_lt_zero _))
      have hg2 : g ≠ w.heap.size := by omega
      have ci : w.cell? ⟨g, o + k, none⟩ = some (.int .i64 z) := HC.out k z hz
      have hltz : (k : Int) < (cs.length : Int) := by omega
      have hd := cols_drop (n := N) hz
      rw [hh.out] at hd
      clear hh hz
      by_cases h1 : z < 0
      · have e : colB N z = false := by unfold colB; rw [decide_eq_false (show ¬ 0 ≤ z by omega)]; rfl
        rw [e] at hd
        have HD := hidden hd
        clear hd e
        go_wp2_with fail
        go_ret
        exact ⟨by rw [HD.out]; rfl, HB.out⟩
      · by_cases h2 : (N : Int) ≤ z
        · have e : colB N z = false := by unfold colB; rw [decide_eq_false (show ¬ z < (N : Int) by omega)]; simp
          rw [e] at hd
          have HD := hidden hd
          clear hd e
          go_wp2_with fail
          go_ret
          exact ⟨by rw [HD.out]; rfl, HB.out⟩
        · have e : colB N z = true := by unfold colB; rw [decide_eq_true (show 0 ≤ z by omega), decide_eq_true (show z < (N : Int) by omega)]; rfl
          rw [e, Bool.true_and] at hd
          have HD := hidden hd
          clear hd e
          go_wp2_with fail
          go_round
          case rel => exact ⟨k + 1, hlt, rfl, HD.out.symm⟩
          case measure => simp [intOf]; omega
    · have hltz : ¬ (k : Int) < (cs.length : Int) := by omega
      have hd := hh.out
      rw [List.drop_eq_nil_of_le (by omega)] at hd
      have HD := hidden hd
      clear hd hh
      by_cases h3 : cs.length ≤ 3
      · have h3z : (cs.length : Int) ≤ 3 := by omega
        have HV := hidden (decide_eq_true h3)
        clear h3
        go_wp2_with fail
        go_ret
        exact ⟨by rw [← HD.out, HV.out]; rfl, HB.out⟩
      · have h3z : ¬ (cs.length : Int) ≤ 3 := by omega
        have HV := hidden (decide_eq_false h3)
        clear h3
        go_wp2_with fail
        go_ret
        exact ⟨by rw [← HD.out, HV.out]; rfl, HB.out⟩

def withinB : List Nat → List Int → Bool
  | [], [] => true
  | n :: ns, z :: zs => decide (0 ≤ z) && decide (z < n) && withinB ns zs
  | _, _ => false

theorem within_len : ∀ {ss : List Nat} {l : List Int}, withinB ss l = true → l.length = ss.length
  | [], [], _ => rfl
  | [], _ :: _, h => by cases h
  | _ :: _, [], h => by cases h
  | n :: ns, z :: zs, h => by
    rw [withinB, Bool.and_eq_true] at h
    rw [List.length_cons, List.length_cons, within_len h.2]

theorem within_drop {ss : List Nat} {l : List Int} {k n : Nat} {z : Int} (h : ss[k]? = some n) (h2 : l[k]? = some z) : withinB (ss.drop k) (l.drop k) = (decide (0 ≤ z) && decide (z < n) && withinB (ss.drop (k + 1)) (l.drop (k + 1))) := by
  rw [drop_step h, drop_step h2]; rfl

/-- Natural numbers, as integers. -/
def natL (l : List Nat) : List Int := l.map Int.ofNat
theorem natL_get {l : List Nat} {i n : Nat} (h : l[i]? = some n) : (natL l)[i]? = some (n : Int) := by
  unfold natL; rw [List.getElem?_map, h]; rfl
theorem natL_len (l : List Nat) : (natL l).length = l.length := by unfold natL; simp

set_option maxRecDepth 100000 in
set_option maxHeartbeats 1600000 in
theorem within_any (ss : List Nat) (l : List Int) (lv sv : Value) (w : World) (hlv : IntsV w lv l) (hsv : IntsV w sv (natL ss)) (hl : l.length ≤ 4611686018427387904) :
    Calls Tryz.prog 42 #[lv, sv] w fun e w' => e = .returned (.bool (withinB ss l)) ∧ ∃ q, w' = w.drewN q := by
  obtain ⟨pl, capl, gl, ol, rfl, hpl, hcl⟩ := hlv
  obtain ⟨ps, caps, gs, os, rfl, hps, hcs⟩ := hsv
  rw [natL_len]
  obtain ⟨r, hr⟩ : ∃ r, withinB ss l = r := ⟨_, rfl⟩
  rw [hr]
  have HPL := hidden hpl
  have HCL := hidden hcl
  have HPS := hidden hps
  have HCS := hidden hcs
  have HR := hidden hr
  clear hpl hcl hps hcs hr
  by_cases hne : l.length = ss.length
  · have hb : ((l.length : Int) != (ss.length : Int)) = false := by rw [hne]; simp
    have HN := hidden hne
    clear hne
    go_enter Tryz.func42, Tryz.ntmps42
    go_wp2_with fail
    go_loopw [14] (fun i wr => ∃ k q : Nat, k ≤ l.length ∧ i = .int .i64 k ∧ wr = w.drewN q ∧ Hid (withinB (ss.drop k) (l.drop k) = r)) (fun i _ => l.length - (intOf i).toNat)
    case atStart => exact ⟨0, 0, Nat.zero_le _, rfl, rfl, HR.out⟩
    case round =>
      obtain ⟨k, q, hk, rfl, hq, hh⟩ := hrel
      by_cases hlt : k < l.length
      · have hz : l[k]? = some l[k] := List.getElem?_eq_getElem hlt
        generalize l[k] = z at hz
        have hks : k < ss.length := by have := HN.out; omega
        have hy : ss[k]? = some ss[k] := List.getElem?_eq_getElem hks
        generalize ss[k] = y at hy
        obtain ⟨rfl, _⟩ := HPL.out (fun h => by rw [h] at hlt; exact absurd hlt (Nat.not_lt_zero _))
        obtain ⟨rfl, _⟩ := HPS.out (fun h => by rw [← List.length_eq_zero_iff, natL_len] at h; omega)
        have ci : wr.cell? ⟨gl, ol + k, none⟩ = some (.int .i64 z) := by rw [hq]; exact HCL.out k z hz
        have cj : wr.cell? ⟨gs, os + k, none⟩ = some (.int .i64 (y : Int)) := by rw [hq]; exact HCS.out k _ (natL_get hy)
        have hltz : (k : Int) < (l.length : Int) := by omega
        have hlty : (k : Int) < (ss.length : Int) := by omega
        have hd := within_drop hy hz
        rw [hh.out] at hd
        have HQ := hidden hq
        clear hh hz hy hq hks hb
        by_cases h1 : z < 0
        · rw [decide_eq_false (show ¬ 0 ≤ z by omega)] at hd
          have HD := hidden hd
          clear hd
          go_wp2_with fail
          go_ret
          exact ⟨by rw [HD.out]; rfl, q, HQ.out⟩
        · by_cases h2 : (y : Int) ≤ z
          · rw [decide_eq_false (show ¬ z < (y : Int) by omega)] at hd
            have HD := hidden hd
            clear hd
            go_wp2_with fail
            go_ret
            exact ⟨by rw [HD.out]; simp, q, HQ.out⟩
          · rw [decide_eq_true (show 0 ≤ z by omega), decide_eq_true (show z < (y : Int) by omega)] at hd
            have HD := hidden hd
            clear hd
            go_wp2_with fail
            go_roundw
            case rel => exact ⟨k + 1, q, hlt, rfl, HQ.out, HD.out.symm⟩
            case measure => simp [intOf]; omega
      · have hltz : ¬ (k : Int) < (l.length : Int) := by omega
        have hd := hh.out
        rw [List.drop_eq_nil_of_le (by have := HN.out; omega), List.drop_eq_nil_of_le (by omega)] at hd
        have HD := hidden hd
        have HQ := hidden hq
        clear hd hh hq hb
        go_wp2_with fail
        go_ret
        exact ⟨by rw [← HD.out]; rfl, q, HQ.out⟩
  · have hb : ((l.length : Int) != (ss.length : Int)) = true := by rw [bne_iff_ne]; omega
    have e : r = false := by
      rw [← HR.out]
      cases h : withinB ss l with
      | false => rfl
      | true => exact absurd (within_len h) hne
    rw [e]
    clear hne
    go_enter Tryz.func42, Tryz.ntmps42
    go_wp2_with fail
    go_ret
    exact ⟨rfl, 0, rfl⟩

end Go.Proofs.YtfmoophjdgejeaaGreatDoor
