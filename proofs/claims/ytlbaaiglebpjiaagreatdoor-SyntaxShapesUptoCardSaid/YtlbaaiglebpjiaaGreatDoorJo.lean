import Derived.Test.YtlbaaiglebpjiaaGreatDoorYx
import Derived.Test.YtlbaaiglebpjiaaGreatDoorJn
import Derived.Test.YtlbaaiglebpjiaaGreatDoorZh
/-
  The reference: many.
-/

namespace Go.Proofs.YtlbaaiglebpjiaaGreatDoor
open Go.RowKit Go.Shelf Go.Lib

/-- All trees are of one of some kinds. -/
def manyB (l : List Int) (ts : List Tree) : Bool := ts.all fun x => l.any fun z => x.kind == z
theorem manyB_cons (l : List Int) (x : Tree) (ts : List Tree) : manyB l (x :: ts) = ((l.any fun z => x.kind == z) && manyB l ts) := by unfold manyB; rw [List.all_cons]
theorem manyB_nil (l : List Int) : manyB l [] = true := rfl

set_option maxRecDepth 100000 in
set_option maxHeartbeats 6400000 in
theorem refMany_any (t : Tree) (kv : Value) (l : List Int) (lv : Value) (w : World) (hk : KidsV w kv t.kids) (hl : IntsV w lv l) (hkl : t.kids.length ≤ 4194304) (hll : l.length ≤ 4194304) :
    Calls Tryz.prog 94 #[nodeV t kv, lv] w fun e w' => e = .returned (.bool (manyB l t.kids)) ∧ Below w.heap.size w w' := by
  obtain ⟨p, cap, g, o, rfl, hpp, hat⟩ := hk.open
  obtain ⟨pp, pcap, pg, po, rfl, hip, hic⟩ := hl
  have HPP := hidden hpp
  have HAT := hidden hat
  have HIP := hidden hip
  have HIC := hidden hic
  obtain ⟨r, hr⟩ : ∃ r, manyB l t.kids = r := ⟨_, rfl⟩
  rw [hr]
  have HR := hidden hr
  clear hk hpp hat hip hic hr
  simp only [nodeV]
  go_enter Tryz.func94, Tryz.ntmps94
  go_wp2_with fail
  obtain ⟨w1, hw1⟩ : ∃ w1, w1 = w.alloc (.cells #[.int .i64 t.kind, .string t.text, .int .i64 t.at_, .int .i64 t.end_, .slice p t.kids.length cap] 24) := ⟨_, rfl⟩
  have hB1 : Below w.heap.size w w1 := by rw [hw1]; exact (Below.refl _ _).alloc (Nat.le_refl _) _
  have hb4 : w1.cell? ⟨w.heap.size, 4, none⟩ = some (.slice p t.kids.length cap) := by rw [hw1]; simp [go_sem]
  have hlt1 : w.heap.size < w1.heap.size := by rw [hw1]; simp
  rw [← hw1]
  clear hw1
  go_loopw [5] (fun i wr => ∃ k : Nat, k ≤ t.kids.length ∧ i = .int .i64 k ∧ Hid (manyB l (t.kids.drop k) = r ∧ Below w1.heap.size w1 wr)) (fun i _ => t.kids.length - (intOf i).toNat)
  case atStart => exact ⟨0, Nat.zero_le _, rfl, by rw [List.drop_zero]; exact HR.out, Below.refl _ _⟩
  case round =>
    obtain ⟨k, hk, rfl, hh⟩ := hrel
    obtain ⟨hm, hB⟩ := hh.out
    clear hh
    obtain ⟨wo, hwo⟩ : ∃ wo, wo = wr := ⟨_, rfl⟩
    subst hwo
    have hb4' := (hB.cell (p := ⟨w.heap.size, 4, none⟩) hlt1).trans hb4
    by_cases hlt : k < t.kids.length
    · obtain ⟨x, hx⟩ : ∃ x, t.kids[k]? = some x := ⟨_, List.getElem?_eq_getElem hlt⟩
      obtain ⟨rfl, hg⟩ := HPP.out (fun h => by rw [h] at hlt; exact absurd hlt (Nat.not_lt_zero _))
      obtain ⟨kv', hn, hkv⟩ := HAT.out k x hx
      have hltz : (k : Int) < (t.kids.length : Int) := by omega
      rw [drop_step hx, manyB_cons] at hm
      obtain ⟨q, hq⟩ : ∃ q, (l.any fun z => x.kind == z) = q := ⟨_, rfl⟩
      rw [hq] at hm
      have HM := hidden hm
      have HQ := hidden hq
      have HB := hidden hB
      have HB4 := hidden hb4'
      have HN := hidden hn
      clear hm hq hB hn hkv
      go_wp2_with fail
      clear hb4'
      go_loopw [6, 7] (fun ov jv w2 => ∃ j : Nat, ∃ b : Bool, j ≤ l.length ∧ jv = .int .i64 j ∧ ov = .bool b ∧ Hid ((b || (l.drop j).any fun z => x.kind == z) = q ∧ Below wo.heap.size wo w2)) (fun _ j _ => l.length - (intOf j).toNat)
      case atStart => exact ⟨0, false, Nat.zero_le _, rfl, rfl, by rw [List.drop_zero, Bool.false_or]; exact HQ.out, Below.refl _ _⟩
      case round =>
        obtain ⟨j, b, hj, rfl, rfl, hh⟩ := hrel
        obtain ⟨ha, hB2⟩ := hh.out
        clear hh
        have hb4 := cell_later HB4.out hB2
        have hBx : Below w.heap.size w wr := bt hB1 (bt HB.out hB2)
        by_cases hjl : j < l.length
        · obtain ⟨z, hz⟩ : ∃ z, l[j]? = some z := ⟨_, List.getElem?_eq_getElem hjl⟩
          obtain ⟨rfl, hpg⟩ := HIP.out (fun h => by rw [h] at hjl; exact absurd hjl (Nat.not_lt_zero _))
          have ci := cell_later (HIC.out j z hz) hBx
          have c0 := (HN.out.of_block (hBx.block g hg)).c0
          have hjz : (j : Int) < (l.length : Int) := by omega
          rw [drop_step hz, List.any_cons] at ha
          have HA := hidden ha
          have HB2 := hidden hB2
          clear ha hB2 hz hBx hx
          cases b with
          | true =>
            go_wp2_with fail
            go_quiet (fail)
            go_wp2_with fail
            go_roundw
            case rel => exact ⟨j + 1, true, by omega, by go_num, rfl, by rw [← HA.out, Bool.true_or, Bool.true_or], below_drewN HB2.out _⟩
            case measure => simp [intOf]; omega
          | false =>
            obtain ⟨e, he⟩ : ∃ e, (x.kind == z) = e := ⟨_, rfl⟩
            have HE := hidden he
            cases e with
            | true =>
              go_wp2_with fail
              go_quiet (fail)
              go_wp2_with fail
              go_roundw
              case rel => exact ⟨j + 1, true, by omega, by go_num, rfl, by rw [← HA.out, HE.out]; simp, below_drewN HB2.out _⟩
              case measure => simp [intOf]; omega
            | false =>
              go_wp2_with fail
              go_quiet (fail)
              go_wp2_with fail
              go_roundw
              case rel => exact ⟨j + 1, false, by omega, by go_num, rfl, by rw [← HA.out, HE.out]; simp, below_drewN HB2.out _⟩
              case measure => simp [intOf]; omega
        · obtain rfl : j = l.length := by omega
          rw [List.drop_length, List.any_nil, Bool.or_false] at ha
          have HA := hidden ha
          have HBX := hidden hBx
          have HB2 := hidden hB2
          clear ha hBx hB2
          cases b with
          | true =>
            go_wp2_with fail
            go_roundw
            case rel => exact ⟨k + 1, by omega, by go_num, by rw [← HM.out, ← HA.out, Bool.true_and], bt HB.out HB2.out⟩
            case measure => simp [intOf]; omega
          | false =>
            go_wp2_with fail
            go_ret
            exact ⟨by rw [← HM.out, ← HA.out, Bool.false_and]; rfl, HBX.out⟩
    · obtain rfl : k = t.kids.length := by omega
      rw [List.drop_length, manyB_nil] at hm
      have HM := hidden hm
      have HBX := hidden (bt hB1 hB)
      clear hm hB
      go_wp2_with fail
      go_ret
      exact ⟨by rw [← HM.out]; rfl, HBX.out⟩

end Go.Proofs.YtlbaaiglebpjiaaGreatDoor
/-
  The reference: kinds.
-/

namespace Go.Proofs.YtlbaaiglebpjiaaGreatDoor
open Go.RowKit Go.Shelf Go.Lib

/-- Each tree is of one of its kinds. -/
def kindsB : List (List Int) → List Tree → Bool
  | [], [] => true
  | l :: ls, x :: ts => (l.any fun z => x.kind == z) && kindsB ls ts
  | _, _ => false
theorem kindsB_len : ∀ {ls : List (List Int)} {ts : List Tree}, ts.length ≠ ls.length → kindsB ls ts = false
  | [], [], h => absurd rfl h
  | [], _ :: _, _ => rfl
  | _ :: _, [], _ => rfl
  | l :: ls, x :: ts, h => by
    show ((l.any fun z => x.kind == z) && kindsB ls ts) = false
    rw [kindsB_len (ls := ls) (ts := ts) (by simpa using h), Bool.and_false]

/-- A slice that reads as lists of integers. -/
def IntsL (w : World) (v : Value) (ls : List (List Int)) : Prop :=
  ∃ p cap g o, v = .slice p ls.length cap ∧ (ls ≠ [] → p = some ⟨g, o, none⟩ ∧ g < w.heap.size) ∧ ∀ i l, ls[i]? = some l → ∃ lv, w.cell? ⟨g, o + i, none⟩ = some lv ∧ IntsV w lv l

set_option maxRecDepth 100000 in
set_option maxHeartbeats 6400000 in
theorem refKinds_any (t : Tree) (kv : Value) (ls : List (List Int)) (lv : Value) (w : World) (hk : KidsV w kv t.kids) (hl : IntsL w lv ls) (hkl : t.kids.length ≤ 4194304) (hll : ∀ l ∈ ls, l.length ≤ 4194304) :
    Calls Tryz.prog 91 #[nodeV t kv, lv] w fun e w' => e = .returned (.bool (kindsB ls t.kids)) ∧ Below w.heap.size w w' := by
  obtain ⟨p, cap, g, o, rfl, hpp, hat⟩ := hk.open
  obtain ⟨pp, pcap, pg, po, rfl, hip, hic⟩ := hl
  have HPP := hidden hpp
  have HAT := hidden hat
  have HIP := hidden hip
  have HIC := hidden hic
  have hal : ∀ o, Below w.heap.size w (w.alloc o) := fun o => (Below.refl _ _).alloc (Nat.le_refl _) _
  by_cases hl : t.kids.length = ls.length
  · have dl : ((t.kids.length : Int) != (ls.length : Int)) = false := by rw [hl]; simp
    obtain ⟨r, hr⟩ : ∃ r, kindsB ls t.kids = r := ⟨_, rfl⟩
    rw [hr]
    have HR := hidden hr
    have HL := hidden hl
    clear hk hpp hat hip hic hr hl hal
    simp only [nodeV]
    go_enter Tryz.func91, Tryz.ntmps91
    go_wp2_with fail
    obtain ⟨w1, hw1⟩ : ∃ w1, w1 = w.alloc (.cells #[.int .i64 t.kind, .string t.text, .int .i64 t.at_, .int .i64 t.end_, .slice p t.kids.length cap] 24) := ⟨_, rfl⟩
    have hB1 : Below w.heap.size w w1 := by rw [hw1]; exact (Below.refl _ _).alloc (Nat.le_refl _) _
    have hb4 : w1.cell? ⟨w.heap.size, 4, none⟩ = some (.slice p t.kids.length cap) := by rw [hw1]; simp [go_sem]
    have hlt1 : w.heap.size < w1.heap.size := by rw [hw1]; simp
    rw [← hw1]
    clear hw1
    clear dl
    go_loopw [5] (fun i wr => ∃ k : Nat, k ≤ t.kids.length ∧ i = .int .i64 k ∧ Hid (kindsB (ls.drop k) (t.kids.drop k) = r ∧ Below w1.heap.size w1 wr)) (fun i _ => t.kids.length - (intOf i).toNat)
    case atStart => exact ⟨0, Nat.zero_le _, rfl, by rw [List.drop_zero, List.drop_zero]; exact HR.out, Below.refl _ _⟩
    case round =>
      obtain ⟨k, hk, rfl, hh⟩ := hrel
      obtain ⟨hm, hB⟩ := hh.out
      clear hh
      obtain ⟨wo, hwo⟩ : ∃ wo, wo = wr := ⟨_, rfl⟩
      subst hwo
      have hb4' := (hB.cell (p := ⟨w.heap.size, 4, none⟩) hlt1).trans hb4
      by_cases hlt : k < t.kids.length
      · obtain ⟨x, hx⟩ : ∃ x, t.kids[k]? = some x := ⟨_, List.getElem?_eq_getElem hlt⟩
        obtain ⟨rfl, hg⟩ := HPP.out (fun h => by rw [h] at hlt; exact absurd hlt (Nat.not_lt_zero _))
        obtain ⟨kv', hn, hkv⟩ := HAT.out k x hx
        have hltz : (k : Int) < (t.kids.length : Int) := by omega
        obtain ⟨l, hls⟩ : ∃ l, ls[k]? = some l := ⟨_, List.getElem?_eq_getElem (by have := HL.out; omega)⟩
        have hltl : (k : Int) < (ls.length : Int) := by have := HL.out; omega
        obtain ⟨rfl, hpg⟩ := HIP.out (fun h => by rw [h] at hls; simp at hls)
        obtain ⟨lv, hlc, p3, c3, g3, o3, rfl, hip3, hic3⟩ := HIC.out k l hls
        have hlb : l.length ≤ 4194304 := hll l (List.mem_of_getElem? hls)
        have HIP3 := hidden hip3
        have HIC3 := hidden hic3
        have HLC := hidden hlc
        rw [drop_step hx, drop_step hls, kindsB] at hm
        obtain ⟨q, hq⟩ : ∃ q, (l.any fun z => x.kind == z) = q := ⟨_, rfl⟩
        rw [hq] at hm
        have HM := hidden hm
        have HQ := hidden hq
        have HB := hidden hB
        have HB4 := hidden hb4'
        have HN := hidden hn
        clear hm hq hB hn hkv hip3 hic3 hlc hls
        go_wp2_with fail
        clear hb4'
        go_loopw [6, 7] (fun ov jv w2 => ∃ j : Nat, ∃ b : Bool, j ≤ l.length ∧ jv = .int .i64 j ∧ ov = .bool b ∧ Hid ((b || (l.drop j).any fun z => x.kind == z) = q ∧ Below wo.heap.size wo w2)) (fun _ j _ => l.length - (intOf j).toNat)
        case atStart => exact ⟨0, false, Nat.zero_le _, rfl, rfl, by rw [List.drop_zero, Bool.false_or]; exact HQ.out, Below.refl _ _⟩
        case round =>
          obtain ⟨j, b, hj, rfl, rfl, hh⟩ := hrel
          obtain ⟨ha, hB2⟩ := hh.out
          clear hh
          have hb4 := cell_later HB4.out hB2
          have hBx : Below w.heap.size w wr := bt hB1 (bt HB.out hB2)
          have cl := cell_later HLC.out hBx
          by_cases hjl : j < l.length
          · obtain ⟨z, hz⟩ : ∃ z, l[j]? = some z := ⟨_, List.getElem?_eq_getElem hjl⟩
            obtain ⟨rfl, _⟩ := HIP3.out (fun h => by rw [h] at hjl; exact absurd hjl (Nat.not_lt_zero _))
            have ci := cell_later (HIC3.out j z hz) hBx
            have c0 := (HN.out.of_block (hBx.block g hg)).c0
            have hjz : (j : Int) < (l.length : Int) := by omega
            rw [drop_step hz, List.any_cons] at ha
            have HA := hidden ha
            have HB2 := hidden hB2
            clear ha hB2 hz hBx hx
            cases b with
            | true =>
              go_wp2_with fail
              go_quiet (fail)
              go_wp2_with fail
              go_roundw
              case rel => exact ⟨j + 1, true, by omega, by go_num, rfl, by rw [← HA.out, Bool.true_or, Bool.true_or], below_drewN HB2.out _⟩
              case measure => simp [intOf]; omega
            | false =>
              obtain ⟨e, he⟩ : ∃ e, (x.kind == z) = e := ⟨_, rfl⟩
              have HE := hidden he
              cases e with
              | true =>
                go_wp2_with fail
                go_quiet (fail)
                go_wp2_with fail
                go_roundw
                case rel => exact ⟨j + 1, true, by omega, by go_num, rfl, by rw [← HA.out, HE.out]; simp, below_drewN HB2.out _⟩
                case measure => simp [intOf]; omega
              | false =>
                go_wp2_with fail
                go_quiet (fail)
                go_wp2_with fail
                go_roundw
                case rel => exact ⟨j + 1, false, by omega, by go_num, rfl, by rw [← HA.out, HE.out]; simp, below_drewN HB2.out _⟩
                case measure => simp [intOf]; omega
          · obtain rfl : j = l.length := by omega
            rw [List.drop_length, List.any_nil, Bool.or_false] at ha
            have HA := hidden ha
            have HBX := hidden hBx
            have HB2 := hidden hB2
            clear ha hBx hB2
            cases b with
            | true =>
              go_wp2_with fail
              go_roundw
              case rel => exact ⟨k + 1, by omega, by go_num, by rw [← HM.out, ← HA.out, Bool.true_and], bt HB.out HB2.out⟩
              case measure => simp [intOf]; omega
            | false =>
              go_wp2_with fail
              go_ret
              exact ⟨by rw [← HM.out, ← HA.out, Bool.false_and]; rfl, HBX.out⟩
      · obtain rfl : k = t.kids.length := by omega
        have hnl : ¬ ((t.kids.length : Int) < (ls.length : Int)) := by have := HL.out; omega
        rw [List.drop_length, HL.out, List.drop_length, kindsB] at hm
        have HM := hidden hm
        have HBX := hidden (bt hB1 hB)
        clear hm hB
        go_wp2_with fail
        go_ret
        exact ⟨by rw [← HM.out]; rfl, HBX.out⟩
  · have dl : ((t.kids.length : Int) != (ls.length : Int)) = true := by rw [bne_iff_ne]; omega
    rw [kindsB_len hl]
    clear hl hk hpp hat hip hic
    simp only [nodeV]
    go_enter Tryz.func91, Tryz.ntmps91
    go_wp2_with fail
    go_ret
    exact ⟨rfl, hal _⟩

end Go.Proofs.YtlbaaiglebpjiaaGreatDoor
/-
  The reference: isExpression, isDeclaration, isStatement, one, expressions.
-/

namespace Go.Proofs.YtlbaaiglebpjiaaGreatDoor
open Go.RowKit Go.Shelf Go.Lib

def kExprB (k : Int) : Bool := k == 35 || (k == 36 || (k == 39 || k == 40))
def kDeclB (k : Int) : Bool := decide (3 ≤ k ∧ k ≤ 9)
def kStmtB (k : Int) : Bool := decide (26 ≤ k ∧ k ≤ 34)

set_option maxHeartbeats 1600000 in
theorem refIsExpression_any (k : Int) (w : World) : Calls Tryz.prog 53 #[.int .i64 k] w fun e w' => e = .returned (.bool (kExprB k)) ∧ w' = w := by
  unfold kExprB
  cases h1 : (k == 35) <;> cases h2 : (k == 36) <;> cases h3 : (k == 39) <;> cases h4 : (k == 40) <;>
    (go_enter Tryz.func53, Tryz.ntmps53
     go_wp2_with fail
     go_ret
     exact ⟨rfl, rfl⟩)

set_option maxHeartbeats 1600000 in
theorem refIsDeclaration_any (k : Int) (w : World) : Calls Tryz.prog 89 #[.int .i64 k] w fun e w' => e = .returned (.bool (kDeclB k)) ∧ w' = w := by
  by_cases h1 : 3 ≤ k
  · by_cases h2 : k ≤ 9
    · rw [show kDeclB k = true from decide_eq_true ⟨h1, h2⟩]
      go_enter Tryz.func89, Tryz.ntmps89
      go_wp2_with fail
      go_ret
      exact ⟨rfl, rfl⟩
    · rw [show kDeclB k = false from decide_eq_false fun h => h2 h.2]
      have d2 : decide (k ≤ 9) = false := decide_eq_false h2
      go_enter Tryz.func89, Tryz.ntmps89
      go_wp2_with fail
      go_ret
      exact ⟨rfl, rfl⟩
  · rw [show kDeclB k = false from decide_eq_false fun h => h1 h.1]
    have d1 : decide (3 ≤ k) = false := decide_eq_false h1
    go_enter Tryz.func89, Tryz.ntmps89
    go_wp2_with fail
    go_ret
    exact ⟨rfl, rfl⟩

set_option maxHeartbeats 1600000 in
theorem refIsStatement_any (k : Int) (w : World) : Calls Tryz.prog 90 #[.int .i64 k] w fun e w' => e = .returned (.bool (kStmtB k)) ∧ w' = w := by
  by_cases h1 : 26 ≤ k
  · by_cases h2 : k ≤ 34
    · rw [show kStmtB k = true from decide_eq_true ⟨h1, h2⟩]
      go_enter Tryz.func90, Tryz.ntmps90
      go_wp2_with fail
      go_ret
      exact ⟨rfl, rfl⟩
    · rw [show kStmtB k = false from decide_eq_false fun h => h2 h.2]
      have d2 : decide (k ≤ 34) = false := decide_eq_false h2
      go_enter Tryz.func90, Tryz.ntmps90
      go_wp2_with fail
      go_ret
      exact ⟨rfl, rfl⟩
  · rw [show kStmtB k = false from decide_eq_false fun h => h1 h.1]
    have d1 : decide (26 ≤ k) = false := decide_eq_false h1
    go_enter Tryz.func90, Tryz.ntmps90
    go_wp2_with fail
    go_ret
    exact ⟨rfl, rfl⟩

theorem refOne_any (v : Value) (w : World) : Calls Tryz.prog 92 #[v] w fun e w' => e = .returned v ∧ w' = w := by
  go_enter Tryz.func92, Tryz.ntmps92
  go_wp2_with fail
  go_ret
  exact ⟨rfl, rfl⟩

theorem refExpressions_any (w : World) : Calls Tryz.prog 95 #[] w fun e w' => ∃ v, e = .returned v ∧ IntsV w' v [35, 36, 39, 40] ∧ Below w.heap.size w w' := by
  go_enter Tryz.func95, Tryz.ntmps95
  go_wp2_with fail
  go_ret
  refine ⟨_, rfl, ⟨_, 4, w.heap.size, 0, rfl, fun _ => ⟨rfl, by simp⟩, fun i z h => ?_⟩, (Below.refl _ _).alloc (Nat.le_refl _) _⟩
  rcases i with _ | _ | _ | _ | i <;> simp at h <;> subst h <;> simp [go_sem]

end Go.Proofs.YtlbaaiglebpjiaaGreatDoor
/-
  The reference: word, operators.
-/


namespace Go.Proofs.YtlbaaiglebpjiaaGreatDoor
open Go.RowKit Go.Shelf Go.Lib

def wordB (xs : List ByteArray) (t : Tree) : Bool := t.kind == 38 && (hasB xs t.text && ((t.kids.length : Int) == 0))

theorem strs_below {w w' : World} {v : Value} {xs : List ByteArray} (h : Strs w v xs) (hb : Below w.heap.size w w') : Strs w' v xs := by
  rcases h with h | ⟨g, cap, h1, h2, h3⟩
  · exact .inl h
  · exact .inr ⟨g, cap, h1, Nat.lt_of_lt_of_le h2 hb.size, fun j hj => cell_later (h3 j hj) hb⟩

set_option maxHeartbeats 1600000 in
theorem refWord_any (t : Tree) (kv : Value) (v : Value) (xs : List ByteArray) (w : World) (hk : KidsV w kv t.kids) (hs : Strs w v xs) (hx : xs.length ≤ 4096) (h0 : xs ≠ []) :
    Calls Tryz.prog 93 #[nodeV t kv, v] w fun e w' => e = .returned (.bool (wordB xs t)) ∧ Below w.heap.size w w' := by
  obtain ⟨p, cap, g, o, rfl, _, _⟩ := hk.open
  have hal : ∀ o, Below w.heap.size w (w.alloc o) := fun o => (Below.refl _ _).alloc (Nat.le_refl _) _
  have hH := fun o => refHas_any (strs_below hs (hal o)) hx h0 t.text
  unfold wordB
  clear hk hs hx h0
  simp only [nodeV]
  obtain ⟨b, hb⟩ : ∃ b, hasB xs t.text = b := ⟨_, rfl⟩
  rw [hb] at hH ⊢
  clear hb
  cases h1 : (t.kind == 38) with
  | false =>
    go_enter Tryz.func93, Tryz.ntmps93
    go_wp2_with fail
    go_ret
    exact ⟨rfl, hal _⟩
  | true =>
    cases b with
    | false =>
      go_enter Tryz.func93, Tryz.ntmps93
      go_wp2_with (go_at_call 87; (with_reducible refine (hH _).mono ?_); rintro e w3 ⟨rfl, rfl⟩)
      go_ret
      exact ⟨rfl, hal _⟩
    | true =>
      cases h2 : ((t.kids.length : Int) == 0) with
      | false =>
        go_enter Tryz.func93, Tryz.ntmps93
        go_wp2_with (go_at_call 87; (with_reducible refine (hH _).mono ?_); rintro e w3 ⟨rfl, rfl⟩)
        go_ret
        exact ⟨rfl, hal _⟩
      | true =>
        go_enter Tryz.func93, Tryz.ntmps93
        go_wp2_with (go_at_call 87; (with_reducible refine (hH _).mono ?_); rintro e w3 ⟨rfl, rfl⟩)
        go_ret
        exact ⟨rfl, hal _⟩

def opsL : List ByteArray := [⟨#[111, 114]⟩, ⟨#[97, 110, 100]⟩, ⟨#[61, 61]⟩, ⟨#[33, 61]⟩, ⟨#[60]⟩, ⟨#[60, 61]⟩, ⟨#[62]⟩, ⟨#[62, 61]⟩, ⟨#[43]⟩, ⟨#[45]⟩, ⟨#[42]⟩]

set_option maxHeartbeats 1600000 in
theorem refOperators_any (w : World) : Calls Tryz.prog 88 #[] w fun e w' => ∃ v, e = .returned v ∧ Strs w' v opsL ∧ Below w.heap.size w w' := by
  go_enter Tryz.func88, Tryz.ntmps88
  go_wp2_with fail
  go_ret
  refine ⟨_, rfl, .inr ⟨w.heap.size, 11, rfl, by simp, fun j hj => ?_⟩, (Below.refl _ _).alloc (Nat.le_refl _) _⟩
  have hj' : j < 11 := hj
  rcases j with _ | _ | _ | _ | _ | _ | _ | _ | _ | _ | _ | j <;> first | (simp [go_sem, opsL]; done) | omega

end Go.Proofs.YtlbaaiglebpjiaaGreatDoor
/-
  What the reference asks of a tree is what the shapes ask. No program stands here.
-/


namespace Go.Proofs.YtlbaaiglebpjiaaGreatDoor
open Go.RowKit Go.Shelf Go.Lib

theorem ent_parts (r : Sh → Tree → Bool) (p : TextP) (l : List Sh) (t : Tree) : (Entry.parts p l).sem r t = (p.sem t.text && decide (t.kids.length = l.length) && (l.zip t.kids).all fun x => r x.1 x.2) := rfl
theorem ent_many (r : Sh → Tree → Bool) (p : TextP) (n : Nat) (x : Sh) (t : Tree) : (Entry.many p n x).sem r t = (p.sem t.text && decide (n ≤ t.kids.length) && t.kids.all (r x)) := rfl
theorem one_word {T : Int → Option Entry} (r : Sh → Tree → Bool) (ws : List ByteArray) (t : Tree) : (Sh.word ws).sem1 T r t = ((t.kind == 38) && (Entry.parts (.oneOf ws) []).sem r t) := rfl
theorem one_bound {T : Int → Option Entry} (r : Sh → Tree → Bool) (x : Sh) (t : Tree) : (Sh.bound x).sem1 T r t = ((t.kind == 19) && (Entry.parts (.oneOf boundWs) [x]).sem r t) := rfl

def opT : List ByteArray := [⟨#[43]⟩, ⟨#[45]⟩]
def unT : List ByteArray := [⟨#[45]⟩, ⟨#[110, 111, 116]⟩]
def setT : List ByteArray := [⟨#[97, 100, 100, 119, 105, 110, 115]⟩, ⟨#[114, 101, 109, 111, 118, 101, 119, 105, 110, 115]⟩]
def regT : List ByteArray := [⟨#[108, 97, 115, 116]⟩, ⟨#[109, 117, 108, 116, 105]⟩]
def ordT : List ByteArray := [⟨#[111, 114, 100, 101, 114, 101, 100]⟩]
def hideT : List ByteArray := [⟨#[104, 105, 100, 101]⟩]
def exprK : List Int := [35, 36, 39, 40]

/-- The text that a node of a kind must have. -/
def refText (k : Int) (s : ByteArray) : Bool :=
  if ([3, 4, 5, 6, 7, 8, 9, 11, 13, 14, 15, 16, 22, 24, 35] : List Int).contains k then nameB s
  else if k = 36 then isNumB s
  else if k = 37 then intB s
  else if k = 19 then hasB boundWs s
  else if k = 21 then hasB opT s
  else if k = 39 then hasB unT s
  else if k = 40 then hasB opsL s
  else if k = 38 then true
  else decide (s = ⟨#[]⟩)

/-- The kinds that the nodes below a node of a kind must have. -/
def refKids (hold : Bool) (k : Int) (ts : List Tree) : Bool :=
  if ([1, 16, 35, 36, 37, 38] : List Int).contains k then ts.isEmpty
  else if k = 2 then ts.all fun x => kDeclB x.kind
  else if k = 25 then ts.all fun x => kStmtB x.kind
  else if k = 3 then kindsB [[36]] ts
  else if k = 4 then kindsB [[10]] ts
  else if k = 5 then kindsB [[10], [12]] ts
  else if k = 6 then kindsB [[10], [38]] ts && wordB setT (ts.getD 1 zeroT)
  else if k = 7 then kindsB [[10], [12], [38]] ts && wordB regT (ts.getD 2 zeroT)
  else if k = 8 then kindsB [[13, 14, 15, 16, 17]] ts
  else if k = 9 then kindsB [[23], [1, 38], [25]] ts && (((ts.getD 1 zeroT).kind == 1) || wordB ordT (ts.getD 1 zeroT))
  else if k = 10 then manyB [11] ts
  else if k = 11 then kindsB [[35]] ts
  else if k = 12 then kindsB [[37], [37]] ts
  else if k = 13 then kindsB [[18]] ts
  else if k = 14 then kindsB [[35], [35], [1, 38]] ts && (((ts.getD 2 zeroT).kind == 1) || wordB hideT (ts.getD 2 zeroT))
  else if k = 15 then kindsB [[18], [19]] ts
  else if k = 17 then kindsB [[10], [20], [19]] ts
  else if k = 18 then manyB [35] ts
  else if k = 19 then kindsB [if hold then exprK else [37]] ts
  else if k = 20 then (!ts.isEmpty) && manyB [21] ts
  else if k = 21 then kindsB [[1, 36], [1, 10], [22]] ts
  else if k = 22 then manyB [35, 36] ts
  else if k = 23 then manyB [24] ts
  else if k = 24 then kindsB [[35, 12]] ts
  else if k = 26 ∨ k = 39 then kindsB [exprK] ts
  else if k = 27 then kindsB [[20], [19]] ts
  else if k = 28 ∨ k = 29 ∨ k = 31 ∨ k = 32 then kindsB [[22]] ts
  else if k = 30 then kindsB [exprK, [22]] ts
  else if k = 33 then kindsB [[22], exprK] ts
  else if k = 34 then kindsB [[11], exprK ++ [1], [25]] ts
  else if k = 40 then kindsB [exprK, exprK] ts
  else false

def shapedN : Nat → Bool → Tree → Bool
  | 0, _, _ => false
  | n + 1, h, t => refText t.kind t.text && refKids h t.kind t.kids && t.kids.all (shapedN n (t.kind == 27))

/-- What the reference asks of a node for its place alone. -/
def headS : Sh → Tree → Bool
  | .of ks, x => ks.any fun z => x.kind == z
  | .either a b, x => headS a x || headS b x
  | .word ws, x => wordB ws x
  | .bound _, x => x.kind == 19

def partsB (l : List Sh) (ts : List Tree) : Bool := decide (ts.length = l.length) && (l.zip ts).all fun x => headS x.1 x.2

theorem partsB_cons (s : Sh) (l : List Sh) (x : Tree) (ts : List Tree) : partsB (s :: l) (x :: ts) = (headS s x && partsB l ts) := by
  unfold partsB
  rw [List.zip_cons_cons, List.all_cons, List.length_cons, List.length_cons]
  have : decide (ts.length + 1 = l.length + 1) = decide (ts.length = l.length) := by simp
  rw [this]
  cases headS s x <;> cases decide (ts.length = l.length) <;> simp
theorem partsB_short (s : Sh) (l : List Sh) : partsB (s :: l) [] = false := rfl
theorem partsB_long (x : Tree) (ts : List Tree) : partsB [] (x :: ts) = false := rfl

theorem partsB_of : ∀ (lss : List (List Int)) (ts : List Tree), partsB (lss.map .of) ts = kindsB lss ts
  | [], [] => rfl
  | [], x :: ts => rfl
  | l :: lss, [] => rfl
  | l :: lss, x :: ts => by rw [List.map_cons, partsB_cons, partsB_of lss ts]; rfl

/-- The shapes that may stand below a node ('hold': below a hold statement). -/
def fits (h : Bool) : Sh → Prop
  | .of ks => ∀ k ∈ ks, (tab k).isSome = true ∧ k ≠ 19
  | .either a b => fits h a ∧ fits h b
  | .word _ => True
  | .bound y => y = .of (if h then exprK else [37])

theorem shaped_hold {n : Nat} {h : Bool} {t : Tree} (hk : t.kind ≠ 19) : shapedN n h t = shapedN n false t := by
  cases n with
  | zero => rfl
  | succ n =>
    rw [shapedN, shapedN]
    have : refKids h t.kind t.kids = refKids false t.kind t.kids := by
      unfold refKids
      simp only [if_neg hk]
    rw [this]

theorem zip_and {r : Sh → Tree → Bool} {sh : Tree → Bool} : ∀ {l : List Sh} {ts : List Tree}, ts.length = l.length → (∀ s ∈ l, ∀ x ∈ ts, r s x = (headS s x && sh x)) →
    ((l.zip ts).all fun x => r x.1 x.2) = (((l.zip ts).all fun x => headS x.1 x.2) && ts.all sh)
  | [], [], _, _ => rfl
  | [], _ :: _, h, _ => by simp at h
  | _ :: _, [], h, _ => by simp at h
  | s :: l, x :: ts, h, hr => by
    rw [List.zip_cons_cons, List.all_cons, List.all_cons, List.all_cons, zip_and (l := l) (ts := ts) (by simpa using h) (fun s' hs' x' hx' => hr s' (List.mem_cons_of_mem _ hs') x' (List.mem_cons_of_mem _ hx')), hr s List.mem_cons_self x List.mem_cons_self]
    cases headS s x <;> cases sh x <;> cases ((l.zip ts).all fun x => headS x.1 x.2) <;> cases ts.all sh <;> rfl

theorem parts_claim {n : Nat} {h : Bool} {p : TextP} {l : List Sh} {t : Tree} (ih : ∀ s ∈ l, ∀ x ∈ t.kids, Sh.sem tab n s x = (headS s x && shapedN n h x)) :
    (Entry.parts p l).sem (Sh.sem tab n) t = (p.sem t.text && partsB l t.kids && t.kids.all (shapedN n h)) := by
  rw [ent_parts]
  unfold partsB
  by_cases hl : t.kids.length = l.length
  · rw [zip_and hl ih, decide_eq_true hl]
    cases p.sem t.text <;> simp
  · rw [decide_eq_false hl]; simp

theorem many_claim {n m : Nat} {h : Bool} {p : TextP} {s : Sh} {t : Tree} (ih : ∀ x ∈ t.kids, Sh.sem tab n s x = (headS s x && shapedN n h x)) :
    (Entry.many p m s).sem (Sh.sem tab n) t = (p.sem t.text && (decide (m ≤ t.kids.length) && t.kids.all (headS s)) && t.kids.all (shapedN n h)) := by
  rw [ent_many]
  have : t.kids.all (Sh.sem tab n s) = (t.kids.all (headS s) && t.kids.all (shapedN n h)) := by
    revert ih
    generalize t.kids = ts
    intro ih
    induction ts with
    | nil => rfl
    | cons x ts ih2 =>
      rw [List.all_cons, List.all_cons, List.all_cons, ih2 (fun y hy => ih y (List.mem_cons_of_mem _ hy)), ih x List.mem_cons_self]
      cases headS s x <;> cases shapedN n h x <;> cases ts.all (headS s) <;> cases ts.all (shapedN n h) <;> rfl
  rw [this]
  cases p.sem t.text <;> cases decide (m ≤ t.kids.length) <;> simp

theorem word_two (ws : List ByteArray) (k : Int) (ts : List Tree) : partsB [.of [k], .word ws] ts = (kindsB [[k], [38]] ts && wordB ws (ts.getD 1 zeroT)) := by
  match ts with
  | [] => rfl
  | [a] => simp [partsB_cons, partsB_short, kindsB]
  | [a, b] =>
    show partsB [.of [k], .word ws] [a, b] = (kindsB [[k], [38]] [a, b] && wordB ws b)
    rw [partsB_cons, partsB_cons]
    simp only [headS, kindsB, List.any_cons, List.any_nil, Bool.or_false, Bool.and_true, partsB, List.length_nil, List.zip_nil_left, List.all_nil, decide_true]
    unfold wordB
    cases (a.kind == k) <;> cases (b.kind == 38) <;> simp
  | a :: b :: c :: r => rw [partsB_cons, partsB_cons, partsB_long]; simp [kindsB]

theorem word_three (ws : List ByteArray) (j k : Int) (ts : List Tree) : partsB [.of [j], .of [k], .word ws] ts = (kindsB [[j], [k], [38]] ts && wordB ws (ts.getD 2 zeroT)) := by
  match ts with
  | [] => rfl
  | [a] => simp [partsB_cons, partsB_short, kindsB]
  | [a, b] => simp [partsB_cons, partsB_short, kindsB]
  | [a, b, c] =>
    show partsB [.of [j], .of [k], .word ws] [a, b, c] = (kindsB [[j], [k], [38]] [a, b, c] && wordB ws c)
    rw [partsB_cons, partsB_cons, partsB_cons]
    simp only [headS, kindsB, List.any_cons, List.any_nil, Bool.or_false, Bool.and_true, partsB, List.length_nil, List.zip_nil_left, List.all_nil, decide_true]
    unfold wordB
    cases (a.kind == j) <;> cases (b.kind == k) <;> cases (c.kind == 38) <;> simp
  | a :: b :: c :: d :: r => rw [partsB_cons, partsB_cons, partsB_cons, partsB_long]; simp [kindsB]

theorem either_three (ws : List ByteArray) (j k : Int) (ts : List Tree) : partsB [.of [j], .of [k], .either (.of [1]) (.word ws)] ts = (kindsB [[j], [k], [1, 38]] ts && (((ts.getD 2 zeroT).kind == 1) || wordB ws (ts.getD 2 zeroT))) := by
  match ts with
  | [] => rfl
  | [a] => simp [partsB_cons, partsB_short, kindsB]
  | [a, b] => simp [partsB_cons, partsB_short, kindsB]
  | [a, b, c] =>
    show partsB [.of [j], .of [k], .either (.of [1]) (.word ws)] [a, b, c] = (kindsB [[j], [k], [1, 38]] [a, b, c] && ((c.kind == 1) || wordB ws c))
    rw [partsB_cons, partsB_cons, partsB_cons]
    simp only [headS, kindsB, List.any_cons, List.any_nil, Bool.or_false, Bool.and_true, partsB, List.length_nil, List.zip_nil_left, List.all_nil, decide_true]
    unfold wordB
    cases (a.kind == j) <;> cases (b.kind == k) <;> cases (c.kind == 1) <;> cases (c.kind == 38) <;> simp
  | a :: b :: c :: d :: r => rw [partsB_cons, partsB_cons, partsB_cons, partsB_long]; simp [kindsB]

theorem either_mid (ws : List ByteArray) (j k : Int) (ts : List Tree) : partsB [.of [j], .either (.of [1]) (.word ws), .of [k]] ts = (kindsB [[j], [1, 38], [k]] ts && (((ts.getD 1 zeroT).kind == 1) || wordB ws (ts.getD 1 zeroT))) := by
  match ts with
  | [] => rfl
  | [a] => simp [partsB_cons, partsB_short, kindsB]
  | [a, b] => simp [partsB_cons, partsB_short, kindsB]
  | [a, b, c] =>
    show partsB [.of [j], .either (.of [1]) (.word ws), .of [k]] [a, b, c] = (kindsB [[j], [1, 38], [k]] [a, b, c] && ((b.kind == 1) || wordB ws b))
    rw [partsB_cons, partsB_cons, partsB_cons]
    simp only [headS, kindsB, List.any_cons, List.any_nil, Bool.or_false, Bool.and_true, partsB, List.length_nil, List.zip_nil_left, List.all_nil, decide_true]
    unfold wordB
    cases (a.kind == j) <;> cases (c.kind == k) <;> cases (b.kind == 1) <;> cases (b.kind == 38) <;> simp
  | a :: b :: c :: d :: r => rw [partsB_cons, partsB_cons, partsB_cons, partsB_long]; simp [kindsB]

theorem either_for (ts : List Tree) : partsB [.of [11], .either (.of [1]) (.of [35, 36, 39, 40]), .of [25]] ts = kindsB [[11], [35, 36, 39, 40, 1], [25]] ts := by
  match ts with
  | [] => rfl
  | [a] => simp [partsB_cons, partsB_short, kindsB]
  | [a, b] => simp [partsB_cons, partsB_short, kindsB]
  | [a, b, c] =>
    rw [partsB_cons, partsB_cons, partsB_cons]
    simp only [headS, kindsB, List.any_cons, List.any_nil, Bool.or_false, Bool.and_true, partsB, List.length_nil, List.zip_nil_left, List.all_nil, decide_true]
    cases (a.kind == 11) <;> cases (c.kind == 25) <;> cases (b.kind == 1) <;> cases (b.kind == 35) <;> cases (b.kind == 36) <;> cases (b.kind == 39) <;> cases (b.kind == 40) <;> rfl
  | a :: b :: c :: d :: r => rw [partsB_cons, partsB_cons, partsB_cons, partsB_long]; simp [kindsB]

theorem bound_last (y : Sh) (lss : List (List Int)) (ts : List Tree) : partsB (lss.map .of ++ [.bound y]) ts = kindsB (lss ++ [[19]]) ts := by
  induction lss generalizing ts with
  | nil =>
    match ts with
    | [] => rfl
    | [a] =>
      show partsB [.bound y] [a] = kindsB [[19]] [a]
      rw [partsB_cons]
      simp [headS, kindsB, partsB]
    | a :: b :: r =>
      show partsB [.bound y] (a :: b :: r) = kindsB [[19]] (a :: b :: r)
      rw [partsB_cons, partsB_long]; simp [kindsB]
  | cons l lss ih =>
    match ts with
    | [] => rfl
    | a :: ts =>
      show partsB (.of l :: (lss.map .of ++ [.bound y])) (a :: ts) = kindsB (l :: (lss ++ [[19]])) (a :: ts)
      rw [partsB_cons, ih, kindsB]; rfl

theorem many_head (ks : List Int) (ts : List Tree) : ts.all (headS (.of ks)) = manyB ks ts := rfl
theorem decl_head (ts : List Tree) : ts.all (headS (.of [3, 4, 5, 6, 7, 8, 9])) = ts.all fun x => kDeclB x.kind := by
  congr 1
  funext x
  unfold headS kDeclB
  rw [Bool.eq_iff_iff]
  simp only [List.any_cons, List.any_nil, Bool.or_eq_true, beq_iff_eq, decide_eq_true_eq, Bool.false_eq_true, or_false]
  omega
theorem stmt_head (ts : List Tree) : ts.all (headS (.of [26, 27, 28, 29, 30, 31, 32, 33, 34])) = ts.all fun x => kStmtB x.kind := by
  congr 1
  funext x
  unfold headS kStmtB
  rw [Bool.eq_iff_iff]
  simp only [List.any_cons, List.any_nil, Bool.or_eq_true, beq_iff_eq, decide_eq_true_eq, Bool.false_eq_true, or_false]
  omega

end Go.Proofs.YtlbaaiglebpjiaaGreatDoor
/-
  The shapes and the reference agree. By gen_vd.py.
-/

namespace Go.Proofs.YtlbaaiglebpjiaaGreatDoor
open Go.RowKit Go.Shelf Go.Lib

theorem contains_head (ks : List Int) (x : Tree) : ks.contains x.kind = headS (.of ks) x := by
  unfold headS
  rw [List.contains_eq_any_beq]

theorem tab_mem {k : Int} {e : Entry} (h : tab k = some e) : (k, e) ∈ shapesL := by
  unfold tab tabOf at h
  cases hf : shapesL.find? (fun x => x.1 == k) with
  | none => rw [hf] at h; cases h
  | some x =>
    rw [hf] at h
    have h1 : x.2 = e := Option.some.inj h
    have h2 := List.find?_some hf
    have h3 := List.mem_of_find?_eq_some hf
    have h4 : x.1 = k := by simpa using h2
    rw [← h1, ← h4]; exact h3

theorem empty_text (s : ByteArray) : (TextP.oneOf [(⟨#[]⟩ : ByteArray)]).sem s = decide (s = ⟨#[]⟩) := by
  show ([(⟨#[]⟩ : ByteArray)].any fun x => decide (x = s)) = _
  rw [List.any_cons, List.any_nil, Bool.or_false, Bool.eq_iff_iff, decide_eq_true_eq, decide_eq_true_eq]
  exact eq_comm

theorem parts_nil_B (ts : List Tree) : partsB [] ts = ts.isEmpty := by cases ts <;> rfl

theorem many_zero (ks : List Int) (ts : List Tree) : (decide (0 ≤ ts.length) && ts.all (headS (.of ks))) = ts.all (headS (.of ks)) := by rw [decide_eq_true (Nat.zero_le _), Bool.true_and]
theorem many_one (ks : List Int) (ts : List Tree) : (decide (1 ≤ ts.length) && ts.all (headS (.of ks))) = ((!ts.isEmpty) && manyB ks ts) := by cases ts <;> rfl

def fitsB (h : Bool) : Sh → Bool
  | .of ks => ks.all fun k => (tab k).isSome && decide (k ≠ 19)
  | .either a b => fitsB h a && fitsB h b
  | .word _ => true
  | .bound (.of ks) => decide (ks = if h then exprK else [37])
  | .bound _ => false

theorem fits_of {h : Bool} : ∀ {s : Sh}, fitsB h s = true → fits h s
  | .of ks, hk => fun k hk2 => by
    have := List.all_eq_true.1 hk k hk2
    simpa using this
  | .either a b, hk => by
    have hk' : (fitsB h a && fitsB h b) = true := hk
    rw [Bool.and_eq_true] at hk'
    exact ⟨fits_of hk'.1, fits_of hk'.2⟩
  | .word _, _ => trivial
  | .bound (.of ks), hk => by
    have hk' : decide (ks = if h then exprK else [37]) = true := hk
    show Sh.of ks = .of (if h then exprK else [37])
    rw [of_decide_eq_true hk']
  | .bound (.either _ _), hk => by cases hk
  | .bound (.word _), hk => by cases hk
  | .bound (.bound _), hk => by cases hk

theorem comb {a a' b b' c c' : Bool} (h1 : a = a') (h2 : b = b') (h3 : c = c') : (a && b && c) = (a' && b' && c') := by rw [h1, h2, h3]

set_option maxHeartbeats 1600000 in
theorem entry_claim {n : Nat} {t : Tree} {e : Entry} (he : tab t.kind = some e) (ih : ∀ (h : Bool), ∀ x ∈ t.kids, ∀ s, fits h s → Sh.sem tab n s x = (headS s x && shapedN n h x)) :
    e.sem (Sh.sem tab n) t = (refText t.kind t.text && refKids false t.kind t.kids && t.kids.all (shapedN n (t.kind == 27))) := by
  have hm := tab_mem he
  have p := fun (h : Bool) (tp : TextP) (l : List Sh) (hf : l.all (fitsB h) = true) => parts_claim (n := n) (h := h) (p := tp) (l := l) (t := t) (fun s hs x hx => ih h x hx s (fits_of (List.all_eq_true.1 hf s hs)))
  have q := fun (m : Nat) (tp : TextP) (s : Sh) (hf : fitsB false s = true) => many_claim (n := n) (m := m) (h := false) (p := tp) (s := s) (t := t) (fun x hx => ih false x hx s (fits_of hf))
  clear he ih
  obtain ⟨k, hk⟩ : ∃ k, t.kind = k := ⟨_, rfl⟩
  rw [hk] at hm ⊢
  clear hk
  simp only [shapesL, exprL, stmtL, partL, invL, declL, List.append_nil, List.cons_append, List.nil_append, List.mem_cons, List.not_mem_nil, or_false, Prod.mk.injEq] at hm
  rcases hm with ⟨rfl, rfl⟩ | ⟨rfl, rfl⟩ | ⟨rfl, rfl⟩ | ⟨rfl, rfl⟩ | ⟨rfl, rfl⟩ | ⟨rfl, rfl⟩ | ⟨rfl, rfl⟩ | ⟨rfl, rfl⟩ | ⟨rfl, rfl⟩ | ⟨rfl, rfl⟩ | ⟨rfl, rfl⟩ | ⟨rfl, rfl⟩ | ⟨rfl, rfl⟩ | ⟨rfl, rfl⟩ | ⟨rfl, rfl⟩ | ⟨rfl, rfl⟩ | ⟨rfl, rfl⟩ | ⟨rfl, rfl⟩ | ⟨rfl, rfl⟩ | ⟨rfl, rfl⟩ | ⟨rfl, rfl⟩ | ⟨rfl, rfl⟩ | ⟨rfl, rfl⟩ | ⟨rfl, rfl⟩ | ⟨rfl, rfl⟩ | ⟨rfl, rfl⟩ | ⟨rfl, rfl⟩ | ⟨rfl, rfl⟩ | ⟨rfl, rfl⟩ | ⟨rfl, rfl⟩ | ⟨rfl, rfl⟩ | ⟨rfl, rfl⟩ | ⟨rfl, rfl⟩ | ⟨rfl, rfl⟩ | ⟨rfl, rfl⟩ | ⟨rfl, rfl⟩ | ⟨rfl, rfl⟩ | ⟨rfl, rfl⟩
  · rw [p false _ _ (by kernel_rfl)]; exact comb rfl (partsB_of [[35, 36, 39, 40], [35, 36, 39, 40]] _) rfl
  · rw [p false _ _ (by kernel_rfl)]; exact comb rfl (partsB_of [[35, 36, 39, 40]] _) rfl
  · rw [p false _ _ (by kernel_rfl)]; exact comb rfl (parts_nil_B _) rfl
  · rw [p false _ _ (by kernel_rfl)]; exact comb rfl (parts_nil_B _) rfl
  · rw [p false _ _ (by kernel_rfl)]; exact comb rfl (parts_nil_B _) rfl
  · rw [p false _ _ (by kernel_rfl)]; exact comb (empty_text _) (either_for _) rfl
  · rw [p false _ _ (by kernel_rfl)]; exact comb (empty_text _) (partsB_of [[22], [35, 36, 39, 40]] _) rfl
  · rw [p false _ _ (by kernel_rfl)]; exact comb (empty_text _) (partsB_of [[35, 36, 39, 40], [22]] _) rfl
  · rw [p false _ _ (by kernel_rfl)]; exact comb (empty_text _) (partsB_of [[22]] _) rfl
  · rw [p false _ _ (by kernel_rfl)]; exact comb (empty_text _) (partsB_of [[22]] _) rfl
  · rw [p false _ _ (by kernel_rfl)]; exact comb (empty_text _) (partsB_of [[22]] _) rfl
  · rw [p false _ _ (by kernel_rfl)]; exact comb (empty_text _) (partsB_of [[22]] _) rfl
  · rw [p true _ _ (by kernel_rfl)]; exact comb (empty_text _) (bound_last _ [[20]] _) rfl
  · rw [p false _ _ (by kernel_rfl)]; exact comb (empty_text _) (partsB_of [[35, 36, 39, 40]] _) rfl
  · rw [q 0 _ _ (by kernel_rfl)]; exact comb (empty_text _) ((many_zero _ _).trans (stmt_head _)) rfl
  · rw [p false _ _ (by kernel_rfl)]; exact comb rfl (partsB_of [[35, 12]] _) rfl
  · rw [q 0 _ _ (by kernel_rfl)]; exact comb (empty_text _) (many_zero _ _) rfl
  · rw [q 0 _ _ (by kernel_rfl)]; exact comb rfl (many_zero _ _) rfl
  · rw [p false _ _ (by kernel_rfl)]; exact comb rfl (partsB_of [[1, 36], [1, 10], [22]] _) rfl
  · rw [q 1 _ _ (by kernel_rfl)]; exact comb (empty_text _) (many_one _ _) rfl
  · rw [q 0 _ _ (by kernel_rfl)]; exact comb (empty_text _) (many_zero _ _) rfl
  · rw [p false _ _ (by kernel_rfl)]; exact comb (empty_text _) (partsB_of [[37], [37]] _) rfl
  · rw [p false _ _ (by kernel_rfl)]; exact comb rfl (partsB_of [[35]] _) rfl
  · rw [q 0 _ _ (by kernel_rfl)]; exact comb (empty_text _) (many_zero _ _) rfl
  · rw [p false _ _ (by kernel_rfl)]; exact comb (empty_text _) (bound_last _ [[10], [20]] _) rfl
  · rw [p false _ _ (by kernel_rfl)]; exact comb rfl (parts_nil_B _) rfl
  · rw [p false _ _ (by kernel_rfl)]; exact comb rfl (bound_last _ [[18]] _) rfl
  · rw [p false _ _ (by kernel_rfl)]; exact comb rfl (either_three hideT 35 35 _) rfl
  · rw [p false _ _ (by kernel_rfl)]; exact comb rfl (partsB_of [[18]] _) rfl
  · rw [p false _ _ (by kernel_rfl)]; exact comb rfl (either_mid ordT 23 25 _) rfl
  · rw [p false _ _ (by kernel_rfl)]; exact comb rfl (partsB_of [[13, 14, 15, 16, 17]] _) rfl
  · rw [p false _ _ (by kernel_rfl)]; exact comb rfl (word_three regT 10 12 _) rfl
  · rw [p false _ _ (by kernel_rfl)]; exact comb rfl (word_two setT 10 _) rfl
  · rw [p false _ _ (by kernel_rfl)]; exact comb rfl (partsB_of [[10], [12]] _) rfl
  · rw [p false _ _ (by kernel_rfl)]; exact comb rfl (partsB_of [[10]] _) rfl
  · rw [p false _ _ (by kernel_rfl)]; exact comb rfl (partsB_of [[36]] _) rfl
  · rw [q 0 _ _ (by kernel_rfl)]; exact comb (empty_text _) ((many_zero _ _).trans (decl_head _)) rfl
  · rw [p false _ _ (by kernel_rfl)]; exact comb (empty_text _) (parts_nil_B _) rfl

theorem shaped_ref : ∀ (n : Nat) (t : Tree), t.levels ≤ n → ∀ (h : Bool) (s : Sh), fits h s → Sh.sem tab n s t = (headS s t && shapedN n h t)
  | 0, t, hl, _, _, _ => by rw [Tree.levels_eq] at hl; omega
  | n + 1, t, hl, h, s, hs => by
    have ih : ∀ (h : Bool), ∀ x ∈ t.kids, ∀ s, fits h s → Sh.sem tab n s x = (headS s x && shapedN n h x) := fun h x hx s hs =>
      shaped_ref n x (by have := levels_kid hx; omega) h s hs
    rw [Sh.sem]
    induction s with
    | of ks =>
      show (ks.contains t.kind && (match tab t.kind with | some e => e.sem (Sh.sem tab n) t | none => false)) = _
      rw [contains_head]
      cases hc : headS (.of ks) t with
      | false => rfl
      | true =>
        rw [Bool.true_and, Bool.true_and]
        have hc' : (ks.any fun z => t.kind == z) = true := hc
        obtain ⟨z, hz, hzk⟩ := List.any_eq_true.1 hc'
        have hzk' : t.kind = z := by simpa using hzk
        obtain ⟨h1, h2⟩ := hs z hz
        rw [← hzk'] at h1 h2
        obtain ⟨e, he⟩ := Option.isSome_iff_exists.1 h1
        rw [shaped_hold h2, he]
        exact entry_claim he ih
    | either a b iha ihb =>
      show (a.sem1 tab (Sh.sem tab n) t || b.sem1 tab (Sh.sem tab n) t) = ((headS a t || headS b t) && shapedN (n + 1) h t)
      rw [iha hs.1, ihb hs.2]
      cases headS a t <;> cases headS b t <;> cases shapedN (n + 1) h t <;> rfl
    | word ws =>
      rw [one_word, ent_parts]
      show ((t.kind == 38) && ((ws.any fun x => decide (x = t.text)) && decide (t.kids.length = 0) && (([] : List Sh).zip t.kids).all fun x => Sh.sem tab n x.1 x.2)) = (wordB ws t && shapedN (n + 1) h t)
      unfold wordB
      cases hk : (t.kind == 38) with
      | false => rfl
      | true =>
        have hk' : t.kind = 38 := by simpa using hk
        rw [shapedN, hk']
        cases hts : t.kids with
        | nil =>
          show (true && (hasB ws t.text && true && true)) = (true && (hasB ws t.text && true) && (true && true && true))
          cases hasB ws t.text <;> rfl
        | cons a r =>
          show (true && (hasB ws t.text && decide (r.length + 1 = 0) && _)) = (true && (hasB ws t.text && (((r.length + 1 : Nat) : Int) == 0)) && _)
          have e1 : decide (r.length + 1 = 0) = false := decide_eq_false (by omega)
          have e2 : ((((r.length + 1 : Nat) : Int)) == 0) = false := by rw [beq_eq_false_iff_ne]; omega
          rw [e1, e2]
          cases hasB ws t.text <;> rfl
    | bound y ihy =>
      have hy : y = .of (if h then exprK else [37]) := hs
      rw [one_bound, ent_parts]
      show ((t.kind == 19) && ((boundWs.any fun x => decide (x = t.text)) && decide (t.kids.length = 1) && ([y].zip t.kids).all fun x => Sh.sem tab n x.1 x.2)) = ((t.kind == 19) && shapedN (n + 1) h t)
      cases hk : (t.kind == 19) with
      | false => rfl
      | true =>
        have hk' : t.kind = 19 := by simpa using hk
        rw [Bool.true_and, Bool.true_and, shapedN, hk']
        show (hasB boundWs t.text && decide (t.kids.length = 1) && ([y].zip t.kids).all fun x => Sh.sem tab n x.1 x.2) = (hasB boundWs t.text && kindsB [if h then exprK else [37]] t.kids && t.kids.all (shapedN n false))
        match hts : t.kids with
        | [] => cases hasB boundWs t.text <;> rfl
        | [a] =>
          have hfa : fits false y := by
            rw [hy]
            cases h with
            | true => exact fits_of (by kernel_rfl)
            | false => exact fits_of (by kernel_rfl)
          have ha := ih false a (by rw [hts]; exact List.mem_singleton_self a) y hfa
          show (hasB boundWs t.text && true && (Sh.sem tab n y a && true)) = (hasB boundWs t.text && ((if h then exprK else [37]).any (fun z => a.kind == z) && true) && (shapedN n false a && true))
          rw [ha, hy]
          show (hasB boundWs t.text && true && (((if h then exprK else [37]).any (fun z => a.kind == z) && shapedN n false a) && true)) = _
          cases hasB boundWs t.text <;> cases ((if h then exprK else [37]).any (fun z => a.kind == z)) <;> cases shapedN n false a <;> rfl
        | a :: b :: r =>
          show (hasB boundWs t.text && decide (r.length + 1 + 1 = 1) && _) = (hasB boundWs t.text && (_ && false) && _)
          rw [decide_eq_false (by omega)]
          cases hasB boundWs t.text <;> simp

/-- The reference's answers. -/
def refProgB (t : Tree) : Bool := (t.kind == 2) && shapedN t.levels false t
def refExprB (t : Tree) : Bool := kExprB t.kind && shapedN t.levels false t

theorem prog_ref (t : Tree) : progB t = refProgB t := by
  unfold progB refProgB
  rw [shaped_ref t.levels t (Nat.le_refl _) false (.of [2]) (fits_of (by kernel_rfl))]
  congr 1
  show ((t.kind == 2) || false) = _
  rw [Bool.or_false]

theorem zip_expr {n : Nat} (ih : ∀ x, Sh.sem exprTab n (.of exprK) x = Sh.sem tab n (.of exprK) x) : ∀ (l : List Sh) (ts : List Tree), (∀ s ∈ l, s = .of exprK) →
    ((l.zip ts).all fun x => Sh.sem exprTab n x.1 x.2) = ((l.zip ts).all fun x => Sh.sem tab n x.1 x.2)
  | [], _, _ => rfl
  | _ :: _, [], _ => rfl
  | s :: l, x :: ts, h => by
    rw [List.zip_cons_cons, List.all_cons, List.all_cons, zip_expr ih l ts (fun s' hs' => h s' (List.mem_cons_of_mem _ hs'))]
    have := h s List.mem_cons_self
    subst this
    rw [ih x]

theorem sem_expr : ∀ (n : Nat) (t : Tree), Sh.sem exprTab n (.of exprK) t = Sh.sem tab n (.of exprK) t
  | 0, _ => rfl
  | n + 1, t => by
    have ih := sem_expr n
    show (exprK.contains t.kind && (match exprTab t.kind with | some e => e.sem (Sh.sem exprTab n) t | none => false)) = (exprK.contains t.kind && (match tab t.kind with | some e => e.sem (Sh.sem tab n) t | none => false))
    cases hc : exprK.contains t.kind with
    | false => rfl
    | true =>
      have hm : t.kind ∈ exprK := by simpa using hc
      have key : ∀ (p : TextP) (l : List Sh), (∀ s ∈ l, s = .of exprK) → exprTab t.kind = some (.parts p l) → tab t.kind = some (.parts p l) →
          (match exprTab t.kind with | some e => e.sem (Sh.sem exprTab n) t | none => false) = (match tab t.kind with | some e => e.sem (Sh.sem tab n) t | none => false) := fun p l hl h1 h2 => by
        rw [h1, h2]
        show (Entry.parts p l).sem (Sh.sem exprTab n) t = (Entry.parts p l).sem (Sh.sem tab n) t
        rw [ent_parts, ent_parts, zip_expr ih l t.kids hl]
      congr 1
      simp only [exprK, List.mem_cons, List.not_mem_nil, or_false] at hm
      rcases hm with h | h | h | h
      · exact key .name [] (fun s hs => by cases hs) (by rw [h]; kernel_rfl) (by rw [h]; kernel_rfl)
      · exact key .number [] (fun s hs => by cases hs) (by rw [h]; kernel_rfl) (by rw [h]; kernel_rfl)
      · exact key (.oneOf unT) [.of exprK] (fun s hs => by simpa using hs) (by rw [h]; kernel_rfl) (by rw [h]; kernel_rfl)
      · exact key (.oneOf opsL) [.of exprK, .of exprK] (fun s hs => by simpa using hs) (by rw [h]; kernel_rfl) (by rw [h]; kernel_rfl)

theorem expr_ref (t : Tree) : exprB t = refExprB t := by
  unfold exprB refExprB
  show Sh.sem exprTab t.levels (.of exprK) t = _
  rw [sem_expr, shaped_ref t.levels t (Nat.le_refl _) false (.of exprK) (fits_of (by kernel_rfl))]
  congr 1
  show ((t.kind == 35) || ((t.kind == 36) || ((t.kind == 39) || ((t.kind == 40) || false)))) = _
  rw [Bool.or_false]; rfl

end Go.Proofs.YtlbaaiglebpjiaaGreatDoor
