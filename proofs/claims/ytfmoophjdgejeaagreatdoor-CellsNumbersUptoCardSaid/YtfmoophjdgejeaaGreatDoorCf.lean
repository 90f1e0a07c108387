import Derived.Test.YtfmoophjdgejeaaGreatDoorCe
import Derived.Test.YtfmoophjdgejeaaGreatDoorCd
import Derived.Test.YtfmoophjdgejeaaGreatDoorRh
import Derived.Deep.OwnRows
import Derived.Laws.OwnMore
/-
  The iterator over the tuples of sizes.
-/
namespace Go.Proofs.YtfmoophjdgejeaaGreatDoor
open Go.RowKit Go.Shelf
attribute [local go_sem] Oper.semAt_some

/-- What the iterator yields: a row of its own, which holds the tuple. -/
def TupR (O : Nat → Prop) (t : List Nat) (vs : Array Value) (A : World) : Prop :=
  ∃ T C, vs = #[.slice (some ⟨T, 0, none⟩) t.length C] ∧ O T ∧ TupAt A T t

/-- One block alone. -/
def one (n : Nat) : Nat → Prop := fun k => n ≤ k ∧ k < n + 1
theorem one_self (n : Nat) : one n n := ⟨Nat.le_refl _, Nat.lt_succ_self _⟩

theorem OnlyAt.turnO {T : Nat} {O : Nat → Prop} {a b : World} (h : OnlyAt T a b) (hT : O T) : TurnO O a b :=
  ⟨h.os, h.tape, h.output, Nat.le_of_eq h.size.symm, fun k _ hk => h.block k (fun e => hk (by rw [e]; exact hT))⟩

theorem TupAt.made (w : World) (n : Nat) : TupAt (w.alloc (.cells (madeCells #[.int .i64 0] n) 3)) w.heap.size (List.replicate n 0) := by
  refine ⟨fun i x hx => ?_, fun i hi => ?_⟩
  · have hi : i < n := by have := (List.getElem?_eq_some_iff.1 hx).1; simpa using this
    rw [List.getElem?_replicate, if_pos hi] at hx
    obtain rfl : 0 = x := by injection hx
    rw [World.cell?_alloc_new, ← Array.getElem?_toList, toList_madeCells_one, List.getElem?_replicate, if_pos hi]
    rfl
  · simp [go_sem]

/-- The numbers of a block. -/
def readN (w : World) (T n : Nat) : List Nat := (List.range n).map fun i => (intOf ((w.cell? ⟨T, i, none⟩).getD undef)).toNat

theorem readN_at {w : World} {T : Nat} {t : List Nat} (h : TupAt w T t) : readN w T t.length = t := by
  unfold readN
  apply List.ext_getElem?
  intro i
  rw [List.getElem?_map]
  rcases Nat.lt_or_ge i t.length with hi | hi
  · rw [List.getElem?_range hi, List.getElem?_eq_getElem hi]
    have := h.1 i t[i] (List.getElem?_eq_getElem hi)
    simp [this, intOf]
  · rw [List.getElem?_eq_none (by simpa using hi), List.getElem?_eq_none hi]
    rfl

set_option maxRecDepth 100000 in
set_option maxHeartbeats 3200000 in
theorem tuples1_any (K : Nat → Prop) (ss : List Nat) (hpos : Pos ss) (h6 : ∀ n ∈ ss, n ≤ 6) (hl : ss.length ≤ 3) {w : World} {B : Nat} {p : Option Addr} {g o cap : Nat} (hB : w.cell? ⟨B, 0, none⟩ = some (.slice p ss.length cap))
    (hKw : ∀ k, K k → k < w.heap.size) (hKB : K B) (hp : ss ≠ [] → p = some ⟨g, o, none⟩ ∧ g < w.heap.size ∧ K g) (hc : ∀ i z, (natL ss)[i]? = some z → w.cell? ⟨g, o + i, none⟩ = some (.int .i64 z)) :
    SeqM K Tryz.prog 61 #[.pointer (some ⟨B, 0, none⟩)] TupR (tups ss) w := by
  intro l J Jx W hW hJ hJx hJg h0 hY
  have hlt := cell_lt hB
  have hcb : W.cell? ⟨B, 0, none⟩ = some (.slice p ss.length cap) := (hW.cell (p := ⟨B, 0, none⟩) hlt).trans hB
  have hmk := run_make_row' (P := Tryz.prog) 23 3 (.int .i64 0) 8 Tryz.underlying23 infoI rfl .i64 .i64 ss.length (by omega) (by omega)
  have hWz := hW.size
  have HJ := hidden hJ
  have HJx := hidden hJx
  have H0 := hidden h0
  have HY := hidden hY
  have HW := hidden hW
  have HP := hidden hp
  have HC := hidden hc
  have HB := hidden hlt
  have HCB := hidden hB
  have H6 := hidden h6
  have HPos := hidden hpos
  clear hJ hJx hJg h0 hY hB hlt hW hp hc h6 hpos
  show Calls Tryz.prog 61 #[.func (.yield l) #[] #[], .pointer (some ⟨B, 0, none⟩)] W _
  refine (callsIn_wide (n := 9)).1 ?_
  refine callsIn_of_wp Tryz.func61 rfl trivial ?_ rfl
  simp only [Tryz.ntmps61, List.size_toArray, List.length_cons, List.length_nil, Nat.reduceAdd, Nat.reduceSub, Array.replicate_succ, Array.replicate_zero, List.push_toArray, List.append_toArray, List.nil_append, List.cons_append]
  gi_wp2_with fail
  obtain ⟨W1, hW1⟩ : ∃ W1, W1 = W.alloc (.cells (madeCells #[.int .i64 0] ss.length) 3) := ⟨_, rfl⟩
  have hB1 : Below W.heap.size W W1 := by rw [hW1]; exact (Below.refl _ _).alloc (Nat.le_refl _) _
  have hz1 : W1.heap.size = W.heap.size + 1 := by rw [hW1]; simp
  have hT1 : TupAt W1 W.heap.size (tupN ss 0) := by rw [hW1, tup_zero]; exact TupAt.made W ss.length
  have hJ1 : J (one W.heap.size) [] W1 := by have h := H0.out W1 hB1; rw [hz1] at h; exact h
  rw [← hW1]
  have HB1 : Hid (Keeps K W W1) := Keeps.of_below hB1 hB1.size (fun k hk => by have := hKw k hk; omega)
  have HT1 := hidden hT1
  have HJ1 := hidden hJ1
  clear hW1 hB1 hT1 hJ1 hcb hmk
  have HCL : Hid ((tups ss).length = prodL ss) := tups_len ss
  gi_loopw [4] (fun more wr => ∃ (k : Nat) (b : Bool), more = .bool b ∧ Hid (k ≤ prodL ss ∧ (b = true → k < prodL ss ∧ TupAt wr W.heap.size (tupN ss k)) ∧ (b = false → k = prodL ss) ∧ J (one W.heap.size) ((tups ss).take k) wr ∧ W.heap.size < wr.heap.size ∧ Keeps K W wr))
    (fun more wr => match more with | .bool true => prodL ss - hornL ss (readN wr W.heap.size ss.length) | _ => 0)
  case atStart => exact ⟨0, true, rfl, Nat.zero_le _, fun _ => ⟨prod_pos HPos.out, HT1.out⟩, fun h => (by cases h), HJ1.out, by omega, HB1.out⟩
  case round =>
    obtain ⟨k, b, rfl, hh⟩ := hrel
    cases b with
    | false =>
      obtain ⟨_, _, h3, h4, h5, _⟩ := hh.out
      obtain rfl := h3 rfl
      have H4 := hidden h4
      have H5 := hidden h5
      clear h3 h4 h5 hh
      gi_wp2_with fail
      go_end0
      have h4 := H4.out
      have h5 := H5.out
      rw [List.take_of_length_le (by rw [HCL.out]; exact Nat.le_refl _)] at h4
      exact ⟨⟨_, rfl⟩, one W.heap.size, fun k hk => ⟨hk.1, by have := hk.2; omega⟩, .inl h4⟩
    | true =>
      obtain ⟨h1, h2, _, h4, h5, h6⟩ := hh.out
      obtain ⟨hkl, hT⟩ := h2 rfl
      have hget := tups_get ss k hkl
      have hpre : ((tups ss).take k ++ [tupN ss k]) <+: tups ss := by rw [← take_step hget]; exact List.take_prefix _ _
      have hlen : (tupN ss k).length = ss.length := tup_len ss k
      obtain ⟨fn, tmps, assign, body, hy, hR⟩ := HY.out (one W.heap.size) ((tups ss).take k) (tupN ss k) #[.slice (some ⟨W.heap.size, 0, none⟩) ss.length ss.length] wr h4 ⟨W.heap.size, ss.length, by rw [hlen], one_self _, hT⟩ (fun k hk => ⟨hk.1, by have := hk.2; omega⟩) hpre
      have HPre := hidden hpre
      have HTk := hidden hT
      have HKL := hidden hkl
      have HGet := hidden hget
      have HLen := hidden hlen
      have HW5 := hidden h6
      have H5 := hidden h5
      clear h1 h2 h4 h5 h6 hT hkl hget hpre hlen hh
      gi_wp2_with fail
      refine (round_any _ hR).mono ?_
      rintro e w5 (⟨rfl, hJ5, hm5, hb5⟩ | ⟨rfl, hJ5, hm5, hb5⟩)
      · have hT5 : TupAt w5 W.heap.size (tupN ss k) := HTk.out.of_block (hm5.block _ (one_self _) H5.out)
        have hBW := HW5.out.trans hb5
        have cb5 : w5.cell? ⟨B, 0, none⟩ = some (.slice p ss.length cap) := (World.cell?_of_block (a := ⟨B, 0, none⟩) ((hBW.block B hKB (by have := HB.out; omega)).trans (HW.out.block B HB.out))).trans HCB.out
        have hadv := advance_any ss (tupN ss k) W.heap.size ss.length p g o cap w5 hT5 (tup_in HPos.out k) H6.out (by rw [HLen.out]; omega)
          (fun h => ⟨(HP.out h).1, by have := (HP.out h).2.1; omega⟩)
          (fun i z hz => by
            have hne : ss ≠ [] := fun h => by rw [h] at hz; simp [natL] at hz
            have hg := (HP.out hne).2
            exact (World.cell?_of_block (a := ⟨g, o + i, none⟩) ((hBW.block g hg.2 (by omega)).trans (HW.out.block g hg.1))).trans (HC.out i z hz))
        rw [adv_tup HPos.out k, HLen.out] at hadv
        obtain ⟨m, hm⟩ : ∃ m, decide ((k + 1) % prodL ss ≠ 0) = m := ⟨_, rfl⟩
        rw [hm] at hadv
        have HMd := hidden hm
        clear hm
        have HM5 := hidden hm5
        have HJ5 := hidden hJ5
        have HBW := hidden hBW
        have HADV := hidden hadv
        clear hm5 hJ5 hT5 hb5 hBW hy hR hadv
        gi_wp2_with fail
        refine ⟨trivial, ?_⟩
        (with_reducible refine (callsIn_wide.2 HADV.out).mono ?_)
        rintro e w6 ⟨rfl, hT6, ho6⟩
        have HT6 := hidden hT6
        have HO6 := hidden ho6
        clear hT6 ho6 cb5
        gi_wp2_with fail
        go_roundw
        case rel =>
          have hle : k + 1 ≤ prodL ss := HKL.out
          have hmod : m = decide (k + 1 < prodL ss) := by
            rw [← HMd.out]
            rcases Nat.lt_or_ge (k + 1) (prodL ss) with h | h
            · rw [decide_eq_true h, decide_eq_true (by rw [Nat.mod_eq_of_lt h]; omega)]
            · obtain h2 : k + 1 = prodL ss := by omega
              rw [h2, Nat.mod_self, decide_eq_false (by omega), decide_eq_false (by omega)]
          refine ⟨k + 1, _, rfl, hle, fun hb => ?_, fun hb => ?_, ?_, ?_, ?_⟩
          · exact ⟨by rw [hmod] at hb; exact of_decide_eq_true hb, HT6.out⟩
          · rw [hmod] at hb; have := of_decide_eq_false hb; omega
          · rw [take_step HGet.out]
            exact HJ.out _ _ _ _ HJ5.out (HO6.out.turnO (one_self _))
          · rw [HO6.out.size]; have := HM5.out.size; have := H5.out; omega
          · exact HBW.out.trans ⟨Nat.le_of_eq HO6.out.size.symm, fun k h1 _ => HO6.out.block k (by have := hKw k h1; omega)⟩
        case measure =>
          have hr1 := readN_at HTk.out
          rw [HLen.out] at hr1
          have hk : hornL ss (tupN ss k) = k := by rw [horn_tup HPos.out, Nat.mod_eq_of_lt HKL.out]
          have hr2 := readN_at HT6.out
          rw [tup_len] at hr2
          have hkl := HKL.out
          rw [hr1, hk]
          have hmd := HMd.out
          by_cases hb : (k + 1) % prodL ss ≠ 0
          · rw [decide_eq_true hb] at hmd
            subst hmd
            show prodL ss - hornL ss (readN w6 W.heap.size ss.length) < prodL ss - k
            rw [hr2, horn_tup HPos.out]
            have : k + 1 < prodL ss := by
              rcases Nat.lt_or_ge (k + 1) (prodL ss) with h | h
              · exact h
              · exact absurd (by rw [show k + 1 = prodL ss by omega, Nat.mod_self]) hb
            rw [Nat.mod_eq_of_lt this]
            show prodL ss - (k + 1) < prodL ss - k
            omega
          · rw [decide_eq_false hb] at hmd
            subst hmd
            show 0 < prodL ss - k
            omega
      · have HM5 := hidden hm5
        have HJ5 := hidden hJ5
        clear hm5 hJ5 hb5 hy hR
        gi_wp2_with fail
        refine bodyPost_ret (results_none rfl _ _ _) rfl ?_
        exact ⟨⟨_, rfl⟩, one W.heap.size, fun k hk => ⟨hk.1, by have := HM5.out.size; have := H5.out; have := hk.2; omega⟩, .inr ⟨_, HPre.out, HJ5.out⟩⟩

end Go.Proofs.YtfmoophjdgejeaaGreatDoor
