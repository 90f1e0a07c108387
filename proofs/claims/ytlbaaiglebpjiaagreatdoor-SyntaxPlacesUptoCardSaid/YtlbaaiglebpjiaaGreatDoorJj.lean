import Derived.Test.YtlbaaiglebpjiaaGreatDoorYu
import Derived.Deep.AppendLies
/-
  The reference: Strip.
-/


namespace Go.Proofs.YtlbaaiglebpjiaaGreatDoor
open Go.RowKit Go.Shelf Go.Lib

theorem mk_kind (k a e : Int) (s : ByteArray) (ts : List Tree) : (Tree.mk k s a e ts).kind = k := rfl
theorem mk_text (k a e : Int) (s : ByteArray) (ts : List Tree) : (Tree.mk k s a e ts).text = s := rfl
theorem mk_at (k a e : Int) (s : ByteArray) (ts : List Tree) : (Tree.mk k s a e ts).at_ = a := rfl
theorem mk_end (k a e : Int) (s : ByteArray) (ts : List Tree) : (Tree.mk k s a e ts).end_ = e := rfl
theorem strip_eq (t : Tree) : t.strip = .mk t.kind t.text 0 0 (t.kids.map Tree.strip) := by cases t; rw [Tree.strip, Tree.stripL_eq]; rfl
theorem strip_kids (t : Tree) : t.strip.kids = t.kids.map Tree.strip := by rw [strip_eq]; rfl

set_option maxRecDepth 100000 in
set_option maxHeartbeats 12800000 in
theorem refStrip_any (t : Tree) : ∀ (kv : Value) (w : World), KidsV w kv t.kids → t.count ≤ 4194304 →
    Calls Tryz.prog 32 #[nodeV t kv] w fun e w' => ∃ p n c, e = .returned (nodeV t.strip (.slice p n c)) ∧ KidsO w' (.slice p n c) t.strip.kids (fun b => w.heap.size ≤ b ∧ b < w'.heap.size) ∧ Below w.heap.size w w' := by
  refine Tree.induct (P := fun t => ∀ (kv : Value) (w : World), KidsV w kv t.kids → t.count ≤ 4194304 →
    Calls Tryz.prog 32 #[nodeV t kv] w fun e w' => ∃ p n c, e = .returned (nodeV t.strip (.slice p n c)) ∧ KidsO w' (.slice p n c) t.strip.kids (fun b => w.heap.size ≤ b ∧ b < w'.heap.size) ∧ Below w.heap.size w w') (fun t ih => ?_) t
  intro kv w hk hct
  obtain ⟨i0, hi, hz0, hz1, hz2⟩ := info_parts infoNode
  obtain ⟨p, cap, g, o, rfl, hpp, hat⟩ := hk.open
  have HAT := hidden hat
  have HPP := hidden hpp
  have HC : Hid (Tree.countL t.kids < 4194304) := by have := Tree.count_eq t; show _ < _; omega
  have hlen : t.kids.length < 4194304 := Nat.lt_of_le_of_lt (Tree.length_le_countL _) HC.out
  clear hk hat hpp hct
  simp only [nodeV]
  go_enter Tryz.func32, Tryz.ntmps32
  go_wp2_with fail
  obtain ⟨w3, hw3⟩ : ∃ w3, w3 = ((w.alloc (.cells #[.int .i64 t.kind, .string t.text, .int .i64 t.at_, .int .i64 t.end_, .slice p t.kids.length cap] 24)).alloc (.cells #[.int .i64 0, .string ⟨#[]⟩, .int .i64 0, .int .i64 0, .slice none 0 0] 24)).alloc (.cells #[.int .i64 t.kind, .string t.text, .int .i64 0, .int .i64 0, .slice none 0 0] 24) := ⟨_, rfl⟩
  have hs3 : w3.heap.size = w.heap.size + 3 := by rw [hw3]; simp
  have hB3 : Below w.heap.size w w3 := by rw [hw3]; exact (((Below.refl _ _).alloc (Nat.le_refl _) _).alloc (by simp) _).alloc (by simp; omega) _
  have ha : w3.cell? ⟨w.heap.size, 4, none⟩ = some (.slice p t.kids.length cap) := by simp [hw3, go_sem]
  have hr : NodeOwn w3 (w.heap.size + 1) (.mk 0 ⟨#[]⟩ 0 0 []) (.slice none 0 0) := by
    refine ⟨⟨by simp [hw3, go_sem, Tree.kind], by simp [hw3, go_sem, Tree.text], by simp [hw3, go_sem, Tree.at_], by simp [hw3, go_sem, Tree.end_], by simp [hw3, go_sem]⟩, fun j hj => ?_⟩
    simp [hw3, go_sem]
  have ho : NodeOwn w3 (w.heap.size + 2) (.mk t.kind t.text 0 0 []) (.slice none 0 0) := by
    refine ⟨⟨by simp [hw3, go_sem, Tree.kind], by simp [hw3, go_sem, Tree.text], by simp [hw3, go_sem, Tree.at_], by simp [hw3, go_sem, Tree.end_], by simp [hw3, go_sem]⟩, fun j hj => ?_⟩
    simp [hw3, go_sem]
  rw [← hw3]
  clear hw3
  have HS3 := hidden hs3
  clear hs3
  go_loopw [4] (fun i wr => ∃ k : Nat, k ≤ t.kids.length ∧ i = .int .i64 k ∧ Hid (∃ l ov, Forest wr (w.heap.size + 3) 24 ov l ∧ l.map (·.1) = (t.kids.take k).map Tree.strip ∧ l.length = k ∧ NodeOwn wr (w.heap.size + 2) (.mk t.kind t.text 0 0 []) ov ∧ Below (w.heap.size + 2) w3 wr)) (fun i _ => t.kids.length - (intOf i).toNat)
  case atStart => exact ⟨0, Nat.zero_le _, rfl, [], _, Forest.nil _ _ _, by rw [List.take_zero]; rfl, rfl, ho, Below.refl _ _⟩
  case round =>
    obtain ⟨k, hk, rfl, hh⟩ := hrel
    obtain ⟨l, ov, hF, hl1, hl2, hO, hB⟩ := hh.out
    have hzr : w.heap.size + 3 ≤ wr.heap.size := by have := hB.size; have := HS3.out; omega
    have hBw : Below w.heap.size w wr := hB3.trans (hB.mono (by omega))
    have a4 : wr.cell? ⟨w.heap.size, 4, none⟩ = some (.slice p t.kids.length cap) := (hB.cell (p := ⟨w.heap.size, 4, none⟩) (by show w.heap.size < _; omega)).trans ha
    obtain ⟨op, on, oc, rfl⟩ : ∃ op on oc, ov = .slice op on oc := by
      obtain ⟨p, c, _, _, _, h, _⟩ := hF.kidsO.open
      exact ⟨p, _, c, h⟩
    clear hh ha
    by_cases hlt : k < t.kids.length
    · obtain ⟨x, hx⟩ : ∃ x, t.kids[k]? = some x := ⟨_, List.getElem?_eq_getElem hlt⟩
      obtain ⟨rfl, hg⟩ := HPP.out (fun h => by rw [h] at hlt; exact absurd hlt (Nat.not_lt_zero _))
      obtain ⟨kv', hn, hkv⟩ := HAT.out k x hx
      obtain ⟨p2, cap2, _, _, rfl, _, _⟩ := hkv.open
      obtain ⟨c0, c1, c2, c3, c4⟩ := hn.of_block (hBw.block g hg)
      have hltz : (k : Int) < (t.kids.length : Int) := by omega
      have hk0 : (0 : Int) ≤ (k : Int) := by omega
      have hkv2 := hkv.later hBw
      have hcx : x.count ≤ 4194304 := by have := Tree.count_kid hx; have := HC.out; omega
      have o4 := hO.1.c4
      have of4 := hO.2 4 (by omega)
      simp only [Nat.zero_add] at o4 of4
      obtain ⟨y, hy⟩ : ∃ y, x.strip = y := ⟨_, rfl⟩
      have hrec : ∀ W', Below wr.heap.size wr W' → Calls Tryz.prog 32 #[.agg #[.int .i64 x.kind, .string x.text, .int .i64 x.at_, .int .i64 x.end_, .slice p2 x.kids.length cap2]] W' fun e w4 =>
          ∃ p n c, e = .returned (.agg #[.int .i64 y.kind, .string y.text, .int .i64 y.at_, .int .i64 y.end_, .slice p n c]) ∧ w4.ownsRow (w.heap.size + 3) 24 5 (.slice op on oc) k (forestC l) ∧ wr.heap.size ≤ w4.heap.size ∧ (∀ b j, b < wr.heap.size → w4.cell? ⟨b, j, none⟩ = wr.cell? ⟨b, j, none⟩) ∧ (∀ b j, b < wr.heap.size → w4.frozen? ⟨b, j, none⟩ = wr.frozen? ⟨b, j, none⟩) ∧
            Hid (∀ w5 op' on' oc', w5.ownsRow (w.heap.size + 3) 24 5 (.slice op' on' oc') (k + 1) (forestC l ++ nodeC y (.slice p n c)) → (w4.alloc (.cells #[.int .i64 y.kind, .string y.text, .int .i64 y.at_, .int .i64 y.end_, .slice p n c] 24)).grownBy w5 (Value.slice op on oc).ownBlock →
              ((Value.slice op' on' oc').ownBlock = (Value.slice op on oc).ownBlock ∨ (Value.slice op' on' oc').ownBlock = some (w4.heap.size + 1)) →
              Forest (w5.setCell ⟨w.heap.size + 2, 4, none⟩ (.slice op' on' oc')) (w.heap.size + 3) 24 (.slice op' on' oc') (l ++ [(y, .slice p n c)]) ∧ NodeOwn (w5.setCell ⟨w.heap.size + 2, 4, none⟩ (.slice op' on' oc')) (w.heap.size + 2) (.mk t.kind t.text 0 0 []) (.slice op' on' oc') ∧ Below (w.heap.size + 2) w3 (w5.setCell ⟨w.heap.size + 2, 4, none⟩ (.slice op' on' oc'))) := by
        intro W' hb
        refine (ih x (List.mem_of_getElem? hx) _ W' (hkv2.later hb) hcx).mono ?_
        rintro e w4 ⟨p, n, c, rfl, hO4, hb4⟩
        rw [hy] at hO4 ⊢
        have hF' : Forest W' (w.heap.size + 3) 24 (.slice op on oc) l := hF.keep (fun b _ h2 => hb.block b h2) hb.size
        have hF4 : Forest w4 (w.heap.size + 3) 24 (.slice op on oc) l := hF'.keep (fun b _ h2 => hb4.block b h2) hb4.size
        have hb14 := bt hb hb4
        refine ⟨p, n, c, rfl, by rw [← hl2]; exact hF4.1, hb14.size, fun b j hb => hb14.cell (p := ⟨b, j, none⟩) hb, fun b j hb => hb14.frozen (p := ⟨b, j, none⟩) hb, ?_⟩
        intro w5 op' on' oc' ho hg hn
        have h1 := hb.size
        have h2 := hb4.size
        have h3 := hg.size
        simp only [World.size_alloc] at h3
        have hF5 : Forest w5 (w.heap.size + 3) 24 (.slice op' on' oc') (l ++ [(y, .slice p n c)]) := by
          refine Forest.step hF' (by omega) hb4 hO4 ((Below.refl _ _).alloc (Nat.le_refl _) (.cells #[.int .i64 y.kind, .string y.text, .int .i64 y.at_, .int .i64 y.end_, .slice p n c] 24)) (by rw [hl2]; exact ho) hg ?_
          rw [World.size_alloc]
          exact hn
        have hrow : ∀ b, (Value.slice op on oc).ownBlock = some b → w.heap.size + 3 ≤ b := fun b hb => (hF.lt b hb).1
        have hO5 : NodeOwn w5 (w.heap.size + 2) (.mk t.kind t.text 0 0 []) (.slice op on oc) := hO.of_block ((hg.block _ (by simp; omega) (fun e => by have := hrow _ e.symm; omega)).trans ((((Below.refl w4.heap.size w4).alloc (Nat.le_refl _) _).block _ (by omega)).trans (hb14.block _ (by omega))))
        refine ⟨hF5.keep (fun b hb _ => Below.heap_setCell _ _ _ _ (by show b ≠ w.heap.size + 2; omega)) (by simp [World.setCell]), ?_, ?_⟩
        · obtain ⟨⟨q0, q1, q2, q3, q4⟩, qz⟩ := hO5
          simp only [Nat.zero_add] at q0 q1 q2 q3 q4
          refine ⟨⟨by simp [go_sem, q0], by simp [go_sem, q1], by simp [go_sem, q2], by simp [go_sem, q3], by simp [go_sem, q4]⟩, fun j hj => ?_⟩
          have := qz j hj
          simp [go_sem, this]
        · refine Below.setCell ?_ (by show w.heap.size + 2 ≤ w.heap.size + 2; exact Nat.le_refl _) _
          exact Below.grown (((hB.trans (hb.mono (by omega))).trans (hb4.mono (by omega))).alloc (by omega) _) hg (by simp; omega) (fun b hb => by have := hrow b hb; omega)
      have HY : Hid ((l.map (·.1)) ++ [y] = (t.kids.take (k + 1)).map Tree.strip) := by show _ = _; rw [List.take_add_one, hx, List.map_append, hl1, ← hy]; rfl
      have HL2 := hidden hl2
      have hq1 : w.heap.size < wr.heap.size := by omega
      have hq2 : w.heap.size + 2 < wr.heap.size := by omega
      have HROW : Hid (∀ b, (Value.slice op on oc).ownBlock = some b → w.heap.size + 3 ≤ b) := fun b hb => (hF.lt b hb).1
      have hkb : k < 4194304 := by omega
      clear hn hkv hkv2 hx ih hcx hy hF hl1 hl2 hB hBw hB3 hr ho hO
      go_wp2_with fail
      go_region_law (first | ((refine step_append_lies _ (by rfl) _ _ _ (by rfl) (w.heap.size + 3) 24 i0 (.agg #[.int .i64 0, .string ⟨#[]⟩, .int .i64 0, .int .i64 0, .slice none 0 0]) 5 64 Tryz.underlying22 hi hz0 hz1 hz2 rfl (by decide) _ _ _ (by rfl) (hown4.alloc _) ⟨w4.heap.size, 0, none⟩ 1 1 (nodeC y (.slice p3 n3 c3)) (by rfl) (by rfl) (nodeC_new _ _ _ _ _ _ _) (nodeC_one _ _ _ _) (by decide) (by unfold maxLen; omega) (by omega) (by simp; omega) (w4.heap.size + 1) (by simp) ?_; intro g5 cap5 w5 hown5 hgrow5 hat5 hlt5; have hbk5 := (hgrow5.block (w.heap.size + 2) (by simp; omega) (fun e => by have := HROW.out _ e.symm; omega)).trans (((Below.refl w4.heap.size w4).alloc (Nat.le_refl _) (.cells (nodeC y (.slice p3 n3 c3)).toArray 24)).block (w.heap.size + 2) s4); have s6 := (World.cell?_of_block (a := ⟨w.heap.size + 2, 4, none⟩) hbk5).trans s2; have s7 := (World.frozen?_of_block (a := ⟨w.heap.size + 2, 4, none⟩) hbk5).trans s3)) | ((go_simp; (with_reducible refine (hrec _ (by repeat (first | (with_reducible exact Below.refl _ _) | refine Below.drew ?_ | refine Below.alloc ?_ (by first | exact Nat.le_refl _ | (simp; done) | (simp; omega)) _))).mono ?_); rintro e w4 ⟨p3, n3, c3, rfl, hown4, hz4, hc4, hf4, HN4⟩; have s1 := (hc4 _ 4 hq1).trans a4; have s2 := (hc4 _ 4 hq2).trans o4; have s3 := (hf4 _ 4 hq2).trans of4; have s4 : w.heap.size + 2 < w4.heap.size := (by omega); have s5 : w.heap.size + 2 ≠ w4.heap.size := (by omega); clear hc4 hf4; dsimp only)))
      all_goals
        obtain ⟨r1, r2, r3⟩ := HN4.out w5 _ _ _ hown5 hgrow5 (Or.imp (fun h => by rw [h]; rfl) (fun h => by rw [h]; rfl) hat5)
        have R1 := hidden r1
        have R2 := hidden r2
        have R3 := hidden r3
        clear r1 r2 r3 hown4 hown5 hgrow5 hat5 hlt5 s1 s2 s3 s4 s5 s6 s7 hbk5
        go_wp2_with fail
        go_roundw
        case rel => exact ⟨k + 1, by omega, by go_num, _, _, R1.out, by rw [List.map_append]; exact HY.out, by simp [HL2.out], R2.out, R3.out⟩
        case measure => simp [intOf]; omega
    · obtain rfl : k = t.kids.length := by omega
      rw [List.take_length] at hl1
      have hKO := hF.kidsO
      rw [hl1] at hKO
      have hr2 : NodeOwn wr (w.heap.size + 1) (.mk 0 ⟨#[]⟩ 0 0 []) (.slice none 0 0) := hr.of_block (hB.block _ (by omega))
      obtain ⟨⟨r0, r1, r2, r3, r4⟩, rz⟩ := hr2
      have y0 := rz 0 (by omega)
      have y1 := rz 1 (by omega)
      have y2 := rz 2 (by omega)
      have y3 := rz 3 (by omega)
      have y4 := rz 4 (by omega)
      obtain ⟨⟨e0, e1, e2, e3, e4⟩, _⟩ := hO
      simp only [Nat.zero_add] at r1 r2 r3 r4 e1 e2 e3 e4
      simp only [mk_kind, mk_text, mk_at, mk_end] at r0 r1 r2 r3 e0 e1 e2 e3
      have HKO := hidden hKO
      have HBW := hidden hBw
      clear hF hl1 hl2 hB hBw hB3 hr ih hKO rz
      go_wp2_with fail
      refine bodyPost_ret (v := .agg #[.int .i64 t.kind, .string t.text, .int .i64 0, .int .i64 0, .slice op on oc]) (by simp [results, Tryz.results32, go_sem, r0, r1, r2, r3, r4]) rfl ⟨op, on, oc, ?_, ?_, ?_⟩
      · rw [strip_eq]; rfl
      · rw [strip_kids]
        refine (HKO.out.keep (fun b hb => put_other _ _ _ _ _ _ _ _ (by have := hb.1; omega))).mono (fun b hb => ⟨by have := hb.1; omega, by rw [put_size]; exact hb.2⟩)
      · exact put_below HBW.out _ _ _ _ _ _ (by omega)

end Go.Proofs.YtlbaaiglebpjiaaGreatDoor
/-
  The reference: Copy.
-/


namespace Go.Proofs.YtlbaaiglebpjiaaGreatDoor
open Go.RowKit Go.Shelf Go.Lib

set_option maxRecDepth 100000 in
set_option maxHeartbeats 12800000 in
theorem refCopy_any (t : Tree) : ∀ (kv : Value) (w : World), KidsV w kv t.kids → t.count ≤ 4194304 →
    Calls Tryz.prog 40 #[nodeV t kv] w fun e w' => ∃ p n c, e = .returned (nodeV t (.slice p n c)) ∧ KidsO w' (.slice p n c) t.kids (fun b => w.heap.size ≤ b ∧ b < w'.heap.size) ∧ Below w.heap.size w w' := by
  refine Tree.induct (P := fun t => ∀ (kv : Value) (w : World), KidsV w kv t.kids → t.count ≤ 4194304 →
    Calls Tryz.prog 40 #[nodeV t kv] w fun e w' => ∃ p n c, e = .returned (nodeV t (.slice p n c)) ∧ KidsO w' (.slice p n c) t.kids (fun b => w.heap.size ≤ b ∧ b < w'.heap.size) ∧ Below w.heap.size w w') (fun t ih => ?_) t
  intro kv w hk hct
  obtain ⟨i0, hi, hz0, hz1, hz2⟩ := info_parts infoNode
  obtain ⟨p, cap, g, o, rfl, hpp, hat⟩ := hk.open
  have HAT := hidden hat
  have HPP := hidden hpp
  have HC : Hid (Tree.countL t.kids < 4194304) := by have := Tree.count_eq t; show _ < _; omega
  have hlen : t.kids.length < 4194304 := Nat.lt_of_le_of_lt (Tree.length_le_countL _) HC.out
  clear hk hat hpp hct
  simp only [nodeV]
  go_enter Tryz.func40, Tryz.ntmps40
  go_wp2_with fail
  obtain ⟨w3, hw3⟩ : ∃ w3, w3 = ((w.alloc (.cells #[.int .i64 t.kind, .string t.text, .int .i64 t.at_, .int .i64 t.end_, .slice p t.kids.length cap] 24)).alloc (.cells #[.int .i64 0, .string ⟨#[]⟩, .int .i64 0, .int .i64 0, .slice none 0 0] 24)).alloc (.cells #[.int .i64 t.kind, .string t.text, .int .i64 t.at_, .int .i64 t.end_, .slice none 0 0] 24) := ⟨_, rfl⟩
  have hs3 : w3.heap.size = w.heap.size + 3 := by rw [hw3]; simp
  have hB3 : Below w.heap.size w w3 := by rw [hw3]; exact (((Below.refl _ _).alloc (Nat.le_refl _) _).alloc (by simp) _).alloc (by simp; omega) _
  have ha : w3.cell? ⟨w.heap.size, 4, none⟩ = some (.slice p t.kids.length cap) := by simp [hw3, go_sem]
  have hr : NodeOwn w3 (w.heap.size + 1) (.mk 0 ⟨#[]⟩ 0 0 []) (.slice none 0 0) := by
    refine ⟨⟨by simp [hw3, go_sem, Tree.kind], by simp [hw3, go_sem, Tree.text], by simp [hw3, go_sem, Tree.at_], by simp [hw3, go_sem, Tree.end_], by simp [hw3, go_sem]⟩, fun j hj => ?_⟩
    simp [hw3, go_sem]
  have ho : NodeOwn w3 (w.heap.size + 2) (.mk t.kind t.text t.at_ t.end_ []) (.slice none 0 0) := by
    refine ⟨⟨by simp [hw3, go_sem, Tree.kind], by simp [hw3, go_sem, Tree.text], by simp [hw3, go_sem, Tree.at_], by simp [hw3, go_sem, Tree.end_], by simp [hw3, go_sem]⟩, fun j hj => ?_⟩
    simp [hw3, go_sem]
  rw [← hw3]
  clear hw3
  have HS3 := hidden hs3
  clear hs3
  go_loopw [4] (fun i wr => ∃ k : Nat, k ≤ t.kids.length ∧ i = .int .i64 k ∧ Hid (∃ l ov, Forest wr (w.heap.size + 3) 24 ov l ∧ l.map (·.1) = t.kids.take k ∧ l.length = k ∧ NodeOwn wr (w.heap.size + 2) (.mk t.kind t.text t.at_ t.end_ []) ov ∧ Below (w.heap.size + 2) w3 wr)) (fun i _ => t.kids.length - (intOf i).toNat)
  case atStart => exact ⟨0, Nat.zero_le _, rfl, [], _, Forest.nil _ _ _, by rw [List.take_zero]; rfl, rfl, ho, Below.refl _ _⟩
  case round =>
    obtain ⟨k, hk, rfl, hh⟩ := hrel
    obtain ⟨l, ov, hF, hl1, hl2, hO, hB⟩ := hh.out
    have hzr : w.heap.size + 3 ≤ wr.heap.size := by have := hB.size; have := HS3.out; omega
    have hBw : Below w.heap.size w wr := hB3.trans (hB.mono (by omega))
    have a4 : wr.cell? ⟨w.heap.size, 4, none⟩ = some (.slice p t.kids.length cap) := (hB.cell (p := ⟨w.heap.size, 4, none⟩) (by show w.heap.size < _; omega)).trans ha
    obtain ⟨op, on, oc, rfl⟩ : ∃ op on oc, ov = .slice op on oc := by
      obtain ⟨p, c, _, _, _, h, _⟩ := hF.kidsO.open
      exact ⟨p, _, c, h⟩
    clear hh ha
    by_cases hlt : k < t.kids.length
    · obtain ⟨x, hx⟩ : ∃ x, t.kids[k]? = some x := ⟨_, List.getElem?_eq_getElem hlt⟩
      obtain ⟨rfl, hg⟩ := HPP.out (fun h => by rw [h] at hlt; exact absurd hlt (Nat.not_lt_zero _))
      obtain ⟨kv', hn, hkv⟩ := HAT.out k x hx
      obtain ⟨p2, cap2, _, _, rfl, _, _⟩ := hkv.open
      obtain ⟨c0, c1, c2, c3, c4⟩ := hn.of_block (hBw.block g hg)
      have hltz : (k : Int) < (t.kids.length : Int) := by omega
      have hk0 : (0 : Int) ≤ (k : Int) := by omega
      have hkv2 := hkv.later hBw
      have hcx : x.count ≤ 4194304 := by have := Tree.count_kid hx; have := HC.out; omega
      have o4 := hO.1.c4
      have of4 := hO.2 4 (by omega)
      simp only [Nat.zero_add] at o4 of4
      obtain ⟨y, hy⟩ : ∃ y, x = y := ⟨_, rfl⟩
      have hrec : ∀ W', Below wr.heap.size wr W' → Calls Tryz.prog 40 #[.agg #[.int .i64 x.kind, .string x.text, .int .i64 x.at_, .int .i64 x.end_, .slice p2 x.kids.length cap2]] W' fun e w4 =>
          ∃ p n c, e = .returned (.agg #[.int .i64 y.kind, .string y.text, .int .i64 y.at_, .int .i64 y.end_, .slice p n c]) ∧ w4.ownsRow (w.heap.size + 3) 24 5 (.slice op on oc) k (forestC l) ∧ wr.heap.size ≤ w4.heap.size ∧ (∀ b j, b < wr.heap.size → w4.cell? ⟨b, j, none⟩ = wr.cell? ⟨b, j, none⟩) ∧ (∀ b j, b < wr.heap.size → w4.frozen? ⟨b, j, none⟩ = wr.frozen? ⟨b, j, none⟩) ∧
            Hid (∀ w5 op' on' oc', w5.ownsRow (w.heap.size + 3) 24 5 (.slice op' on' oc') (k + 1) (forestC l ++ nodeC y (.slice p n c)) → (w4.alloc (.cells #[.int .i64 y.kind, .string y.text, .int .i64 y.at_, .int .i64 y.end_, .slice p n c] 24)).grownBy w5 (Value.slice op on oc).ownBlock →
              ((Value.slice op' on' oc').ownBlock = (Value.slice op on oc).ownBlock ∨ (Value.slice op' on' oc').ownBlock = some (w4.heap.size + 1)) →
              Forest (w5.setCell ⟨w.heap.size + 2, 4, none⟩ (.slice op' on' oc')) (w.heap.size + 3) 24 (.slice op' on' oc') (l ++ [(y, .slice p n c)]) ∧ NodeOwn (w5.setCell ⟨w.heap.size + 2, 4, none⟩ (.slice op' on' oc')) (w.heap.size + 2) (.mk t.kind t.text t.at_ t.end_ []) (.slice op' on' oc') ∧ Below (w.heap.size + 2) w3 (w5.setCell ⟨w.heap.size + 2, 4, none⟩ (.slice op' on' oc'))) := by
        intro W' hb
        refine (ih x (List.mem_of_getElem? hx) _ W' (hkv2.later hb) hcx).mono ?_
        rintro e w4 ⟨p, n, c, rfl, hO4, hb4⟩
        rw [hy] at hO4 ⊢
        have hF' : Forest W' (w.heap.size + 3) 24 (.slice op on oc) l := hF.keep (fun b _ h2 => hb.block b h2) hb.size
        have hF4 : Forest w4 (w.heap.size + 3) 24 (.slice op on oc) l := hF'.keep (fun b _ h2 => hb4.block b h2) hb4.size
        have hb14 := bt hb hb4
        refine ⟨p, n, c, rfl, by rw [← hl2]; exact hF4.1, hb14.size, fun b j hb => hb14.cell (p := ⟨b, j, none⟩) hb, fun b j hb => hb14.frozen (p := ⟨b, j, none⟩) hb, ?_⟩
        intro w5 op' on' oc' ho hg hn
        have h1 := hb.size
        have h2 := hb4.size
        have h3 := hg.size
        simp only [World.size_alloc] at h3
        have hF5 : Forest w5 (w.heap.size + 3) 24 (.slice op' on' oc') (l ++ [(y, .slice p n c)]) := by
          refine Forest.step hF' (by omega) hb4 hO4 ((Below.refl _ _).alloc (Nat.le_refl _) (.cells #[.int .i64 y.kind, .string y.text, .int .i64 y.at_, .int .i64 y.end_, .slice p n c] 24)) (by rw [hl2]; exact ho) hg ?_
          rw [World.size_alloc]
          exact hn
        have hrow : ∀ b, (Value.slice op on oc).ownBlock = some b → w.heap.size + 3 ≤ b := fun b hb => (hF.lt b hb).1
        have hO5 : NodeOwn w5 (w.heap.size + 2) (.mk t.kind t.text t.at_ t.end_ []) (.slice op on oc) := hO.of_block ((hg.block _ (by simp; omega) (fun e => by have := hrow _ e.symm; omega)).trans ((((Below.refl w4.heap.size w4).alloc (Nat.le_refl _) _).block _ (by omega)).trans (hb14.block _ (by omega))))
        refine ⟨hF5.keep (fun b hb _ => Below.heap_setCell _ _ _ _ (by show b ≠ w.heap.size + 2; omega)) (by simp [World.setCell]), ?_, ?_⟩
        · obtain ⟨⟨q0, q1, q2, q3, q4⟩, qz⟩ := hO5
          simp only [Nat.zero_add] at q0 q1 q2 q3 q4
          refine ⟨⟨by simp [go_sem, q0], by simp [go_sem, q1], by simp [go_sem, q2], by simp [go_sem, q3], by simp [go_sem, q4]⟩, fun j hj => ?_⟩
          have := qz j hj
          simp [go_sem, this]
        · refine Below.setCell ?_ (by show w.heap.size + 2 ≤ w.heap.size + 2; exact Nat.le_refl _) _
          exact Below.grown (((hB.trans (hb.mono (by omega))).trans (hb4.mono (by omega))).alloc (by omega) _) hg (by simp; omega) (fun b hb => by have := hrow b hb; omega)
      have HY : Hid ((l.map (·.1)) ++ [y] = t.kids.take (k + 1)) := by show _ = _; rw [List.take_add_one, hx, hl1, ← hy]; rfl
      have HL2 := hidden hl2
      have hq1 : w.heap.size < wr.heap.size := by omega
      have hq2 : w.heap.size + 2 < wr.heap.size := by omega
      have HROW : Hid (∀ b, (Value.slice op on oc).ownBlock = some b → w.heap.size + 3 ≤ b) := fun b hb => (hF.lt b hb).1
      have hkb : k < 4194304 := by omega
      clear hn hkv hkv2 hx ih hcx hy hF hl1 hl2 hB hBw hB3 hr ho hO
      go_wp2_with fail
      go_region_law (first | ((refine step_append_lies _ (by rfl) _ _ _ (by rfl) (w.heap.size + 3) 24 i0 (.agg #[.int .i64 0, .string ⟨#[]⟩, .int .i64 0, .int .i64 0, .slice none 0 0]) 5 64 Tryz.underlying22 hi hz0 hz1 hz2 rfl (by decide) _ _ _ (by rfl) (hown4.alloc _) ⟨w4.heap.size, 0, none⟩ 1 1 (nodeC y (.slice p3 n3 c3)) (by rfl) (by rfl) (nodeC_new _ _ _ _ _ _ _) (nodeC_one _ _ _ _) (by decide) (by unfold maxLen; omega) (by omega) (by simp; omega) (w4.heap.size + 1) (by simp) ?_; intro g5 cap5 w5 hown5 hgrow5 hat5 hlt5; have hbk5 := (hgrow5.block (w.heap.size + 2) (by simp; omega) (fun e => by have := HROW.out _ e.symm; omega)).trans (((Below.refl w4.heap.size w4).alloc (Nat.le_refl _) (.cells (nodeC y (.slice p3 n3 c3)).toArray 24)).block (w.heap.size + 2) s4); have s6 := (World.cell?_of_block (a := ⟨w.heap.size + 2, 4, none⟩) hbk5).trans s2; have s7 := (World.frozen?_of_block (a := ⟨w.heap.size + 2, 4, none⟩) hbk5).trans s3)) | ((go_simp; (with_reducible refine (hrec _ (by repeat (first | (with_reducible exact Below.refl _ _) | refine Below.drew ?_ | refine Below.alloc ?_ (by first | exact Nat.le_refl _ | (simp; done) | (simp; omega)) _))).mono ?_); rintro e w4 ⟨p3, n3, c3, rfl, hown4, hz4, hc4, hf4, HN4⟩; have s1 := (hc4 _ 4 hq1).trans a4; have s2 := (hc4 _ 4 hq2).trans o4; have s3 := (hf4 _ 4 hq2).trans of4; have s4 : w.heap.size + 2 < w4.heap.size := (by omega); have s5 : w.heap.size + 2 ≠ w4.heap.size := (by omega); clear hc4 hf4; dsimp only)))
      all_goals
        obtain ⟨r1, r2, r3⟩ := HN4.out w5 _ _ _ hown5 hgrow5 (Or.imp (fun h => by rw [h]; rfl) (fun h => by rw [h]; rfl) hat5)
        have R1 := hidden r1
        have R2 := hidden r2
        have R3 := hidden r3
        clear r1 r2 r3 hown4 hown5 hgrow5 hat5 hlt5 s1 s2 s3 s4 s5 s6 s7 hbk5
        go_wp2_with fail
        go_roundw
        case rel => exact ⟨k + 1, by omega, by go_num, _, _, R1.out, by rw [List.map_append]; exact HY.out, by simp [HL2.out], R2.out, R3.out⟩
        case measure => simp [intOf]; omega
    · obtain rfl : k = t.kids.length := by omega
      rw [List.take_length] at hl1
      have hKO := hF.kidsO
      rw [hl1] at hKO
      have hr2 : NodeOwn wr (w.heap.size + 1) (.mk 0 ⟨#[]⟩ 0 0 []) (.slice none 0 0) := hr.of_block (hB.block _ (by omega))
      obtain ⟨⟨r0, r1, r2, r3, r4⟩, rz⟩ := hr2
      have y0 := rz 0 (by omega)
      have y1 := rz 1 (by omega)
      have y2 := rz 2 (by omega)
      have y3 := rz 3 (by omega)
      have y4 := rz 4 (by omega)
      obtain ⟨⟨e0, e1, e2, e3, e4⟩, _⟩ := hO
      simp only [Nat.zero_add] at r1 r2 r3 r4 e1 e2 e3 e4
      simp only [mk_kind, mk_text, mk_at, mk_end] at r0 r1 r2 r3 e0 e1 e2 e3
      have HKO := hidden hKO
      have HBW := hidden hBw
      clear hF hl1 hl2 hB hBw hB3 hr ih hKO rz
      go_wp2_with fail
      refine bodyPost_ret (v := .agg #[.int .i64 t.kind, .string t.text, .int .i64 t.at_, .int .i64 t.end_, .slice op on oc]) (by simp [results, Tryz.results40, go_sem, r0, r1, r2, r3, r4]) rfl ⟨op, on, oc, ?_, ?_, ?_⟩
      · rfl
      · refine (HKO.out.keep (fun b hb => put_other _ _ _ _ _ _ _ _ (by have := hb.1; omega))).mono (fun b hb => ⟨by have := hb.1; omega, by rw [put_size]; exact hb.2⟩)
      · exact put_below HBW.out _ _ _ _ _ _ (by omega)

end Go.Proofs.YtlbaaiglebpjiaaGreatDoor
