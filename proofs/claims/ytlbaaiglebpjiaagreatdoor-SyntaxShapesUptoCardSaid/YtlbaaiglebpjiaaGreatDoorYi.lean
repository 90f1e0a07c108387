/-
  Number.
-/
import Derived.Test.YtlbaaiglebpjiaaGreatDoorYh
namespace Go.Proofs.YtlbaaiglebpjiaaGreatDoor
open Go.RowKit Go.Shelf Go.Lib

set_option maxRecDepth 100000 in
set_option maxHeartbeats 12800000 in
theorem number_tree (t : Tree) (kv : Value) (l : List Int) (pv : Value) (w : World) (hk : KidsV w kv t.kids) (hp : IntsV w pv l) (hlb : l.length ≤ 4611686018427387904) (hct : t.count ≤ 4194304) :
    Calls Tryz.prog 21 #[nodeV t kv, pv] w fun e w' => ((∃ y, t.get l = some y ∧ e = .returned (.tuple #[.int .i64 (t.numberOf l), .bool true])) ∨ (t.get l = none ∧ e = .returned (.tuple #[.int .i64 0, .bool false]))) ∧ Below w.heap.size w w' := by
  have hg := fun W (hb : Below w.heap.size w W) => get_any t kv l pv W (hk.later hb) (hp.later hb) hlb _ rfl
  obtain ⟨p, cap, g, o, rfl, hpp, hat⟩ := hk.open
  obtain ⟨pp, pcap, pg, po, rfl, hip, hic⟩ := hp
  have HK := hidden hk
  have HIP := hidden hip
  have HIC := hidden hic
  simp only [nodeV] at hg ⊢
  clear hk hpp hat hip hic
  have hb0 : ∀ o, Below w.heap.size w (w.alloc o) := fun o => (Below.refl _ _).alloc (Nat.le_refl _) _
  obtain ⟨r, hr⟩ : ∃ r, t.get l = r := ⟨_, rfl⟩
  rw [hr] at hg ⊢
  cases r with
  | none =>
    simp only [Option.isSome_none] at hg
    go_enter Tryz.func21, Tryz.ntmps21
    go_wp2_with (go_at_call 17; (with_reducible refine (hg _ (hb0 _)).mono ?_); rintro e W3 ⟨x, q, c, rfl, h1, h2, h3, h4⟩; have HB := hidden ((hb0 (.cells #[.int .i64 t.kind, .string t.text, .int .i64 t.at_, .int .i64 t.end_, .slice p t.kids.length cap] 24)).trans (h4.mono (by simp))); clear h1 h2 h3 h4)
    go_ret2
    refine ⟨.inr ⟨by first | rfl | trivial, by first | rfl | simp⟩, ?_⟩
    have := HB.out.size
    repeat (first | exact HB.out | refine Below.setCell ?_ (by first | (simp; done) | (simp; omega)) _ | refine Below.alloc ?_ (by first | omega | (simp; omega)) _)
  | some y =>
    simp only [Option.isSome_some] at hg
    have hnl := Tree.numberOf_lt hr
    have hyp := Tree.count_pos y
    have HR := hidden hr
    clear hr
    have hbox : ∀ W3, Below (w.alloc (.cells #[.int .i64 t.kind, .string t.text, .int .i64 t.at_, .int .i64 t.end_, .slice p t.kids.length cap] 24)).heap.size (w.alloc (.cells #[.int .i64 t.kind, .string t.text, .int .i64 t.at_, .int .i64 t.end_, .slice p t.kids.length cap] 24)) W3 → NodeOwn W3 w.heap.size t (.slice p t.kids.length cap) := by
      intro W3 hb
      refine NodeOwn.of_block (w := w.alloc (.cells #[.int .i64 t.kind, .string t.text, .int .i64 t.at_, .int .i64 t.end_, .slice p t.kids.length cap] 24)) ⟨⟨by simp [go_sem], by simp [go_sem], by simp [go_sem], by simp [go_sem], by simp [go_sem]⟩, fun j hj => by simp [go_sem]⟩ (hb.block _ (by simp))
    go_enter Tryz.func21, Tryz.ntmps21
    go_wp2_with (go_at_call 17; (with_reducible refine (hg _ (hb0 _)).mono ?_); rintro e W3 ⟨x, q, c, rfl, h1, h2, h3, h4⟩; have HN0 := hidden (hbox W3 h4); have HB := hidden ((hb0 (.cells #[.int .i64 t.kind, .string t.text, .int .i64 t.at_, .int .i64 t.end_, .slice p t.kids.length cap] 24)).trans (h4.mono (by simp))); clear h1 h2 h3 h4)
    obtain ⟨W4, hW4⟩ : ∃ W4, W4 = W3.alloc (.cells #[.int .i64 x.kind, .string x.text, .int .i64 x.at_, .int .i64 x.end_, .slice q x.kids.length c] 24) := ⟨_, rfl⟩
    have HB4 : Hid (Below w.heap.size w W4) := by show Below _ _ _; rw [hW4]; exact HB.out.alloc HB.out.size _
    have HN4 : Hid (NodeOwn W4 w.heap.size t (.slice p t.kids.length cap)) := by
      show NodeOwn _ _ _ _
      have hlt : w.heap.size < W3.heap.size := World.block_lt_of_cell? W3 _ HN0.out.1.c0
      rw [hW4]; exact HN0.out.of_block (Below.heap_alloc _ _ _ hlt)
    rw [← hW4]
    clear hW4 HN0 HB hbox hg
    go_loopw [8, 23] (fun nv i wr => ∃ k nk : Nat, k ≤ l.length ∧ i = .int .i64 k ∧ nv = .int .i64 nk ∧ ∃ x q c, Hid (NodeOwn wr w.heap.size x (.slice q x.kids.length c) ∧ KidsV w (.slice q x.kids.length c) x.kids ∧ x.get (l.drop k) = some y ∧ nk + x.numberOf (l.drop k) = t.numberOf l ∧ Below w.heap.size w wr)) (fun _ i _ => l.length - (intOf i).toNat)
    case atStart => exact ⟨0, 0, Nat.zero_le _, rfl, rfl, t, p, cap, HN4.out, HK.out, by rw [List.drop_zero]; exact HR.out, by rw [List.drop_zero, Nat.zero_add], HB4.out⟩
    case round =>
      obtain ⟨k, nk, hk, rfl, rfl, x, q, c, hh⟩ := hrel
      clear HN4 HB4
      obtain ⟨hn, hkx, hgx, hnum, hB⟩ := hh.out
      clear hh
      by_cases hlt : k < l.length
      · obtain ⟨z, hz⟩ : ∃ z, l[k]? = some z := ⟨_, List.getElem?_eq_getElem hlt⟩
        obtain ⟨rfl, hpg⟩ := HIP.out (fun h => by rw [h] at hlt; exact absurd hlt (Nat.not_lt_zero _))
        have ci : wr.cell? ⟨pg, po + k, none⟩ = some (.int .i64 z) := (hB.cell (p := ⟨pg, po + k, none⟩) hpg).trans (HIC.out k z hz)
        rw [drop_step hz] at hgx hnum
        obtain ⟨m, x', rfl, hx', hgx'⟩ := Tree.get_split hgx
        rw [Tree.numberOf_cons hx'] at hnum
        have hml : m < x.kids.length := (List.getElem?_eq_some_iff.1 hx').1
        have hcap := hkx.cap
        obtain ⟨q', cap', g', o', hq, hqp, hqa⟩ := hkx.open
        obtain ⟨rfl, hg'⟩ : q = some ⟨g', o', none⟩ ∧ g' < w.heap.size := by
          have h1 := hqp (fun h => by rw [h] at hx'; simp at hx')
          have h2 : q = q' := by injection hq
          rw [h2]; exact h1
        have HN := hidden hn
        have c4 := hn.1.c4
        simp only [Nat.zero_add] at c4
        have hltz : (k : Int) < (l.length : Int) := by omega
        have hmz : (m : Int) ≤ (c : Int) := by omega
        have hmz2 : (0 : Int) ≤ (m : Int) := by omega
        have HQA := hidden hqa
        have HX' := hidden hx'
        have HNUM := hidden hnum
        have HG := hidden hgx'
        have HB := hidden hB
        have HNL : Hid (t.numberOf l + y.count ≤ t.count ∧ t.count ≤ 4194304) := ⟨hnl, hct⟩
        have hnk : nk ≤ 4194304 := by omega
        clear hkx hgx hnum hgx' hq hqp hqa hz hn hB hx' hnl hct
        go_wp2_with fail
        have hbig : nk + (Tree.countL (x.kids.take m) + 1) ≤ 4194304 := by have := HNUM.out; have := HNL.out; omega
        have hmb : m ≤ 4194304 := by have := Tree.length_le_countL (x.kids.take m); rw [List.length_take] at this; omega
        obtain ⟨wo, hwo⟩ : ∃ wo, wo = wr := ⟨_, rfl⟩
        subst hwo
        go_loopw [8, 34] (fun nv j wr2 => ∃ jj cnt : Nat, jj ≤ m ∧ j = .int .i64 jj ∧ nv = .int .i64 cnt ∧ Hid (cnt = nk + 1 + Tree.countL (x.kids.take jj) ∧ Below wo.heap.size wo wr2)) (fun _ j _ => m - (intOf j).toNat)
        case atStart => exact ⟨0, nk + 1, Nat.zero_le _, rfl, rfl, by rw [List.take_zero, Tree.countL_nil], Below.refl _ _⟩
        case round =>
          obtain ⟨jj, cnt, hjj, rfl, rfl, hh2⟩ := hrel
          have hB2 : Below w.heap.size w wr := bt HB.out hh2.out.2
          by_cases hlt2 : jj < m
          · obtain ⟨x2, hx2⟩ : ∃ x2, x.kids[jj]? = some x2 := ⟨_, List.getElem?_eq_getElem (by omega)⟩
            obtain ⟨kv2, hn2, hk2⟩ := HQA.out jj x2 hx2
            obtain ⟨p2, cap2, _, _, rfl, _, _⟩ := hk2.open
            obtain ⟨c0', c1', c2', c3', c4'⟩ := hn2.of_block (hB2.block g' hg')
            have hltz2 : (jj : Int) < (m : Int) := by omega
            have ht2 := Tree.countL_take hx2
            have htm : Tree.countL (x.kids.take (jj + 1)) ≤ Tree.countL (x.kids.take m) := by
              have := Tree.countL_take_le (x.kids.take m) (jj + 1)
              rwa [List.take_take, Nat.min_eq_left (by omega)] at this
            have hsum : cnt + x2.count ≤ 4194304 := by have := hh2.out.1; omega
            have hcnt := fun W' (hb : Below wr.heap.size wr W') => count_any x2 (.slice p2 x2.kids.length cap2) W' ((hk2.later hB2).later hb) (by omega)
            simp only [nodeV] at hcnt
            have HS : Hid (cnt + x2.count = nk + 1 + Tree.countL (x.kids.take (jj + 1))) := by show _ = _; have := hh2.out.1; omega
            have HH2 := hidden hh2.out.2
            clear hn2 hk2 ht2 htm hh2 hB2 hx2
            generalize x2.count = cx at *
            go_wp2_with (go_at_call 23; (with_reducible refine (hcnt _ (by repeat (first | exact Below.refl _ _ | refine Below.setCell ?_ (by first | exact Nat.le_refl _ | (simp; done) | (simp; omega)) _ | refine Below.alloc ?_ (by first | exact Nat.le_refl _ | (simp; done) | (simp; omega)) _))).mono ?_); rintro e W5 ⟨rfl, hb5⟩)
            go_roundw
            case rel => exact ⟨jj + 1, cnt + cx, by omega, by go_num, by go_num, HS.out, bt HH2.out (Below.trans (by repeat (first | exact Below.refl _ _ | refine Below.setCell ?_ (by first | exact Nat.le_refl _ | (simp; done) | (simp; omega)) _ | refine Below.alloc ?_ (by first | exact Nat.le_refl _ | (simp; done) | (simp; omega)) _)) (hb5.mono (by simp)))⟩
            case measure => simp [intOf]; omega
          · obtain rfl : jj = m := by omega
            obtain ⟨kv', hnx, hkx'⟩ := HQA.out jj x' HX'.out
            obtain ⟨p2, cap2, _, _, rfl, _, _⟩ := hkx'.open
            obtain ⟨d0, d1, d2, d3, d4⟩ := hnx.of_block (hB2.block g' hg')
            have hnb : NodeOwn wr w.heap.size x (.slice (some ⟨g', o', none⟩) x.kids.length c) := HN.out.of_block (hh2.out.2.block _ (World.block_lt_of_cell? wo _ HN.out.1.c0))
            have HNB := hidden hnb
            obtain ⟨⟨b0, b1, b2, b3, b4⟩, bz⟩ := hnb
            have y0 := bz 0 (by omega)
            have y1 := bz 1 (by omega)
            have y2 := bz 2 (by omega)
            have y3 := bz 3 (by omega)
            have y4 := bz 4 (by omega)
            simp only [Nat.zero_add] at b1 b2 b3 b4
            have hmlz : (jj : Int) < (x.kids.length : Int) := by omega
            have HKX := hidden hkx'
            have HB2 := hidden hB2
            have HC : Hid (cnt + x'.numberOf (l.drop (k + 1)) = t.numberOf l) := by show _ = _; have := hh2.out.1; have := HNUM.out; omega
            clear bz hnx hkx' hB2 hh2 c4
            go_wp2_with fail
            go_roundw
            case rel => exact ⟨k + 1, cnt, by omega, by go_num, rfl, x', p2, cap2, HNB.out.put, HKX.out, HG.out, HC.out, put_below HB2.out _ _ _ _ _ _ (Nat.le_refl _)⟩
            case measure => simp [intOf]; omega
      · obtain rfl : k = l.length := by omega
        rw [List.drop_length] at hgx hnum
        have hnt : nk = t.numberOf l := by rw [← hnum, Tree.numberOf, Nat.add_zero]
        have HNT := hidden hnt
        have HB := hidden hB
        clear hgx hnum hnt hB hkx hn
        go_wp2_with fail
        go_ret2
        exact ⟨.inl ⟨y, rfl, by rw [← HNT.out]; rfl⟩, HB.out⟩

end Go.Proofs.YtlbaaiglebpjiaaGreatDoor
