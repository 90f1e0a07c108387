/-
  The reference: Get.
-/
import Derived.Test.YtlbaaiglebpjiaaGreatDoorYu
import Derived.Deep.QuietTactic
import Derived.BigQuiet
namespace Go.Proofs.YtlbaaiglebpjiaaGreatDoor
open Go.RowKit Go.Shelf Go.Lib

set_option maxRecDepth 100000 in
set_option maxHeartbeats 6400000 in
theorem refGet_any (t : Tree) (kv : Value) (l : List Int) (pv : Value) (w : World) (hk : KidsV w kv t.kids) (hp : IntsV w pv l) (hlb : l.length ≤ 4611686018427387904) (r : Option Tree) (hr : t.get l = r) :
    Calls Tryz.prog 18 #[nodeV t kv, pv] w fun e w' => ∃ x p c, e = .returned (.tuple #[nodeV x (.slice p x.kids.length c), .bool r.isSome]) ∧ (∀ y, r = some y → x = y) ∧ (r = none → x = zeroT ∧ p = none ∧ c = 0) ∧ KidsV w (.slice p x.kids.length c) x.kids ∧ Below w.heap.size w w' := by
  obtain ⟨p, cap, g, o, rfl, hpp, hat⟩ := hk.open
  obtain ⟨pp, pcap, pg, po, rfl, hip, hic⟩ := hp
  have HK := hidden hk
  have HIP := hidden hip
  have HIC := hidden hic
  have HR := hidden hr
  clear hk hpp hat hip hic hr
  simp only [nodeV]
  go_enter Tryz.func18, Tryz.ntmps18
  go_wp2_with fail
  obtain ⟨w2, hw2⟩ : ∃ w2, w2 = (w.alloc (.cells #[.int .i64 t.kind, .string t.text, .int .i64 t.at_, .int .i64 t.end_, .slice p t.kids.length cap] 24)).alloc (.cells #[.int .i64 0, .string ⟨#[]⟩, .int .i64 0, .int .i64 0, .slice none 0 0] 24) := ⟨_, rfl⟩
  have hB2 : Below w.heap.size w w2 := by rw [hw2]; exact ((Below.refl _ _).alloc (Nat.le_refl _) _).alloc (by simp) _
  have ha : NodeOwn w2 w.heap.size t (.slice p t.kids.length cap) := by
    refine ⟨⟨by simp [hw2, go_sem], by simp [hw2, go_sem], by simp [hw2, go_sem], by simp [hw2, go_sem], by simp [hw2, go_sem]⟩, fun j hj => ?_⟩
    simp [hw2, go_sem]
  have hr : NodeOwn w2 (w.heap.size + 1) zeroT (.slice none 0 0) := by
    refine ⟨⟨by simp [hw2, go_sem, zeroT, Tree.kind], by simp [hw2, go_sem, zeroT, Tree.text], by simp [hw2, go_sem, zeroT, Tree.at_], by simp [hw2, go_sem, zeroT, Tree.end_], by simp [hw2, go_sem]⟩, fun j hj => ?_⟩
    simp [hw2, go_sem]
  rw [← hw2]
  clear hw2
  go_loopw [6] (fun i wr => ∃ k : Nat, k ≤ l.length ∧ i = .int .i64 k ∧ ∃ x q c, Hid (NodeOwn wr w.heap.size x (.slice q x.kids.length c) ∧ NodeOwn wr (w.heap.size + 1) zeroT (.slice none 0 0) ∧ KidsV w (.slice q x.kids.length c) x.kids ∧ x.get (l.drop k) = r ∧ Below w.heap.size w wr)) (fun i _ => l.length - (intOf i).toNat)
  case atStart => exact ⟨0, Nat.zero_le _, rfl, t, p, cap, ha, hr, HK.out, HR.out, hB2⟩
  case round =>
    obtain ⟨k, hk, rfl, x, q, c, hh⟩ := hrel
    clear ha hr hB2
    obtain ⟨hn, hn0, hkx, hg, hB⟩ := hh.out
    have HN := hidden hn
    have HN0 := hidden hn0
    obtain ⟨⟨c0, c1, c2, c3, c4⟩, cz⟩ := hn
    obtain ⟨⟨e0, e1, e2, e3, e4⟩, ez⟩ := hn0
    have y0 := cz 0 (by omega)
    have y1 := cz 1 (by omega)
    have y2 := cz 2 (by omega)
    have y3 := cz 3 (by omega)
    have y4 := cz 4 (by omega)
    have u0 := ez 0 (by omega)
    have u1 := ez 1 (by omega)
    have u2 := ez 2 (by omega)
    have u3 := ez 3 (by omega)
    have u4 := ez 4 (by omega)
    simp only [Nat.zero_add] at c1 c2 c3 c4 e1 e2 e3 e4
    clear cz ez hh
    by_cases hlt : k < l.length
    · have hz : l[k]? = some l[k] := List.getElem?_eq_getElem hlt
      generalize l[k] = z at hz
      obtain ⟨rfl, hpg⟩ := HIP.out (fun h => by rw [h] at hlt; exact absurd hlt (Nat.not_lt_zero _))
      have ci : wr.cell? ⟨pg, po + k, none⟩ = some (.int .i64 z) := (hB.cell (p := ⟨pg, po + k, none⟩) hpg).trans (HIC.out k z hz)
      have hltz : (k : Int) < (l.length : Int) := by omega
      rw [drop_step hz] at hg
      by_cases hneg : z < 0
      · rw [Tree.get_neg hneg] at hg
        have HG := hidden hg
        have HB := hidden hB
        clear hg hB hz hkx
        have hd : decide (z < 0) = true := decide_eq_true hneg
        go_wp2_with fail
        go_quiet (fail)
        go_wp2_with fail
        refine bodyPost_ret (v := .tuple #[.agg #[.int .i64 0, .string ⟨#[]⟩, .int .i64 0, .int .i64 0, .slice none 0 0], .bool false]) (by simp [results, Tryz.results18, go_sem, e0, e1, e2, e3, e4]) rfl ⟨zeroT, none, 0, ?_, ?_, ?_, ?_, ?_⟩
        · rw [← HG.out]; rfl
        · intro y hy; rw [← HG.out] at hy; cases hy
        · intro _; exact ⟨rfl, rfl, rfl⟩
        · exact KidsV.nil _ _ _
        · exact put_below (below_drewN HB.out nq) _ _ _ _ _ _ (by omega)
      · obtain ⟨m, rfl⟩ : ∃ m : Nat, z = m := ⟨z.toNat, by omega⟩
        by_cases hbig : x.kids.length ≤ m
        · rw [Tree.get_big hbig] at hg
          have hbz : (x.kids.length : Int) ≤ (m : Int) := by omega
          have HG := hidden hg
          have HB := hidden hB
          clear hg hB hz hkx
          have hd : decide ((m : Int) < 0) = false := decide_eq_false hneg
          go_wp2_with fail
          go_quiet (fail)
          go_wp2_with fail
          refine bodyPost_ret (v := .tuple #[.agg #[.int .i64 0, .string ⟨#[]⟩, .int .i64 0, .int .i64 0, .slice none 0 0], .bool false]) (by simp [results, Tryz.results18, go_sem, e0, e1, e2, e3, e4]) rfl ⟨zeroT, none, 0, ?_, ?_, ?_, ?_, ?_⟩
          · rw [← HG.out]; rfl
          · intro y hy; rw [← HG.out] at hy; cases hy
          · intro _; exact ⟨rfl, rfl, rfl⟩
          · exact KidsV.nil _ _ _
          · exact put_below (below_drewN HB.out nq) _ _ _ _ _ _ (by omega)
        · have hbz : ¬ ((x.kids.length : Int) ≤ (m : Int)) := by omega
          have hbz2 : (m : Int) < (x.kids.length : Int) := by omega
          have hx' : x.kids[m]? = some x.kids[m] := List.getElem?_eq_getElem (by omega)
          generalize x.kids[m] = x' at hx'
          rw [Tree.get_cons hx'] at hg
          obtain ⟨q', cap', g', o', hq, hqp, hqa⟩ := hkx.open
          obtain ⟨rfl, hg'⟩ : q = some ⟨g', o', none⟩ ∧ g' < w.heap.size := by
            have h1 := hqp (fun h => by rw [h] at hx'; simp at hx')
            have h2 : q = q' := by injection hq
            rw [h2]; exact h1
          obtain ⟨kv', hnx, hkx'⟩ := hqa m x' hx'
          have hnx2 := hnx.of_block (hB.block g' hg')
          obtain ⟨d0, d1, d2, d3, d4⟩ := hnx2
          obtain ⟨p2, cap2, _, _, rfl, _, _⟩ := hkx'.open
          have HG := hidden hg
          have HB := hidden hB
          have HKX := hidden hkx'
          clear hg hB hz hkx hq hqp hqa hnx hkx' hx'
          have hd : decide ((m : Int) < 0) = false := decide_eq_false hneg
          go_wp2_with fail
          go_quiet (fail)
          go_wp2_with fail
          go_region_with (fail)
          all_goals (go_wp2_with fail; go_roundw)
          all_goals first | (refine ⟨k + 1, by omega, by go_num, x', p2, cap2, (HN.out.of_block (w' := wr.drewN (nq + 1)) rfl).put, HN0.out.of_block ((put_other (wr.drewN (nq + 1)) w.heap.size _ _ _ _ _ _ (by omega)).trans rfl), HKX.out, HG.out, put_below (below_drewN HB.out (nq + 1)) _ _ _ _ _ _ (Nat.le_refl _)⟩) | (simp [intOf]; omega)
    · obtain rfl : k = l.length := by omega
      rw [List.drop_length] at hg
      have HG := hidden hg
      have HB := hidden hB
      have HKX := hidden hkx
      clear hg hB hkx
      go_wp2_with fail
      have hx : some x = r := by rw [← HG.out]; rfl
      refine bodyPost_ret (v := .tuple #[.agg #[.int .i64 x.kind, .string x.text, .int .i64 x.at_, .int .i64 x.end_, .slice q x.kids.length c], .bool true]) (by simp [results, Tryz.results18, go_sem, e0, e1, e2, e3, e4]) rfl ⟨x, q, c, by rw [← hx]; rfl, fun y hy => by rw [← hx] at hy; exact Option.some.inj hy, fun h => (by rw [← hx] at h; cases h), HKX.out, put_below HB.out _ _ _ _ _ _ (by omega)⟩

end Go.Proofs.YtlbaaiglebpjiaaGreatDoor
