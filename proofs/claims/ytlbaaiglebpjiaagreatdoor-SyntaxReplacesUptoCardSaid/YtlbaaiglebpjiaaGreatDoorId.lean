/-
  The walk of SyntaxReplaces.
-/
import Derived.Test.YtlbaaiglebpjiaaGreatDoorKc
import Derived.Test.YtlbaaiglebpjiaaGreatDoorAw
namespace Go.Proofs.YtlbaaiglebpjiaaGreatDoor
open Go.RowKit Go.Shelf Go.Lib

set_option maxRecDepth 100000 in
set_option maxHeartbeats 12800000 in
theorem replaces_walk (t b : Tree) (kt kb : Value) (l : List Int) (pv : Value) (W : World) (hk : KidsV W kt t.kids) (hp : IntsV W pv l) (hcp : CapOk pv) (hkb : KidsV W kb b.kids) (hct : t.count ≤ 1048576) (hcl : l.length ≤ 1048576) (hcb : b.count ≤ 1048576) (hmax : MaxAt W) :
    Calls Tryz.prog 6 #[nodeV t kt, pv, nodeV b kb] W fun e w' => e = .returned (.bool true) ∧ Below W.heap.size W w' := by
  have haw := fun w (h : Below W.heap.size W w) => awake_any w (hmax.keep h)
  have hsa : ∀ w, KidsV w kt t.kids → Calls Tryz.prog 12 #[nodeV t kt, .int .i64 100] w fun e w' => e = .returned (.bool (smallB 100 t)) ∧ Below w.heap.size w w' := fun w h => refSmall_any 100 (by decide) t kt w h (by omega)
  have hsb : ∀ w, KidsV w kb b.kids → Calls Tryz.prog 12 #[nodeV b kb, .int .i64 100] w fun e w' => e = .returned (.bool (smallB 100 b)) ∧ Below w.heap.size w w' := fun w h => refSmall_any 100 (by decide) b kb w h (by omega)
  have hre := fun w (h : KidsV w kt t.kids) (h2 : IntsV w pv l) (h3 : KidsV w kb b.kids) => replU t b kt kb l pv w h h2 h3 (by omega) (by omega) (by omega)
  have hrr := fun w (h : KidsV w kt t.kids) (h2 : IntsV w pv l) (h3 : KidsV w kb b.kids) => refReplU t b kt kb l pv w h h2 hcp h3 (by omega) (by omega)
  have hrc := repT2_count t l b
  have hxa : ∀ (k1 k2 : Value) w, KidsV w k1 (repT2 t l b).kids → KidsV w k2 (repT2 t l b).kids → Calls Tryz.prog 27 #[nodeV (repT2 t l b) k1, nodeV (repT2 t l b) k2] w fun e w' => e = .returned (.bool true) ∧ Below w.heap.size w w' := fun k1 k2 w h1 h2 => by
    have := refExact_tree (repT2 t l b) (repT2 t l b) k1 k2 w h1 h2 (by omega)
    rw [exa_self] at this; exact this
  unfold ReplU at hre hrr
  generalize repT2 t l b = rx at *
  generalize errT t l = ec at *
  have HK := hidden hk
  have HP := hidden hp
  have HKB := hidden hkb
  obtain ⟨p, cap, g, o, rfl, _, _⟩ := hk.open
  obtain ⟨bp, bcap, bg, bo, rfl, _, _⟩ := hkb.open
  obtain ⟨pp, pcap, pg, po, rfl, _, _⟩ := hp
  simp only [nodeV] at hsa hsb hre hrr hxa ⊢
  have hbA : Below W.heap.size W ((W.alloc (.cells #[.int .i64 t.kind, .string t.text, .int .i64 t.at_, .int .i64 t.end_, .slice p t.kids.length cap] 24)).alloc (.cells #[.int .i64 b.kind, .string b.text, .int .i64 b.at_, .int .i64 b.end_, .slice bp b.kids.length bcap] 24)) := (below_alloc _ _).alloc (by simp) _
  have hboxa := (boxAlloc W t (.slice p t.kids.length cap)).later (below_alloc _ (.cells #[.int .i64 b.kind, .string b.text, .int .i64 b.at_, .int .i64 b.end_, .slice bp b.kids.length bcap] 24))
  have hboxb := boxAlloc (W.alloc (.cells #[.int .i64 t.kind, .string t.text, .int .i64 t.at_, .int .i64 t.end_, .slice p t.kids.length cap] 24)) b (.slice bp b.kids.length bcap)
  rw [World.size_alloc] at hboxb
  have HBA := hidden hbA
  have HXA := hidden hboxa
  have HXB := hidden hboxb
  clear hk hkb hcp hrc hct hcb hbA hboxa hboxb
  go_enter Tryz.func6, Tryz.ntmps6
  go_wp2_with fail
  (with_reducible refine (haw _ HBA.out).mono ?_)
  rintro e w1 ⟨rfl, hb1⟩
  have HB1 := hidden (bt HBA.out hb1)
  have HXA1 := hidden (HXA.out.later hb1)
  have HXB1 := hidden (HXB.out.later hb1)
  obtain ⟨n0, n1, n2, n3, n4⟩ := HXA1.out.cells0
  clear haw hb1 HBA HXA HXB
  have hsa1 := hsa w1 (HK.out.later HB1.out)
  generalize smallB 100 t = s1 at *
  clear hsa
  cases s1 with
  | false =>
    go_wp2_with fail
    (with_reducible refine hsa1.mono ?_)
    rintro e w2 ⟨rfl, hb2⟩
    have HB2 := hidden (bt HB1.out hb2)
    clear hsa1 hsb hre hrr hxa hb2 n0 n1 n2 n3 n4
    go_wp2_with fail
    go_ret
    exact ⟨rfl, HB2.out⟩
  | true =>
    go_wp2_with fail
    (with_reducible refine hsa1.mono ?_)
    rintro e w2 ⟨rfl, hb2⟩
    have HB2 := hidden (bt HB1.out hb2)
    have HXA2 := hidden (HXA1.out.later hb2)
    have HXB2 := hidden (HXB1.out.later hb2)
    clear hsa1 hb2 n0 n1 n2 n3 n4 HXA1 HXB1 HB1
    obtain ⟨m0, m1, m2, m3, m4⟩ := HXB2.out.cells0
    have hsb2 := hsb w2 (HKB.out.later HB2.out)
    generalize smallB 100 b = s2 at *
    clear hsb
    cases s2 with
    | false =>
      go_wp2_with fail
      (with_reducible refine hsb2.mono ?_)
      rintro e w3 ⟨rfl, hb3⟩
      have HB3 := hidden (bt HB2.out hb3)
      clear hsb2 hre hrr hxa hb3 m0 m1 m2 m3 m4
      go_wp2_with fail
      go_ret
      exact ⟨rfl, HB3.out⟩
    | true =>
      by_cases hl100 : 100 < l.length
      · have hlz : (100 : Int) < (l.length : Int) := by omega
        go_wp2_with fail
        (with_reducible refine hsb2.mono ?_)
        rintro e w3 ⟨rfl, hb3⟩
        have HB3 := hidden (bt HB2.out hb3)
        clear hsb2 hre hrr hxa hb3 m0 m1 m2 m3 m4
        go_wp2_with fail
        go_ret
        exact ⟨rfl, HB3.out⟩
      · have hlz : ¬ ((100 : Int) < (l.length : Int)) := by omega
        go_wp2_with fail
        (with_reducible refine hsb2.mono ?_)
        rintro e w3 ⟨rfl, hb3⟩
        have HB3 := hidden (bt HB2.out hb3)
        have HXA3 := hidden (HXA2.out.later hb3)
        have HXB3 := hidden (HXB2.out.later hb3)
        clear hsb2 hb3 m0 m1 m2 m3 m4 HXA2 HXB2 HB2 hl100
        obtain ⟨n0, n1, n2, n3, n4⟩ := HXA3.out.cells0
        obtain ⟨m0, m1, m2, m3, m4⟩ := HXB3.out.cells0
        have hre3 := hre w3 (HK.out.later HB3.out) (HP.out.later HB3.out) (HKB.out.later HB3.out)
        clear hre
        go_wp2_with fail
        (with_reducible refine hre3.mono ?_)
        rintro e w4 ⟨p4, c4, d4, rfl, hk4, hb4⟩
        obtain ⟨w5, hw5⟩ : ∃ w5, w5 = w4.alloc (.cells #[.int .i64 rx.kind, .string rx.text, .int .i64 rx.at_, .int .i64 rx.end_, .slice p4 c4 d4] 24) := ⟨_, rfl⟩
        have hb45 : Below w4.heap.size w4 w5 := by rw [hw5]; exact below_alloc _ _
        have HX5 : Hid (NodeAt w5 w4.heap.size 0 rx (.slice p4 c4 d4)) := by show NodeAt _ _ _ _ _; rw [hw5]; exact boxAlloc _ _ _
        have HK5 := hidden (hk4.later hb45)
        have HB5 := hidden (bt HB3.out (bt hb4 hb45))
        have HXA5 := hidden (HXA3.out.later (bt hb4 hb45))
        have HXB5 := hidden (HXB3.out.later (bt hb4 hb45))
        have HW5 := hidden hw5
        obtain ⟨⟨n0', n1', n2', n3', n4'⟩, hlt3, hne3⟩ := boxCells HXA3.out hb4
        obtain ⟨⟨m0', m1', m2', m3', m4'⟩, hlt4, hne4⟩ := boxCells HXB3.out hb4
        clear hre3 hk4 hb4 hb45 hw5 n0 n1 n2 n3 n4 m0 m1 m2 m3 m4 HXA3 HXB3
        have hrr5 := hrr w5 (HK.out.later HB5.out) (HP.out.later HB5.out) (HKB.out.later HB5.out)
        clear hrr
        go_wp2_with fail
        rw [← HW5.out]
        (with_reducible refine hrr5.mono ?_)
        rintro e w6 ⟨p6, c6, d6, rfl, hk6, hb6⟩
        obtain ⟨w7, hw7⟩ : ∃ w7, w7 = w6.alloc (.cells #[.int .i64 rx.kind, .string rx.text, .int .i64 rx.at_, .int .i64 rx.end_, .slice p6 c6 d6] 24) := ⟨_, rfl⟩
        have hb67 : Below w6.heap.size w6 w7 := by rw [hw7]; exact below_alloc _ _
        have HX7 : Hid (NodeAt w7 w6.heap.size 0 rx (.slice p6 c6 d6)) := by show NodeAt _ _ _ _ _; rw [hw7]; exact boxAlloc _ _ _
        have HK7 := hidden (hk6.later hb67)
        have HB7 := hidden (bt HB5.out (bt hb6 hb67))
        have HX57 := hidden (HX5.out.later (bt hb6 hb67))
        have HK57 := hidden (HK5.out.later (bt hb6 hb67))
        have HW7 := hidden hw7
        obtain ⟨⟨n0, n1, n2, n3, n4⟩, hlt5, hne5⟩ := boxCells HX5.out hb6
        clear hrr5 hk6 hb6 hb67 hw7 n0' n1' n2' n3' n4' m0' m1' m2' m3' m4' hlt3 hne3 hlt4 hne4 HXA5 HXB5 HX5 HK5
        have hxa7 := hxa _ _ w7 HK57.out HK7.out
        have hee : (ec == ec) = true := by simp
        clear hxa
        go_wp2_with fail
        rw [← HW7.out]
        (with_reducible refine hxa7.mono ?_)
        rintro e w8 ⟨rfl, hb8⟩
        have HF := hidden (bt HB7.out hb8)
        clear hxa7 hb8
        go_wp2_with fail
        go_ret
        exact ⟨rfl, HF.out⟩

end Go.Proofs.YtlbaaiglebpjiaaGreatDoor
