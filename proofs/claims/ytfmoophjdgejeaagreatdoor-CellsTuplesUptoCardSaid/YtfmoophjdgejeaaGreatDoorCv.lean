import Derived.Test.YtfmoophjdgejeaaGreatDoorCu
/-
  Parse.
-/
namespace Go.Proofs.YtfmoophjdgejeaaGreatDoor
open Go.RowKit Go.Shelf
attribute [local go_sem] Oper.semAt_some

theorem row_intsZ {w : World} {b : Nat} {e : TypeId} {v : Value} {l : List Int} (h : w.ownsRow b e 1 v l.length (intC l)) : IntsV w v l := by
  have h0 := h
  rcases h.2 with ⟨rfl, h1⟩ | ⟨g, cap, cur, rfl, h2, h3, h4⟩
  · obtain rfl := List.length_eq_zero_iff.1 h1
    exact ⟨none, 0, 0, 0, rfl, fun h => absurd rfl h, fun i z h => by simp at h⟩
  · refine ⟨some ⟨g, 0, none⟩, cap, g, 0, rfl, fun _ => ⟨rfl, (Array.getElem?_eq_some_iff.1 h3).1⟩, fun i z hz => ?_⟩
    have hi := (List.getElem?_eq_some_iff.1 hz).1
    rw [Nat.zero_add, h0.cellAt i (by omega)]
    unfold intC
    rw [List.getElem?_map, hz]; rfl

theorem validAll_any (ss : List Int) (ts : List Tab) (sv tv : Value) (w : World) (hs : IntsV w sv ss) (ht : TabsV w tv ts) (hl : ss.length ≤ 4611686018427387904) (hlt : ts.length ≤ 4611686018427387903)
    (hsm : ∀ t ∈ ts, t.name.size ≤ 4096 ∧ t.cols.length ≤ 4611686018427387904) (hm : MaxAt w) :
    Calls Tryz.prog 13 #[sv, tv] w fun e w' => e = .returned (.bool (validB ss ts)) ∧ Below w.heap.size w w' := by
  have hv := valid_any ss ts _ _ w hs ht hl hlt hsm hm
  obtain ⟨p, cap, g, o, rfl, _, _⟩ := hs
  obtain ⟨q, tcap, tg, to, ks, rfl, hqp, hat⟩ := ht
  clear hqp hat hl hlt hsm hm
  go_enter Tryz.func13, Tryz.ntmps13
  go_wp2_with fail
  (with_reducible refine hv.mono ?_)
  rintro e w' ⟨rfl, h2⟩
  have H2 := hidden h2
  clear h2 hv
  go_wp2_with fail
  go_ret
  exact ⟨rfl, H2.out⟩

theorem numbers_any (s : ByteArray) (hs : s.size ≤ 4096) (w : World) (hm : MaxAt w) :
    Calls Tryz.prog 53 #[.string s] w fun e w' => Below w.heap.size w w' ∧
      ((∃ n zs v, callOf (wordsB s) = some (n, zs) ∧ e = .returned (.tuple #[.string n, v, .bool true]) ∧ zs.length ≤ 10000 ∧ w'.ownsRow w.heap.size 3 1 v zs.length (intC zs)) ∨
        (callOf (wordsB s) = none ∧ e = .returned (.tuple #[.string ⟨#[]⟩, .slice none 0 0, .bool false]))) := by
  have hr := whole_any s hs w hm
  clear hs hm
  go_enter Tryz.func53, Tryz.ntmps53
  go_wp2_with fail
  (with_reducible refine hr.mono ?_)
  rintro e w' ⟨hB, (⟨n, zs, v, h1, rfl, h2, h3⟩ | ⟨h1, rfl⟩)⟩
  · have HB := hidden hB
    have H1 := hidden h1
    have H3 := hidden h3
    clear hB h1 h3 hr
    go_wp2_with fail
    go_ret3
    exact ⟨HB.out, .inl ⟨n, zs, v, H1.out, rfl, h2, H3.out⟩⟩
  · have HB := hidden hB
    have H1 := hidden h1
    clear hB h1 hr
    go_wp2_with fail
    go_ret3
    exact ⟨HB.out, .inr ⟨H1.out, rfl⟩⟩

/-- What Parse answers. -/
def parseS (ss : List Int) (ts : List Tab) (s : ByteArray) : Int × Int × Int :=
  if validB ss ts = true then match callOf (wordsB s) with
    | none => (0, 0, 3)
    | some r => if 0 ≤ tableN ts r.1 then (if (cellB ss ts (tableN ts r.1) r.2).2 = 0 then (tableN ts r.1, (cellB ss ts (tableN ts r.1) r.2).1, 0) else (0, 0, (cellB ss ts (tableN ts r.1) r.2).2)) else (0, 0, 4)
  else (0, 0, 1)

set_option maxRecDepth 100000 in
set_option maxHeartbeats 6400000 in
theorem parse_any (ss : List Int) (ts : List Tab) (s : ByteArray) (sv tv : Value) (w : World) (hs : IntsV w sv ss) (ht : TabsV w tv ts) (hl : ss.length ≤ 4611686018427387904) (hlt : ts.length ≤ 4611686018427387903)
    (hsm : ∀ t ∈ ts, t.name.size ≤ 4096 ∧ t.cols.length ≤ 4611686018427387904) (hm : MaxAt w) (hss : s.size ≤ 4096) :
    Calls Tryz.prog 27 #[sv, tv, .string s] w fun e w' => e = .returned (.tuple #[.int .i64 (parseS ss ts s).1, .int .i64 (parseS ss ts s).2.1, .int .i64 (parseS ss ts s).2.2]) ∧ Below w.heap.size w w' := by
  have hs2 := hs
  have ht2 := ht
  have hv := validAll_any ss ts _ _ w hs ht hl hlt hsm hm
  obtain ⟨p, cap, g, o, rfl, _, _⟩ := hs
  obtain ⟨q, tcap, tg, to, ks, rfl, _, _⟩ := ht
  obtain ⟨r1, r2, r3, hr⟩ : ∃ r1 r2 r3, parseS ss ts s = (r1, r2, r3) := ⟨_, _, _, rfl⟩
  rw [hr]
  simp only []
  unfold parseS at hr
  by_cases hvb : validB ss ts = true
  · rw [if_pos hvb] at hr
    rw [hvb] at hv
    have HNU : Hid (∀ w', Below w.heap.size w w' → Calls Tryz.prog 53 #[.string s] w' fun e w2 => Below w'.heap.size w' w2 ∧
      ((∃ n zs v, callOf (wordsB s) = some (n, zs) ∧ e = .returned (.tuple #[.string n, v, .bool true]) ∧ zs.length ≤ 10000 ∧ w2.ownsRow w'.heap.size 3 1 v zs.length (intC zs)) ∨
        (callOf (wordsB s) = none ∧ e = .returned (.tuple #[.string ⟨#[]⟩, .slice none 0 0, .bool false])))) := fun w' h => numbers_any s hss w' (hm.keep h)
    have HTB : Hid (∀ w' n, Below w.heap.size w w' → Calls Tryz.prog 54 #[progV (.slice q ts.length tcap), .string n] w' fun e w2 => e = .returned (.tuple #[.int .i64 (max (tableN ts n) 0), .bool (decide (0 ≤ tableN ts n))]) ∧ Below w'.heap.size w' w2) := fun w' n h => table_any ts _ n w' (ht2.later h) hlt
    have HCE : Hid (∀ w' z zs v, Below w.heap.size w w' → IntsV w' v zs → zs.length ≤ 10000 → Calls Tryz.prog 20 #[.slice p ss.length cap, .slice q ts.length tcap, .int .i64 z, v] w' fun e w2 => e = .returned (.tuple #[.int .i64 (cellB ss ts z zs).1, .int .i64 (cellB ss ts z zs).2]) ∧ Below w'.heap.size w' w2) := fun w' z zs v h h2 h3 =>
      cellOf_any ss ts z zs _ _ _ w' (hs2.later h) (ht2.later h) h2 hl hlt (by omega) hsm (hm.keep h)
    have HR := hidden hr
    clear hs2 ht2 hl hlt hsm hm hss hvb hr
    go_enter Tryz.func27, Tryz.ntmps27
    go_wp2_with fail
    (with_reducible refine hv.mono ?_)
    rintro e w2 ⟨rfl, hB2⟩
    have hnu := HNU.out w2 hB2
    have HB2 := hidden hB2
    clear hB2 hv
    go_wp2_with fail
    (with_reducible refine hnu.mono ?_)
    rintro e w3 ⟨hB3, (⟨n, zs, v, h1, rfl, h2, h3⟩ | ⟨h1, rfl⟩)⟩
    · have hr := HR.out
      rw [h1] at hr
      simp only [] at hr
      have hB3' := HB2.out.trans (hB3.mono HB2.out.size)
      have htb := HTB.out w3 n hB3'
      have HB3 := hidden hB3'
      have H3 := hidden (row_intsZ h3)
      obtain ⟨vp, vc, rfl⟩ := row_form h3
      simp only [progV] at htb
      obtain ⟨tn, htn⟩ : ∃ tn, tableN ts n = tn := ⟨_, rfl⟩
      rw [htn] at htb hr
      have HR2 := hidden hr
      clear hB3 hB3' h1 h3 hnu hr htn HR
      by_cases h0 : 0 ≤ tn
      · rw [decide_eq_true h0, show max tn 0 = tn by omega] at htb
        have hr := HR2.out
        rw [if_pos h0] at hr
        have HR3 := hidden hr
        clear hr HR2
        go_wp2_with fail
        (with_reducible refine htb.mono ?_)
        rintro e w4 ⟨rfl, hB4⟩
        have hB4' := HB3.out.trans (hB4.mono HB3.out.size)
        have hce := HCE.out w4 tn zs _ hB4' (H3.out.later hB4) h2
        have HB4 := hidden hB4'
        obtain ⟨a, b, hab⟩ : ∃ a b, cellB ss ts tn zs = (a, b) := ⟨_, _, rfl⟩
        have hr := HR3.out
        rw [hab] at hce hr
        simp only [] at hce hr
        have HR4 := hidden hr
        clear hB4 hB4' htb hab hr HR3
        by_cases hb : b = 0
        · subst hb
          have hr := HR4.out
          rw [if_pos (by trivial)] at hr
          injection hr with e1 e2
          injection e2 with e2 e3
          subst e1 e2 e3
          clear HR4
          go_wp2_with fail
          (with_reducible refine hce.mono ?_)
          rintro e w5 ⟨rfl, hB5⟩
          have HB5 := hidden (HB4.out.trans (hB5.mono HB4.out.size))
          clear hB5 hce
          go_wp2_with fail
          go_ret3
          exact ⟨rfl, HB5.out⟩
        · have hr := HR4.out
          rw [if_neg hb] at hr
          injection hr with e1 e2
          injection e2 with e2 e3
          subst e1 e2 e3
          have hbz : (b == 0) = false := by rw [beq_eq_false_iff_ne]; exact hb
          have hbz2 : (b != 0) = true := by rw [bne_iff_ne]; exact hb
          clear HR4 hb
          go_wp2_with fail
          (with_reducible refine hce.mono ?_)
          rintro e w5 ⟨rfl, hB5⟩
          have HB5 := hidden (HB4.out.trans (hB5.mono HB4.out.size))
          clear hB5 hce
          go_wp2_with fail
          go_ret3
          exact ⟨rfl, HB5.out⟩
      · rw [decide_eq_false h0] at htb
        have hr := HR2.out
        rw [if_neg h0] at hr
        injection hr with e1 e2
        injection e2 with e2 e3
        subst e1 e2 e3
        clear HR2
        go_wp2_with fail
        (with_reducible refine htb.mono ?_)
        rintro e w4 ⟨rfl, hB4⟩
        have HB4 := hidden (HB3.out.trans (hB4.mono HB3.out.size))
        clear hB4 htb
        go_wp2_with fail
        go_ret3
        exact ⟨rfl, HB4.out⟩
    · have hr := HR.out
      rw [h1] at hr
      simp only [] at hr
      injection hr with e1 e2
      injection e2 with e2 e3
      subst e1 e2 e3
      have HB3 := hidden (HB2.out.trans (hB3.mono HB2.out.size))
      clear hB3 h1 hnu HR
      go_wp2_with fail
      go_ret3
      exact ⟨rfl, HB3.out⟩
  · rw [if_neg hvb] at hr
    have hvf : validB ss ts = false := by simpa using hvb
    rw [hvf] at hv
    injection hr with e1 e2
    injection e2 with e2 e3
    subst e1 e2 e3
    clear hs2 ht2 hl hlt hsm hm hss hvb hvf
    go_enter Tryz.func27, Tryz.ntmps27
    go_wp2_with fail
    (with_reducible refine hv.mono ?_)
    rintro e w2 ⟨rfl, hB2⟩
    have HB2 := hidden hB2
    clear hB2 hv
    go_wp2_with fail
    go_ret3
    exact ⟨rfl, HB2.out⟩

end Go.Proofs.YtfmoophjdgejeaaGreatDoor
