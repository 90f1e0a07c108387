import Derived.Test.YtfmoophjdgejeaaGreatDoorEb
import Derived.Test.YtfmoophjdgejeaaGreatDoorJl
/-
  The reference: the place of a tuple in a list; the kind of a word, names.
-/
namespace Go.Proofs.YtfmoophjdgejeaaGreatDoor
open Go.RowKit Go.Shelf Go.Lib
attribute [local go_sem] Oper.semAt_some

/-- A slice that reads as a list of rows. -/
def RowsV (w : World) (v : Value) (L : List (List Nat)) : Prop :=
  ∃ P c, v = .slice P L.length c ∧ ∀ (k : Nat) t, L[k]? = some t → ∃ g g' o' c', P = some ⟨g, 0, none⟩ ∧ g < w.heap.size ∧ w.cell? ⟨g, k, none⟩ = some (.slice (some ⟨g', o', none⟩) t.length c') ∧ IntsV w (.slice (some ⟨g', o', none⟩) t.length c') (natL t)

theorem RowsV.later {w w' : World} {v : Value} {L : List (List Nat)} (h : RowsV w v L) (hb : Below w.heap.size w w') : RowsV w' v L := by
  obtain ⟨P, c, h1, h2⟩ := h
  refine ⟨P, c, h1, fun k t ht => ?_⟩
  obtain ⟨g, g', o', c', e1, e2, e3, e4⟩ := h2 k t ht
  exact ⟨g, g', o', c', e1, Nat.lt_of_lt_of_le e2 hb.size, (hb.cell (p := ⟨g, k, none⟩) e2).trans e3, e4.later hb⟩

theorem IntsV.drewN {w : World} {v : Value} {l : List Int} (h : IntsV w v l) (q : Nat) : IntsV (w.drewN q) v l := h.later (below_drewN (Below.refl _ _) q)

set_option maxRecDepth 100000 in
set_option maxHeartbeats 1600000 in
theorem refPlace_any (L : List (List Nat)) (z : List Int) (v lv : Value) (w : World) (hv : RowsV w v L) (hz : IntsV w lv z) (hL : L.length ≤ 1000) (hzl : z.length ≤ 1048576) (h3 : ∀ t ∈ L, t.length ≤ 3) :
    Calls Tryz.prog 44 #[v, lv] w fun e w' => e = .returned (.int .i64 (firstAt (fun t : List Nat => decide (natL t = z)) L 0)) ∧ ∃ q, w' = w.drewN q := by
  obtain ⟨P, c, rfl, hrow⟩ := hv
  obtain ⟨r, hr⟩ : ∃ r, firstAt (fun t : List Nat => decide (natL t = z)) L 0 = r := ⟨_, rfl⟩
  rw [hr]
  obtain ⟨pz, cz, gz, oz, hlv, _, _⟩ := id hz
  subst hlv
  have HROW := hidden hrow
  have HZ := hidden hz
  have H3 := hidden h3
  have HR := hidden hr
  have HZL := hidden hzl
  clear hrow hz h3 hr hzl
  go_enter Tryz.func44, Tryz.ntmps44
  go_wp2_with fail
  go_loopw [5] (fun i wr => ∃ k q : Nat, k ≤ L.length ∧ i = .int .i64 k ∧ wr = w.drewN q ∧ Hid (firstAt (fun t : List Nat => decide (natL t = z)) (L.drop k) k = r)) (fun i _ => L.length - (intOf i).toNat)
  case atStart => exact ⟨0, 0, Nat.zero_le _, rfl, rfl, by rw [List.drop_zero]; exact HR.out⟩
  case round =>
    obtain ⟨k, q, hk, rfl, hw, hh⟩ := hrel
    by_cases hlt : k < L.length
    · have hx : L[k]? = some L[k] := List.getElem?_eq_getElem hlt
      generalize L[k] = t at hx
      obtain ⟨g, g', o', c', rfl, hg, hcell, hint⟩ := HROW.out k t hx
      have hcw : wr.cell? ⟨g, k, none⟩ = some (.slice (some ⟨g', o', none⟩) t.length c') := by rw [hw]; exact hcell
      have hin := refInts_any (natL t) z _ _ wr (by rw [hw]; exact hint.drewN q) (by rw [hw]; exact HZ.out.drewN q) (by rw [natL_len]; have := H3.out t (List.mem_of_getElem? hx); omega) HZL.out
      have hkz : (k : Int) < (L.length : Int) := by omega
      have hd := first_drop (p := fun t : List Nat => decide (natL t = z)) hx
      rw [hh.out] at hd
      have HW := hidden hw
      have HLT := hidden hlt
      by_cases he : natL t = z
      · rw [if_pos (decide_eq_true he)] at hd
        rw [decide_eq_true he] at hin
        have HD := hidden hd
        clear hd he hh hx hint hcell hw hlt
        go_wp2_with fail
        (with_reducible refine hin.mono ?_)
        rintro e w2 ⟨rfl, q2, hw2⟩
        have HQ : Hid (∃ q, w2 = w.drewN q) := ⟨q + q2, by rw [hw2, HW.out, World.drewN_drewN]⟩
        clear hin hw2
        go_wp2_with fail
        go_ret
        exact ⟨by rw [HD.out]; rfl, HQ.out⟩
      · rw [if_neg (by simpa using he)] at hd
        rw [decide_eq_false he] at hin
        have HD := hidden hd
        clear hd he hh hx hint hcell hw hlt
        go_wp2_with fail
        (with_reducible refine hin.mono ?_)
        rintro e w2 ⟨rfl, q2, hw2⟩
        have HQ : Hid (w2 = w.drewN (q + q2)) := by show _ = _; rw [hw2, HW.out, World.drewN_drewN]
        clear hin hw2
        go_wp2_with fail
        go_roundw
        case rel => exact ⟨k + 1, q + q2, HLT.out, by go_num, HQ.out, HD.out.symm⟩
        case measure => simp [intOf]; have := HLT.out; omega
    · obtain rfl : k = L.length := by omega
      have hkz : ¬ (L.length : Int) < (L.length : Int) := by omega
      have hh2 := hh.out
      rw [List.drop_length] at hh2
      have HE : Hid (r = -1) := hh2.symm
      have HW := hidden hw
      clear hlt hh hh2 hw
      go_wp2_with fail
      go_ret
      exact ⟨by rw [HE.out]; rfl, q, HW.out⟩

theorem first_at {α : Type} {p : α → Bool} : ∀ {l : List α} {i k : Nat} {x : α}, l[i]? = some x → p x = true → (∀ j y, j < i → l[j]? = some y → p y = false) → firstAt p l k = ((k + i : Nat) : Int)
  | [], _, _, _, h, _, _ => by simp at h
  | a :: l, 0, k, x, h, hp, _ => by
    simp at h
    subst h
    rw [firstAt, if_pos hp]; rfl
  | a :: l, i + 1, k, x, h, hp, hno => by
    rw [firstAt, if_neg (by rw [hno 0 a (by omega) rfl]; simp), first_at (i := i) (by simpa using h) hp (fun j y hj hy => hno (j + 1) y (by omega) (by simpa using hy))]
    congr 1
    omega

theorem first_no {α : Type} {p : α → Bool} : ∀ {l : List α} {k : Nat}, (∀ x ∈ l, p x = false) → firstAt p l k = -1
  | [], _, _ => rfl
  | a :: l, k, h => by
    rw [firstAt, if_neg (by rw [h a List.mem_cons_self]; simp)]
    exact first_no fun x hx => h x (List.mem_cons_of_mem _ hx)

theorem natL_inj {a b : List Nat} (h : natL a = natL b) : a = b := by
  have := congrArg (fun l => l.map Int.toNat) h
  simpa only [toNat_natL] using this

/-- The place of a list among the tuples. -/
theorem place_tups {ss : List Nat} (hp : Pos ss) (z : List Int) : firstAt (fun t : List Nat => decide (natL t = z)) (tups ss) 0 = if withinB ss z = true then ((hornL ss (z.map Int.toNat) : Nat) : Int) else -1 := by
  by_cases h : withinB ss z = true
  · obtain ⟨t, rfl, hin⟩ := within_nat h
    rw [if_pos h, toNat_natL]
    rw [first_at (i := hornL ss t) (place_at hp hin) (decide_eq_true rfl) ?_, Nat.zero_add]
    intro j y hj hy
    refine decide_eq_false fun e => ?_
    obtain rfl := natL_inj e
    have hjl : j < prodL ss := Nat.lt_trans hj (horn_lt hin)
    rw [tups_get ss j hjl] at hy
    have h2 := Option.some.inj hy
    rw [← h2, horn_tup hp, Nat.mod_eq_of_lt hjl] at hj
    exact absurd hj (Nat.lt_irrefl _)
  · rw [if_neg h]
    refine first_no fun t ht => decide_eq_false fun e => h ?_
    unfold tups at ht
    obtain ⟨k, _, rfl⟩ := List.mem_map.1 ht
    rw [← e]
    exact within_of_in (tup_in hp k)

/-- The kind of a word, out of its tokens. -/
theorem kindW_toks (s : ByteArray) : ∃ t r, toksK s = t :: r ∧ kindW s = if (toksK s).length = 2 ∧ t.at_ = 0 ∧ t.end_ = s.size then t.kind else 0 := by
  have hg := tokHere_get (tokHere_first s)
  obtain ⟨r, hr⟩ : ∃ r, toksK s = kwT s (nextT s.data.toList 0) :: r := by
    cases h : toksK s with
    | nil => exact absurd h (toksK_ne s)
    | cons a r =>
      rw [h] at hg
      simp at hg
      exact ⟨r, by rw [hg]⟩
  refine ⟨_, r, hr, ?_⟩
  have hk1 : (kwT s (nextT s.data.toList 0)).at_ = (nextT s.data.toList 0).at_ := by unfold kwT; split <;> rfl
  have hk2 : (kwT s (nextT s.data.toList 0)).end_ = (nextT s.data.toList 0).end_ := by unfold kwT; split <;> rfl
  rw [hk1, hk2]
  by_cases h0 : (nextT s.data.toList 0).kind = 0
  · obtain ⟨h1, _, _⟩ := tokHere_last (tokHere_first s) h0
    rw [if_neg (by omega)]
    have hN : kindN s = 0 := by unfold kindN; split <;> simp [h0]
    unfold kindW
    rw [hN]; simp
  · obtain ⟨h1, h2, h3⟩ := tokHere_next (tokHere_first s) h0
    by_cases hc : (nextT s.data.toList 0).at_ = 0 ∧ (nextT s.data.toList 0).end_ = s.size
    · rw [hc.2] at h3
      have hk : (nextT s.data.toList s.size).kind = 0 := by
        have h4 := nextT_facts s.data.toList s.size (by rw [bytes_len]; exact Nat.le_refl _)
        rw [bytes_len] at h4
        rcases Nat.eq_zero_or_pos (nextT s.data.toList s.size).kind with h5 | h5
        · exact h5
        · have := h4.2.2.2.2.2 (by omega)
          omega
      obtain ⟨h4, _, _⟩ := tokHere_last h3 hk
      rw [if_pos ⟨by omega, hc.1, hc.2⟩]
      have hN : kindN s = (nextT s.data.toList 0).kind := by unfold kindN; rw [if_pos hc]
      have hw : wordOf s (nextT s.data.toList 0) = s := by
        unfold wordOf
        rw [hc.1, hc.2]
        simp
      unfold kindW kwT
      rw [hN, hw]
      split <;> rfl
    · rw [if_neg (fun h => hc ⟨h.2.1, h.2.2⟩)]
      have hN : kindN s = 0 := by unfold kindN; rw [if_neg hc]
      unfold kindW
      rw [hN]; simp

set_option maxRecDepth 100000 in
set_option maxHeartbeats 1600000 in
theorem refKind_any (s : ByteArray) (hs : s.size ≤ 4096) (w : World) :
    Calls Tryz.prog 60 #[.string s] w fun e w' => e = .returned (.int .i64 (kindW s : Nat)) ∧ Below w.heap.size w w' := by
  obtain ⟨t, r, hcons, hkw⟩ := kindW_toks s
  have hsc : Calls Tryz.prog 78 #[.string s] w fun e w' => ∃ g cap, e = .returned (.tuple #[.slice (some ⟨g, 0, none⟩) (toksK s).length cap, .int .i64 0]) ∧ TokAt w' g 0 t ∧ Below w.heap.size w w' :=
    (refScan_any s hs w).mono (by
      rintro e w' ⟨v, rfl, h1, h2⟩
      obtain ⟨g, cap, rfl, hg, hc⟩ := tokRow_of h1 (toksK_ne s)
      exact ⟨g, cap, rfl, by have := hc 0 t (by rw [hcons]; rfl); rwa [Nat.zero_mul] at this, h2⟩)
  have hlen : (toksK s).length ≤ 10000 := toksK_len s hs
  have hpos : 0 < (toksK s).length := by rw [hcons]; simp
  obtain ⟨K, hK⟩ : ∃ K, kindW s = K := ⟨_, rfl⟩
  rw [hK] at hkw ⊢
  generalize (toksK s).length = n at *
  have HKW := hidden hkw
  clear hkw hcons hK
  by_cases h2 : n = 2
  · subst h2
    by_cases h3 : t.at_ = 0
    · have b3 : ((t.at_ : Int) != 0) = false := by rw [h3]; rfl
      have b3' : ((t.at_ : Int) == 0) = true := by rw [h3]; rfl
      by_cases h4 : t.end_ = s.size
      · have b4 : ((t.end_ : Int) != (s.size : Int)) = false := by rw [h4]; simp
        have b4' : ((t.end_ : Int) == (s.size : Int)) = true := by rw [h4]; simp
        have HF : Hid (K = t.kind) := by show _ = _; rw [HKW.out, if_pos ⟨rfl, h3, h4⟩]
        clear h3 h4
        go_enter Tryz.func60, Tryz.ntmps60
        go_wp2_with fail
        (with_reducible refine hsc.mono ?_)
        rintro e w1 ⟨g, cap, rfl, ht, hB⟩
        have c0 := ht.c0
        have c2 := ht.c2
        have c3 := ht.c3
        rw [Nat.zero_add] at c2 c3
        have HB := hidden hB
        clear ht hB hsc
        go_wp2_with fail
        go_ret
        exact ⟨by rw [HF.out]; rfl, HB.out⟩
      · have b4 : ((t.end_ : Int) != (s.size : Int)) = true := by rw [bne_iff_ne]; omega
        have b4' : ((t.end_ : Int) == (s.size : Int)) = false := by rw [beq_eq_false_iff_ne]; omega
        have HF : Hid (K = 0) := by show _ = _; rw [HKW.out, if_neg (fun h => h4 h.2.2)]
        clear h3 h4
        go_enter Tryz.func60, Tryz.ntmps60
        go_wp2_with fail
        (with_reducible refine hsc.mono ?_)
        rintro e w1 ⟨g, cap, rfl, ht, hB⟩
        have c0 := ht.c0
        have c2 := ht.c2
        have c3 := ht.c3
        rw [Nat.zero_add] at c2 c3
        have HB := hidden hB
        clear ht hB hsc
        go_wp2_with fail
        go_ret
        exact ⟨by rw [HF.out]; rfl, HB.out⟩
    · have b3 : ((t.at_ : Int) != 0) = true := by rw [bne_iff_ne]; omega
      have b3' : ((t.at_ : Int) == 0) = false := by rw [beq_eq_false_iff_ne]; omega
      have HF : Hid (K = 0) := by show _ = _; rw [HKW.out, if_neg (fun h => h3 h.2.1)]
      clear h3
      go_enter Tryz.func60, Tryz.ntmps60
      go_wp2_with fail
      (with_reducible refine hsc.mono ?_)
      rintro e w1 ⟨g, cap, rfl, ht, hB⟩
      have c0 := ht.c0
      have c2 := ht.c2
      have c3 := ht.c3
      rw [Nat.zero_add] at c2 c3
      have HB := hidden hB
      clear ht hB hsc
      go_wp2_with fail
      go_ret
      exact ⟨by rw [HF.out]; rfl, HB.out⟩
  · have b2 : ((n : Int) != 2) = true := by rw [bne_iff_ne]; omega
    have b2' : ((n : Int) == 2) = false := by rw [beq_eq_false_iff_ne]; omega
    have HF : Hid (K = 0) := by show _ = _; rw [HKW.out, if_neg (fun h => h2 h.1)]
    clear h2
    go_enter Tryz.func60, Tryz.ntmps60
    go_wp2_with fail
    (with_reducible refine hsc.mono ?_)
    rintro e w1 ⟨g, cap, rfl, ht, hB⟩
    have HB := hidden hB
    clear ht hB hsc
    go_wp2_with fail
    go_ret
    exact ⟨by rw [HF.out]; rfl, HB.out⟩

set_option maxRecDepth 100000 in
set_option maxHeartbeats 1600000 in
theorem refName_any (s : ByteArray) (hs : s.size ≤ 4096) (w : World) :
    Calls Tryz.prog 35 #[.string s] w fun e w' => e = .returned (.bool (nameB s)) ∧ Below w.heap.size w w' := by
  have hk := refKind_any s hs w
  obtain ⟨r, hr⟩ : ∃ r, nameB s = r := ⟨_, rfl⟩
  rw [hr]
  have HR := hidden hr
  obtain ⟨K, hK⟩ : ∃ K, kindW s = K := ⟨_, rfl⟩
  rw [hK] at hk
  have HK := hidden hK
  clear hr hK
  by_cases h1 : K = 1
  · subst h1
    by_cases h2 : s.size ≤ 16
    · have HF : Hid (r = true) := by show _ = _; rw [← HR.out]; unfold nameB; rw [HK.out, decide_eq_true h2]; rfl
      have h2z : (s.size : Int) ≤ 16 := by omega
      clear h2
      go_enter Tryz.func35, Tryz.ntmps35
      go_wp2_with fail
      (with_reducible refine hk.mono ?_)
      rintro e w1 ⟨rfl, hB⟩
      have HB := hidden hB
      clear hB hk
      go_wp2_with fail
      go_ret
      exact ⟨by rw [HF.out]; (first | rfl | (simp; done) | (simp; omega)), HB.out⟩
    · have HF : Hid (r = false) := by show _ = _; rw [← HR.out]; unfold nameB; rw [decide_eq_false h2]; rfl
      have h2z : ¬ (s.size : Int) ≤ 16 := by omega
      clear h2
      go_enter Tryz.func35, Tryz.ntmps35
      go_wp2_with fail
      (with_reducible refine hk.mono ?_)
      rintro e w1 ⟨rfl, hB⟩
      have HB := hidden hB
      clear hB hk
      go_wp2_with fail
      go_ret
      exact ⟨by rw [HF.out]; (first | rfl | (simp; done) | (simp; omega)), HB.out⟩
  · have b1 : ((K : Int) == 1) = false := by rw [beq_eq_false_iff_ne]; omega
    have HF : Hid (r = false) := by show _ = _; rw [← HR.out]; unfold nameB; rw [HK.out, decide_eq_false h1]; simp
    clear h1
    go_enter Tryz.func35, Tryz.ntmps35
    go_wp2_with fail
    (with_reducible refine hk.mono ?_)
    rintro e w1 ⟨rfl, hB⟩
    have HB := hidden hB
    clear hB hk
    go_wp2_with fail
    go_ret
    exact ⟨by rw [HF.out]; rfl, HB.out⟩

end Go.Proofs.YtfmoophjdgejeaaGreatDoor
