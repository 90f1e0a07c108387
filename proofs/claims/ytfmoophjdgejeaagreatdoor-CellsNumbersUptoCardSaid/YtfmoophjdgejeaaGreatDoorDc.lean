import Derived.Test.YtfmoophjdgejeaaGreatDoorDb
/-
  Few.
-/
namespace Go.Proofs.YtfmoophjdgejeaaGreatDoor
open Go.RowKit Go.Shelf
attribute [local go_sem] Oper.semAt_some

def fewT (t : Tab) : Bool := decide (t.name.size ≤ 40) && decide (t.cols.length ≤ 12)
def fewB (ss : List Int) (ts : List Tab) : Bool := ts.all fewT && (decide (ss.length ≤ 12) && decide (ts.length ≤ 20))

set_option maxRecDepth 100000 in
set_option maxHeartbeats 3200000 in
theorem few_any (ss : List Int) (ts : List Tab) (sv tv : Value) (w : World) (hs : IntsV w sv ss) (ht : TabsV w tv ts) (hl : ss.length ≤ 1048576) (hlt : ts.length ≤ 1048576) :
    Calls Tryz.prog 9 #[sv, tv] w fun e w' => e = .returned (.bool (fewB ss ts)) ∧ w' = w := by
  obtain ⟨p, cap, g, o, rfl, _, _⟩ := hs
  obtain ⟨q, tcap, tg, to, ks, rfl, hqp, hat⟩ := ht
  obtain ⟨r, hr⟩ : ∃ r, fewB ss ts = r := ⟨_, rfl⟩
  rw [hr]
  have HQP := hidden hqp
  have HAT := hidden hat
  have HR := hidden hr
  clear hqp hat hr
  go_enter Tryz.func9, Tryz.ntmps9
  go_wp2_with fail
  go_loop [5] (fun i => ∃ k : Nat, k ≤ ts.length ∧ i = .int .i64 k ∧ Hid ((ts.take k).all fewT = true)) (fun i => ts.length - (intOf i).toNat)
  case atStart => exact ⟨0, Nat.zero_le _, rfl, rfl⟩
  case round =>
    obtain ⟨k, hk, rfl, hh⟩ := hrel
    by_cases hlt2 : k < ts.length
    · have hx : ts[k]? = some ts[k] := List.getElem?_eq_getElem hlt2
      generalize ts[k] = t at hx
      obtain ⟨rfl, hg⟩ := HQP.out (fun h => by rw [h] at hlt2; exact absurd hlt2 (Nat.not_lt_zero _))
      obtain ⟨hta, hci⟩ := HAT.out k t hx
      obtain ⟨pc, capc, gc, oc, hkv, _, _⟩ := hci
      rw [hkv] at hta
      have c0 := hta.c0
      have c2 := hta.c2
      have hkz : (k : Int) < (ts.length : Int) := by omega
      have HNO : fewT t = false → Hid (r = false) := fun h => by
        show _ = _
        rw [← HR.out]
        unfold fewB
        have h2 : ts.all fewT = false := by
          rw [List.all_eq_false]
          exact ⟨t, List.mem_of_getElem? hx, by rw [h]; simp⟩
        rw [h2]; rfl
      have HYES : fewT t = true → Hid ((ts.take (k + 1)).all fewT = true) := fun h => by
        show _ = _
        rw [take_step hx, List.all_append, hh.out]
        simp [h]
      clear hta hx hh hkv
      by_cases h1 : 40 < t.name.size
      · have hz1 : (40 : Int) < (t.name.size : Int) := by omega
        have HN := HNO (by unfold fewT; rw [decide_eq_false (by omega)]; rfl)
        clear HNO HYES h1
        go_wp2_with fail
        go_ret
        exact ⟨by rw [HN.out]; rfl, rfl⟩
      · have hz1 : ¬ (40 : Int) < (t.name.size : Int) := by omega
        by_cases h2 : 12 < t.cols.length
        · have hz2 : (12 : Int) < (t.cols.length : Int) := by omega
          have HN := HNO (by unfold fewT; rw [decide_eq_false (show ¬ t.cols.length ≤ 12 by omega)]; simp)
          clear HNO HYES h1 h2
          go_wp2_with fail
          go_ret
          exact ⟨by rw [HN.out]; rfl, rfl⟩
        · have hz2 : ¬ (12 : Int) < (t.cols.length : Int) := by omega
          have HS := HYES (by unfold fewT; rw [decide_eq_true (show t.name.size ≤ 40 by omega), decide_eq_true (show t.cols.length ≤ 12 by omega)]; rfl)
          clear HNO HYES h1 h2
          go_wp2_with fail
          go_round
          case rel => exact ⟨k + 1, hlt2, by go_num, HS⟩
          case measure => simp [intOf]; omega
    · obtain rfl : k = ts.length := by omega
      have hkz : ¬ (ts.length : Int) < (ts.length : Int) := by omega
      have hall := hh.out
      rw [List.take_length] at hall
      have HE : Hid (r = (decide (ss.length ≤ 12) && decide (ts.length ≤ 20))) := by
        show _ = _
        rw [← HR.out]; unfold fewB; rw [hall]; rfl
      clear hh hlt2 hall
      by_cases h1 : ss.length ≤ 12
      · have hz1 : (ss.length : Int) ≤ 12 := by omega
        by_cases h2 : ts.length ≤ 20
        · have hz2 : (ts.length : Int) ≤ 20 := by omega
          have HF : Hid (r = true) := by show _ = _; rw [HE.out, decide_eq_true h1, decide_eq_true h2]; rfl
          clear HE h1 h2
          go_wp2_with fail
          go_ret
          exact ⟨by rw [HF.out]; simp, rfl⟩
        · have hz2 : ¬ (ts.length : Int) ≤ 20 := by omega
          have HF : Hid (r = false) := by show _ = _; rw [HE.out, decide_eq_false h2]; simp
          clear HE h1 h2
          go_wp2_with fail
          go_ret
          exact ⟨by rw [HF.out]; simp, rfl⟩
      · have hz1 : ¬ (ss.length : Int) ≤ 12 := by omega
        have HF : Hid (r = false) := by show _ = _; rw [HE.out, decide_eq_false h1]; simp
        clear HE h1
        go_wp2_with fail
        go_ret
        exact ⟨by rw [HF.out]; simp, rfl⟩

theorem few_parts {ss : List Int} {ts : List Tab} (h : fewB ss ts = true) : (∀ t ∈ ts, t.name.size ≤ 40 ∧ t.cols.length ≤ 12) ∧ ss.length ≤ 12 ∧ ts.length ≤ 20 := by
  simp only [fewB, Bool.and_eq_true, decide_eq_true_eq, List.all_eq_true, fewT] at h
  exact ⟨h.1, h.2.1, h.2.2⟩

end Go.Proofs.YtfmoophjdgejeaaGreatDoor
