import Derived.Test.YtfmoophjdgejeaaGreatDoorCo
/-
  The cell of a tuple.
-/
namespace Go.Proofs.YtfmoophjdgejeaaGreatDoor
open Go.RowKit Go.Shelf
attribute [local go_sem] Oper.semAt_some

theorem horn_snoc : ∀ (ss t : List Nat) (n x : Nat), ss.length = t.length → hornL (ss ++ [n]) (t ++ [x]) = hornL ss t * n + x
  | [], [], n, x, _ => by simp [hornL, prodL]
  | s :: ss, y :: t, n, x, h => by
    simp only [List.cons_append, hornL, prod_snoc]
    rw [horn_snoc ss t n x (by simpa using h), Nat.add_mul, Nat.mul_assoc, Nat.add_assoc]
  | [], _ :: _, _, _, h => by simp at h
  | _ :: _, [], _, _, h => by simp at h

theorem InL.len : ∀ {ss t : List Nat}, InL ss t → ss.length = t.length
  | [], [], _ => rfl
  | _ :: _, _ :: _, h => by simp only [List.length_cons]; rw [InL.len h.2]
  | [], _ :: _, h => h.elim
  | _ :: _, [], h => h.elim

theorem InL.take : ∀ {ss t : List Nat} (k : Nat), InL ss t → InL (ss.take k) (t.take k)
  | _, _, 0, _ => by simp [InL]
  | [], [], k + 1, _ => by simp [InL]
  | _ :: _, _ :: _, k + 1, h => ⟨h.1, InL.take k h.2⟩
  | [], _ :: _, _, h => h.elim
  | _ :: _, [], _, h => h.elim

theorem within_nat : ∀ {ss : List Nat} {l : List Int}, withinB ss l = true → ∃ t, l = natL t ∧ InL ss t
  | [], [], _ => ⟨[], rfl, trivial⟩
  | n :: ns, z :: zs, h => by
    simp only [withinB, Bool.and_eq_true, decide_eq_true_eq] at h
    obtain ⟨⟨h1, h2⟩, h3⟩ := h
    obtain ⟨t, rfl, ht⟩ := within_nat h3
    refine ⟨z.toNat :: t, ?_, ?_, ht⟩
    · show z :: natL t = (z.toNat : Int) :: natL t
      rw [Int.toNat_of_nonneg h1]
    · omega
  | [], _ :: _, h => by simp [withinB] at h
  | _ :: _, [], h => by simp [withinB] at h

theorem goV_first {ss : List Int} {ts : List Tab} : ∀ (r : List Tab) (i a b : Nat), goV ss ts r i a b = true → ∀ (j : Nat) (t : Tab), r[j]? = some t →
    t.first = (((if strictB t.kind = true then a else b) + (cellsFrom ss (strictB t.kind) (r.take j) i).length : Nat) : Int)
  | [], _, _, _, _, j, t, ht => by simp at ht
  | u :: r, i, a, b, h, j, t, ht => by
    simp only [goV, Bool.and_eq_true] at h
    obtain ⟨_, _, h5, h6⟩ := h
    cases j with
    | zero =>
      obtain rfl : u = t := by simpa using ht
      rw [beq_iff_eq] at h5
      rw [h5, List.take_zero]
      simp only [cellsFrom, List.length_nil, Nat.add_zero]
      split <;> rfl
    | succ j =>
      have g := goV_first r (i + 1) _ _ h6 j t (by simpa using ht)
      rw [g, List.take_succ_cons, cellsFrom, List.length_append]
      have e : ∀ q : Bool, (if q = true then (if strictB u.kind = true then a + areaN ss u else a) else (if strictB u.kind = true then b else b + areaN ss u)) =
          (if q = true then a else b) + (if strictB u.kind = q then (tups (lensL ss u.cols)).map (fun x => (i, x)) else []).length := fun q => by
        cases q <;> cases strictB u.kind <;> simp [tups_len, areaN]
      rw [e (strictB t.kind)]
      omega

theorem valid_first {ss : List Int} {ts : List Tab} (h : validB ss ts = true) {i : Nat} {t : Tab} (ht : ts[i]? = some t) : t.first = ((cellsFrom ss (strictB t.kind) (ts.take i) 0).length : Int) := by
  simp only [validB, Bool.and_eq_true, decide_eq_true_eq] at h
  have g := goV_first ts 0 0 0 h.2.2.2 i t ht
  simpa using g

theorem first_le {ss : List Int} {ts : List Tab} (h : validB ss ts = true) {i : Nat} {t : Tab} (ht : ts[i]? = some t) : 0 ≤ t.first ∧ t.first ≤ 128 := by
  have h1 := valid_first h ht
  have h2 := (cellsFrom_prefix (ss := ss) (isS := strictB t.kind) (Nat.le_of_lt (List.getElem?_eq_some_iff.1 ht).1)).length_le
  have h3 := (valid_parts h).2.2.2 (strictB t.kind)
  omega

set_option maxRecDepth 100000 in
set_option maxHeartbeats 3200000 in
theorem cell_any (ss : List Int) (t : Tab) (l : List Nat) (sv cv lv : Value) (q : Option Addr) (n c : Nat) (w : World) (hs : IntsV w sv ss) (hc : IntsV w cv t.cols) (hlv : IntsV w lv (natL l)) (hsnd : soundB ss = true) (hcols : t.cols.all (colB ss.length) = true) (hl : t.cols.length ≤ 3)
    (hin : InL (lensL ss t.cols) l) (hf : 0 ≤ t.first ∧ t.first ≤ 128) :
    Calls Tryz.prog 43 #[.agg #[sv, .slice q n c], tabV t cv, lv] w fun e w' => e = .returned (.int .i64 (t.first + (hornL (lensL ss t.cols) l : Nat))) ∧ Below w.heap.size w w' := by
  have hs2 := hs
  have hc2 := hc
  have hlv2 := hlv
  obtain ⟨p, cap, g, o, rfl, _, _⟩ := hs
  obtain ⟨pc, capc, gc, oc, rfl, _, _⟩ := hc
  obtain ⟨pt, capt, gt, ot, rfl, hpt, hct⟩ := hlv
  have hln := fun w' (h : Below w.heap.size w w') => lengths_any ss t.cols _ _ q n c w' (hs2.later h) (hc2.later h) hsnd hcols hl
  have hll := lens_len ss t.cols
  have hlp := fun n hn => (lens_pos hsnd hcols n hn).2
  have hpl := prod_le (ls := lensL ss t.cols) (by rw [hll]; exact hl) hlp
  generalize lensL ss t.cols = ls at *
  rw [natL_len]
  have hlen := hin.len
  have HLN := hidden hln
  have HLL := hidden hll
  have HLP := hidden hlp
  have HPL := hidden hpl
  have HPT := hidden hpt
  have HCT := hidden hct
  have HIN := hidden hin
  have hf1 := hf.1
  have hf2 := hf.2
  have HLen := hidden hlen
  clear hln hll hlp hs2 hc2 hlv2 hsnd hcols hpl hpt hct hin hf hlen
  simp only [tabV]
  go_enter Tryz.func43, Tryz.ntmps43
  go_wp2_with fail
  obtain ⟨W2, hW2⟩ : ∃ W2, W2 = (w.alloc (.cells #[.slice p ss.length cap, .slice q n c] 61)).alloc (.cells #[.string t.name, .int .i64 t.kind, .slice pc t.cols.length capc, .int .i64 t.lo, .int .i64 t.hi, .int .i64 t.first] 44) := ⟨_, rfl⟩
  have hB2 : Below w.heap.size w W2 := by rw [hW2]; exact ((Below.refl _ _).alloc (Nat.le_refl _) _).alloc (by simp) _
  have c5 : W2.cell? ⟨w.heap.size + 1, 5, none⟩ = some (.int .i64 t.first) := by rw [hW2]; simp [go_sem]
  have hz2 : W2.heap.size = w.heap.size + 2 := by rw [hW2]; simp
  have hl2 := HLN.out W2 hB2
  have HB2 := hidden hB2
  rw [← hW2]
  clear hW2 hB2 HLN
  (with_reducible refine hl2.mono ?_)
  rintro e w3 ⟨lv, rfl, hrow, hB3⟩
  have d5 := cell_later c5 hB3
  rw [← HLL.out] at hrow
  obtain ⟨lp, lcap, lg, lo, hlv, hlp3, hlc3⟩ := row_ints hrow
  rw [natL_len] at hlv
  subst hlv
  have HB3 := hidden (HB2.out.trans (hB3.mono HB2.out.size))
  have HLP3 := hidden hlp3
  have HLC3 := hidden hlc3
  have hl3 : ls.length ≤ 3 := by rw [HLL.out]; exact hl
  clear hl2 hrow hB3 hlp3 hlc3 HB2 c5
  go_wp2_with fail
  go_loop [7, 15] (fun pv i => ∃ k : Nat, k ≤ ls.length ∧ i = .int .i64 k ∧ pv = .int .i64 (hornL (ls.take k) (l.take k) : Nat)) (fun _ i => ls.length - (intOf i).toNat)
  case atStart => exact ⟨0, Nat.zero_le _, rfl, rfl⟩
  case round =>
    obtain ⟨k, hk, rfl, rfl⟩ := hrel
    by_cases hlt : k < ls.length
    · have hll := HLen.out
      have hx : ls[k]? = some ls[k] := List.getElem?_eq_getElem hlt
      have hx6 := HLP.out _ (List.getElem_mem hlt)
      generalize ls[k] = x at hx hx6
      have hlt2 : k < l.length := by omega
      have hy : l[k]? = some l[k] := List.getElem?_eq_getElem hlt2
      generalize l[k] = y at hy
      obtain ⟨rfl, hg⟩ := HLP3.out (fun h => by rw [← List.length_eq_zero_iff, natL_len] at h; omega)
      obtain ⟨rfl, hgt⟩ := HPT.out (fun h => by rw [← List.length_eq_zero_iff, natL_len] at h; omega)
      have ci : w3.cell? ⟨lg, lo + k, none⟩ = some (.int .i64 (x : Int)) := HLC3.out k _ (natL_get hx)
      have cj : w3.cell? ⟨gt, ot + k, none⟩ = some (.int .i64 (y : Int)) := (HB3.out.cell (p := ⟨gt, ot + k, none⟩) hgt).trans (HCT.out k _ (natL_get hy))
      have hkz : (k : Int) < (ls.length : Int) := by omega
      have hkz2 : (k : Int) < (l.length : Int) := by omega
      have hpk1 := horn_lt (HIN.out.take (k + 1))
      have hpp : prodL (ls.take (k + 1)) ≤ 216 := prod_le (by rw [List.length_take]; omega) (fun n hn => HLP.out n (List.mem_of_mem_take hn))
      have HS : Hid (hornL (ls.take (k + 1)) (l.take (k + 1)) = hornL (ls.take k) (l.take k) * x + y) := by
        show _ = _
        rw [take_step hx, take_step hy, horn_snoc _ _ _ _ (by rw [List.length_take, List.length_take]; omega)]
      rw [HS.out] at hpk1
      have hle : hornL (ls.take k) (l.take k) * x + y ≤ 216 := by omega
      have hm : ((hornL (ls.take k) (l.take k) : Nat) : Int) * (x : Int) = ((hornL (ls.take k) (l.take k) * x : Nat) : Int) := by rw [Int.natCast_mul]
      have HM := hidden hm
      have hm1 : ((hornL (ls.take k) (l.take k) : Nat) : Int) * (x : Int) + (y : Int) ≤ 216 := by rw [hm]; omega
      have hm2 : 0 ≤ ((hornL (ls.take k) (l.take k) : Nat) : Int) * (x : Int) := by rw [hm]; omega
      have hm3 : ((hornL (ls.take k) (l.take k) : Nat) : Int) * (x : Int) ≤ 216 := by rw [hm]; omega
      generalize hornL (ls.take k) (l.take k) = P at *
      clear hm hx hy hle hpk1 hpp hll
      go_wp2_with fail
      go_round
      case rel => exact ⟨k + 1, hlt, rfl, by rw [HS.out, Int.natCast_add, ← HM.out]⟩
      case measure => simp [intOf]; omega
    · obtain rfl : k = ls.length := by omega
      have hkz : ¬ (ls.length : Int) < (ls.length : Int) := by omega
      have hh := horn_lt HIN.out
      have hpl := HPL.out
      rw [List.take_length, show l.take ls.length = l by rw [HLen.out, List.take_length]]
      have hsum1 : (hornL ls l : Int) ≤ 216 := by omega
      obtain ⟨P, hP⟩ : ∃ P, hornL ls l = P := ⟨_, rfl⟩
      rw [hP] at hsum1 ⊢
      have HP := hidden hP
      clear hlt hh hpl hP
      go_wp2_with fail
      go_ret
      exact ⟨by rw [HP.out]; rfl, HB3.out⟩

end Go.Proofs.YtfmoophjdgejeaaGreatDoor
