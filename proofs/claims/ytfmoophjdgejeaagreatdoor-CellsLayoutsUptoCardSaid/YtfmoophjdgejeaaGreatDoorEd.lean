import Derived.Test.YtfmoophjdgejeaaGreatDoorEc
/-
  The reference's Valid.
-/
namespace Go.Proofs.YtfmoophjdgejeaaGreatDoor
open Go.RowKit Go.Shelf Go.Lib
attribute [local go_sem] Oper.semAt_some

theorem range_iff (t : Tab) : rangeB t = true ↔ 0 ≤ t.kind ∧ t.kind ≤ 5 ∧ t.lo ≤ t.hi ∧ -9999 ≤ t.lo ∧ t.hi ≤ 9999 ∧ ((t.kind = 0 ∨ t.kind = 2 ∨ t.kind = 3) → t.lo = 0 ∧ t.hi = 1) := by
  unfold rangeB
  split
  · rw [Bool.and_eq_true, beq_iff_eq, beq_iff_eq]; omega
  · split
    · simp only [Bool.and_eq_true, decide_eq_true_eq]; omega
    · constructor
      · intro h; cases h
      · intro h; omega

theorem first_bound {α : Type} {p : α → Bool} : ∀ {l : List α} {i k : Nat} {x : α}, l[i]? = some x → p x = true → firstAt p l k ≤ ((k + i : Nat) : Int)
  | [], _, _, _, h, _ => by simp at h
  | a :: l, 0, k, x, h, hp => by
    simp at h
    subst h
    rw [firstAt, if_pos hp]; simp
  | a :: l, i + 1, k, x, h, hp => by
    have := first_bound (l := l) (i := i) (k := k + 1) (by simpa using h) hp
    rw [firstAt]
    split <;> omega

/-- What a table must be, as the reference asks. -/
theorem goV_ask {ss : List Int} {ts : List Tab} {k A B : Nat} {t : Tab} {r : Bool} (hsd : soundB ss = true) (hx : ts[k]? = some t) (hno : ∀ i u, i < k → ts[i]? = some u → u.name ≠ t.name) (h : goV ss ts (ts.drop k) k A B = r) :
    (r = true → nameB t.name = true ∧ cntB ss t.cols ≠ 0 ∧ 0 ≤ t.kind ∧ t.kind ≤ 5 ∧ t.lo ≤ t.hi ∧ -9999 ≤ t.lo ∧ t.hi ≤ 9999 ∧ ((t.kind = 0 ∨ t.kind = 2 ∨ t.kind = 3) → t.lo = 0 ∧ t.hi = 1) ∧ t.first = (if strictB t.kind = true then (A : Int) else B)) ∧
    (nameB t.name = true → cntB ss t.cols ≠ 0 → (0 ≤ t.kind ∧ t.kind ≤ 5 ∧ t.lo ≤ t.hi ∧ -9999 ≤ t.lo ∧ t.hi ≤ 9999 ∧ ((t.kind = 0 ∨ t.kind = 2 ∨ t.kind = 3) → t.lo = 0 ∧ t.hi = 1)) → t.first = (if strictB t.kind = true then (A : Int) else B) →
      goV ss ts (ts.drop (k + 1)) (k + 1) (if strictB t.kind = true then A + cntB ss t.cols else A) (if strictB t.kind = true then B else B + cntB ss t.cols) = r) := by
  rw [goV_drop hx] at h
  have hnm : nameOkB ts k t = nameB t.name := by
    unfold nameOkB
    have : tableN ts t.name = (k : Int) := by
      unfold tableN
      rw [first_at (i := k) hx (decide_eq_true rfl) (fun j y hj hy => decide_eq_false (hno j y hj hy)), Nat.zero_add]
    rw [decide_eq_true this, Bool.true_and]
  rw [hnm] at h
  have hcn : cntB ss t.cols ≠ 0 ↔ (t.cols.all (colB ss.length) && decide (t.cols.length ≤ 3)) = true := by
    rw [Bool.and_eq_true, decide_eq_true_eq]
    unfold cntB
    constructor
    · intro h1
      by_cases h2 : t.cols.length ≤ 3 ∧ soundB ss = true ∧ t.cols.all (colB ss.length) = true
      · exact ⟨h2.2.2, h2.1⟩
      · rw [if_neg h2] at h1; exact absurd rfl h1
    · rintro ⟨h1, h2⟩
      rw [if_pos ⟨h2, hsd, h1⟩]
      have := prod_pos (ss := lensL ss t.cols) (fun n hn => (lens_pos hsd h1 n hn).1)
      omega
  have har : cntB ss t.cols ≠ 0 → areaN ss t = cntB ss t.cols := fun h1 => by
    have h2 := hcn.1 h1
    rw [Bool.and_eq_true, decide_eq_true_eq] at h2
    unfold areaN cntB
    rw [if_pos ⟨h2.2, hsd, h2.1⟩]
  constructor
  · intro hr
    rw [hr] at h
    unfold tabOkB at h
    obtain ⟨h12, h3⟩ := (Bool.and_eq_true _ _).mp h
    obtain ⟨h1, h2⟩ := (Bool.and_eq_true _ _).mp h12
    obtain ⟨h3, h4⟩ := (Bool.and_eq_true _ _).mp h3
    obtain ⟨h4, _⟩ := (Bool.and_eq_true _ _).mp h4
    have h5 := (range_iff t).1 h2
    exact ⟨h3, hcn.2 h1, h5.1, h5.2.1, h5.2.2.1, h5.2.2.2.1, h5.2.2.2.2.1, h5.2.2.2.2.2, eq_of_beq h4⟩
  · intro h1 h2 h3 h4
    rw [← har h2]
    unfold tabOkB at h
    rw [hcn.1 h2, h1, (range_iff t).2 h3, h4] at h
    simpa using h

theorem cnt_le (ss cs : List Int) : cntB ss cs ≤ 216 := by
  unfold cntB
  split
  · rename_i h
    exact prod_le (by rw [lens_len]; exact h.1) (fun n hn => (lens_pos h.2.1 h.2.2 n hn).2)
  · omega

set_option maxRecDepth 100000 in
set_option maxHeartbeats 12800000 in
theorem refValid_any (ss : List Int) (ts : List Tab) (sv tv : Value) (w : World) (hs : IntsV w sv ss) (ht : TabsV w tv ts) (hl : ss.length ≤ 1048576) (hlt : ts.length ≤ 1048576) (hsm : ∀ t ∈ ts, t.name.size ≤ 4096 ∧ t.cols.length ≤ 1048576) :
    Calls Tryz.prog 14 #[sv, tv] w fun e w' => e = .returned (.bool (validB ss ts)) ∧ Below w.heap.size w w' := by
  have hsn := refSound_any ss sv w hs hl
  have hs2 := hs
  obtain ⟨p, cap, g, o, rfl, _, _⟩ := hs
  obtain ⟨q, tcap, tg, to, ks, rfl, hqp, hat⟩ := ht
  obtain ⟨r0, hr0⟩ : ∃ r, validB ss ts = r := ⟨_, rfl⟩
  rw [hr0]
  have HR0 := hidden hr0
  clear hr0
  by_cases h4 : 4 < ss.length
  · have h4z : (4 : Int) < (ss.length : Int) := by omega
    have HF : Hid (r0 = false) := by show _ = _; rw [← HR0.out]; unfold validB; rw [decide_eq_false (by omega)]; rfl
    clear hsn hs2 hqp hat hl hlt hsm h4
    go_enter Tryz.func14, Tryz.ntmps14
    go_wp2_with fail
    go_ret
    exact ⟨by rw [HF.out]; rfl, Below.refl _ _⟩
  · have h4z : ¬ (4 : Int) < (ss.length : Int) := by omega
    have hd4 : decide (ss.length ≤ 4) = true := decide_eq_true (by omega)
    obtain ⟨sd, hsd⟩ : ∃ sd, soundB ss = sd := ⟨_, rfl⟩
    rw [hsd] at hsn
    cases sd with
    | false =>
      have HF : Hid (r0 = false) := by show _ = _; rw [← HR0.out]; unfold validB; rw [hsd]; simp
      clear hs2 hqp hat hl hlt hsm h4 hd4 hsd
      go_enter Tryz.func14, Tryz.ntmps14
      go_wp2_with fail
      (with_reducible refine hsn.mono ?_)
      rintro e w1 ⟨rfl, hw1⟩
      rw [hw1]
      clear hw1 hsn
      go_wp2_with fail
      go_ret
      exact ⟨by rw [HF.out]; rfl, Below.refl _ _⟩
    | true =>
      by_cases h12 : 12 < ts.length
      · have h12z : (12 : Int) < (ts.length : Int) := by omega
        have HF : Hid (r0 = false) := by show _ = _; rw [← HR0.out]; unfold validB; rw [decide_eq_false (show ¬ ts.length ≤ 12 by omega)]; simp
        clear hs2 hqp hat hl hlt hsm h4 hd4 hsd h12
        go_enter Tryz.func14, Tryz.ntmps14
        go_wp2_with fail
        (with_reducible refine hsn.mono ?_)
        rintro e w1 ⟨rfl, hw1⟩
        rw [hw1]
        clear hw1 hsn
        go_wp2_with fail
        go_ret
        exact ⟨by rw [HF.out]; rfl, Below.refl _ _⟩
      · have h12z : ¬ (12 : Int) < (ts.length : Int) := by omega
        have HG : Hid (goV ss ts ts 0 0 0 = r0) := by
          show _ = _
          rw [← HR0.out]; unfold validB; rw [hd4, hsd, decide_eq_true (show ts.length ≤ 12 by omega)]; simp
        have H12 : Hid (ts.length ≤ 12) := by show _ ≤ _; omega
        have HSD := hidden hsd
        have HS2 := hidden hs2
        have HQP := hidden hqp
        have HAT := hidden hat
        have HSM := hidden hsm
        have HL := hidden hl
        clear hs2 hqp hat hsm h4 hd4 hsd h12 HR0 hl hlt
        go_enter Tryz.func14, Tryz.ntmps14
        go_wp2_with fail
        (with_reducible refine hsn.mono ?_)
        rintro e w1 ⟨rfl, hw1⟩
        rw [hw1]
        clear hw1 hsn
        go_wp2_with fail
        go_loopw [5, 6, 7] (fun a b i wr => ∃ k A B : Nat, k ≤ ts.length ∧ A ≤ 3000 ∧ B ≤ 3000 ∧ a = .int .i64 (A : Int) ∧ b = .int .i64 (B : Int) ∧ i = .int .i64 k ∧ Hid (A ≤ k * 216 ∧ B ≤ k * 216 ∧ goV ss ts (ts.drop k) k A B = r0 ∧ Below w.heap.size w wr)) (fun _ _ i _ => ts.length - (intOf i).toNat)
        case atStart => exact ⟨0, 0, 0, Nat.zero_le _, by omega, by omega, rfl, rfl, rfl, by omega, by omega, by rw [List.drop_zero]; exact HG.out, Below.refl _ _⟩
        case round =>
          obtain ⟨k, A, B, hk, hA, hB, rfl, rfl, rfl, hh⟩ := hrel
          by_cases hlt : k < ts.length
          · have hx : ts[k]? = some ts[k] := List.getElem?_eq_getElem hlt
            generalize ts[k] = t at hx
            obtain ⟨rfl, hg⟩ := HQP.out (fun h => by rw [h] at hlt; exact absurd hlt (Nat.not_lt_zero _))
            obtain ⟨hta, hci⟩ := HAT.out k t hx
            have hci2 := hci
            obtain ⟨pc, capc, gc, oc, hkv, _, _⟩ := hci
            rw [hkv] at hta hci2
            obtain ⟨hA2, hB2, hgo, hBr⟩ := hh.out
            have hta2 := hta.of_block (hBr.block tg hg)
            have c0 := hta2.c0
            have c1 := hta2.c1
            have c2 := hta2.c2
            have c3 := hta2.c3
            have c4 := hta2.c4
            have c5 := hta2.c5
            have hkz : (k : Int) < (ts.length : Int) := by omega
            have hk12 : k < 12 := Nat.lt_of_lt_of_le hlt H12.out
            obtain ⟨W5, hW5⟩ : ∃ W5, W5 = wr.alloc (.cells #[.string t.name, .int .i64 t.kind, .slice pc t.cols.length capc, .int .i64 t.lo, .int .i64 t.hi, .int .i64 t.first] 44) := ⟨_, rfl⟩
            have hB5 : Below w.heap.size w W5 := by rw [hW5]; exact hBr.alloc hBr.size _
            have d0 : ∀ q', (W5.drewN q').cell? ⟨wr.heap.size, 0, none⟩ = some (.string t.name) := fun q' => by show W5.cell? _ = _; rw [hW5]; simp [go_sem]
            have d1 : W5.cell? ⟨wr.heap.size, 1, none⟩ = some (.int .i64 t.kind) := by rw [hW5]; simp [go_sem]
            have d2 : W5.cell? ⟨wr.heap.size, 2, none⟩ = some (.slice pc t.cols.length capc) := by rw [hW5]; simp [go_sem]
            have d3 : W5.cell? ⟨wr.heap.size, 3, none⟩ = some (.int .i64 t.lo) := by rw [hW5]; simp [go_sem]
            have d4 : W5.cell? ⟨wr.heap.size, 4, none⟩ = some (.int .i64 t.hi) := by rw [hW5]; simp [go_sem]
            have d5 : W5.cell? ⟨wr.heap.size, 5, none⟩ = some (.int .i64 t.first) := by rw [hW5]; simp [go_sem]
            have hz5 : wr.heap.size < W5.heap.size := by rw [hW5]; simp
            have HD : Hid (W5.cell? ⟨wr.heap.size, 0, none⟩ = some (.string t.name) ∧ W5.cell? ⟨wr.heap.size, 1, none⟩ = some (.int .i64 t.kind) ∧ W5.cell? ⟨wr.heap.size, 2, none⟩ = some (.slice pc t.cols.length capc) ∧ W5.cell? ⟨wr.heap.size, 3, none⟩ = some (.int .i64 t.lo) ∧ W5.cell? ⟨wr.heap.size, 4, none⟩ = some (.int .i64 t.hi) ∧ W5.cell? ⟨wr.heap.size, 5, none⟩ = some (.int .i64 t.first) ∧ wr.heap.size < W5.heap.size) := ⟨d0 0, d1, d2, d3, d4, d5, hz5⟩
            have HNU : Hid (∀ u m, ts[m]? = some u → ∀ q', (W5.drewN q').cell? ⟨tg, to + m * 6, none⟩ = some (.string u.name)) := fun u m hu q' => by
              have h1 := (HAT.out m u hu).1.of_block (w' := W5) (hB5.block tg hg)
              exact h1.c0
            have HCV := hidden (hci2.later hB5)
            have HX := hidden hx
            have HLT := hidden hlt
            have HB5 := hidden hB5
            have HGO := hidden hgo
            have HA2 := hidden hA2
            have HB2 := hidden hB2
            clear hta hta2 hci2 hkv hBr hh hlt d1 d2 d3 d4 d5 hz5 hB5 hgo hA2 hB2 hx
            go_wp2_with fail
            rw [← hW5]
            clear hW5 c0 c1 c2 c3 c4 c5
            go_loopw [9] (fun j wr2 => ∃ m q : Nat, m ≤ k ∧ j = .int .i64 m ∧ wr2 = W5.drewN q ∧ Hid (∀ i u, i < m → ts[i]? = some u → u.name ≠ t.name)) (fun j _ => k - (intOf j).toNat)
            case atStart => exact ⟨0, 0, Nat.zero_le _, rfl, rfl, fun i u hi => absurd hi (Nat.not_lt_zero _)⟩
            case round =>
              obtain ⟨m, qn, hm, rfl, rfl, hno⟩ := hrel
              by_cases hmk : m < k
              · have hu : ts[m]? = some (ts[m]'(Nat.lt_trans hmk HLT.out)) := List.getElem?_eq_getElem _
                generalize ts[m]'(Nat.lt_trans hmk HLT.out) = u at hu
                have e0 := HNU.out u m hu
                have hmz : (m : Int) < (ts.length : Int) := by omega
                have hmkz : (m : Int) < (k : Int) := by omega
                have HU := hidden hu
                have HMK := hidden hmk
                clear hu hmk
                by_cases he : u.name = t.name
                · have HF : Hid (r0 = false) := by
                    show _ = _
                    have h1 := HGO.out
                    rw [goV_drop HX.out] at h1
                    have h2 : nameOkB ts k t = false := by
                      unfold nameOkB
                      have h3 := first_bound (p := fun v : Tab => decide (v.name = t.name)) (k := 0) HU.out (decide_eq_true he)
                      rw [decide_eq_false (show ¬ tableN ts t.name = (k : Int) from fun h => by unfold tableN at h; rw [h] at h3; have := HMK.out; omega)]
                      rfl
                    rw [h2] at h1
                    rw [← h1]; simp
                  have HB8 := hidden (below_drewN HB5.out qn)
                  rw [he] at e0
                  clear he
                  go_wp2
                  go_quiet (fail)
                  go_wp2
                  go_ret
                  exact ⟨by rw [HF.out]; rfl, below_drewN HB8.out _⟩
                · have e1 : (u.name.toList == t.name.toList) = false := str_ne he
                  have HNO : Hid (∀ i u, i < m + 1 → ts[i]? = some u → u.name ≠ t.name) := fun i v hi hv => by
                    rcases Nat.lt_or_eq_of_le (Nat.le_of_lt_succ hi) with h' | rfl
                    · exact hno.out i v h' hv
                    · rw [HU.out] at hv
                      rw [← Option.some.inj hv]; exact he
                  clear he hno
                  go_wp2
                  go_quiet (fail)
                  go_wp2
                  go_roundw
                  case rel => exact ⟨m + 1, _, HMK.out, by go_num, rfl, HNO.out⟩
                  case measure => simp [intOf]; have := HMK.out; omega
              · obtain rfl : m = k := by omega
                have hmkz : ¬ (m : Int) < (m : Int) := by omega
                obtain ⟨HASK, HSTEP⟩ := goV_ask HSD.out HX.out hno.out HGO.out
                have hnu := refNumber_any ss t.cols _ _ (W5.drewN qn) (HS2.out.later (below_drewN HB5.out qn)) (HCV.out.drewN qn) HL.out ((HSM.out t (List.mem_of_getElem? HX.out)).2)
                have hnm := fun w' => refName_any t.name (HSM.out t (List.mem_of_getElem? HX.out)).1 w'
                have hn216 := cnt_le ss t.cols
                obtain ⟨n, hn⟩ : ∃ n, cntB ss t.cols = n := ⟨_, rfl⟩
                obtain ⟨nb, hnb⟩ : ∃ nb, nameB t.name = nb := ⟨_, rfl⟩
                rw [hn] at HASK HSTEP hnu hn216
                rw [hnb] at HASK HSTEP hnm
                have HASK := hidden HASK
                have HSTEP := hidden HSTEP
                have HB6 := hidden (below_drewN HB5.out qn)
                have d2 : (W5.drewN qn).cell? ⟨wr.heap.size, 2, none⟩ = some (.slice pc t.cols.length capc) := HD.out.2.2.1
                have d0q := d0 qn
                have HKEEP : Hid (∀ w', Below (W5.drewN qn).heap.size (W5.drewN qn) w' → w'.cell? ⟨wr.heap.size, 1, none⟩ = some (.int .i64 t.kind) ∧ w'.cell? ⟨wr.heap.size, 3, none⟩ = some (.int .i64 t.lo) ∧ w'.cell? ⟨wr.heap.size, 4, none⟩ = some (.int .i64 t.hi) ∧ w'.cell? ⟨wr.heap.size, 5, none⟩ = some (.int .i64 t.first)) := fun w' hb => by
                  obtain ⟨_, e1, _, e3, e4, e5, e6⟩ := HD.out
                  exact ⟨(hb.cell (p := ⟨wr.heap.size, 1, none⟩) e6).trans e1, (hb.cell (p := ⟨wr.heap.size, 3, none⟩) e6).trans e3, (hb.cell (p := ⟨wr.heap.size, 4, none⟩) e6).trans e4, (hb.cell (p := ⟨wr.heap.size, 5, none⟩) e6).trans e5⟩
                clear hno hn hnb d0
                generalize W5.drewN qn = W6 at *
                go_wp2_with fail
                (with_reducible refine hnu.mono ?_)
                rintro e w6 ⟨rfl, hw6⟩
                rw [hw6]
                clear hw6 hnu
                go_wp2_with fail
                (with_reducible refine (hnm _).mono ?_)
                rintro e w7 ⟨rfl, hB7⟩
                obtain ⟨k1, k3, k4, k5⟩ := HKEEP.out w7 hB7
                have HB7 := hidden (bt HB6.out hB7)
                clear hB7 hnm HKEEP d2 d0q
                obtain ⟨nm, kd, cols, lo, hi, fi⟩ := t
                dsimp only at *
                cases nb with
                | false =>
                  have HF : Hid (r0 = false) := Bool.eq_false_iff.2 (fun h => by have := (HASK.out h).1; cases this)
                  go_wp2_with fail
                  go_ret
                  exact ⟨by rw [HF.out]; rfl, HB7.out⟩
                | true =>
                  by_cases a1 : kd < 0
                  · have HF : Hid (r0 = false) := Bool.eq_false_iff.2 (fun h => by have := HASK.out h; omega)
                    go_wp2_with fail
                    go_ret
                    exact ⟨by rw [HF.out]; rfl, HB7.out⟩
                  by_cases a2 : 5 < kd
                  · have HF : Hid (r0 = false) := Bool.eq_false_iff.2 (fun h => by have := HASK.out h; omega)
                    go_wp2_with fail
                    go_ret
                    exact ⟨by rw [HF.out]; rfl, HB7.out⟩
                  by_cases a3 : n = 0
                  · have HF : Hid (r0 = false) := Bool.eq_false_iff.2 (fun h => (HASK.out h).2.1 a3)
                    subst a3
                    go_wp2_with fail
                    go_ret
                    exact ⟨by rw [HF.out]; rfl, HB7.out⟩
                  have a3b : ((n : Int) == 0) = false := by rw [beq_eq_false_iff_ne]; omega
                  by_cases a4 : hi < lo
                  · have HF : Hid (r0 = false) := Bool.eq_false_iff.2 (fun h => by have := HASK.out h; omega)
                    clear a3
                    go_wp2_with fail
                    go_ret
                    exact ⟨by rw [HF.out]; rfl, HB7.out⟩
                  by_cases a5 : lo < -9999
                  · have HF : Hid (r0 = false) := Bool.eq_false_iff.2 (fun h => by have := HASK.out h; omega)
                    clear a3
                    go_wp2_with fail
                    go_ret
                    exact ⟨by rw [HF.out]; rfl, HB7.out⟩
                  by_cases a6 : 9999 < hi
                  · have HF : Hid (r0 = false) := Bool.eq_false_iff.2 (fun h => by have := HASK.out h; omega)
                    clear a3
                    go_wp2_with fail
                    go_ret
                    exact ⟨by rw [HF.out]; rfl, HB7.out⟩
                  have hkd : (kd = 0 ∧ (kd == 0) = true) ∨ (kd = 2 ∧ (kd == 0) = false ∧ (kd == 2) = true) ∨ (kd = 3 ∧ (kd == 0) = false ∧ (kd == 2) = false ∧ (kd == 3) = true) ∨ ((kd ≠ 0 ∧ kd ≠ 2 ∧ kd ≠ 3) ∧ (kd == 0) = false ∧ (kd == 2) = false ∧ (kd == 3) = false) := by
                    simp only [beq_iff_eq, beq_eq_false_iff_ne]
                    omega
                  have HST := hidden (HSTEP.out rfl a3)
                  have hnpos : 1 ≤ n := by omega
                  have hst := fun w' => refStrict_any kd w'
                  have HA2' := HA2.out
                  have HB2' := HB2.out
                  have hAn : A + n ≤ 3000 := by omega
                  have hBn : B + n ≤ 3000 := by omega
                  have HAN : Hid (A + n ≤ (m + 1) * 216 ∧ B + n ≤ (m + 1) * 216 ∧ A ≤ (m + 1) * 216 ∧ B ≤ (m + 1) * 216) := by
                    refine ⟨?_, ?_, ?_, ?_⟩ <;> omega
                  clear HA2' HB2' a3
                  have HSP : Hid ((kd = 0 ∨ kd = 2 ∨ kd = 3) → ¬ (lo = 0 ∧ hi = 1) → r0 = false) := fun h1 h2 => Bool.eq_false_iff.2 (fun h => h2 ((HASK.out h).2.2.2.2.2.2.2.1 h1))
                  have HFI : Hid (fi ≠ (if strictB kd = true then (A : Int) else B) → r0 = false) := fun h1 => Bool.eq_false_iff.2 (fun h => h1 (HASK.out h).2.2.2.2.2.2.2.2)
                  have HNEXT : Hid ((¬ (kd = 0 ∨ kd = 2 ∨ kd = 3) ∨ (lo = 0 ∧ hi = 1)) → fi = (if strictB kd = true then (A : Int) else B) → goV ss ts (ts.drop (m + 1)) (m + 1) (if strictB kd = true then A + n else A) (if strictB kd = true then B else B + n) = r0) := fun h1 h2 =>
                    HST.out ⟨by omega, by omega, by omega, by omega, by omega, fun h3 => by rcases h1 with h1 | h1; exact absurd h3 h1; exact h1⟩ h2
                  clear HST HASK HSTEP
                  have hlo : (lo = 0 ∧ hi = 1) ∨ (lo ≠ 0) ∨ (lo = 0 ∧ hi ≠ 1) := by omega
                  have hspl : ((kd = 0 ∨ kd = 2 ∨ kd = 3) ∧ ¬ (lo = 0 ∧ hi = 1)) ∨ (¬ (kd = 0 ∨ kd = 2 ∨ kd = 3) ∨ (lo = 0 ∧ hi = 1)) := by omega
                  rcases hspl with ⟨hs1, hs2⟩ | hok
                  · have HF := hidden (HSP.out hs1 hs2)
                    clear HSP HFI HNEXT hst HAN hAn hBn
                    have hlo2 : ((lo == 0) = false ∧ (lo != 0) = true) ∨ ((lo == 0) = true ∧ (lo != 0) = false ∧ (hi == 1) = false ∧ (hi != 1) = true) := by
                      simp only [beq_iff_eq, beq_eq_false_iff_ne, bne_iff_ne, bne_eq_false_iff_eq]
                      omega
                    rcases hkd with ⟨f1, f2⟩ | ⟨f1, f2, f3⟩ | ⟨f1, f2, f3, f4⟩ | ⟨f1, _⟩
                    rotate_right
                    · omega
                    all_goals
                      rcases hlo2 with ⟨l1, l2⟩ | ⟨l1, l2, l3, l4⟩
                      all_goals
                        clear f1 hs1 hs2 hlo
                        go_wp2_with fail
                        go_ret
                        exact ⟨by rw [HF.out]; rfl, HB7.out⟩
                  · have HOK := hidden hok
                    have hlo2 : (kd ≠ 0 ∧ kd ≠ 2 ∧ kd ≠ 3) ∨ ((lo == 0) = true ∧ (lo != 0) = false ∧ (hi == 1) = true ∧ (hi != 1) = false) := by
                      simp only [beq_iff_eq, bne_eq_false_iff_eq]
                      omega
                    have hkd2 : ((kd == 0) = true ∧ (lo == 0) = true ∧ (lo != 0) = false ∧ (hi == 1) = true ∧ (hi != 1) = false) ∨ ((kd == 0) = false ∧ (kd == 2) = true ∧ (lo == 0) = true ∧ (lo != 0) = false ∧ (hi == 1) = true ∧ (hi != 1) = false) ∨
                        ((kd == 0) = false ∧ (kd == 2) = false ∧ (kd == 3) = true ∧ (lo == 0) = true ∧ (lo != 0) = false ∧ (hi == 1) = true ∧ (hi != 1) = false) ∨ ((kd == 0) = false ∧ (kd == 2) = false ∧ (kd == 3) = false) := by
                      rcases hkd with ⟨f1, f2⟩ | ⟨f1, f2, f3⟩ | ⟨f1, f2, f3, f4⟩ | ⟨f1, f2⟩
                      · rcases hlo2 with h | h
                        · omega
                        · exact .inl ⟨f2, h⟩
                      · rcases hlo2 with h | h
                        · omega
                        · exact .inr (.inl ⟨f2, f3, h⟩)
                      · rcases hlo2 with h | h
                        · omega
                        · exact .inr (.inr (.inl ⟨f2, f3, f4, h⟩))
                      · exact .inr (.inr (.inr f2))
                    clear hkd hlo2 hlo hok HSP
                    rcases hkd2 with ⟨f1, l1, l2, l3, l4⟩ | ⟨f1, f2, l1, l2, l3, l4⟩ | ⟨f1, f2, f3, l1, l2, l3, l4⟩ | ⟨f1, f2, f3⟩
                    all_goals
                      go_wp2_with fail
                      (with_reducible refine (hst _).mono ?_)
                      rintro e w8 ⟨rfl, hw8⟩
                      rw [hw8]
                      clear hw8
                      cases hsk : strictB kd with
                      | true =>
                        by_cases hfi : fi = (A : Int)
                        · have hgo := HNEXT.out HOK.out (by rw [if_pos hsk]; exact hfi)
                          rw [if_pos hsk, if_pos hsk] at hgo
                          have HGO2 := hidden hgo
                          have b1 : (fi == (A : Int)) = true := by rw [beq_iff_eq]; exact hfi
                          have b2 : (fi != (A : Int)) = false := by rw [bne_eq_false_iff_eq]; exact hfi
                          clear hgo hfi hst hsk
                          go_wp2_with fail
                          go_roundw
                          case rel => exact ⟨m + 1, A + n, B, HLT.out, hAn, by omega, by go_num, rfl, by go_num, HAN.out.1, HAN.out.2.2.2, HGO2.out, HB7.out⟩
                          case measure => simp [intOf]; have := HLT.out; omega
                        · have HF := hidden (HFI.out (by rw [if_pos hsk]; exact hfi))
                          have b1 : (fi == (A : Int)) = false := by rw [beq_eq_false_iff_ne]; exact hfi
                          have b2 : (fi != (A : Int)) = true := by rw [bne_iff_ne]; exact hfi
                          clear hfi hst hsk
                          go_wp2_with fail
                          go_ret
                          exact ⟨by rw [HF.out]; rfl, HB7.out⟩
                      | false =>
                        by_cases hfi : fi = (B : Int)
                        · have hgo := HNEXT.out HOK.out (by rw [if_neg (by rw [hsk]; simp)]; exact hfi)
                          rw [if_neg (by rw [hsk]; simp), if_neg (by rw [hsk]; simp)] at hgo
                          have HGO2 := hidden hgo
                          have b1 : (fi == (B : Int)) = true := by rw [beq_iff_eq]; exact hfi
                          have b2 : (fi != (B : Int)) = false := by rw [bne_eq_false_iff_eq]; exact hfi
                          clear hgo hfi hst hsk
                          go_wp2_with fail
                          go_roundw
                          case rel => exact ⟨m + 1, A, B + n, HLT.out, by omega, hBn, rfl, by go_num, by go_num, HAN.out.2.2.1, HAN.out.2.1, HGO2.out, HB7.out⟩
                          case measure => simp [intOf]; have := HLT.out; omega
                        · have HF := hidden (HFI.out (by rw [if_neg (by rw [hsk]; simp)]; exact hfi))
                          have b1 : (fi == (B : Int)) = false := by rw [beq_eq_false_iff_ne]; exact hfi
                          have b2 : (fi != (B : Int)) = true := by rw [bne_iff_ne]; exact hfi
                          clear hfi hst hsk
                          go_wp2_with fail
                          go_ret
                          exact ⟨by rw [HF.out]; rfl, HB7.out⟩
          · obtain rfl : k = ts.length := by omega
            have hkz : ¬ (ts.length : Int) < (ts.length : Int) := by omega
            obtain ⟨_, _, hgo, hBr⟩ := hh.out
            rw [List.drop_length] at hgo
            have HE : Hid ((decide (A ≤ 128) && decide (B ≤ 64)) = r0) := hgo
            have HBr := hidden hBr
            clear hlt hh hgo hBr
            by_cases h1 : A ≤ 128
            · have h1z : (A : Int) ≤ 128 := by omega
              by_cases h2 : B ≤ 64
              · have h2z : (B : Int) ≤ 64 := by omega
                have HF : Hid (r0 = true) := by show _ = _; rw [← HE.out, decide_eq_true h1, decide_eq_true h2]; rfl
                clear h1 h2
                go_wp2_with fail
                go_ret
                exact ⟨by rw [HF.out]; (first | rfl | (simp; done) | (simp; omega)), HBr.out⟩
              · have h2z : ¬ (B : Int) ≤ 64 := by omega
                have HF : Hid (r0 = false) := by show _ = _; rw [← HE.out, decide_eq_false h2]; simp
                clear h1 h2
                go_wp2_with fail
                go_ret
                exact ⟨by rw [HF.out]; (first | rfl | (simp; done) | (simp; omega)), HBr.out⟩
            · have h1z : ¬ (A : Int) ≤ 128 := by omega
              have HF : Hid (r0 = false) := by show _ = _; rw [← HE.out, decide_eq_false h1]; rfl
              clear h1
              go_wp2_with fail
              go_ret
              exact ⟨by rw [HF.out]; (first | rfl | (simp; done) | (simp; omega)), HBr.out⟩

end Go.Proofs.YtfmoophjdgejeaaGreatDoor
