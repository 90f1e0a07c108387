import Derived.Test.YtfmoophjdgejeaaGreatDoorCt
/-
  The numbers of a call's text.
-/
namespace Go.Proofs.YtfmoophjdgejeaaGreatDoor
open Go.RowKit Go.Shelf
attribute [local go_sem] Oper.semAt_some

theorem kindW_nil : kindW ⟨#[]⟩ = 0 := by
  unfold kindW
  rw [if_neg (by intro h; exact absurd h.1 (by decide))]
  rfl
theorem numOf_nil : numOf ⟨#[]⟩ = none := by unfold numOf; rw [kindW_nil]; rfl

theorem words_size (s x : ByteArray) (h : x ∈ wordsB s) : x.size ≤ s.size := by
  unfold wordsB wordsT at h
  obtain ⟨t, _, rfl⟩ := List.mem_map.1 h
  unfold wordOf
  rw [ByteArray.size_extract]
  omega

abbrev rparS : ByteArray := ⟨#[41]⟩
abbrev lparS : ByteArray := ⟨#[40]⟩
abbrev commaS : ByteArray := ⟨#[44]⟩

/-- The arguments up to a closing bracket, and what is left. -/
def argsL : Bool → List ByteArray → Option (List Int × List ByteArray)
  | _, [] => none
  | true, x :: ws => if x = rparS then some ([], ws) else match numOf x with
    | some z => (argsL false ws).map fun r => (z :: r.1, r.2)
    | none => none
  | false, [x] => if x = rparS then some ([], []) else none
  | false, x :: y :: ws => if x = rparS then some ([], y :: ws) else if x = commaS then (match numOf y with
    | some z => (argsL false ws).map fun r => (z :: r.1, r.2)
    | none => none) else none

/-- The name and the numbers of a text. -/
def callOf (ws : List ByteArray) : Option (ByteArray × List Int) :=
  if kindW (ws.headD ⟨#[]⟩) = 1 ∧ ws.tail.head? = some lparS then
    match argsL true ws.tail.tail with
    | some r => if r.2 = [] then some (ws.headD ⟨#[]⟩, r.1) else none
    | none => none
  else none

/-- The name and the numbers of a call at the front, and what is left. -/
def callL (ws : List ByteArray) : Option (ByteArray × List Int × List ByteArray) :=
  if kindW (ws.headD ⟨#[]⟩) = 1 ∧ ws.tail.head? = some lparS then
    match argsL true ws.tail.tail with
    | some r => some (ws.headD ⟨#[]⟩, r.1, r.2)
    | none => none
  else none

theorem callOf_some {ws : List ByteArray} {n : ByteArray} {zs : List Int} {us : List ByteArray} (h : callL ws = some (n, zs, us)) : callOf ws = if us = [] then some (n, zs) else none := by
  unfold callL at h
  unfold callOf
  split at h
  · rename_i hc
    rw [if_pos hc]
    cases ha : argsL true ws.tail.tail with
    | none => rw [ha] at h; cases h
    | some r =>
      rw [ha] at h
      injection h with h
      injection h with h1 h2
      injection h2 with h2 h3
      subst h1 h2 h3
      rfl
  · cases h
theorem callOf_none {ws : List ByteArray} (h : callL ws = none) : callOf ws = none := by
  unfold callL at h
  unfold callOf
  split at h
  · rename_i hc
    rw [if_pos hc]
    cases ha : argsL true ws.tail.tail with
    | none => rfl
    | some r => rw [ha] at h; cases h
  · rename_i hc
    rw [if_neg hc]

theorem args_close {f : Bool} {us : List ByteArray} (h : us.head? = some rparS) : argsL f us = some ([], us.tail) := by
  cases us with
  | nil => cases h
  | cons x us =>
    obtain rfl : x = rparS := by simpa using h
    cases f with
    | true => simp [argsL]
    | false => cases us <;> simp [argsL]

theorem args_first_some {us : List ByteArray} {z : Int} (h : ¬ us.head? = some rparS) (hz : numOf (us.headD ⟨#[]⟩) = some z) : argsL true us = (argsL false us.tail).map fun r => (z :: r.1, r.2) := by
  cases us with
  | nil => rw [List.headD_nil, numOf_nil] at hz; cases hz
  | cons x us =>
    have hx : ¬ x = rparS := by simpa using h
    rw [List.headD_cons] at hz
    simp [argsL, hx, hz]

theorem args_first_none {us : List ByteArray} (h : ¬ us.head? = some rparS) (hz : numOf (us.headD ⟨#[]⟩) = none) : argsL true us = none := by
  cases us with
  | nil => rfl
  | cons x us =>
    have hx : ¬ x = rparS := by simpa using h
    rw [List.headD_cons] at hz
    simp [argsL, hx, hz]

theorem args_no_comma {us : List ByteArray} (h : ¬ us.head? = some rparS) (h2 : ¬ us.head? = some commaS) : argsL false us = none := by
  match us with
  | [] => rfl
  | [x] => have hx : ¬ x = rparS := by simpa using h
           simp [argsL, hx]
  | x :: y :: us =>
    have hx : ¬ x = rparS := by simpa using h
    have hy : ¬ x = commaS := by simpa using h2
    simp [argsL, hx, hy]

theorem args_next_some {us : List ByteArray} {z : Int} (h : ¬ us.head? = some rparS) (h2 : us.head? = some commaS) (hz : numOf (us.tail.headD ⟨#[]⟩) = some z) : argsL false us = (argsL false us.tail.tail).map fun r => (z :: r.1, r.2) := by
  match us with
  | [] => cases h2
  | [x] => rw [List.tail_cons, List.headD_nil, numOf_nil] at hz; cases hz
  | x :: y :: us =>
    have hx : ¬ x = rparS := by simpa using h
    have hy : x = commaS := by simpa using h2
    rw [List.tail_cons, List.headD_cons] at hz
    rw [argsL, if_neg hx, if_pos hy, hz]
    rfl

theorem args_next_none {us : List ByteArray} (h : ¬ us.head? = some rparS) (h2 : us.head? = some commaS) (hz : numOf (us.tail.headD ⟨#[]⟩) = none) : argsL false us = none := by
  match us with
  | [] => cases h2
  | [x] => have hx : ¬ x = rparS := by simpa using h
           simp [argsL, hx]
  | x :: y :: us =>
    have hx : ¬ x = rparS := by simpa using h
    have hy : x = commaS := by simpa using h2
    rw [List.tail_cons, List.headD_cons] at hz
    rw [argsL, if_neg hx, if_pos hy, hz]

def rdLen (w : World) (R : Nat) : Nat := match w.cell? ⟨R, 0, none⟩ with
  | some (.slice _ n _) => n
  | _ => 0
theorem ReadsAt.len {w : World} {R : Nat} {ws : List ByteArray} (h : ReadsAt w R ws) : rdLen w R = ws.length := by
  obtain ⟨p, cap, g, o, h1, _⟩ := h
  unfold rdLen
  rw [h1.cell]

theorem ReadsAt.of_row {w : World} {b : Nat} {v : Value} {ws : List ByteArray} (h : w.ownsRow b 9 1 v ws.length (ws.map Value.string)) : ∃ p cap, v = .slice p ws.length cap ∧ ReadsAt (w.alloc (.cells #[.slice p ws.length cap] 145)) w.heap.size ws := by
  have h0 := h
  obtain ⟨_, ⟨rfl, h1⟩ | ⟨g, cap, cur, rfl, hg, hb, hmc, hcap, _⟩⟩ := h
  · obtain rfl := List.length_eq_zero_iff.1 h1
    exact ⟨none, 0, rfl, none, 0, 0, 0, Boxed.new w _ _, Nat.le_refl _, fun h => absurd rfl h, fun i x h => by simp at h⟩
  · have hgl := (Array.getElem?_eq_some_iff.1 hb).1
    refine ⟨some ⟨g, 0, none⟩, cap, rfl, some ⟨g, 0, none⟩, cap, g, 0, Boxed.new w _ _, by omega, fun _ => ⟨rfl, hgl⟩, fun i x hx => ?_⟩
    have hi := (List.getElem?_eq_some_iff.1 hx).1
    rw [World.cell?_alloc_lt _ _ _ hgl, Nat.zero_add, h0.cellAt i (by omega), List.getElem?_map, hx]; rfl

theorem ReadsAt.under {w w' : World} {R : Nat} {ws : List ByteArray} (h : ReadsAt w R ws) (hb : Below (R + 1) w w') : ReadsAt w' R ws := by
  obtain ⟨p, cap, g, o, h1, h2, h3, h4⟩ := h
  refine ⟨p, cap, g, o, (hb.block R (Nat.lt_succ_self R)).trans h1, h2, h3, fun i x hx => ?_⟩
  have hne : ws ≠ [] := fun e => by rw [e] at hx; simp at hx
  exact (hb.cell (p := ⟨g, o + i, none⟩) (by have := (h3 hne).2; show g < _; omega)).trans (h4 i x hx)

def intC (zs : List Int) : List Value := zs.map fun z => .int .i64 z

set_option maxRecDepth 100000 in
set_option maxHeartbeats 12800000 in
theorem call_any (ws : List ByteArray) (R : Nat) (w : World) (hrd : ReadsAt w R ws) (hz2' : w.heap.size = R + 1) (hsz : ∀ x ∈ ws, x.size ≤ 4096) (hwl : ws.length ≤ 10000) (hm : ∀ w', Below R w w' → MaxAt w') :
    Calls Tryz.prog 87 #[.pointer (some ⟨R, 0, none⟩), .func (.func 88) #[.pointer (some ⟨R, 0, none⟩)] #[]] w fun e w' => Below R w w' ∧
      ((∃ n zs us v, callL ws = some (n, zs, us) ∧ e = .returned (.tuple #[.string n, v, .bool true]) ∧ zs.length ≤ 10000 ∧ w'.ownsRow (R + 1) 3 1 v zs.length (intC zs) ∧ ReadsAt w' R us) ∨
        (callL ws = none ∧ e = .returned (.tuple #[.string ⟨#[]⟩, .slice none 0 0, .bool false]))) := by
  obtain ⟨i0, hi, hz0, hz1, hz2⟩ := info_parts infoI
  have HM := hidden hm
  have HSZ := hidden hsz
  have HWL := hidden hwl
  obtain ⟨res, hres⟩ : ∃ r, callL ws = r := ⟨_, rfl⟩
  rw [hres]
  unfold callL at hres
  have HRES := hidden hres
  have hwR : R ≤ R := Nat.le_refl R
  have hnx := rdNext_any ws R w hrd
  have HB2 := hidden (Below.refl R w)
  clear hm hsz hwl hres hrd
  go_enter Tryz.func87, Tryz.ntmps87
  go_wp2_with fail
  (with_reducible refine hnx.mono ?_)
  rintro e w3 ⟨rfl, hr3, ha3⟩
  have hB3 := HB2.out.trans (ha3.below hwR (by omega))
  have hx : (ws.headD ⟨#[]⟩).size ≤ 4096 := by
    cases ws with
    | nil => exact Nat.zero_le _
    | cons x ws => exact HSZ.out x (by simp)
  have hrs := HRES.out
  have hts : ∀ x ∈ ws.tail, x.size ≤ 4096 := fun x h => HSZ.out x (List.mem_of_mem_tail h)
  have htl : ws.tail.length ≤ 10000 := by have := HWL.out; rw [List.length_tail]; omega
  generalize ws.headD ⟨#[]⟩ = nm at *
  generalize ws.tail = us0 at *
  have hki := kind_any nm hx w3 (HM.out _ hB3)
  obtain ⟨kd, hkd⟩ : ∃ kd, kindW nm = kd := ⟨_, rfl⟩
  rw [hkd] at hki hrs
  have HR3 := hidden hr3
  have HB3 := hidden hB3
  have HTS := hidden hts
  have HTL := hidden htl
  have HRS := hidden hrs
  have hz3 := hr3.lt
  clear hr3 ha3 hB3 hts htl hrs hnx hx hkd HRES HSZ HWL HB2 hz2'
  by_cases hk1 : kd = 1
  · subst hk1
    go_wp2_with fail
    (with_reducible refine hki.mono ?_)
    rintro e w4 ⟨rfl, hb4⟩
    have HR4 := hidden (HR3.out.later hb4)
    have HB4 := hidden (HB3.out.trans (hb4.mono (by omega)))
    have hz4 := HR4.out.lt
    have htk := take_any us0 ⟨#[40]⟩ R w4 HR4.out
    clear hb4 hki HR3
    by_cases hlp : us0.head? = some lparS
    · rw [decide_eq_true hlp, if_pos hlp] at htk
      have hrs := HRS.out
      rw [if_pos ⟨trivial, hlp⟩] at hrs
      have hts : ∀ x ∈ us0.tail, x.size ≤ 4096 := fun x h => HTS.out x (List.mem_of_mem_tail h)
      have htl : us0.tail.length ≤ 10000 := by have := HTL.out; rw [List.length_tail]; omega
      generalize us0.tail = us1 at *
      have HRS2 := hidden hrs
      have HTS1 := hidden hts
      have HTL1 := hidden htl
      clear hlp hrs hts htl HRS HTS HTL
      go_wp2_with fail
      (with_reducible refine htk.mono ?_)
      rintro e w5 ⟨rfl, hr5, ha5⟩
      have HB5 := hidden (HB4.out.trans (ha5.below hwR (by omega)))
      have HR5 := hidden hr5
      have hz5 := hr5.lt
      clear hr5 ha5 htk HB4 HR4
      go_wp2_with fail
      obtain ⟨r0, hr0⟩ : ∃ r0, argsL true us1 = r0 := ⟨_, rfl⟩
      have HR0 := hidden hr0
      have hrs := HRS2.out
      rw [hr0] at hrs
      have HRS3 := hidden hrs
      clear hr0 hrs HRS2
      go_loopw [8, 9] (fun out first wr => ∃ (f : Bool) (us : List ByteArray) (zs : List Int), first = .bool f ∧ wr.ownsRow (R + 1) 3 1 out zs.length (intC zs) ∧ Hid (ReadsAt wr R us ∧ Below R w wr ∧ (argsL f us).map (fun r => (zs ++ r.1, r.2)) = r0 ∧ (∀ x ∈ us, x.size ≤ 4096) ∧ zs.length + us.length ≤ 10000 ∧ R + 1 ≤ wr.heap.size)) (fun _ _ wr => rdLen wr R)
      case atStart =>
        refine ⟨true, us1, [], rfl, ⟨rfl, Or.inl ⟨rfl, rfl⟩⟩, HR5.out, HB5.out, ?_, HTS1.out, by simpa using HTL1.out, by omega⟩
        rw [HR0.out]
        cases r0 <;> rfl
      case round =>
        obtain ⟨f, us, zs, rfl, hown, hh⟩ := hrel
        obtain ⟨g1, g2, g3, g4, g5, g6⟩ := hh.out
        have hh2 := hidden g5
        have HG1 := hidden g1
        have htk := take_any us ⟨#[41]⟩ R wr g1
        by_cases h1 : us.head? = some rparS
        · rw [decide_eq_true h1, if_pos h1] at htk
          rw [args_close h1] at g3
          have HOwn := hidden hown
          have G3 := hidden g3
          have hz6 := g1.lt
          have HBr := hidden g2
          clear hown g1 g2 g3 g4 g5 g6 hh h1
          go_wp2_with fail
          (with_reducible refine htk.mono ?_)
          rintro e w6 ⟨rfl, hr6, ha6⟩
          have HO6 := hidden (ha6.row HOwn.out (Nat.lt_succ_self R))
          have HB6 := hidden (HBr.out.trans (ha6.below hwR (by omega)))
          have hr0 : some (zs ++ [], us.tail) = r0 := G3.out
          rw [List.append_nil] at hr0
          have hrs := HRS3.out
          rw [← hr0] at hrs
          simp only [] at hrs
          have HR6 := hidden hr6
          have HRSx := hidden hrs
          have hzl : zs.length ≤ 10000 := by have h := hh2.out; omega
          clear hrs hr0 hr6 ha6 htk HOwn
          go_wp2_with fail
          go_ret3
          exact ⟨HB6.out, .inl ⟨nm, zs, us.tail, _, HRSx.out.symm, rfl, hzl, HO6.out, HR6.out⟩⟩
        · rw [decide_eq_false h1, if_neg h1] at htk
          have HOwn := hidden hown
          have hz6 := g1.lt
          have HBr := hidden g2
          have G3 := hidden g3
          have G4 := hidden g4
          have G6 := hidden g6
          have H1 := hidden h1
          clear hown g1 g2 g3 g4 g5 g6 hh h1
          cases f with
          | true =>
            go_wp2_with fail
            (with_reducible refine htk.mono ?_)
            rintro e w6 ⟨rfl, hr6, ha6⟩
            have HO6 := hidden (ha6.row HOwn.out (Nat.lt_succ_self R))
            have hB6 := HBr.out.trans (ha6.below hwR (by omega))
            have HB6 := hidden hB6
            have hz7 := hr6.lt
            have hz8 : R + 1 ≤ w6.heap.size := by have := ha6.size; have := G6.out; omega
            have hnu := rdNumber_any us R w6 hr6 G4.out (fun w' h => HM.out w' (hB6.trans (h.below hwR (by omega))))
            clear hr6 ha6 htk hB6 HOwn HBr
            cases hzz : numOf (us.headD ⟨#[]⟩) with
            | none =>
              rw [hzz] at hnu
              simp only [Option.getD_none, Option.isSome_none] at hnu
              have hr0 := G3.out
              rw [args_first_none H1.out hzz] at hr0
              have hrs := HRS3.out
              rw [← hr0] at hrs
              have HRSx := hidden hrs
              clear hrs hr0 hzz G3
              go_wp2_with fail
              (with_reducible refine hnu.mono ?_)
              rintro e w7 ⟨rfl, hr7, ha7⟩
              have HB7 := hidden (HB6.out.trans (ha7.below hwR (by omega)))
              clear hr7 ha7 hnu
              go_wp2_with fail
              go_ret3
              exact ⟨HB7.out, .inr ⟨HRSx.out.symm, rfl⟩⟩
            | some z =>
              rw [hzz] at hnu
              simp only [Option.getD_some, Option.isSome_some] at hnu
              have hr0 := G3.out
              rw [args_first_some H1.out hzz, Option.map_map] at hr0
              have HR0x := hidden hr0
              have hune : us ≠ [] := fun h => by rw [h, List.headD_nil, numOf_nil] at hzz; cases hzz
              clear hr0 hzz G3
              go_wp2_with fail
              (with_reducible refine hnu.mono ?_)
              rintro e w7 ⟨rfl, hr7, ha7⟩
              have HB7 := hidden (HB6.out.trans (ha7.below hwR (by omega)))
              have HO7 := hidden (ha7.row HO6.out (Nat.lt_succ_self R))
              have HR7 := hidden hr7
              have hz9 : R + 1 ≤ w7.heap.size := by have := ha7.size; omega
              have hzl : zs.length ≤ 10000 := by have h := hh2.out; omega
              clear hr7 ha7 hnu HB6 HO6
              go_wp2_with (at_builtin; refine wpList_append_own _ rfl (.tmp 39) (.tmp 41) 23 rfl (R + 1) 3 i0 (.int .i64 0) 1 8 Tryz.underlying23 hi hz0 hz1 hz2 rfl (by decide) _ _ _ rfl (HO7.out.alloc _) ⟨w7.heap.size, 0, none⟩ 1 1 [.int .i64 z] rfl rfl (cell_one_new _ _ _) (by intro u hu; simp at hu; subst hu; rfl) (by unfold maxLen; omega) (by omega) (by simp; omega) ?_; intro v' w9 hown9 hgrow9 _)
              go_roundw
              case rel =>
                have hB9 : Below (R + 1) w7 w9 := ((Below.refl (R + 1) w7).alloc (by omega) _).grown hgrow9 (by simp; omega) (row_block HO7.out)
                have hz10 := hB9.size
                refine ⟨false, us.tail, zs ++ [z], rfl, by simpa [intC] using hown9, HR7.out.under hB9, HB7.out.trans (hB9.mono (by omega)), ?_, fun x h => G4.out x (List.mem_of_mem_tail h), ?_, by omega⟩
                · rw [← HR0x.out]
                  congr 1
                  funext r
                  simp
                · have h := hh2.out
                  have h1 := List.length_pos_iff.2 hune
                  rw [List.length_append, List.length_singleton, List.length_tail]
                  omega
              case measure =>
                have hB9 : Below (R + 1) w7 w9 := ((Below.refl (R + 1) w7).alloc (by omega) _).grown hgrow9 (by simp; omega) (row_block HO7.out)
                have e1 := (HR7.out.under hB9).len
                have e2 := HG1.out.len
                have h1 := List.length_pos_iff.2 hune
                rw [e1, e2, List.length_tail]
                omega
          | false =>
            go_wp2_with fail
            (with_reducible refine htk.mono ?_)
            rintro e w6 ⟨rfl, hr6, ha6⟩
            have HO6 := hidden (ha6.row HOwn.out (Nat.lt_succ_self R))
            have hB6 := HBr.out.trans (ha6.below hwR (by omega))
            have HB6 := hidden hB6
            have hz7 := hr6.lt
            have hz8 : R + 1 ≤ w6.heap.size := by have := ha6.size; have := G6.out; omega
            have htk2 := take_any us ⟨#[44]⟩ R w6 hr6
            clear hr6 ha6 htk hB6 HOwn HBr
            by_cases h2 : us.head? = some commaS
            · rw [decide_eq_true h2, if_pos h2] at htk2
              have H2 := hidden h2
              clear h2
              go_wp2_with fail
              (with_reducible refine htk2.mono ?_)
              rintro e w7 ⟨rfl, hr7, ha7⟩
              have HO7 := hidden (ha7.row HO6.out (Nat.lt_succ_self R))
              have hB7 := HB6.out.trans (ha7.below hwR (by omega))
              have HB7 := hidden hB7
              have hz9 : R + 1 ≤ w7.heap.size := by have := ha7.size; omega
              have hnu := rdNumber_any us.tail R w7 hr7 (fun x h => G4.out x (List.mem_of_mem_tail h)) (fun w' h => HM.out w' (hB7.trans (h.below hwR (by omega))))
              clear hr7 ha7 htk2 hB7 HO6 HB6
              cases hzz : numOf (us.tail.headD ⟨#[]⟩) with
              | none =>
                rw [hzz] at hnu
                simp only [Option.getD_none, Option.isSome_none] at hnu
                have hr0 := G3.out
                rw [args_next_none H1.out H2.out hzz] at hr0
                have hrs := HRS3.out
                rw [← hr0] at hrs
                have HRSx := hidden hrs
                clear hrs hr0 hzz G3
                go_wp2_with fail
                (with_reducible refine hnu.mono ?_)
                rintro e w8 ⟨rfl, hr8, ha8⟩
                have HB8 := hidden (HB7.out.trans (ha8.below hwR (by omega)))
                clear hr8 ha8 hnu
                go_wp2_with fail
                go_ret3
                exact ⟨HB8.out, .inr ⟨HRSx.out.symm, rfl⟩⟩
              | some z =>
                rw [hzz] at hnu
                simp only [Option.getD_some, Option.isSome_some] at hnu
                have hr0 := G3.out
                rw [args_next_some H1.out H2.out hzz, Option.map_map] at hr0
                have HR0x := hidden hr0
                have hune : us.tail ≠ [] := fun h => by rw [h, List.headD_nil, numOf_nil] at hzz; cases hzz
                clear hr0 hzz G3
                go_wp2_with fail
                (with_reducible refine hnu.mono ?_)
                rintro e w8 ⟨rfl, hr8, ha8⟩
                have HB8 := hidden (HB7.out.trans (ha8.below hwR (by omega)))
                have HO8 := hidden (ha8.row HO7.out (Nat.lt_succ_self R))
                have HR8 := hidden hr8
                have hz10 : R + 1 ≤ w8.heap.size := by have := ha8.size; omega
                have hzl : zs.length ≤ 10000 := by have h := hh2.out; omega
                clear hr8 ha8 hnu HB7 HO7
                go_wp2_with (at_builtin; refine wpList_append_own _ rfl (.tmp 39) (.tmp 41) 23 rfl (R + 1) 3 i0 (.int .i64 0) 1 8 Tryz.underlying23 hi hz0 hz1 hz2 rfl (by decide) _ _ _ rfl (HO8.out.alloc _) ⟨w8.heap.size, 0, none⟩ 1 1 [.int .i64 z] rfl rfl (cell_one_new _ _ _) (by intro u hu; simp at hu; subst hu; rfl) (by unfold maxLen; omega) (by omega) (by simp; omega) ?_; intro v' w9 hown9 hgrow9 _)
                go_roundw
                case rel =>
                  have hB9 : Below (R + 1) w8 w9 := ((Below.refl (R + 1) w8).alloc (by omega) _).grown hgrow9 (by simp; omega) (row_block HO8.out)
                  have hz10 := hB9.size
                  refine ⟨false, us.tail.tail, zs ++ [z], rfl, by simpa [intC] using hown9, HR8.out.under hB9, HB8.out.trans (hB9.mono (by omega)), ?_, fun x h => G4.out x (List.mem_of_mem_tail (List.mem_of_mem_tail h)), ?_, by omega⟩
                  · rw [← HR0x.out]
                    congr 1
                    funext r
                    simp
                  · have h := hh2.out
                    have h1 := List.length_pos_iff.2 hune
                    rw [List.length_append, List.length_singleton, List.length_tail, List.length_tail]
                    rw [List.length_tail] at h1; omega
                case measure =>
                  have hB9 : Below (R + 1) w8 w9 := ((Below.refl (R + 1) w8).alloc (by omega) _).grown hgrow9 (by simp; omega) (row_block HO8.out)
                  have e1 := (HR8.out.under hB9).len
                  have e2 := HG1.out.len
                  have h1 := List.length_pos_iff.2 hune
                  rw [e1, e2, List.length_tail, List.length_tail]
                  rw [List.length_tail] at h1; omega
            · rw [decide_eq_false h2, if_neg h2] at htk2
              have hr0 := G3.out
              rw [args_no_comma H1.out h2] at hr0
              have hrs := HRS3.out
              rw [← hr0] at hrs
              have HRSx := hidden hrs
              clear hrs hr0 h2 G3
              go_wp2_with fail
              (with_reducible refine htk2.mono ?_)
              rintro e w7 ⟨rfl, hr7, ha7⟩
              have HB7 := hidden (HB6.out.trans (ha7.below hwR (by omega)))
              clear hr7 ha7 htk2
              go_wp2_with fail
              go_ret3
              exact ⟨HB7.out, .inr ⟨HRSx.out.symm, rfl⟩⟩
    · rw [decide_eq_false hlp, if_neg hlp] at htk
      have hrs := HRS.out
      rw [if_neg (fun h => hlp h.2)] at hrs
      have HRSx := hidden hrs
      clear hrs hlp HRS
      go_wp2_with fail
      (with_reducible refine htk.mono ?_)
      rintro e w5 ⟨rfl, hr5, ha5⟩
      have HB5 := hidden (HB4.out.trans (ha5.below hwR (by omega)))
      clear hr5 ha5 htk
      go_wp2_with fail
      go_ret3
      exact ⟨HB5.out, .inr ⟨HRSx.out.symm, rfl⟩⟩
  · have hrs := HRS.out
    rw [if_neg (fun h => hk1 h.1)] at hrs
    have HRSx := hidden hrs
    have hkz : (((kd : Nat) : Int) == 1) = false := by
      rw [beq_eq_false_iff_ne]; omega
    have hkz2 : (((kd : Nat) : Int) != 1) = true := by
      rw [bne_iff_ne]; omega
    clear hrs hk1 HRS
    go_wp2_with fail
    (with_reducible refine hki.mono ?_)
    rintro e w4 ⟨rfl, hb4⟩
    have HB4 := hidden (HB3.out.trans (hb4.mono (by omega)))
    clear hb4 hki
    go_wp2_with fail
    go_ret3
    exact ⟨HB4.out, .inr ⟨HRSx.out.symm, rfl⟩⟩

set_option maxRecDepth 100000 in
set_option maxHeartbeats 1600000 in
theorem numbersM_any (ws : List ByteArray) (R : Nat) (w : World) (hrd : ReadsAt w R ws) (hz2' : w.heap.size = R + 1) (hsz : ∀ x ∈ ws, x.size ≤ 4096) (hwl : ws.length ≤ 10000) (hm : ∀ w', Below R w w' → MaxAt w') :
    Calls Tryz.prog 71 #[.pointer (some ⟨R, 0, none⟩)] w fun e w' => Below R w w' ∧
      ((∃ n zs us v, callL ws = some (n, zs, us) ∧ e = .returned (.tuple #[.string n, v, .bool true]) ∧ zs.length ≤ 10000 ∧ w'.ownsRow (R + 1) 3 1 v zs.length (intC zs) ∧ ReadsAt w' R us) ∨
        (callL ws = none ∧ e = .returned (.tuple #[.string ⟨#[]⟩, .slice none 0 0, .bool false]))) := by
  have hc := call_any ws R w hrd hz2' hsz hwl hm
  have hmf : ∀ (fn : Fn) (first cap : Array Value) (w : World), (Instr.makeFunc fn first cap).run Tryz.prog w = .ok (.func fn first cap) w := fun _ _ _ _ => rfl
  clear hrd hsz hwl hm hz2'
  go_enter Tryz.func71, Tryz.ntmps71
  go_wp2_with fail
  (with_reducible refine hc.mono ?_)
  rintro e w' ⟨hB, (⟨n, zs, us, v, h1, rfl, h2, h3, h4⟩ | ⟨h1, rfl⟩)⟩
  · have HB := hidden hB
    have H1 := hidden h1
    have H3 := hidden h3
    have H4 := hidden h4
    clear hB h1 h3 h4 hc
    go_wp2_with fail
    go_ret3
    exact ⟨HB.out, .inl ⟨n, zs, us, v, H1.out, rfl, h2, H3.out, H4.out⟩⟩
  · have HB := hidden hB
    have H1 := hidden h1
    clear hB h1 hc
    go_wp2_with fail
    go_ret3
    exact ⟨HB.out, .inr ⟨H1.out, rfl⟩⟩

set_option maxRecDepth 100000 in
set_option maxHeartbeats 1600000 in
theorem newReader_any (s : ByteArray) (hs : s.size ≤ 4096) (w : World) :
    Calls Tryz.prog 85 #[.string s] w fun e w' => ∃ R, e = .returned (.pointer (some ⟨R, 0, none⟩)) ∧ w.heap.size ≤ R ∧ w'.heap.size = R + 1 ∧ ReadsAt w' R (wordsB s) ∧ Below w.heap.size w w' := by
  have hwd := words_any s hs w
  generalize wordsB s = ws at *
  unfold RowOf at hwd
  clear hs
  go_enter Tryz.func85, Tryz.ntmps85
  go_wp2_with fail
  (with_reducible refine hwd.mono ?_)
  rintro e w1 ⟨v1, rfl, hrow, hB1⟩
  obtain ⟨p, cap, rfl, hrd⟩ := ReadsAt.of_row hrow
  have HB := hidden hB1
  have HR := hidden hrd
  clear hwd hrow hB1 hrd
  go_wp2_with fail
  go_ret
  exact ⟨_, rfl, HB.out.size, by simp, HR.out, HB.out.alloc HB.out.size _⟩

set_option maxRecDepth 100000 in
set_option maxHeartbeats 3200000 in
theorem whole_any (s : ByteArray) (hs : s.size ≤ 4096) (w : World) (hm : MaxAt w) :
    Calls Tryz.prog 70 #[.string s, .func (.func 71) #[] #[]] w fun e w' => Below w.heap.size w w' ∧
      ((∃ n zs v, callOf (wordsB s) = some (n, zs) ∧ e = .returned (.tuple #[.string n, v, .bool true]) ∧ zs.length ≤ 10000 ∧ w'.ownsRow w.heap.size 3 1 v zs.length (intC zs)) ∨
        (callOf (wordsB s) = none ∧ e = .returned (.tuple #[.string ⟨#[]⟩, .slice none 0 0, .bool false]))) := by
  have hnr := newReader_any s hs w
  have hsz := fun x hx => Nat.le_trans (words_size s x hx) hs
  have hwl : (wordsB s).length ≤ 10000 := by have := wordsB_len s hs; omega
  generalize wordsB s = ws at *
  have hmk : ∀ w', Below w.heap.size w w' → MaxAt w' := fun w' h => hm.keep h
  have HM := hidden hmk
  have HSZ := hidden hsz
  have HWL := hidden hwl
  clear hmk hm hsz hwl hs
  go_enter Tryz.func70, Tryz.ntmps70
  go_wp2_with fail
  (with_reducible refine hnr.mono ?_)
  rintro e w1 ⟨R, rfl, hR, hz, hrd, hB1⟩
  have hnm := numbersM_any ws R w1 hrd hz HSZ.out HWL.out (fun w' h => HM.out w' (hB1.trans (h.mono hR)))
  have HB1 := hidden hB1
  clear hnr hrd hB1
  go_wp2_with fail
  (with_reducible refine hnm.mono ?_)
  rintro e w2 ⟨hB2, (⟨n, zs, us, v, h1, rfl, h2, h3, h4⟩ | ⟨h1, rfl⟩)⟩
  · have HB2 := hidden (HB1.out.trans (hB2.mono hR))
    have HO := hidden (row_mono h3 (by omega : w.heap.size ≤ R + 1))
    have hco := callOf_some h1
    have HCO := hidden hco
    clear hB2 h1 h3 hnm hco
    cases us with
    | nil =>
      have hdn := rdDone_nil R w2 h4
      clear h4
      go_wp2_with fail
      (with_reducible refine hdn.mono ?_)
      rintro e w3 ⟨rfl, rfl⟩
      clear hdn
      go_wp2_with fail
      go_ret3
      exact ⟨HB2.out, .inl ⟨n, zs, v, by rw [HCO.out]; simp, rfl, h2, HO.out⟩⟩
    | cons x us =>
      have hdn := rdDone_cons x us R w2 h4
      clear h4
      go_wp2_with fail
      (with_reducible refine hdn.mono ?_)
      rintro e w3 ⟨rfl, rfl⟩
      clear hdn
      go_wp2_with fail
      go_ret3
      exact ⟨HB2.out, .inr ⟨by rw [HCO.out]; simp, rfl⟩⟩
  · have HB2 := hidden (HB1.out.trans (hB2.mono hR))
    have HCO := hidden (callOf_none h1)
    clear hB2 h1 hnm
    go_wp2_with fail
    go_ret3
    exact ⟨HB2.out, .inr ⟨HCO.out, rfl⟩⟩

end Go.Proofs.YtfmoophjdgejeaaGreatDoor
