import Derived.Test.YtfmoophjdgejeaaGreatDoorCi
/-
  Names of tables; a valid table.
-/
namespace Go.Proofs.YtfmoophjdgejeaaGreatDoor
open Go.RowKit Go.Shelf

/-- A table lies in a variable. -/
def tabCells (t : Tab) (cv : Value) : Array Value := #[.string t.name, .int .i64 t.kind, cv, .int .i64 t.lo, .int .i64 t.hi, .int .i64 t.first]

theorem tabAt_alloc (w : World) (t : Tab) (cv : Value) (ty : TypeId) : TabAt (w.alloc (.cells (tabCells t cv) ty)) w.heap.size 0 t cv := by
  refine ⟨?_, ?_, ?_, ?_, ?_, ?_⟩ <;> simp [tabCells]

set_option maxRecDepth 100000 in
set_option maxHeartbeats 3200000 in
theorem validTable_any (N : Nat) (t : Tab) (cv : Value) (p : Option Addr) (cap : Nat) (q : Option Addr) (n c : Nat) (w : World) (hc : IntsV w cv t.cols) (hl : t.cols.length ≤ 4611686018427387904) :
    Calls Tryz.prog 56 #[.agg #[.slice p N cap, .slice q n c], tabV t cv] w fun e w' => e = .returned (.bool ((t.cols.all (colB N) && decide (t.cols.length ≤ 3)) && rangeB t)) ∧ Below w.heap.size w w' := by
  have hc2 := hc
  obtain ⟨pc, capc, g, o, rfl, _, _⟩ := hc
  have hvc := fun w' (h : Below w.heap.size w w') => validColumns_any N t.cols _ p cap q n c w' (hc2.later h) hl
  have hvr := fun w' => validRange_any t pc t.cols.length capc w'
  simp only [tabV] at hvr ⊢
  have HVC := hidden hvc
  have HVR := hidden hvr
  clear hvc hvr hc2
  obtain ⟨r, hr⟩ : ∃ r, (t.cols.all (colB N) && decide (t.cols.length ≤ 3)) = r := ⟨_, rfl⟩
  rw [hr]
  have HR := hidden hr
  clear hr
  go_enter Tryz.func56, Tryz.ntmps56
  go_wp2_with fail
  obtain ⟨W2, hW2⟩ : ∃ W2, W2 = (w.alloc (.cells #[.slice p N cap, .slice q n c] 61)).alloc (.cells #[.string t.name, .int .i64 t.kind, .slice pc t.cols.length capc, .int .i64 t.lo, .int .i64 t.hi, .int .i64 t.first] 44) := ⟨_, rfl⟩
  have hB2 : Below w.heap.size w W2 := by rw [hW2]; exact ((Below.refl _ _).alloc (Nat.le_refl _) _).alloc (by simp) _
  have hz2 : W2.heap.size = w.heap.size + 2 := by rw [hW2]; simp
  have c0 : W2.cell? ⟨w.heap.size + 1, 0, none⟩ = some (.string t.name) := by rw [hW2]; simp [go_sem]
  have c1 : W2.cell? ⟨w.heap.size + 1, 1, none⟩ = some (.int .i64 t.kind) := by rw [hW2]; simp [go_sem]
  have c2 : W2.cell? ⟨w.heap.size + 1, 2, none⟩ = some (.slice pc t.cols.length capc) := by rw [hW2]; simp [go_sem]
  have c3 : W2.cell? ⟨w.heap.size + 1, 3, none⟩ = some (.int .i64 t.lo) := by rw [hW2]; simp [go_sem]
  have c4 : W2.cell? ⟨w.heap.size + 1, 4, none⟩ = some (.int .i64 t.hi) := by rw [hW2]; simp [go_sem]
  have c5 : W2.cell? ⟨w.heap.size + 1, 5, none⟩ = some (.int .i64 t.first) := by rw [hW2]; simp [go_sem]
  rw [← hW2]
  have hv := HVC.out W2 hB2
  rw [HR.out] at hv
  clear hW2
  (with_reducible refine hv.mono ?_)
  rintro e w3 ⟨rfl, hB3⟩
  have f : ∀ k, w3.cell? ⟨w.heap.size + 1, k, none⟩ = W2.cell? ⟨w.heap.size + 1, k, none⟩ := fun k => hB3.cell (p := ⟨w.heap.size + 1, k, none⟩) (by show w.heap.size + 1 < _; omega)
  have d0 := (f 0).trans c0
  have d1 := (f 1).trans c1
  have d2 := (f 2).trans c2
  have d3 := (f 3).trans c3
  have d4 := (f 4).trans c4
  have d5 := (f 5).trans c5
  have HB3 := hidden (hB2.trans (hB3.mono hB2.size))
  clear f c0 c1 c2 c3 c4 c5 hB2 hB3 hv HVC
  cases r with
  | true =>
    go_wp2_with fail
    (with_reducible refine (HVR.out _).mono ?_)
    rintro e w4 ⟨rfl, hB4⟩
    have HB4 := hidden (HB3.out.trans (hB4.mono HB3.out.size))
    clear hB4 d0 d1 d2 d3 d4 d5 HB3
    go_wp2_with fail
    go_ret
    exact ⟨by rw [Bool.true_and]; rfl, HB4.out⟩
  | false =>
    go_wp2_with fail
    go_ret
    exact ⟨rfl, HB3.out⟩

/-- The place of the first element with a property. -/
def firstAt {α : Type} (p : α → Bool) : List α → Nat → Int
  | [], _ => -1
  | x :: xs, k => if p x then (k : Int) else firstAt p xs (k + 1)

theorem first_drop {α : Type} {p : α → Bool} {l : List α} {k : Nat} {x : α} (h : l[k]? = some x) : firstAt p (l.drop k) k = if p x then (k : Int) else firstAt p (l.drop (k + 1)) (k + 1) := by
  rw [drop_step h]; rfl

theorem table1_any (t : Tab) (p : Option Addr) (n c : Nat) (name : ByteArray) (B : Nat) (w : World) (hB : w.cell? ⟨B, 0, none⟩ = some (.string name)) :
    Calls Tryz.prog 74 #[tabV t (.slice p n c), .pointer (some ⟨B, 0, none⟩)] w fun e w' => e = .returned (.bool (decide (t.name = name))) ∧ Below w.heap.size w w' := by
  have hlt := cell_lt hB
  have hne : B ≠ w.heap.size := Nat.ne_of_lt hlt
  simp only [tabV]
  by_cases h : t.name = name
  · rw [decide_eq_true h]
    have e : (t.name.toList == name.toList) = true := by rw [h]; simp
    have HH := hidden h
    clear h
    go_enter Tryz.func74, Tryz.ntmps74
    go_wp2_with fail
    go_ret
    exact ⟨rfl, (Below.refl _ _).alloc (Nat.le_refl _) _⟩
  · rw [decide_eq_false h]
    have e := str_neq h
    clear h
    go_enter Tryz.func74, Tryz.ntmps74
    go_wp2_with fail
    go_ret
    exact ⟨rfl, (Below.refl _ _).alloc (Nat.le_refl _) _⟩

set_option maxRecDepth 100000 in
set_option maxHeartbeats 3200000 in
theorem indexTable_any (ts : List Tab) (tv : Value) (name : ByteArray) (B : Nat) (w : World) (ht : TabsV w tv ts) (hl : ts.length ≤ 4611686018427387904) (hB : w.cell? ⟨B, 0, none⟩ = some (.string name)) :
    Calls Tryz.prog 73 #[tv, .func (.func 74) #[] #[.pointer (some ⟨B, 0, none⟩)]] w fun e w' => e = .returned (.int .i64 (firstAt (fun t : Tab => decide (t.name = name)) ts 0)) ∧ Below w.heap.size w w' := by
  obtain ⟨p, cap, g, o, ks, rfl, hp, hat⟩ := ht
  obtain ⟨r, hr⟩ : ∃ r, firstAt (fun t : Tab => decide (t.name = name)) ts 0 = r := ⟨_, rfl⟩
  rw [hr]
  have eg : ∀ args w, (callFunc 74 args).run Tryz.prog w = .ok (.enter 74 args) w := enters_of Tryz.func74 (by kernel_rfl) rfl
  have HP := hidden hp
  have HAT := hidden hat
  have HR := hidden hr
  have hlt := cell_lt hB
  have HBB := hidden hB
  clear hp hat hr hB
  go_enter Tryz.func73, Tryz.ntmps73
  go_wp2_with fail
  go_loopw [8] (fun i wr => ∃ k : Nat, k ≤ ts.length ∧ i = .int .i64 k ∧ Hid (firstAt (fun t : Tab => decide (t.name = name)) (ts.drop k) k = r ∧ Below w.heap.size w wr)) (fun i _ => ts.length - (intOf i).toNat)
  case atStart => exact ⟨0, Nat.zero_le _, rfl, HR.out, Below.refl _ _⟩
  case round =>
    obtain ⟨k, hk, rfl, hh⟩ := hrel
    obtain ⟨h1, h2⟩ := hh.out
    by_cases hlt2 : k < ts.length
    · have hx : ts[k]? = some ts[k] := List.getElem?_eq_getElem hlt2
      generalize ts[k] = t at hx
      obtain ⟨rfl, hg⟩ := HP.out (fun h => by rw [h] at hlt2; exact absurd hlt2 (Nat.not_lt_zero _))
      obtain ⟨ha, pc, capc, _, _, hkv, _, _⟩ := HAT.out k t hx
      have ha2 := ha.of_block (h2.block g hg)
      obtain ⟨c0, c1, c2, c3, c4, c5⟩ := ha2
      rw [hkv] at c2
      have hcb : wr.cell? ⟨B, 0, none⟩ = some (.string name) := (h2.cell (p := ⟨B, 0, none⟩) hlt).trans HBB.out
      have ht1 := table1_any t pc t.cols.length capc name B wr hcb
      have hd := first_drop (p := fun t : Tab => decide (t.name = name)) hx
      rw [h1] at hd
      have hkz : (k : Int) < (ts.length : Int) := by omega
      have HD := hidden hd
      have H2 := hidden h2
      simp only [tabV] at ht1
      clear hd h1 h2 hh hx ha hkv hcb
      go_wp2_with fail
      (with_reducible refine ht1.mono ?_)
      rintro e w2 ⟨rfl, hB2⟩
      have HB2 := hidden (H2.out.trans (hB2.mono H2.out.size))
      clear hB2 ht1 c0 c1 c2 c3 c4 c5
      by_cases hn : t.name = name
      · have HE : Hid (r = (k : Int)) := by have := HD.out; rw [decide_eq_true hn] at this; exact this
        rw [decide_eq_true hn]
        clear hn HD
        go_wp2_with fail
        go_ret
        exact ⟨by rw [HE.out]; rfl, HB2.out⟩
      · have HE : Hid (r = firstAt (fun t : Tab => decide (t.name = name)) (ts.drop (k + 1)) (k + 1)) := by have := HD.out; rw [decide_eq_false hn] at this; exact this
        rw [decide_eq_false hn]
        clear hn HD
        go_wp2_with fail
        go_roundw
        case rel => exact ⟨k + 1, hlt2, rfl, HE.out.symm, HB2.out⟩
        case measure => simp [intOf]; omega
    · have hkz : ¬ (k : Int) < (ts.length : Int) := by omega
      rw [List.drop_eq_nil_of_le (by omega)] at h1
      have H1 := hidden h1
      have H2 := hidden h2
      clear h1 h2 hh
      go_wp2_with fail
      go_ret
      exact ⟨by rw [← H1.out]; rfl, H2.out⟩

/-- checker.Table: the first table with a name. -/
def tableN (ts : List Tab) (name : ByteArray) : Int := firstAt (fun t : Tab => decide (t.name = name)) ts 0

theorem found_any (z : Int) (w : World) (_h1 : -1 ≤ z) (_h2 : z ≤ 4611686018427387904) :
    Calls Tryz.prog 72 #[.int .i64 z] w fun e w' => e = .returned (.tuple #[.int .i64 (max z 0), .bool (decide (0 ≤ z))]) ∧ w' = w := by
  by_cases h : 0 ≤ z
  · rw [decide_eq_true h]
    go_enter Tryz.func72, Tryz.ntmps72
    go_wp2_with fail
    go_ret2
    exact ⟨rfl, rfl⟩
  · have h' : z < 0 := by omega
    rw [decide_eq_false h]
    go_enter Tryz.func72, Tryz.ntmps72
    go_wp2_with fail
    go_ret2
    exact ⟨rfl, rfl⟩

theorem first_ge {α : Type} (p : α → Bool) : ∀ (l : List α) (k : Nat), -1 ≤ firstAt p l k ∧ firstAt p l k ≤ k + l.length
  | [], k => by simp [firstAt]
  | x :: xs, k => by
    rw [firstAt]
    have := first_ge p xs (k + 1)
    by_cases h : p x = true
    · rw [if_pos h]; simp; omega
    · rw [if_neg h]; simp at *; omega

/-- A program with tables alone. -/
def progV (tv : Value) : Value := .agg #[.int .i64 0, .string ⟨#[]⟩, .int .i64 0, .int .i64 0, .slice none 0 0, .slice none 0 0, tv, .slice none 0 0, .slice none 0 0]

set_option maxRecDepth 100000 in
set_option maxHeartbeats 3200000 in
theorem table_any (ts : List Tab) (tv : Value) (name : ByteArray) (w : World) (ht : TabsV w tv ts) (hl : ts.length ≤ 4611686018427387903) :
    Calls Tryz.prog 54 #[progV tv, .string name] w fun e w' => e = .returned (.tuple #[.int .i64 (max (tableN ts name) 0), .bool (decide (0 ≤ tableN ts name))]) ∧ Below w.heap.size w w' := by
  have ht2 := ht
  obtain ⟨p, cap, g, o, ks, rfl, _, _⟩ := ht
  obtain ⟨W1, hW1⟩ : ∃ W1, W1 = (w.alloc (.cells #[.int .i64 0, .string ⟨#[]⟩, .int .i64 0, .int .i64 0, .slice none 0 0, .slice none 0 0, .slice p ts.length cap, .slice none 0 0, .slice none 0 0] 101)).alloc (.cells #[.string name] 9) := ⟨_, rfl⟩
  have hB1 : Below w.heap.size w W1 := by rw [hW1]; exact ((Below.refl _ _).alloc (Nat.le_refl _) _).alloc (by simp) _
  have cN : W1.cell? ⟨w.heap.size + 1, 0, none⟩ = some (.string name) := by rw [hW1]; simp [go_sem]
  have hix := indexTable_any ts _ name (w.heap.size + 1) W1 (ht2.later hB1) (by omega) cN
  have hge := first_ge (fun t : Tab => decide (t.name = name)) ts 0
  have hfo := fun w' => found_any (firstAt (fun t : Tab => decide (t.name = name)) ts 0) w' hge.1 (by omega)
  unfold tableN
  generalize firstAt (fun t : Tab => decide (t.name = name)) ts 0 = z at *
  have HB1 := hidden hB1
  clear hge hB1 ht2 cN
  simp only [progV]
  go_enter Tryz.func54, Tryz.ntmps54
  go_wp2_with fail
  rw [← hW1]
  clear hW1
  (with_reducible refine hix.mono ?_)
  rintro e w2 ⟨rfl, hB2⟩
  have HB2 := hidden (HB1.out.trans (hB2.mono HB1.out.size))
  clear hB2 hix HB1
  go_wp2_with fail
  (with_reducible refine (hfo _).mono ?_)
  rintro e w3 ⟨rfl, rfl⟩
  clear hfo
  go_wp2_with fail
  go_ret2
  exact ⟨rfl, HB2.out⟩

theorem table_is {ts : List Tab} {i : Nat} {t : Tab} (hx : ts[i]? = some t) : 0 ≤ tableN ts t.name := by
  unfold tableN
  have key : ∀ (l : List Tab) (k i : Nat), l[i]? = some t → 0 ≤ firstAt (fun u : Tab => decide (u.name = t.name)) l k := by
    intro l
    induction l with
    | nil => intro k i h; simp at h
    | cons a l ih =>
      intro k i h
      rw [firstAt]
      by_cases ha : a.name = t.name
      · rw [if_pos (decide_eq_true ha)]; omega
      · rw [if_neg (by simpa using ha)]
        cases i with
        | zero => simp at h; subst h; exact absurd rfl ha
        | succ i => exact ih (k + 1) i (by simpa using h)
  exact key ts 0 i hx

set_option maxRecDepth 100000 in
set_option maxHeartbeats 3200000 in
theorem validName_any (ts : List Tab) (tv : Value) (i : Nat) (t : Tab) (p : Option Addr) (n c : Nat) (w : World) (ht : TabsV w tv ts) (hl : ts.length ≤ 4611686018427387903) (hx : ts[i]? = some t) (hs : t.name.size ≤ 4096) (hm : MaxAt w) :
    Calls Tryz.prog 57 #[.agg #[.slice p n c, tv], .int .i64 i] w fun e w' => e = .returned (.bool (decide (tableN ts t.name = i) && nameB t.name)) ∧ Below w.heap.size w w' := by
  have ht2 := ht
  obtain ⟨pt, cap, g, o, ks, rfl, hp, hat⟩ := ht
  have hi : i < ts.length := (List.getElem?_eq_some_iff.1 hx).1
  obtain ⟨rfl, hg⟩ := hp (fun h => by rw [h] at hi; exact absurd hi (Nat.not_lt_zero _))
  obtain ⟨W1, hW1⟩ : ∃ W1, W1 = w.alloc (.cells #[.slice p n c, .slice (some ⟨g, o, none⟩) ts.length cap] 61) := ⟨_, rfl⟩
  have hB1 : Below w.heap.size w W1 := by rw [hW1]; exact (Below.refl _ _).alloc (Nat.le_refl _) _
  have htb := table_any ts _ t.name W1 (ht2.later hB1) hl
  have h0 := table_is hx
  have hmax : max (tableN ts t.name) 0 = tableN ts t.name := Int.max_eq_left h0
  rw [hmax] at htb
  have hnm := fun w' (h : Below w.heap.size w w') => name_any t.name hs w' (hm.keep h)
  have c0 := (hat i t hx).1.c0
  have hg2 : g ≠ w.heap.size := Nat.ne_of_lt hg
  have hiz : (i : Int) < (ts.length : Int) := by omega
  have HNM := hidden hnm
  have HB1 := hidden hB1
  generalize tableN ts t.name = z at *
  clear hnm hB1 ht2 hp hat hm hs hx h0 hmax
  simp only [progV] at htb
  have HI := hidden hi
  obtain ⟨r, hr⟩ : ∃ r, (decide (z = (i : Int)) && nameB t.name) = r := ⟨_, rfl⟩
  rw [hr]
  have HR := hidden hr
  clear hi hr
  go_enter Tryz.func57, Tryz.ntmps57
  go_wp2_with fail
  rw [← hW1]
  clear hW1
  (with_reducible refine htb.mono ?_)
  rintro e w2 ⟨rfl, hB2⟩
  have HB2 := hidden (HB1.out.trans (hB2.mono HB1.out.size))
  have hn2 := HNM.out w2 HB2.out
  clear hB2 htb HB1 HNM c0
  by_cases hz : z = (i : Int)
  · have hb : (z == (i : Int)) = true := by rw [hz]; simp
    have HR2 : Hid (nameB t.name = r) := by have := HR.out; rw [decide_eq_true hz, Bool.true_and] at this; exact this
    clear hz
    go_wp2_with fail
    (with_reducible refine hn2.mono ?_)
    rintro e w3 ⟨rfl, hB3⟩
    have HB3 := hidden (HB2.out.trans (hB3.mono HB2.out.size))
    clear hB3 hn2
    go_wp2_with fail
    go_ret
    exact ⟨by rw [← HR2.out]; rfl, HB3.out⟩
  · have hb : (z == (i : Int)) = false := beq_eq_false_iff_ne.2 hz
    have HR2 : Hid (r = false) := by have := HR.out; rw [decide_eq_false hz] at this; exact this.symm
    clear hz hn2
    go_wp2_with fail
    go_ret
    exact ⟨by rw [HR2.out]; rfl, HB2.out⟩

end Go.Proofs.YtfmoophjdgejeaaGreatDoor
