import Derived.Test.YtfmoophjdgejeaaGreatDoorCh
import Derived.Test.YtfmoophjdgejeaaGreatDoorCl
/-
  The iterator over the cells of the strict tables, or of the others.
-/
namespace Go.Proofs.YtfmoophjdgejeaaGreatDoor
open Go.RowKit Go.Shelf
attribute [local go_sem] Oper.semAt_some

/-- The cells: a table's place and a tuple. -/
def cellsFrom (ss : List Int) (isS : Bool) : List Tab → Nat → List (Nat × List Nat)
  | [], _ => []
  | t :: r, i => (if strictB t.kind = isS then (tups (lensL ss t.cols)).map (fun x => (i, x)) else []) ++ cellsFrom ss isS r (i + 1)

theorem cellsFrom_append (ss : List Int) (isS : Bool) : ∀ (a b : List Tab) (i : Nat), cellsFrom ss isS (a ++ b) i = cellsFrom ss isS a i ++ cellsFrom ss isS b (i + a.length)
  | [], b, i => by simp [cellsFrom]
  | t :: a, b, i => by
    rw [List.cons_append, cellsFrom, cellsFrom_append ss isS a b (i + 1), cellsFrom, List.append_assoc, List.length_cons]
    congr 3
    omega

theorem cellsFrom_step {ss : List Int} {isS : Bool} {ts : List Tab} {k : Nat} {t : Tab} (h : ts[k]? = some t) :
    cellsFrom ss isS (ts.take (k + 1)) 0 = cellsFrom ss isS (ts.take k) 0 ++ (if strictB t.kind = isS then (tups (lensL ss t.cols)).map (fun x => (k, x)) else []) := by
  have hk := (List.getElem?_eq_some_iff.1 h).1
  rw [take_step h, cellsFrom_append]
  congr 1
  rw [List.length_take, Nat.zero_add, Nat.min_eq_left (by omega)]
  simp [cellsFrom]

theorem cellsFrom_prefix {ss : List Int} {isS : Bool} {ts : List Tab} {k : Nat} (_hk : k ≤ ts.length) : cellsFrom ss isS (ts.take k) 0 <+: cellsFrom ss isS ts 0 := by
  have h := cellsFrom_append ss isS (ts.take k) (ts.drop k) 0
  rw [List.take_append_drop] at h
  exact ⟨_, h.symm⟩

/-- What the iterator yields. -/
def CellR (O : Nat → Prop) (x : Nat × List Nat) (vs : Array Value) (A : World) : Prop :=
  ∃ T C, vs = #[.int .i64 (x.1 : Int), .slice (some ⟨T, 0, none⟩) x.2.length C] ∧ O T ∧ TupAt A T x.2

theorem IntsV.low {w A : World} {v : Value} {l : List Int} (h : IntsV w v l) (hs : w.heap.size ≤ A.heap.size) (hb : ∀ k, k < w.heap.size → A.heap[k]? = w.heap[k]?) : IntsV A v l :=
  h.of_blocks hs (fun _ _ _ _ g _ _ hg => hb g hg)

theorem keeps_turn {X Oi : Nat → Prop} {a A B : World} (h : Keeps X a A) (ht : TurnO Oi A B) (hlo : ∀ k, Oi k → a.heap.size ≤ k) : Keeps X a B :=
  ⟨Nat.le_trans h.size ht.size, fun k h1 h2 => (ht.block k (Nat.lt_of_lt_of_le h2 h.size) (fun ho => by have := hlo k ho; omega)).trans (h.block k h1 h2)⟩

/-- A set of blocks, those between two sizes, and those of a second set. -/
def joinO (O : Nat → Prop) (a b : Nat) (Oi : Nat → Prop) : Nat → Prop := fun m => O m ∨ (a ≤ m ∧ m < b) ∨ Oi m

set_option maxRecDepth 100000 in
set_option maxHeartbeats 12800000 in
theorem all1_any (K : Nat → Prop) (ss : List Int) (ts : List Tab) (isS : Bool) (w0 : World) {w : World} {B1 B2 : Nat} (sv tv : Value) (hs : IntsV w0 sv ss) (ht : TabsV w0 tv ts) (hb0 : Below w0.heap.size w0 w)
    (hsnd : soundB ss = true) (hcols : ∀ t ∈ ts, t.cols.all (colB ss.length) = true ∧ t.cols.length ≤ 3) (hl : ts.length ≤ 12)
    (hB1 : w.cell? ⟨B1, 0, none⟩ = some sv) (hB1' : w.cell? ⟨B1, 1, none⟩ = some tv) (hB2 : w.cell? ⟨B2, 0, none⟩ = some (.bool isS))
    (hKw : ∀ k, K k → k < w.heap.size) (hKlow : ∀ k, k < w0.heap.size → K k) (hK1 : K B1) (hK2 : K B2) :
    SeqM K Tryz.prog 63 #[.pointer (some ⟨B1, 0, none⟩), .pointer (some ⟨B2, 0, none⟩)] CellR (cellsFrom ss isS ts 0) w := by
  intro l J Jx W hW hJ hJx hJg h0 hY
  have hlt1 := cell_lt hB1
  have hlt2 := cell_lt hB2
  have c0 : W.cell? ⟨B1, 0, none⟩ = some sv := (hW.cell (p := ⟨B1, 0, none⟩) hlt1).trans hB1
  have c1 : W.cell? ⟨B1, 1, none⟩ = some tv := (hW.cell (p := ⟨B1, 1, none⟩) hlt1).trans hB1'
  have c2 : W.cell? ⟨B2, 0, none⟩ = some (.bool isS) := (hW.cell (p := ⟨B2, 0, none⟩) hlt2).trans hB2
  have hWz := hW.size
  have hs2 := hs
  have ht2 := ht
  obtain ⟨p, cap, g, o, rfl, _, _⟩ := hs
  obtain ⟨q, tcap, tg, to, ks, rfl, hqp, hat⟩ := ht
  have hmx : Tryz.prog.follows .mixedOrders = true := by kernel_rfl
  obtain ⟨W1, hW1⟩ : ∃ W1, W1 = W.alloc (.cells #[.func (.yield l) #[] #[]] 107) := ⟨_, rfl⟩
  have hB3 : Below W.heap.size W W1 := by rw [hW1]; exact (Below.refl _ _).alloc (Nat.le_refl _) _
  have hz1 : W1.heap.size = W.heap.size + 1 := by rw [hW1]; simp
  have cY : W1.cell? ⟨W.heap.size, 0, none⟩ = some (.func (.yield l) #[] #[]) := by rw [hW1]; simp
  have hJ1 : J (one W.heap.size) [] W1 := by have h := h0 W1 hB3; rw [hz1] at h; exact h
  have hlw : B1 < W.heap.size := by have h : B1 < w.heap.size := hlt1; omega
  have hlw2 : B1 ≠ W.heap.size := Nat.ne_of_lt hlw
  have HJ := hidden hJ
  have HJx := hidden hJx
  have HJg := hidden hJg
  have HJ1 := hidden hJ1
  have HY := hidden hY
  have HW := hidden hW
  have HB3 := hidden hB3
  have HS2 := hidden hs2
  have HT2 := hidden ht2
  have HQP := hidden hqp
  have HAT := hidden hat
  have HB0 := hidden hb0
  have HSND := hidden hsnd
  have HCOL := hidden hcols
  clear hJ hJx hJg h0 hJ1 hY hW hB3 hs2 ht2 hqp hat hb0 hsnd hcols hB1 hB1' hB2
  show Calls Tryz.prog 63 #[.func (.yield l) #[] #[], .pointer (some ⟨B1, 0, none⟩), .pointer (some ⟨B2, 0, none⟩)] W _
  refine (callsIn_wide (n := 9)).1 ?_
  refine callsIn_of_wp_marks Tryz.func63 rfl trivial ?_ rfl
  simp only [Tryz.ntmps63, List.size_toArray, List.length_cons, List.length_nil, Nat.reduceAdd, Nat.reduceSub, Array.replicate_succ, Array.replicate_zero, List.push_toArray, List.append_toArray, List.nil_append, List.cons_append]
  gi_wp2_with fail
  rw [← hW1]
  have HY1 : Hid (∀ A : World, A.heap[W.heap.size]? = W1.heap[W.heap.size]? → A.cell? ⟨W.heap.size, 0, none⟩ = some (.func (.yield l) #[] #[])) := fun A h => (World.cell?_of_block (a := ⟨W.heap.size, 0, none⟩) h).trans cY
  have HC0 := hidden c0
  have HC1 := hidden c1
  have HC2 := hidden c2
  have HKe1 : Hid (Keeps K W W1) := Keeps.of_below HB3.out HB3.out.size (fun k hk => by have := hKw k hk; omega)
  clear hW1 cY c0 c1 c2
  refine wpIn_loop (fun a' wr => ∃ (k : Nat) (Ds : List Nat), ∃ u4 u5 u6 u11 u12 u13 u14 u15 u16 u17 u18 u19 u20 u21 u22 u23 u24 u25 u26 u27 u28 u29 u30 : Value, a' = { tmps := #[.func (.yield l) #[] #[], .pointer (some ⟨B1, 0, none⟩), .pointer (some ⟨B2, 0, none⟩), .pointer (some ⟨W.heap.size, 0, none⟩), u4, u5, u6, .pointer (some ⟨B1, 1, none⟩), .slice q ts.length tcap, .int .i64 ts.length, .int .i64 k, u11, u12, u13, u14, u15, u16, u17, u18, u19, u20, u21, u22, u23, u24, u25, u26, u27, u28, u29, u30], defers := Ds.map markOf } ∧ k ≤ ts.length ∧
    Hid (∃ O, Among W.heap.size wr.heap.size O ∧ O W.heap.size ∧ J O (cellsFrom ss isS (ts.take k) 0) wr ∧ Keeps K W wr ∧ wr.heap[W.heap.size]? = W1.heap[W.heap.size]? ∧ Ds.Nodup ∧ ∀ D ∈ Ds, O D ∧ wr.heap[D]? = some (.deferred (some [])))) (fun a' _ => ts.length - (intOf (a'.tmps.getD 10 undef)).toNat) ?start ?round
  case start =>
    exact ⟨0, [], undef, undef, undef, undef, undef, undef, undef, undef, undef, undef, undef, undef, undef, undef, undef, undef, undef, undef, undef, undef, undef, undef, undef, rfl, Nat.zero_le _, one W.heap.size, fun k hk => ⟨hk.1, by have := hk.2; omega⟩, one_self _, HJ1.out, HKe1.out, rfl, List.nodup_nil, fun D h => by cases h⟩
  case round =>
    rintro a' wr ⟨k, Ds, u4, u5, u6, u11, u12, u13, u14, u15, u16, u17, u18, u19, u20, u21, u22, u23, u24, u25, u26, u27, u28, u29, u30, rfl, hk, hh⟩
    obtain ⟨O, hO1, hO2, hJO, hKe, hYb, hDn, hDm⟩ := hh.out
    have low : ∀ k, k < w0.heap.size → wr.heap[k]? = w0.heap[k]? := fun k h => ((hKe.block k (hKlow k h) (by have := HB0.out.size; omega)).trans (HW.out.block k (by have := HB0.out.size; omega))).trans (HB0.out.block k h)
    have hwz : W.heap.size < wr.heap.size := (hO1 _ hO2).2
    have e0 : wr.cell? ⟨B1, 0, none⟩ = some (.slice p ss.length cap) := (World.cell?_of_block (a := ⟨B1, 0, none⟩) (hKe.block B1 hK1 (by omega))).trans HC0.out
    have e1 : wr.cell? ⟨B1, 1, none⟩ = some (.slice q ts.length tcap) := (World.cell?_of_block (a := ⟨B1, 1, none⟩) (hKe.block B1 hK1 (by omega))).trans HC1.out
    have e2 : wr.cell? ⟨B2, 0, none⟩ = some (.bool isS) := (World.cell?_of_block (a := ⟨B2, 0, none⟩) (hKe.block B2 hK2 (by omega))).trans HC2.out
    by_cases hlt : k < ts.length
    · have hx : ts[k]? = some ts[k] := List.getElem?_eq_getElem hlt
      have hct := HCOL.out _ (List.getElem_mem hlt)
      generalize ts[k] = t at hx hct
      obtain ⟨rfl, hg⟩ := HQP.out (fun h => by rw [h] at hlt; exact absurd hlt (Nat.not_lt_zero _))
      obtain ⟨ha, hci⟩ := HAT.out k t hx
      have hci2 := hci.low (by have := HB0.out.size; omega) low
      obtain ⟨pc, capc, _, _, hkv, _, _⟩ := hci
      rw [hkv] at ha hci2
      obtain ⟨c0, c1, c2, c3, c4, c5⟩ := ha.of_block (low tg hg)
      have hgw : tg < wr.heap.size := by have := HB0.out.size; omega
      have hgw2 : tg ≠ wr.heap.size := by omega
      have hgw3 : tg ≠ wr.heap.size + 1 := by omega
      obtain ⟨Wt, hWt⟩ : ∃ Wt, Wt = (wr.alloc (.cells #[.int .i64 (k : Int)] 3)).alloc (.cells #[.string t.name, .int .i64 t.kind, .slice pc t.cols.length capc, .int .i64 t.lo, .int .i64 t.hi, .int .i64 t.first] 44) := ⟨_, rfl⟩
      have hkz : (k : Int) < (ts.length : Int) := by omega
      have HCI := hidden hci2
      have HLow := hidden low
      have HO1 := hidden hO1
      have HO2 := hidden hO2
      have HJO := hidden hJO
      have HKe := hidden hKe
      have HYb := hidden hYb
      have HDn := hidden hDn
      have HDm := hidden hDm
      have HX := hidden hx
      have HCt := hidden hct
      clear hh low hO1 hO2 hJO hKe hYb hDn hDm hx hct hci2 hkv ha
      gi_wp2_with fail
      rw [← hWt]
      have hBt : Below wr.heap.size wr Wt := by rw [hWt]; exact ((Below.refl _ _).alloc (Nat.le_refl _) _).alloc (by simp) _
      have hzt : Wt.heap.size = wr.heap.size + 2 := by rw [hWt]; simp
      have hti : Wt.cell? ⟨wr.heap.size, 0, none⟩ = some (.int .i64 (k : Int)) := by rw [hWt]; simp [go_sem]
      have hta : TabAt Wt (wr.heap.size + 1) 0 t (.slice pc t.cols.length capc) := by
        rw [hWt]
        have h := tabAt_alloc (wr.alloc (.cells #[.int .i64 (k : Int)] 3)) t (.slice pc t.cols.length capc) 44
        rw [World.size_alloc] at h
        exact h
      obtain ⟨S, hSd⟩ : ∃ S : World → Prop, S = (fun w' => Hid (Below Wt.heap.size Wt w')) := ⟨_, rfl⟩
      have SP : ∀ x : Cls S, Below Wt.heap.size Wt x.1 := fun x => by have h : S x.1 := x.2; have h2 := congrFun hSd x.1; exact (h2 ▸ h : Hid (Below Wt.heap.size Wt x.1)).out
      have hS0 : S Wt.drew := by rw [hSd]; exact (⟨rfl, rfl, rfl, Nat.le_refl _, fun _ _ => rfl⟩ : Below Wt.heap.size Wt Wt.drew)
      have keep : ∀ {w w' : World}, S w → Below w.heap.size w w' → S w' := by rw [hSd]; exact fun h hb => bt (Hid.out h) hb
      have hne : Nonempty (Cls S) := ⟨⟨_, hS0⟩⟩
      have xs : ∀ x : Cls S, x.1.cell? ⟨B2, 0, none⟩ = some (.bool isS) := fun x => (World.cell?_of_block (a := ⟨B2, 0, none⟩) (((SP x).block B2 (by have := HW.out.size; have := HKe.out.size; omega)).trans (hBt.block B2 (by have := HW.out.size; have := HKe.out.size; omega)))).trans e2
      have xt : ∀ x : Cls S, TabAt x.1 (wr.heap.size + 1) 0 t (.slice pc t.cols.length capc) := fun x => hta.of_block ((SP x).block _ (by omega))
      have y0 : ∀ x : Cls S, x.1.cell? ⟨wr.heap.size + 1, 0, none⟩ = some (.string t.name) := fun x => (xt x).c0
      have y1 : ∀ x : Cls S, x.1.cell? ⟨wr.heap.size + 1, 1, none⟩ = some (.int .i64 t.kind) := fun x => by have h := (xt x).c1; simpa using h
      have y2 : ∀ x : Cls S, x.1.cell? ⟨wr.heap.size + 1, 2, none⟩ = some (.slice pc t.cols.length capc) := fun x => by have h := (xt x).c2; simpa using h
      have y3 : ∀ x : Cls S, x.1.cell? ⟨wr.heap.size + 1, 3, none⟩ = some (.int .i64 t.lo) := fun x => by have h := (xt x).c3; simpa using h
      have y4 : ∀ x : Cls S, x.1.cell? ⟨wr.heap.size + 1, 4, none⟩ = some (.int .i64 t.hi) := fun x => by have h := (xt x).c4; simpa using h
      have y5 : ∀ x : Cls S, x.1.cell? ⟨wr.heap.size + 1, 5, none⟩ = some (.int .i64 t.first) := fun x => by have h := (xt x).c5; simpa using h
      obtain ⟨q, hq⟩ : ∃ q, strictB t.kind = q := ⟨_, rfl⟩
      have cst : ∀ x : Cls S, Calls Tryz.prog 58 #[.agg #[.string t.name, .int .i64 t.kind, .slice pc t.cols.length capc, .int .i64 t.lo, .int .i64 t.hi, .int .i64 t.first]] x.1 fun e w' => e = .returned (.bool q) ∧ ∃ y : Cls S, w' = y.1 := fun x => by
        rw [← hq]; exact Calls.inClass (strict_any t pc t.cols.length capc x.1) keep
      have HCST := hidden cst
      have HQ := hidden hq
      have HSP := hidden SP
      have HBt := hidden hBt
      have HTA := hidden hta
      have HTI := hidden hti
      have HS0 := hidden hS0
      clear hWt hBt hta hti hSd SP hS0 keep xt cst hq c0 c1 c2 c3 c4 c5 hgw hgw2 hgw3
      by_cases hqi : q = isS
      · subst hqi
        refine wpIn_wide.2 (wp_region_class S hmx (by kernel_rfl) HS0.out ?_)
        repeat (go_big_quiet_step (first | exact HCST.out _ | fail))
        refine wpQuiet_nil ?_
        rintro _ ⟨xw, rfl⟩
        obtain ⟨Wx, hWx⟩ : ∃ Wx, Wx = xw.1 := ⟨_, rfl⟩
        have f2 := y2 xw
        have hBx := HSP.out xw
        rw [← hWx] at f2 hBx ⊢
        clear xs y0 y1 y2 y3 y4 y5 HCST HSP hWx hne HS0
        have hBrx : Below wr.heap.size wr Wx := HBt.out.trans (hBx.mono HBt.out.size)
        have hzx := hBx.size
        have f0 : Wx.cell? ⟨B1, 0, none⟩ = some (.slice p ss.length cap) := (World.cell?_of_block (a := ⟨B1, 0, none⟩) (hBrx.block B1 (by have := HW.out.size; have := HKe.out.size; omega))).trans e0
        have f1 : Wx.cell? ⟨B1, 1, none⟩ = some (.slice (some ⟨tg, to, none⟩) ts.length tcap) := (World.cell?_of_block (a := ⟨B1, 1, none⟩) (hBrx.block B1 (by have := HW.out.size; have := HKe.out.size; omega))).trans e1
        have fi : Wx.cell? ⟨wr.heap.size, 0, none⟩ = some (.int .i64 (k : Int)) := (World.cell?_of_block (a := ⟨wr.heap.size, 0, none⟩) (hBx.block wr.heap.size (by omega))).trans HTI.out
        have hln := lengths_any ss t.cols (.slice p ss.length cap) (.slice pc t.cols.length capc) (some ⟨tg, to, none⟩) ts.length tcap Wx
          (HS2.out.low (by have := HB0.out.size; have := HKe.out.size; omega) (fun j hj => (hBrx.block j (by have := HB0.out.size; have := HKe.out.size; omega)).trans (HLow.out j hj))) (HCI.out.later hBrx) HSND.out HCt.out.1 HCt.out.2
        have hll := lens_len ss t.cols
        have hlp := lens_pos HSND.out HCt.out.1
        have hl3 := HCt.out.2
        have hstep := cellsFrom_step (ss := ss) (isS := q) HX.out
        rw [HQ.out, if_pos rfl] at hstep
        have hpfx := cellsFrom_prefix (ss := ss) (isS := q) (ts := ts) (k := k + 1) (by omega)
        rw [hstep] at hpfx
        rw [← hll] at hl3
        generalize lensL ss t.cols = ls at *
        have HLN := hidden hln
        have HLL := hidden hll
        have HLP := hidden hlp
        have HL3 := hidden hl3
        have HST := hidden hstep
        have HPF := hidden hpfx
        have HBx := hidden hBx
        have HBrx := hidden hBrx
        clear hln hll hlp hl3 hstep hpfx hBx hBrx e0 e1 e2
        gi_wp2_with fail
        refine ⟨trivial, ?_⟩
        (with_reducible refine (callsIn_wide.2 HLN.out).mono ?_)
        rintro e w5 ⟨lv, rfl, hrow5, hB5⟩
        rw [← HLL.out] at hrow5
        have hi5 := row_ints hrow5
        have hge5 := row_block hrow5
        obtain ⟨lp, lcap, lg, lo, hlv, hlp5, hlc5⟩ := hi5
        rw [natL_len] at hlv
        subst hlv
        have hlgV : ls ≠ [] → Wx.heap.size ≤ lg := fun h => by
          have h1 := hlp5 (fun h2 => h (List.map_eq_nil_iff.1 h2))
          exact hge5 lg (by rw [h1.1]; rfl)
        have hts := fun w' => tuples_any lp ls.length lcap w'
        have HB5 := hidden hB5
        have HLP5 := hidden hlp5
        have HLC5 := hidden hlc5
        clear HLN hrow5 hB5 hlp5 hlc5 hge5 f0 f1 f2
        gi_wp2_with fail
        refine ⟨trivial, ?_⟩
        (with_reducible refine (callsIn_wide.2 (hts _)).mono ?_)
        rintro e w6 ⟨rfl, rfl⟩
        obtain ⟨S6, hS⟩ : ∃ S, S = w5.heap.size := ⟨_, rfl⟩
        obtain ⟨W6, hW6⟩ : ∃ W6, W6 = w5.alloc (.cells #[.slice lp ls.length lcap] 23) := ⟨_, rfl⟩
        have hB6 : Below Wx.heap.size Wx W6 := by rw [hW6]; exact HB5.out.alloc HB5.out.size _
        have hz6 : W6.heap.size = S6 + 1 := by rw [hW6, hS]; simp
        have cS : W6.cell? ⟨S6, 0, none⟩ = some (.slice lp ls.length lcap) := by rw [hW6, hS]; simp
        have hSV : Wx.heap.size ≤ S6 := by have := HB5.out.size; omega
        have hlc6 : ∀ i z, (natL ls)[i]? = some z → W6.cell? ⟨lg, lo + i, none⟩ = some (.int .i64 z) := fun i z hz => by
          have hne : natL ls ≠ [] := fun h => by rw [h] at hz; simp at hz
          rw [hW6, World.cell?_alloc_lt _ _ _ (HLP5.out hne).2]; exact HLC5.out i z hz
        have hlp6 : ls ≠ [] → lp = some ⟨lg, lo, none⟩ ∧ lg < W6.heap.size ∧ Wx.heap.size ≤ lg := fun h => by
          have h1 := HLP5.out (fun h2 => h (List.map_eq_nil_iff.1 h2))
          exact ⟨h1.1, by omega, hlgV h⟩
        have f6 : W6.cell? ⟨wr.heap.size, 0, none⟩ = some (.int .i64 (k : Int)) := (World.cell?_of_block (a := ⟨wr.heap.size, 0, none⟩) (hB6.block wr.heap.size (by omega))).trans fi
        have hBr6 : Below wr.heap.size wr W6 := HBrx.out.trans (hB6.mono HBrx.out.size)
        have HBr6 := hidden hBr6
        have HLC6 := hidden hlc6
        have HLP6 := hidden hlp6
        have HF6 := hidden f6
        clear hts HB5 HLP5 HLC5 hB6 hlc6 hlp6 hlgV hBr6 f6 fi
        gi_wp2_with fail
        rw [← hW6]
        rw [← hS]
        clear hW6 hS
        have hlp7 : ls ≠ [] → lp = some ⟨lg, lo, none⟩ ∧ lg < W6.heap.size ∧ Wx.heap.size ≤ lg := HLP6.out
        have hwz6 : wr.heap.size + 2 ≤ W6.heap.size := by omega
        have hWwr : W.heap.size ≤ wr.heap.size := by omega
        refine rangeM (gf := 61) (lb := #[.pointer (some ⟨S6, 0, none⟩)]) (K := fun k => wr.heap.size ≤ k ∧ k < W6.heap.size) rfl (enters_of Tryz.func61 (by kernel_rfl) rfl)
          (tuples1_any _ ls (fun n hn => (HLP.out n hn).1) (fun n hn => (HLP.out n hn).2) HL3.out cS (fun k hk => hk.2) ⟨by omega, by omega⟩ (fun h => ⟨(hlp7 h).1, (hlp7 h).2.1, by have := (hlp7 h).2.2; omega, (hlp7 h).2.1⟩) HLC6.out) (by rintro O x vs A ⟨T, C, rfl, _⟩; rfl) (Below.refl _ _) (fun k hk => hk.2)
          (fun Oi pre A => J (joinO O wr.heap.size W6.heap.size Oi) (cellsFrom ss q (ts.take k) 0 ++ pre.map (fun x => (k, x))) A ∧ Keeps K W A ∧ Keeps O wr A ∧ Keeps (fun k => wr.heap.size ≤ k ∧ k < W6.heap.size) W6 A)
          (fun Oi c pre A => c = .ret ∧ Jx (joinO O wr.heap.size W6.heap.size Oi) (cellsFrom ss q (ts.take k) 0 ++ pre.map (fun x => (k, x))) A ∧ Keeps K W A ∧ Keeps O wr A ∧ Keeps (fun k => wr.heap.size ≤ k ∧ k < W6.heap.size) W6 A)
          (fun Oi pre x a' A => (J (joinO O wr.heap.size W6.heap.size (withLoop W6.heap.size Oi)) (cellsFrom ss q (ts.take k) 0 ++ pre.map (fun x => (k, x))) A ∧ Keeps K W A ∧ Keeps O wr A ∧ Keeps (fun k => wr.heap.size ≤ k ∧ k < W6.heap.size) W6 A) ∧ ∃ T C, Oi T ∧ T < A.heap.size ∧ TupAt A T x ∧
            ∃ v1 v2 v5 v7 v8 v9 v10 v11 v12 v13 v14 v15 v16 v17 v18 v19 v20 v21 v22 v23 v24 v25 v26 v27 v28 v29 v30 : Value, a' = { tmps := #[.func (.yield l) #[] #[], v1, v2, .pointer (some ⟨W.heap.size, 0, none⟩), .pointer (some ⟨wr.heap.size, 0, none⟩), v5, .slice (some ⟨T, 0, none⟩) x.length C, v7, v8, v9, v10, v11, v12, v13, v14, v15, v16, v17, v18, v19, v20, v21, v22, v23, v24, v25, v26, v27, v28, v29, v30], defers := [] })
          ?hI ?hIx ?hIg ?hAx ?h0 ?assign ?body ?done ?stop
        case hI =>
          rintro Oi s A B hlo hA ⟨h1, h2, h3, h4⟩ ht
          exact ⟨HJ.out _ _ _ _ h1 (ht.mono (fun k h => .inr (.inr h))), keeps_turn h2 ht (fun k h => by have := hlo k h; omega), keeps_turn h3 ht (fun k h => by have := hlo k h; omega), keeps_turn h4 ht (fun k h => by have := hlo k h; omega)⟩
        case hIx =>
          rintro Oi c s A B hlo hA ⟨h0, h1, h2, h3, h4⟩ ht
          exact ⟨h0, HJx.out _ _ _ _ h1 (ht.mono (fun k h => .inr (.inr h))), keeps_turn h2 ht.turn (fun k h => by have := hlo k h; omega), keeps_turn h3 ht.turn (fun k h => by have := hlo k h; omega), keeps_turn h4 ht.turn (fun k h => by have := hlo k h; omega)⟩
        case hIg =>
          rintro O1 O2 s A ⟨h1, h2, h3, h4⟩ hg
          refine ⟨HJg.out _ _ _ _ h1 (fun k h => ?_), h2, h3, h4⟩
          rcases h with h | h | h
          · exact .inl (.inl h)
          · exact .inl (.inr (.inl h))
          · rcases hg k h with h | h
            · exact .inl (.inr (.inr h))
            · exact .inr h
        case hAx =>
          rintro Oi s x a' A B ⟨⟨h1, h2, h3, h4⟩, T, C, g1, g2, g3, g4⟩ hlo hA ht
          have ht2 : TurnO (withLoop W6.heap.size Oi) A B := ht.mono (fun k h => .inr (.inr h))
          exact ⟨⟨HJ.out _ _ _ _ h1 (ht2.mono (fun k h => .inr (.inr h))), keeps_turn h2 ht (fun k h => by omega), keeps_turn h3 ht (fun k h => by omega), keeps_turn h4 ht (fun k h => by omega)⟩, T, C, g1, Nat.lt_of_lt_of_le g2 ht.size, g3.of_block (ht.block T g2 (fun h => by have := hlo T g1; omega)), g4⟩
        case h0 =>
          intro B hB
          have hb := HBr6.out.trans (hB.mono HBr6.out.size)
          have hk1 : Keeps K W B := HKe.out.trans (Keeps.of_below hb hb.size (fun k hk => by have := hKw k hk; omega))
          have hk2 : Keeps O wr B := Keeps.of_below hb hb.size (fun k hk => (HO1.out k hk).2)
          refine ⟨?_, hk1, hk2, Keeps.of_below hB hB.size (fun k hk => hk.2)⟩
          rw [List.map_nil, List.append_nil]
          refine HJ.out _ _ wr _ (HJg.out _ _ _ _ HJO.out (fun k h => ?_)) (TurnO.of_below hb)
          rcases h with h | h | h
          · exact .inl h
          · exact .inr h.1
          · exact .inr (by have := h.1; omega)
        case assign =>
          rintro l' Oi pre x vs A hi ⟨T, C, rfl, hT1, hT3⟩ hO hA hp
          have HI := hidden hi
          have HT3 := hidden hT3
          clear hi hT3
          simp only [setAll]
          gi_wp2_with fail
          exact ⟨⟨HI.out, T, C, hT1, (hO T hT1).2, HT3.out, _, _, _, _, _, _, _, _, _, _, _, _, _, _, _, _, _, _, _, _, _, _, _, _, _, _, _, rfl⟩, Keeps.refl _ _, Keeps.refl _ _⟩
        case body =>
          rintro l' Oi pre x a' A ⟨⟨i1, i2, i3, i4⟩, T, C, hT1, hT2, hT3, v1, v2, v5, v7, v8, v9, v10, v11, v12, v13, v14, v15, v16, v17, v18, v19, v20, v21, v22, v23, v24, v25, v26, v27, v28, v29, v30, rfl⟩ hOA hA hp
          have cy : A.cell? ⟨W.heap.size, 0, none⟩ = some (.func (.yield l) #[] #[]) := HY1.out A ((i3.block _ HO2.out hwz).trans HYb.out)
          have ci : A.cell? ⟨wr.heap.size, 0, none⟩ = some (.int .i64 (k : Int)) := (World.cell?_of_block (a := ⟨wr.heap.size, 0, none⟩) (i4.block wr.heap.size ⟨Nat.le_refl _, by omega⟩ (by omega))).trans HF6.out
          have hpre : (cellsFrom ss q (ts.take k) 0 ++ pre.map (fun x => (k, x))) ++ [(k, x)] <+: cellsFrom ss q ts 0 := by
            refine List.IsPrefix.trans ?_ HPF.out
            obtain ⟨r, hr⟩ := hp
            exact ⟨r.map (fun x => (k, x)), by rw [← hr]; simp⟩
          obtain ⟨fn, tmps, assign, body, hy, hR⟩ := HY.out (joinO O wr.heap.size W6.heap.size (withLoop W6.heap.size Oi)) _ (k, x) #[.int .i64 (k : Int), .slice (some ⟨T, 0, none⟩) x.length C] A i1 ⟨T, C, rfl, .inr (.inr (.inl hT1)), hT3⟩
            (fun m h => by
              rcases h with h | h | h | h | h
              · have := HO1.out m h; omega
              · omega
              · have := hOA m h; omega
              · omega
              · omega) hpre
          have I2 := hidden i2
          have I3 := hidden i3
          have I4 := hidden i4
          have HHA := hidden hA
          clear i1 i2 i3 i4 hT3 hpre hp hlp7 cS
          gi_wp2_with fail
          refine (round_any _ hR).mono ?_
          have fin : ∀ w5, Keeps (joinO O wr.heap.size W6.heap.size (withLoop W6.heap.size Oi)) A w5 → Keeps K A w5 → (Keeps K W w5 ∧ Keeps O wr w5 ∧ Keeps (fun k => wr.heap.size ≤ k ∧ k < W6.heap.size) W6 w5) ∧ Keeps (withLoop W6.heap.size Oi) A w5 ∧ Keeps (fun k => wr.heap.size ≤ k ∧ k < W6.heap.size) A w5 := fun w5 h1 h2 =>
            have a1 : Keeps O A w5 := ⟨h1.size, fun k h => h1.block k (.inl h)⟩
            have a2 : Keeps (fun k => wr.heap.size ≤ k ∧ k < W6.heap.size) A w5 := ⟨h1.size, fun k h => h1.block k (.inr (.inl h))⟩
            have a3 : Keeps (withLoop W6.heap.size Oi) A w5 := ⟨h1.size, fun k h => h1.block k (.inr (.inr h))⟩
            ⟨⟨I2.out.trans h2, I3.out.trans a1, I4.out.trans a2⟩, a3, a2⟩
          rintro e w5 (⟨rfl, hJ5, hm5, hb5⟩ | ⟨rfl, hJ5, hm5, hb5⟩)
          · have hf := hidden (fin w5 hm5 hb5)
            have HJ5 := hidden hJ5
            clear fin hy hR hJ5 hm5 hb5
            gi_wp2_with fail
            exact ⟨⟨by have h := HJ5.out; rw [List.append_assoc, ← List.map_singleton, ← List.map_append] at h; exact h, hf.out.1⟩, hf.out.2⟩
          · have hf := hidden (fin w5 hm5 hb5)
            have HJ5 := hidden hJ5
            clear fin hy hR hJ5 hm5 hb5
            gi_wp2_with fail
            exact ⟨⟨rfl, by have h := HJ5.out; rw [List.append_assoc, ← List.map_singleton, ← List.map_append] at h; exact h, hf.out.1⟩, hf.out.2⟩
        case done =>
          rintro Oi D B ⟨i1, i2, i3, i4⟩ hOm hOD hk2
          have I1 := hidden i1
          have I2 := hidden i2
          have I3 := hidden i3
          have HOm := hidden hOm
          have HOD := hidden hOD
          have HK2 := hidden hk2
          clear i1 i2 i3 i4 hOm hOD hk2 hlp7 cS
          gi_wp2_with fail
          refine ⟨⟨k + 1, D :: Ds, _, _, _, _, _, _, _, _, _, _, _, _, _, _, _, _, _, _, _, _, _, _, _, rfl, by omega, joinO O wr.heap.size W6.heap.size Oi, fun m h => ?_, .inl HO2.out, ?_, I2.out, (I3.out.block _ HO2.out hwz).trans HYb.out, ?_, ?_⟩, ?_⟩
          · have hz := I3.out.size
            rcases h with h | h | h
            · have := HO1.out m h; omega
            · have := HOm.out D HOD.out; omega
            · have := HOm.out m h; omega
          · rw [HST.out]; exact I1.out
          · refine List.nodup_cons.2 ⟨fun h => ?_, HDn.out⟩
            have h1 := (HO1.out D (HDm.out D h).1).2
            have h2 := (HOm.out D HOD.out).1
            omega
          · intro D' h
            rcases List.mem_cons.1 h with rfl | h
            · exact ⟨.inr (.inr HOD.out), HK2.out⟩
            · have h1 := HDm.out D' h
              exact ⟨.inl h1.1, (I3.out.block _ h1.1 (HO1.out D' h1.1).2).trans h1.2⟩
          · show ts.length - ((k : Int) + 1).toNat < ts.length - (k : Int).toNat
            omega
        case stop =>
          rintro Oi D c pre B hp ⟨rfl, i1, i2, i3, i4⟩ hOm hOD hk2
          have I1 := hidden i1
          have I3 := hidden i3
          have HOm := hidden hOm
          have HOD := hidden hOD
          have HK2 := hidden hk2
          have HP := hidden hp
          clear i1 i2 i3 i4 hOm hOD hk2 hlp7 cS hp
          gi_wp2_with fail
          refine leaves_marksM (D :: Ds) B (List.nodup_cons.2 ⟨fun h => ?_, HDn.out⟩) (fun D' h => ?_) (fun w' ht => ?_)
          · have h1 := (HO1.out D (HDm.out D h).1).2
            have h2 := (HOm.out D HOD.out).1
            omega
          · rcases List.mem_cons.1 h with rfl | h
            · exact HK2.out
            · have h1 := HDm.out D' h
              exact (I3.out.block _ h1.1 (HO1.out D' h1.1).2).trans h1.2
          · refine ⟨_, results_none rfl _ _ _, ⟨_, rfl⟩, joinO O wr.heap.size W6.heap.size Oi, fun m h => ?_, .inr ⟨_, ?_, HJx.out _ _ _ _ I1.out (ht.mono (fun m h => ?_))⟩⟩
            · have hz := I3.out.size
              have hz2 := ht.turn.size
              rcases h with h | h | h
              · have := HO1.out m h; omega
              · have := HOm.out D HOD.out; omega
              · have := HOm.out m h; omega
            · refine List.IsPrefix.trans ?_ HPF.out
              obtain ⟨r, hr⟩ := HP.out
              exact ⟨r.map (fun x => (k, x)), by rw [← hr]; simp⟩
            · rcases List.mem_cons.1 h with rfl | h
              · exact .inr (.inr HOD.out)
              · exact .inl (HDm.out m h).1
      · have hqi2 : q = !isS := by cases q <;> cases isS <;> simp_all
        subst hqi2
        refine wpIn_wide.2 (wp_region_class S hmx (by kernel_rfl) HS0.out ?_)
        repeat (go_big_quiet_step (first | exact HCST.out _ | fail))
        refine wpQuiet_nil ?_
        rintro _ ⟨xw, rfl⟩
        have hBx : Below wr.heap.size wr xw.1 := HBt.out.trans ((HSP.out xw).mono HBt.out.size)
        have HBx := hidden hBx
        clear xs y0 y1 y2 y3 y4 y5 HCST HSP hne HS0 hBx e0 e1 e2
        gi_wp2_with fail
        refine ⟨⟨k + 1, Ds, _, _, _, _, _, _, _, _, _, _, _, _, _, _, _, _, _, _, _, _, _, _, _, rfl, by omega, O, fun m h => ⟨(HO1.out m h).1, by have := (HO1.out m h).2; have := HBx.out.size; omega⟩, HO2.out, ?_, HKe.out.trans (Keeps.of_below HBx.out HBx.out.size (fun k hk => by have := hKw k hk; omega)), (HBx.out.block _ hwz).trans HYb.out, HDn.out, fun D h => ⟨(HDm.out D h).1, (HBx.out.block _ (HO1.out D (HDm.out D h).1).2).trans (HDm.out D h).2⟩⟩, ?_⟩
        · have hstep := cellsFrom_step (ss := ss) (isS := isS) HX.out
          rw [HQ.out, if_neg hqi, List.append_nil] at hstep
          rw [hstep]
          exact HJ.out _ _ _ _ HJO.out (TurnO.of_below HBx.out)
        · show ts.length - ((k : Int) + 1).toNat < ts.length - (k : Int).toNat
          omega
    · have hkz : ¬ (k : Int) < (ts.length : Int) := by omega
      obtain rfl : k = ts.length := by omega
      rw [List.take_length] at hJO
      have HO1 := hidden hO1
      have HJO := hidden hJO
      have HDn := hidden hDn
      have HDm := hidden hDm
      clear hh low hO1 hO2 hJO hKe hYb hDn hDm e0 e1 e2 hlt
      gi_wp2_with fail
      refine leaves_marksM Ds wr HDn.out (fun D h => (HDm.out D h).2) (fun w' ht => ?_)
      refine ⟨_, results_none rfl _ _ _, ⟨_, rfl⟩, O, fun k h => ⟨(HO1.out k h).1, by have h1 := (HO1.out k h).2; have h2 := ht.turn.size; omega⟩, .inl ?_⟩
      exact HJ.out _ _ _ _ HJO.out (ht.turn.mono (fun D h => (HDm.out D h).1))

end Go.Proofs.YtfmoophjdgejeaaGreatDoor
