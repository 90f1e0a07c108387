import Derived.Test.YtfmoophjdgejeaaGreatDoorCj
import Derived.Test.YtfmoophjdgejeaaGreatDoorCk
import Derived.Test.YtfmoophjdgejeaaGreatDoorRq
/-
  A valid layout.
-/
namespace Go.Proofs.YtfmoophjdgejeaaGreatDoor
open Go.RowKit Go.Shelf

def tabOkB (ss : List Int) (t : Tab) : Bool := (t.cols.all (colB ss.length) && decide (t.cols.length ≤ 3)) && rangeB t
def nameOkB (ts : List Tab) (i : Nat) (t : Tab) : Bool := decide (tableN ts t.name = i) && nameB t.name
/-- How many cells a table has. -/
def areaN (ss : List Int) (t : Tab) : Nat := prodL (lensL ss t.cols)
def goV (ss : List Int) (ts : List Tab) : List Tab → Nat → Nat → Nat → Bool
  | [], _, a, b => decide (a ≤ 128) && decide (b ≤ 64)
  | t :: r, i, a, b => tabOkB ss t && (nameOkB ts i t && (t.first == (if strictB t.kind = true then (a : Int) else b) &&
      goV ss ts r (i + 1) (if strictB t.kind = true then a + areaN ss t else a) (if strictB t.kind = true then b else b + areaN ss t)))
def validB (ss : List Int) (ts : List Tab) : Bool := decide (ss.length ≤ 4) && (soundB ss && (decide (ts.length ≤ 12) && goV ss ts ts 0 0 0))

theorem goV_drop {ss : List Int} {ts : List Tab} {k a b : Nat} {t : Tab} (h : ts[k]? = some t) : goV ss ts (ts.drop k) k a b = (tabOkB ss t && (nameOkB ts k t && (t.first == (if strictB t.kind = true then (a : Int) else b) &&
      goV ss ts (ts.drop (k + 1)) (k + 1) (if strictB t.kind = true then a + areaN ss t else a) (if strictB t.kind = true then b else b + areaN ss t)))) := by
  rw [drop_step h]; rfl

theorem wp_update {w : World} {o : Oper} {a : Act} {K : Act → World → Prop} {Q : Exit → Act → World → Prop} (m x v : Operand) (ho : o.op = Op.mapUpdate 103 m x v)
    (b n x0 y0 : Nat) (q : Bool) (z : Nat) (hm : a.eval m = .map (some b)) (hx : a.eval x = .bool q) (hv : a.eval v = .int .i64 (z : Int)) (h : CntM w b n x0 y0) (hn : n ≤ 100) (hz : z ≤ 100000)
    (hK : ∀ w', CntM w' b (n + 1) (if q then z else x0) (if q then y0 else z) → w.grownBy w' (some b) → K (a.put o.dst undef) w') : Oper.wp Tryz.prog o a w K Q := by
  obtain ⟨w', hrun, h1, h2⟩ := h.update hn q z hz
  unfold Oper.wp
  simp [execOp, ho, hm, hx, hv, hrun, Result.andThen]
  exact hK w' h1 h2

theorem cell_later {w w' : World} {a : Addr} {v : Value} (h : w.cell? a = some v) (hb : Below w.heap.size w w') : w'.cell? a = some v := (hb.cell (cell_lt h)).trans h

/-- A region all of whose operations leave a world of a class. -/
theorem wp_region_class {P : Program} {id : Nat} {Q : Exit → Act → World → Prop} {a : Act} {w : World} {l : List Oper} (S : World → Prop) (hm : P.follows .mixedOrders = true) (hB : Region.lexB .any l.toArray = true) (hS : S w.drew)
    (h : wpQuiet P l.toArray (fun w' => ∃ x : Cls S, w' = x.1) (fun a' => ∀ w', (∃ x : Cls S, w' = x.1) → Q .normal a' w') l a) : (Code.region id l.toArray true).wp P Q a w :=
  wp_region_quiet (C := fun w' => ∃ x : Cls S, w' = x.1) hm hB ⟨⟨w.drew, hS⟩, rfl⟩ (by simpa using h)

theorem Calls.inClass {P : Program} {f : FuncId} {args : Array Value} {S : World → Prop} {x : Cls S} {v : Value} (h : Calls P f args x.1 fun e w' => e = .returned v ∧ Below x.1.heap.size x.1 w') (keep : ∀ {w w' : World}, S w → Below w.heap.size w w' → S w') :
    Calls P f args x.1 fun e w' => e = .returned v ∧ ∃ y : Cls S, w' = y.1 :=
  h.mono fun _ _ ⟨he, hb⟩ => ⟨he, ⟨⟨_, keep x.2 hb⟩, rfl⟩⟩

/-- What the drawn regions of valid load. -/
theorem validKeep {Wt w w' : World} {L T : Nat} {a0 a1 b0 b1 b2 b3 b4 b5 : Value}
    (h : w.cell? ⟨L, 0, none⟩ = some a0 ∧ w.cell? ⟨L, 1, none⟩ = some a1 ∧ w.cell? ⟨T, 0, none⟩ = some b0 ∧ w.cell? ⟨T, 1, none⟩ = some b1 ∧ w.cell? ⟨T, 2, none⟩ = some b2 ∧ w.cell? ⟨T, 3, none⟩ = some b3 ∧ w.cell? ⟨T, 4, none⟩ = some b4 ∧ w.cell? ⟨T, 5, none⟩ = some b5 ∧ Hid (Below Wt.heap.size Wt w)) (hb : Below w.heap.size w w') :
    w'.cell? ⟨L, 0, none⟩ = some a0 ∧ w'.cell? ⟨L, 1, none⟩ = some a1 ∧ w'.cell? ⟨T, 0, none⟩ = some b0 ∧ w'.cell? ⟨T, 1, none⟩ = some b1 ∧ w'.cell? ⟨T, 2, none⟩ = some b2 ∧ w'.cell? ⟨T, 3, none⟩ = some b3 ∧ w'.cell? ⟨T, 4, none⟩ = some b4 ∧ w'.cell? ⟨T, 5, none⟩ = some b5 ∧ Hid (Below Wt.heap.size Wt w') := by
  obtain ⟨h0, h1, h2, h3, h4, h5, h6, h7, h8⟩ := h
  exact ⟨cell_later h0 hb, cell_later h1 hb, cell_later h2 hb, cell_later h3 hb, cell_later h4 hb, cell_later h5 hb, cell_later h6 hb, cell_later h7 hb, bt h8.out hb⟩

set_option maxRecDepth 100000 in
set_option maxHeartbeats 12800000 in
theorem valid_any (ss : List Int) (ts : List Tab) (sv tv : Value) (w : World) (hs : IntsV w sv ss) (ht : TabsV w tv ts) (hl : ss.length ≤ 4611686018427387904) (hlt : ts.length ≤ 4611686018427387903)
    (hsm : ∀ t ∈ ts, t.name.size ≤ 4096 ∧ t.cols.length ≤ 4611686018427387904) (hm : MaxAt w) :
    Calls Tryz.prog 32 #[.agg #[sv, tv]] w fun e w' => e = .returned (.bool (validB ss ts)) ∧ Below w.heap.size w w' := by
  have hs2 := hs
  have ht2 := ht
  obtain ⟨p, cap, g, o, rfl, _, _⟩ := hs
  obtain ⟨q, tcap, tg, to, ks, rfl, hqp, hat⟩ := ht
  obtain ⟨r, hr⟩ : ∃ r, validB ss ts = r := ⟨_, rfl⟩
  rw [hr]
  obtain ⟨W1, hW1⟩ : ∃ W1, W1 = w.alloc (.cells #[.slice p ss.length cap, .slice q ts.length tcap] 61) := ⟨_, rfl⟩
  have hB1 : Below w.heap.size w W1 := by rw [hW1]; exact (Below.refl _ _).alloc (Nat.le_refl _) _
  have hz1 : W1.heap.size = w.heap.size + 1 := by rw [hW1]; simp
  have c10 : W1.cell? ⟨w.heap.size, 0, none⟩ = some (.slice p ss.length cap) := by rw [hW1]; simp
  have c11 : W1.cell? ⟨w.heap.size, 1, none⟩ = some (.slice q ts.length tcap) := by rw [hW1]; simp
  unfold validB at hr
  by_cases h4 : ss.length ≤ 4
  · have h4z : (ss.length : Int) ≤ 4 := by omega
    have hvs := validSizes_any ss _ q ts.length tcap W1 (hs2.later hB1) hl
    rw [decide_eq_true h4, Bool.true_and] at hr
    by_cases h5 : soundB ss = true
    · rw [h5, Bool.true_and] at hr
      rw [h5] at hvs
      by_cases h12 : ts.length ≤ 12
      · have h12z : (ts.length : Int) ≤ 12 := by omega
        rw [decide_eq_true h12, Bool.true_and] at hr
        have hmm := @run_makeMap Tryz.prog
        have HR := hidden hr
        have HB1 := hidden hB1
        have HS2 := hidden hs2
        have HT2 := hidden ht2
        have HQP := hidden hqp
        have HAT := hidden hat
        have HSM := hidden hsm
        have HM := hidden hm
        have H5 := hidden h5
        have H4 := hidden h4
        clear hr hB1 hs2 ht2 hqp hat hsm hm h5 h4 hl hlt
        go_enter Tryz.func32, Tryz.ntmps32
        go_wp2_with fail
        rw [← hW1]
        clear hW1
        (with_reducible refine hvs.mono ?_)
        rintro e w2 ⟨rfl, hB2⟩
        have k0 := cell_later c10 hB2
        have k1 := cell_later c11 hB2
        have hL2 : w.heap.size < w2.heap.size := by have := hB2.size; omega
        have hL3 : w.heap.size ≠ w2.heap.size := Nat.ne_of_lt hL2
        have HB2 := hidden (HB1.out.trans (hB2.mono HB1.out.size))
        clear hB2 hvs c10 c11 hz1 HB1
        go_wp2_with fail
        obtain ⟨M, hM⟩ : ∃ M, M = w2.heap.size := ⟨_, rfl⟩
        obtain ⟨W3, hW3⟩ : ∃ W3, W3 = w2.alloc (.map #[] 0) := ⟨_, rfl⟩
        have hC3 : CntM W3 M 0 0 0 := by rw [hW3, hM]; exact CntM.made w2
        have hB3 : Below w.heap.size w W3 := by rw [hW3]; exact HB2.out.alloc HB2.out.size _
        have k30 : W3.cell? ⟨w.heap.size, 0, none⟩ = some (.slice p ss.length cap) := by rw [hW3, World.cell?_alloc_lt _ _ _ hL2]; exact k0
        have k31 : W3.cell? ⟨w.heap.size, 1, none⟩ = some (.slice q ts.length tcap) := by rw [hW3, World.cell?_alloc_lt _ _ _ hL2]; exact k1
        have hLM : w.heap.size < M := by omega
        rw [← hW3]
        rw [← hM]
        have HC3 := hidden hC3
        have HB3 := hidden hB3
        clear hW3 hM hC3 hB3 k0 k1 hL2 hL3 HB2
        go_loopw [25] (fun i wr => ∃ k : Nat, k ≤ ts.length ∧ i = .int .i64 k ∧ ∃ a b : Nat, Hid (goV ss ts (ts.drop k) k a b = r ∧ CntM wr M k a b ∧ a ≤ 216 * k ∧ b ≤ 216 * k ∧ Below M W3 wr)) (fun i _ => ts.length - (intOf i).toNat)
        case atStart => exact ⟨0, Nat.zero_le _, rfl, 0, 0, HR.out, HC3.out, by omega, by omega, Below.refl _ _⟩
        case round =>
          obtain ⟨k, hk, rfl, a, b, hh⟩ := hrel
          obtain ⟨g1, g2, g3, g4, g5⟩ := hh.out
          have m0 : wr.cell? ⟨w.heap.size, 0, none⟩ = some (.slice p ss.length cap) := (g5.cell (p := ⟨w.heap.size, 0, none⟩) hLM).trans k30
          have m1 : wr.cell? ⟨w.heap.size, 1, none⟩ = some (.slice q ts.length tcap) := (g5.cell (p := ⟨w.heap.size, 1, none⟩) hLM).trans k31
          have hBw : Below w.heap.size w wr := HB3.out.trans (g5.mono (Nat.le_of_lt hLM))
          by_cases hlt2 : k < ts.length
          · have hx : ts[k]? = some ts[k] := List.getElem?_eq_getElem hlt2
            have hsm := HSM.out _ (List.getElem_mem hlt2)
            generalize ts[k] = t at hx hsm
            obtain ⟨rfl, hg⟩ := HQP.out (fun h => by rw [h] at hlt2; exact absurd hlt2 (Nat.not_lt_zero _))
            obtain ⟨ha, hci⟩ := HAT.out k t hx
            have hci2 := hci
            obtain ⟨pc, capc, _, _, hkv, _, _⟩ := hci
            rw [hkv] at ha hci2
            have ha2 := ha.of_block (hBw.block tg hg)
            obtain ⟨c0, c1, c2, c3, c4, c5⟩ := ha2
            have hLr : w.heap.size < wr.heap.size := by have := g2.lt; omega
            have hLr2 : w.heap.size ≠ wr.heap.size := Nat.ne_of_lt hLr
            obtain ⟨Wt, hWt⟩ : ∃ Wt, Wt = wr.alloc (.cells #[.string t.name, .int .i64 t.kind, .slice pc t.cols.length capc, .int .i64 t.lo, .int .i64 t.hi, .int .i64 t.first] 44) := ⟨_, rfl⟩
            have hBt : Below wr.heap.size wr Wt := by rw [hWt]; exact (Below.refl _ _).alloc (Nat.le_refl _) _
            have hBwt := hBw.trans (hBt.mono hBw.size)
            have hta : TabAt Wt wr.heap.size 0 t (.slice pc t.cols.length capc) := by rw [hWt]; exact tabAt_alloc wr t _ _
            have hS : Wt.cell? ⟨w.heap.size, 0, none⟩ = some (.slice p ss.length cap) ∧ Wt.cell? ⟨w.heap.size, 1, none⟩ = some (.slice (some ⟨tg, to, none⟩) ts.length tcap) ∧ Wt.cell? ⟨wr.heap.size, 0, none⟩ = some (.string t.name) ∧ Wt.cell? ⟨wr.heap.size, 1, none⟩ = some (.int .i64 t.kind) ∧ Wt.cell? ⟨wr.heap.size, 2, none⟩ = some (.slice pc t.cols.length capc) ∧ Wt.cell? ⟨wr.heap.size, 3, none⟩ = some (.int .i64 t.lo) ∧ Wt.cell? ⟨wr.heap.size, 4, none⟩ = some (.int .i64 t.hi) ∧ Wt.cell? ⟨wr.heap.size, 5, none⟩ = some (.int .i64 t.first) ∧ Hid (Below Wt.heap.size Wt Wt) := by
              have d1 := hta.c1
              have d2 := hta.c2
              have d3 := hta.c3
              have d4 := hta.c4
              have d5 := hta.c5
              rw [Nat.zero_add] at d1 d2 d3 d4 d5
              exact ⟨cell_later m0 hBt, cell_later m1 hBt, hta.c0, d1, d2, d3, d4, d5, Below.refl _ _⟩
            have HVT : Hid (∀ w', Hid (Below Wt.heap.size Wt w') → Calls Tryz.prog 56 #[.agg #[.slice p ss.length cap, .slice (some ⟨tg, to, none⟩) ts.length tcap], .agg #[.string t.name, .int .i64 t.kind, .slice pc t.cols.length capc, .int .i64 t.lo, .int .i64 t.hi, .int .i64 t.first]] w' fun e w2 => e = .returned (.bool (tabOkB ss t)) ∧ Below w'.heap.size w' w2) :=
              fun w' h => validTable_any ss.length t _ p cap _ _ _ w' (hci2.later (bt hBwt h.out)) hsm.2
            have HVN : Hid (∀ w', Hid (Below Wt.heap.size Wt w') → Calls Tryz.prog 57 #[.agg #[.slice p ss.length cap, .slice (some ⟨tg, to, none⟩) ts.length tcap], .int .i64 k] w' fun e w2 => e = .returned (.bool (nameOkB ts k t)) ∧ Below w'.heap.size w' w2) :=
              fun w' h => validName_any ts _ k t p ss.length cap w' (HT2.out.later (bt hBwt h.out)) (by omega) hx hsm.1 (HM.out.keep (bt hBwt h.out))
            have HST : Hid (∀ w', Calls Tryz.prog 58 #[.agg #[.string t.name, .int .i64 t.kind, .slice pc t.cols.length capc, .int .i64 t.lo, .int .i64 t.hi, .int .i64 t.first]] w' fun e w2 => e = .returned (.bool (strictB t.kind)) ∧ Below w'.heap.size w' w2) :=
              fun w' => strict_any t pc t.cols.length capc w'
            have HCt := hidden (g2.later hBt)
            have g2z : M < wr.heap.size := g2.lt
            have hd := goV_drop (ss := ss) (a := a) (b := b) hx
            rw [g1] at hd
            have HD := hidden hd
            have HX := hidden hx
            have HCI := hidden hci2
            have G34 := hidden (And.intro g3 g4)
            have HBT := hidden hBwt
            have HG5 := hidden g5
            have HBt2 := hidden hBt
            have hkz : (k : Int) < (ts.length : Int) := by omega
            clear hd hx hci2 g1 g2 g3 g4 g5 hBwt hBt hta hkv ha hsm hBw hh
            go_wp2_with fail
            rw [← hWt]
            clear hWt m0 m1 c0 c1 c2 c3 c4 c5 hLr2
            obtain ⟨S, hSd⟩ : ∃ S : World → Prop, S = (fun w' => w'.cell? ⟨w.heap.size, 0, none⟩ = some (.slice p ss.length cap) ∧ w'.cell? ⟨w.heap.size, 1, none⟩ = some (.slice (some ⟨tg, to, none⟩) ts.length tcap) ∧ w'.cell? ⟨wr.heap.size, 0, none⟩ = some (.string t.name) ∧ w'.cell? ⟨wr.heap.size, 1, none⟩ = some (.int .i64 t.kind) ∧ w'.cell? ⟨wr.heap.size, 2, none⟩ = some (.slice pc t.cols.length capc) ∧ w'.cell? ⟨wr.heap.size, 3, none⟩ = some (.int .i64 t.lo) ∧ w'.cell? ⟨wr.heap.size, 4, none⟩ = some (.int .i64 t.hi) ∧ w'.cell? ⟨wr.heap.size, 5, none⟩ = some (.int .i64 t.first) ∧ Hid (Below Wt.heap.size Wt w')) := ⟨_, rfl⟩
            have hS0 : S Wt.drew := by rw [hSd]; exact validKeep hS ⟨rfl, rfl, rfl, Nat.le_refl _, fun _ _ => rfl⟩
            have keep : ∀ {w w' : World}, S w → Below w.heap.size w w' → S w' := by rw [hSd]; exact fun h hb => validKeep h hb
            have SP : ∀ w', S w' → w'.cell? ⟨w.heap.size, 0, none⟩ = some (.slice p ss.length cap) ∧ w'.cell? ⟨w.heap.size, 1, none⟩ = some (.slice (some ⟨tg, to, none⟩) ts.length tcap) ∧ w'.cell? ⟨wr.heap.size, 0, none⟩ = some (.string t.name) ∧ w'.cell? ⟨wr.heap.size, 1, none⟩ = some (.int .i64 t.kind) ∧ w'.cell? ⟨wr.heap.size, 2, none⟩ = some (.slice pc t.cols.length capc) ∧ w'.cell? ⟨wr.heap.size, 3, none⟩ = some (.int .i64 t.lo) ∧ w'.cell? ⟨wr.heap.size, 4, none⟩ = some (.int .i64 t.hi) ∧ w'.cell? ⟨wr.heap.size, 5, none⟩ = some (.int .i64 t.first) ∧ Hid (Below Wt.heap.size Wt w') := fun w' h => by rw [hSd] at h; exact h
            have x0 : ∀ x : Cls S, x.1.cell? ⟨w.heap.size, 0, none⟩ = some (.slice p ss.length cap) := fun x => (SP x.1 x.2).1
            have x1 : ∀ x : Cls S, x.1.cell? ⟨w.heap.size, 1, none⟩ = some (.slice (some ⟨tg, to, none⟩) ts.length tcap) := fun x => (SP x.1 x.2).2.1
            have y0 : ∀ x : Cls S, x.1.cell? ⟨wr.heap.size, 0, none⟩ = some (.string t.name) := fun x => (SP x.1 x.2).2.2.1
            have y1 : ∀ x : Cls S, x.1.cell? ⟨wr.heap.size, 1, none⟩ = some (.int .i64 t.kind) := fun x => (SP x.1 x.2).2.2.2.1
            have y2 : ∀ x : Cls S, x.1.cell? ⟨wr.heap.size, 2, none⟩ = some (.slice pc t.cols.length capc) := fun x => (SP x.1 x.2).2.2.2.2.1
            have y3 : ∀ x : Cls S, x.1.cell? ⟨wr.heap.size, 3, none⟩ = some (.int .i64 t.lo) := fun x => (SP x.1 x.2).2.2.2.2.2.1
            have y4 : ∀ x : Cls S, x.1.cell? ⟨wr.heap.size, 4, none⟩ = some (.int .i64 t.hi) := fun x => (SP x.1 x.2).2.2.2.2.2.2.1
            have y5 : ∀ x : Cls S, x.1.cell? ⟨wr.heap.size, 5, none⟩ = some (.int .i64 t.first) := fun x => (SP x.1 x.2).2.2.2.2.2.2.2.1
            have HSB : Hid (∀ x : Cls S, Below Wt.heap.size Wt x.1) := fun x => (SP x.1 x.2).2.2.2.2.2.2.2.2.out
            have hne : Nonempty (Cls S) := ⟨⟨_, hS0⟩⟩
            have hlk : ∀ (x : Cls S) (q : Bool), (Instr.lookup 103 (.map (some M)) (.bool q) false).run Tryz.prog x.1 = .ok (.int .i64 (if q then (a : Int) else b)) x.1 := fun x q => (HCt.out.later (HSB.out x)).look q
            have HSP := hidden SP
            clear hSd SP
            have hmx : Tryz.prog.follows .mixedOrders = true := by kernel_rfl
            have HS0 := hidden hS0
            have HKeep : Hid (∀ w w' : World, S w → Below w.heap.size w w' → S w') := fun w w' h hb => keep h hb
            have cvt : ∀ x : Cls S, Calls Tryz.prog 56 #[.agg #[.slice p ss.length cap, .slice (some ⟨tg, to, none⟩) ts.length tcap], .agg #[.string t.name, .int .i64 t.kind, .slice pc t.cols.length capc, .int .i64 t.lo, .int .i64 t.hi, .int .i64 t.first]] x.1 fun e w' => e = .returned (.bool (tabOkB ss t)) ∧ ∃ y : Cls S, w' = y.1 := fun x => Calls.inClass (HVT.out x.1 (HSB.out x)) keep
            have cvn : ∀ x : Cls S, Calls Tryz.prog 57 #[.agg #[.slice p ss.length cap, .slice (some ⟨tg, to, none⟩) ts.length tcap], .int .i64 k] x.1 fun e w' => e = .returned (.bool (nameOkB ts k t)) ∧ ∃ y : Cls S, w' = y.1 := fun x => Calls.inClass (HVN.out x.1 (HSB.out x)) keep
            have cst : ∀ x : Cls S, Calls Tryz.prog 58 #[.agg #[.string t.name, .int .i64 t.kind, .slice pc t.cols.length capc, .int .i64 t.lo, .int .i64 t.hi, .int .i64 t.first]] x.1 fun e w' => e = .returned (.bool (strictB t.kind)) ∧ ∃ y : Cls S, w' = y.1 := fun x => Calls.inClass (HST.out x.1) keep
            have HCVT := hidden cvt
            have HCVN := hidden cvn
            have HCST := hidden cst
            clear cvt cvn cst hS0 keep hS
            by_cases t1 : tabOkB ss t = true
            · rw [t1] at HCVT HD
              by_cases t2 : nameOkB ts k t = true
              · rw [t2] at HCVN HD
                obtain ⟨q, hq⟩ : ∃ q, strictB t.kind = q := ⟨_, rfl⟩
                rw [hq] at HCST HD HST
                have HQ := hidden hq
                clear hq
                obtain ⟨cn, hcn⟩ : ∃ cn : Int, (if q then (a : Int) else b) = cn := ⟨_, rfl⟩
                have hlq := fun x => hlk x q
                rw [hcn] at hlq
                have hcn2 : (if q = true then (a : Int) else b) = cn := hcn
                rw [hcn2] at HD
                have HCN := hidden hcn
                clear hcn hcn2 hlk
                by_cases t3 : t.first = cn
                · have b3 : (t.first != cn) = false := by rw [t3]; simp
                  have HT3 := hidden t3
                  have HT1 := hidden t1
                  clear t1 t2 t3
                  refine wp_region_class S hmx (by kernel_rfl) HS0.out ?_
                  repeat (go_big_quiet_step (first | exact HCVT.out _ | exact HCVN.out _ | exact HCST.out _))
                  refine wpQuiet_nil ?_
                  rintro _ ⟨xw, rfl⟩
                  have HS9 : Hid (S xw.1.drew) := HKeep.out _ _ xw.2 ⟨rfl, rfl, rfl, Nat.le_refl _, fun _ _ => rfl⟩
                  have h1 := HT1.out
                  unfold tabOkB at h1
                  simp only [Bool.and_eq_true, decide_eq_true_eq] at h1
                  have HCAR : Hid (∀ x : Cls S, Calls Tryz.prog 59 #[.agg #[.slice p ss.length cap, .slice (some ⟨tg, to, none⟩) ts.length tcap], .agg #[.string t.name, .int .i64 t.kind, .slice pc t.cols.length capc, .int .i64 t.lo, .int .i64 t.hi, .int .i64 t.first]] x.1 fun e w2 => e = .returned (.int .i64 (areaN ss t : Nat)) ∧ ∃ y : Cls S, w2 = y.1) :=
                    fun x => Calls.inClass (area_any ss t _ _ _ _ _ x.1 (HS2.out.later (bt HBT.out (HSB.out x))) (HCI.out.later (bt HBT.out (HSB.out x))) H5.out h1.1.1 h1.1.2) (fun h hb => HKeep.out _ _ h hb)
                  have hA : areaN ss t ≤ 216 := prod_le (by rw [lens_len]; exact h1.1.2) (fun n hn => (lens_pos H5.out h1.1.1 n hn).2)
                  have hcn9 : (0 : Int) ≤ cn ∧ cn ≤ 100000 := by
                    have h1 := HCN.out
                    have h2 := G34.out
                    cases q <;> simp at h1 <;> omega
                  obtain ⟨c91, c92⟩ := hcn9
                  obtain ⟨A, hAg⟩ : ∃ A, areaN ss t = A := ⟨_, rfl⟩
                  rw [hAg] at HCAR hA HD
                  obtain ⟨zn, hzn⟩ : ∃ zn : Nat, cn + (A : Int) = (zn : Int) := ⟨(cn + (A : Int)).toNat, by omega⟩
                  have HZ := hidden hzn
                  have HZ9 : Hid (zn ≤ 100000) := by have h1 := HCN.out; have h2 := G34.out; have h3 := h12; show _ ≤ _; cases q <;> simp at h1 <;> omega
                  have hk100 : k ≤ 100 := by omega
                  have HA := hidden hA
                  have hwrap : IntKind.i64.wrap (cn + (A : Int)) = cn + (A : Int) := IntWalk.i64_in _ (by omega)
                  clear hzn h1 hAg hA
                  go_wp2_with fail
                  refine wp_region_last 8 S hmx (by kernel_rfl) rfl rfl HS9.out ?_
                  simp only [List.take_succ_cons, List.take_zero]
                  repeat (go_big_quiet_step (first | exact HCST.out _ | exact HCAR.out _))
                  refine wpQuiet_nil ?_
                  intro y
                  refine wp_update (.tmp 49) (.tmp 51) (.tmp 56) rfl M k a b q zn rfl rfl (congrArg (Value.int .i64) HZ.out) (HCt.out.later (HSB.out y)) hk100 HZ9.out ?_
                  intro w10 hC10 hG10
                  have HC10 := hidden hC10
                  have HB10 : Hid (Below M W3 w10) := Below.grown (HG5.out.trans ((HBt2.out.trans ((HSB.out y).mono HBt2.out.size)).mono (by omega))) hG10 (by have h1 := HBt2.out.size; have h2 := (HSB.out y).size; omega) (by intro j hj; cases hj; exact Nat.le_refl _)
                  clear hC10 hG10
                  go_wp2_with fail
                  go_roundw
                  case rel =>
                    have h2 := G34.out
                    refine ⟨k + 1, hlt2, rfl, _, _, ?_, HC10.out, ?_, ?_, HB10.out⟩
                    · have h1 := HD.out
                      have h3 := HCN.out
                      rw [HT3.out] at h1
                      simp only [Bool.true_and, beq_self_eq_true] at h1
                      rw [h1]
                      have hzz := HZ.out
                      cases q with
                      | true =>
                        simp only [if_true] at h3 ⊢
                        congr 1
                        omega
                      | false =>
                        simp only [Bool.false_eq_true, if_false] at h3 ⊢
                        congr 1
                        omega
                    · have h3 := HCN.out
                      have hzz := HZ.out
                      have hA := HA.out
                      cases q <;> simp at h3 ⊢ <;> omega
                    · have h3 := HCN.out
                      have hzz := HZ.out
                      have hA := HA.out
                      cases q <;> simp at h3 ⊢ <;> omega
                  case measure => simp [intOf]; omega
                · have b3 : (t.first != cn) = true := by rw [bne_iff_ne]; exact t3
                  have HE : Hid (r = false) := by have h := HD.out; rw [beq_eq_false_iff_ne.2 t3] at h; show r = false; simpa using h
                  clear t1 t2 t3 HD
                  refine wp_region_class S hmx (by kernel_rfl) HS0.out ?_
                  repeat (go_big_quiet_step (first | exact HCVT.out _ | exact HCVN.out _ | exact HCST.out _))
                  refine wpQuiet_nil ?_
                  rintro _ ⟨xw, rfl⟩
                  have HXB := hidden (HSB.out xw)
                  go_wp2_with fail
                  go_ret
                  exact ⟨by rw [HE.out]; rfl, bt HBT.out HXB.out⟩
              · have t2' : nameOkB ts k t = false := by simpa using t2
                rw [t2'] at HCVN HD
                clear t1 t2 t2'
                have HE : Hid (r = false) := by have := HD.out; show r = false; simpa using this
                clear HD
                refine wp_region_class S hmx (by kernel_rfl) HS0.out ?_
                repeat (go_big_quiet_step (first | exact HCVT.out _ | exact HCVN.out _ | exact HCST.out _))
                refine wpQuiet_nil ?_
                rintro _ ⟨xw, rfl⟩
                have HXB := hidden (HSB.out xw)
                go_wp2_with fail
                go_ret
                exact ⟨by rw [HE.out]; rfl, bt HBT.out HXB.out⟩
            · have t1' : tabOkB ss t = false := by simpa using t1
              rw [t1'] at HCVT HD
              clear t1 t1'
              have HE : Hid (r = false) := by have := HD.out; show r = false; simpa using this
              clear HD
              refine wp_region_class S hmx (by kernel_rfl) HS0.out ?_
              repeat (go_big_quiet_step (first | exact HCVT.out _ | exact HCVN.out _ | exact HCST.out _))
              refine wpQuiet_nil ?_
              rintro _ ⟨xw, rfl⟩
              have HXB := hidden (HSB.out xw)
              go_wp2_with fail
              go_ret
              exact ⟨by rw [HE.out]; rfl, bt HBT.out HXB.out⟩
          · have hkz : ¬ (k : Int) < (ts.length : Int) := by omega
            rw [List.drop_eq_nil_of_le (by omega)] at g1
            have hd : (decide (a ≤ 128) && decide (b ≤ 64)) = r := g1
            have l1 : (Instr.lookup 103 (.map (some M)) (.bool true) false).run Tryz.prog wr = .ok (.int .i64 (a : Int)) wr := by have h := g2.look true; simpa using h
            have l2 : (Instr.lookup 103 (.map (some M)) (.bool false) false).run Tryz.prog wr = .ok (.int .i64 (b : Int)) wr := by have h := g2.look false; simpa using h
            have HBW := hidden hBw
            by_cases ha : a ≤ 128
            · have haz : (a : Int) ≤ 128 := by omega
              by_cases hb : b ≤ 64
              · have hbz : (b : Int) ≤ 64 := by omega
                have HE : Hid (r = true) := by rw [← hd, decide_eq_true ha, decide_eq_true hb]; rfl
                clear hd ha hb g1 g2 g3 g4 g5 hBw hh m0 m1
                go_wp2_with fail
                go_ret
                exact ⟨by rw [HE.out]; rfl, HBW.out⟩
              · have hbz : ¬ (b : Int) ≤ 64 := by omega
                have HE : Hid (r = false) := by rw [← hd, decide_eq_false hb]; simp [Hid]
                clear hd ha hb g1 g2 g3 g4 g5 hBw hh m0 m1
                go_wp2_with fail
                go_ret
                exact ⟨by rw [HE.out]; rfl, HBW.out⟩
            · have haz : ¬ (a : Int) ≤ 128 := by omega
              have HE : Hid (r = false) := by rw [← hd, decide_eq_false ha]; simp [Hid]
              clear hd ha g1 g2 g3 g4 g5 hBw hh m0 m1
              go_wp2_with fail
              go_ret
              exact ⟨by rw [HE.out]; rfl, HBW.out⟩
      · have h12z : ¬ (ts.length : Int) ≤ 12 := by omega
        rw [decide_eq_false h12] at hr
        have HE : Hid (r = false) := by rw [← hr]; rfl
        have HB1 := hidden hB1
        clear hr hB1 hs2 ht2 hqp hat hsm hm h5 h4 hl hlt h12
        go_enter Tryz.func32, Tryz.ntmps32
        go_wp2_with fail
        rw [← hW1]
        clear hW1
        (with_reducible refine hvs.mono ?_)
        rintro e w2 ⟨rfl, hB2⟩
        have k0 := cell_later c10 hB2
        have k1 := cell_later c11 hB2
        have HB2 := hidden (HB1.out.trans (hB2.mono HB1.out.size))
        clear hB2 hvs c10 c11 hz1 HB1
        go_wp2_with fail
        go_ret
        exact ⟨by rw [HE.out]; rfl, HB2.out⟩
    · have h5f : soundB ss = false := by simpa using h5
      rw [h5f] at hvs hr
      have HE : Hid (r = false) := by rw [← hr]; rfl
      have HB1 := hidden hB1
      clear hr hB1 hs2 ht2 hqp hat hsm hm h5 h4 hl hlt h5f
      go_enter Tryz.func32, Tryz.ntmps32
      go_wp2_with fail
      rw [← hW1]
      clear hW1
      (with_reducible refine hvs.mono ?_)
      rintro e w2 ⟨rfl, hB2⟩
      have HB2 := hidden (HB1.out.trans (hB2.mono HB1.out.size))
      clear hB2 hvs c10 c11 hz1 HB1
      go_wp2_with fail
      go_ret
      exact ⟨by rw [HE.out]; rfl, HB2.out⟩
  · have h4z : ¬ (ss.length : Int) ≤ 4 := by omega
    rw [decide_eq_false h4] at hr
    have HE : Hid (r = false) := by rw [← hr]; rfl
    have HB1 := hidden hB1
    clear hr hB1 hs2 ht2 hqp hat hsm hm h4 hl hlt
    go_enter Tryz.func32, Tryz.ntmps32
    go_wp2_with fail
    go_ret
    exact ⟨by rw [HE.out]; rfl, by rw [← hW1]; exact HB1.out⟩

end Go.Proofs.YtfmoophjdgejeaaGreatDoor
