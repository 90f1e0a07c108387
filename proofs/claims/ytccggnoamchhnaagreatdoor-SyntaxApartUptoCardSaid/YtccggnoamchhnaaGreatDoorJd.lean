import Derived.Test.YtccggnoamchhnaaGreatDoorJc
import Derived.Maps.Own
import Derived.Maps.OwnOps
import Derived.StringKeys
/-
  Kind, of a word whose first token is no name.
-/
namespace Go.Proofs.YtccggnoamchhnaaGreatDoor
open Go.RowKit Go.Shelf Go.Lib

/-- The kind of a word, with names for keywords. -/
def kindN (s : ByteArray) : Nat := if (nextT s.data.toList 0).at_ = 0 ∧ (nextT s.data.toList 0).end_ = s.size then (nextT s.data.toList 0).kind else 0

set_option maxRecDepth 100000 in
set_option maxHeartbeats 1600000 in
theorem kind_plain (s : ByteArray) (hs : s.size ≤ 4096) (hk : kindN s ≠ 1) (w : World) :
    Calls Tryz.prog 100 #[.string s] w fun e w' => e = .returned (.int .i64 (kindN s : Nat)) ∧ Below w.heap.size w w' := by
  have hn := newScanner_any s w hs
  unfold kindN at hk ⊢
  obtain ⟨t, ht⟩ : ∃ t, nextT s.data.toList 0 = t := ⟨_, rfl⟩
  rw [ht] at hk ⊢
  obtain ⟨r, hr⟩ : ∃ r, (if t.at_ = 0 ∧ t.end_ = s.size then t.kind else 0) = r := ⟨_, rfl⟩
  rw [hr] at hk ⊢
  have HT := hidden ht
  have HK := hidden hk
  have HR := hidden hr
  clear ht hk hr
  go_enter Tryz.func100, Tryz.ntmps100
  go_wp2_with fail
  (with_reducible refine hn.mono ?_)
  rintro e w1 ⟨b, rfl, hI, hB1, _⟩
  have hn0 : Calls Tryz.prog 110 #[scanV s b, .int .i64 0] w1 fun e w' => e = .returned (tokV (nextT s.data.toList 0)) ∧ Below w1.heap.size w1 w' := next_any hI 0 (Nat.zero_le _)
  rw [HT.out] at hn0
  have HB1 := hidden hB1
  clear hI hB1 hn
  go_wp2_with fail
  (with_reducible refine hn0.mono ?_)
  rintro e w2 ⟨rfl, hB2⟩
  have HB : Hid (Below w.heap.size w (w2.alloc (.cells #[.int .i64 t.kind, .int .i64 t.from_, .int .i64 t.at_, .int .i64 t.end_] 96))) := (bt HB1.out hB2).alloc (by have := HB1.out.size; have := hB2.size; omega) _
  clear hB2 hn0 HB1
  dsimp only [tokV]
  by_cases h1 : t.at_ = 0
  · by_cases h2 : t.end_ = s.size
    · have b1 : ((t.at_ : Int) != 0) = false := by rw [h1]; rfl
      have b2 : ((t.end_ : Int) != (s.size : Int)) = false := by rw [h2]; simp
      have hk1 : t.kind ≠ 1 := by have := HK.out; rwa [HR.out.symm.trans (if_pos ⟨h1, h2⟩)] at this
      have b3 : ((t.kind : Int) == 1) = false := by rw [beq_eq_false_iff_ne]; omega
      have HV : Hid (r = t.kind) := HR.out.symm.trans (if_pos ⟨h1, h2⟩)
      clear h1 h2 hk1
      go_wp2_with fail
      go_ret
      exact ⟨by rw [HV.out]; rfl, HB.out⟩
    · have b1 : ((t.at_ : Int) != 0) = false := by rw [h1]; rfl
      have b2 : ((t.end_ : Int) != (s.size : Int)) = true := by rw [bne_iff_ne]; omega
      have HV : Hid (r = 0) := HR.out.symm.trans <| if_neg (fun h => h2 h.2)
      clear h1 h2
      go_wp2_with fail
      go_ret
      exact ⟨by rw [HV.out]; rfl, HB.out⟩
  · have b1 : ((t.at_ : Int) != 0) = true := by rw [bne_iff_ne]; omega
    have HV : Hid (r = 0) := HR.out.symm.trans <| if_neg (fun h => h1 h.1)
    clear h1
    go_wp2_with fail
    go_ret
    exact ⟨by rw [HV.out]; rfl, HB.out⟩

end Go.Proofs.YtccggnoamchhnaaGreatDoor
/-
  A map of bools that a call makes: a written entry, a look-up; the keywords.
-/
namespace Go.Proofs.YtccggnoamchhnaaGreatDoor
open Go.RowKit Go.Shelf Go.Lib
open Go.Maps (Keyed)

theorem insert_own {H : Type} {P : Program} (w : World) {ops : Array Oper} {rest : List Oper} {o : Oper} {a : Act} {Q : Exit → Act → World → Prop}
    (hg : o.guard = none) (m x v : Operand) (t : TypeId) (hop : o.op = Op.insert t m x v)
    (k e : TypeId) (K : Keyed P k) (ht : P.underlying t = some (.map k e)) (R : Value → Option (DataW H × List MemPlace)) (b n : Nat) (D : DataW H)
    (hm : a.eval m = .map (some b)) (hown : w.ownsMap P k R b n D) (hn : n < maxLen) (key val : Value) (kl : Lit) (hx : a.eval x = key) (hv : a.eval v = val) (hkey : keyOf P k key = some kl)
    (d : DataW H) (ps : List MemPlace) (hval : R val = some (d, ps))
    (hK : ∀ w', w'.ownsMap P k R b (n + 1) (D.put kl d) → w.grownBy w' (some b) → wpList P ops Q rest (a.put o.dst undef) w') :
    wpList P ops Q (o :: rest) a w := by
  refine wpList_plain hg fun K' hK' => ?_
  obtain ⟨w', hrun, r1, r2⟩ := hown.update K ht hn hkey hval
  unfold Oper.wp
  simp [execOp, hop, hm, hx, hv, hrun, Result.andThen]
  exact hK' _ _ (hK w' r1 r2)

theorem bool_inv {H : Type} {P : Program} {e : TypeId} (he : P.underlying e = some .bool) {v : Value} {y : DataW H × List MemPlace} (h : plainElem P e v = some y) : ∃ c, v = .bool c ∧ y = (.lit (.bool c), []) := by
  cases v <;> simp [plainElem, he] at h
  exact ⟨_, rfl, h.symm⟩

theorem lookup_bool {H : Type} {P : Program} {w : World} {k t e : TypeId} {b n : Nat} {D : DataW H} (h : w.ownsMap P k (plainElem P e) b n D) (K : Keyed P k) (ht : P.underlying t = some (.map k e)) (he : P.underlying e = some .bool)
    (hz : (zeroValue e).run P w = .ok (.bool false) w) {key : Value} {kl : Lit} (hkey : keyOf P k key = some kl) :
    ∃ c, (Instr.lookup t (.map (some b)) key false).run P w = .ok (.bool c) w ∧ D.atKey kl (.lit (.bool false)) = .lit (.bool c) := by
  obtain ⟨v, ps, hrun, hv⟩ := h.lookup K ht hz (plainElem_bool he false) hkey
  obtain ⟨c, rfl, hc⟩ := bool_inv he hv
  exact ⟨c, hrun, congrArg Prod.fst hc⟩

end Go.Proofs.YtccggnoamchhnaaGreatDoor
/-
  The map of keywords.
-/
namespace Go.Proofs.YtccggnoamchhnaaGreatDoor
open Go.RowKit Go.Shelf Go.Lib
open Go.Maps (Keyed)

/-- The keywords, in the order in which they are written. -/
def kwords : List (List UInt8) := [[115, 111, 114, 116],
  [114, 101, 108, 97, 116, 105, 111, 110],
  [99, 111, 117, 110, 116, 101, 114],
  [115, 101, 116],
  [114, 101, 103, 105, 115, 116, 101, 114],
  [105, 110, 118, 97, 114, 105, 97, 110, 116],
  [111, 112, 101, 114, 97, 116, 105, 111, 110],
  [107, 101, 121],
  [114, 101, 102, 101, 114, 101, 110, 99, 101],
  [116, 111],
  [99, 111, 117, 110, 116],
  [97, 99, 121, 99, 108, 105, 99],
  [97, 108, 108],
  [115, 117, 109],
  [105, 110],
  [97, 100, 100, 119, 105, 110, 115],
  [114, 101, 109, 111, 118, 101, 119, 105, 110, 115],
  [108, 97, 115, 116],
  [109, 117, 108, 116, 105],
  [104, 105, 100, 101],
  [111, 114, 100, 101, 114, 101, 100],
  [114, 101, 113, 117, 105, 114, 101],
  [104, 111, 108, 100],
  [105, 110, 115, 101, 114, 116],
  [100, 101, 108, 101, 116, 101],
  [97, 100, 100],
  [102, 114, 111, 109],
  [112, 117, 116],
  [100, 114, 111, 112],
  [97, 115, 115, 105, 103, 110],
  [102, 111, 114],
  [119, 104, 101, 114, 101],
  [97, 110, 100],
  [111, 114],
  [110, 111, 116]]
def kwMap : DataW Unit := kwords.foldl (fun d k => d.put (.string k) (.lit (.bool true))) (.map [])

set_option maxRecDepth 100000 in
set_option maxHeartbeats 1600000 in
theorem keywords_any (w : World) :
    Calls Tryz.prog 111 #[] w fun e w' => e = .returned (.map (some w.heap.size)) ∧ w'.ownsMap Tryz.prog 9 (plainElem (H := Unit) Tryz.prog 4) w.heap.size 35 kwMap ∧ Below w.heap.size w w' := by
  have hmm := @run_makeMap Tryz.prog
  have o0 : (w.alloc (.map #[] 0)).ownsMap Tryz.prog 9 (plainElem (H := Unit) Tryz.prog 4) w.heap.size 0 (.map []) := World.ownsMap_made w _ _ _
  have b0 : Below w.heap.size w (w.alloc (.map #[] 0)) := (Below.refl _ _).alloc (Nat.le_refl _) _
  obtain ⟨u1, r1, o1, g1⟩ := o0.update (t := 102) (Maps.string_keyed Tryz.underlying9) Tryz.underlying102 (by unfold maxLen; omega) (Go.WideMaps.keyOf_string_mk Tryz.underlying9 (s := ⟨#[115, 111, 114, 116]⟩) (by unfold maxLen; decide)) (plainElem_bool Tryz.underlying4 true)
  have b1 := b0.grown g1 b0.size (fun k e => by cases e; exact Nat.le_refl _)
  clear o0 g1 b0
  obtain ⟨u2, r2, o2, g2⟩ := o1.update (t := 102) (Maps.string_keyed Tryz.underlying9) Tryz.underlying102 (by unfold maxLen; omega) (Go.WideMaps.keyOf_string_mk Tryz.underlying9 (s := ⟨#[114, 101, 108, 97, 116, 105, 111, 110]⟩) (by unfold maxLen; decide)) (plainElem_bool Tryz.underlying4 true)
  have b2 := b1.grown g2 b1.size (fun k e => by cases e; exact Nat.le_refl _)
  clear o1 g2 b1
  obtain ⟨u3, r3, o3, g3⟩ := o2.update (t := 102) (Maps.string_keyed Tryz.underlying9) Tryz.underlying102 (by unfold maxLen; omega) (Go.WideMaps.keyOf_string_mk Tryz.underlying9 (s := ⟨#[99, 111, 117, 110, 116, 101, 114]⟩) (by unfold maxLen; decide)) (plainElem_bool Tryz.underlying4 true)
  have b3 := b2.grown g3 b2.size (fun k e => by cases e; exact Nat.le_refl _)
  clear o2 g3 b2
  obtain ⟨u4, r4, o4, g4⟩ := o3.update (t := 102) (Maps.string_keyed Tryz.underlying9) Tryz.underlying102 (by unfold maxLen; omega) (Go.WideMaps.keyOf_string_mk Tryz.underlying9 (s := ⟨#[115, 101, 116]⟩) (by unfold maxLen; decide)) (plainElem_bool Tryz.underlying4 true)
  have b4 := b3.grown g4 b3.size (fun k e => by cases e; exact Nat.le_refl _)
  clear o3 g4 b3
  obtain ⟨u5, r5, o5, g5⟩ := o4.update (t := 102) (Maps.string_keyed Tryz.underlying9) Tryz.underlying102 (by unfold maxLen; omega) (Go.WideMaps.keyOf_string_mk Tryz.underlying9 (s := ⟨#[114, 101, 103, 105, 115, 116, 101, 114]⟩) (by unfold maxLen; decide)) (plainElem_bool Tryz.underlying4 true)
  have b5 := b4.grown g5 b4.size (fun k e => by cases e; exact Nat.le_refl _)
  clear o4 g5 b4
  obtain ⟨u6, r6, o6, g6⟩ := o5.update (t := 102) (Maps.string_keyed Tryz.underlying9) Tryz.underlying102 (by unfold maxLen; omega) (Go.WideMaps.keyOf_string_mk Tryz.underlying9 (s := ⟨#[105, 110, 118, 97, 114, 105, 97, 110, 116]⟩) (by unfold maxLen; decide)) (plainElem_bool Tryz.underlying4 true)
  have b6 := b5.grown g6 b5.size (fun k e => by cases e; exact Nat.le_refl _)
  clear o5 g6 b5
  obtain ⟨u7, r7, o7, g7⟩ := o6.update (t := 102) (Maps.string_keyed Tryz.underlying9) Tryz.underlying102 (by unfold maxLen; omega) (Go.WideMaps.keyOf_string_mk Tryz.underlying9 (s := ⟨#[111, 112, 101, 114, 97, 116, 105, 111, 110]⟩) (by unfold maxLen; decide)) (plainElem_bool Tryz.underlying4 true)
  have b7 := b6.grown g7 b6.size (fun k e => by cases e; exact Nat.le_refl _)
  clear o6 g7 b6
  obtain ⟨u8, r8, o8, g8⟩ := o7.update (t := 102) (Maps.string_keyed Tryz.underlying9) Tryz.underlying102 (by unfold maxLen; omega) (Go.WideMaps.keyOf_string_mk Tryz.underlying9 (s := ⟨#[107, 101, 121]⟩) (by unfold maxLen; decide)) (plainElem_bool Tryz.underlying4 true)
  have b8 := b7.grown g8 b7.size (fun k e => by cases e; exact Nat.le_refl _)
  clear o7 g8 b7
  obtain ⟨u9, r9, o9, g9⟩ := o8.update (t := 102) (Maps.string_keyed Tryz.underlying9) Tryz.underlying102 (by unfold maxLen; omega) (Go.WideMaps.keyOf_string_mk Tryz.underlying9 (s := ⟨#[114, 101, 102, 101, 114, 101, 110, 99, 101]⟩) (by unfold maxLen; decide)) (plainElem_bool Tryz.underlying4 true)
  have b9 := b8.grown g9 b8.size (fun k e => by cases e; exact Nat.le_refl _)
  clear o8 g9 b8
  obtain ⟨u10, r10, o10, g10⟩ := o9.update (t := 102) (Maps.string_keyed Tryz.underlying9) Tryz.underlying102 (by unfold maxLen; omega) (Go.WideMaps.keyOf_string_mk Tryz.underlying9 (s := ⟨#[116, 111]⟩) (by unfold maxLen; decide)) (plainElem_bool Tryz.underlying4 true)
  have b10 := b9.grown g10 b9.size (fun k e => by cases e; exact Nat.le_refl _)
  clear o9 g10 b9
  obtain ⟨u11, r11, o11, g11⟩ := o10.update (t := 102) (Maps.string_keyed Tryz.underlying9) Tryz.underlying102 (by unfold maxLen; omega) (Go.WideMaps.keyOf_string_mk Tryz.underlying9 (s := ⟨#[99, 111, 117, 110, 116]⟩) (by unfold maxLen; decide)) (plainElem_bool Tryz.underlying4 true)
  have b11 := b10.grown g11 b10.size (fun k e => by cases e; exact Nat.le_refl _)
  clear o10 g11 b10
  obtain ⟨u12, r12, o12, g12⟩ := o11.update (t := 102) (Maps.string_keyed Tryz.underlying9) Tryz.underlying102 (by unfold maxLen; omega) (Go.WideMaps.keyOf_string_mk Tryz.underlying9 (s := ⟨#[97, 99, 121, 99, 108, 105, 99]⟩) (by unfold maxLen; decide)) (plainElem_bool Tryz.underlying4 true)
  have b12 := b11.grown g12 b11.size (fun k e => by cases e; exact Nat.le_refl _)
  clear o11 g12 b11
  obtain ⟨u13, r13, o13, g13⟩ := o12.update (t := 102) (Maps.string_keyed Tryz.underlying9) Tryz.underlying102 (by unfold maxLen; omega) (Go.WideMaps.keyOf_string_mk Tryz.underlying9 (s := ⟨#[97, 108, 108]⟩) (by unfold maxLen; decide)) (plainElem_bool Tryz.underlying4 true)
  have b13 := b12.grown g13 b12.size (fun k e => by cases e; exact Nat.le_refl _)
  clear o12 g13 b12
  obtain ⟨u14, r14, o14, g14⟩ := o13.update (t := 102) (Maps.string_keyed Tryz.underlying9) Tryz.underlying102 (by unfold maxLen; omega) (Go.WideMaps.keyOf_string_mk Tryz.underlying9 (s := ⟨#[115, 117, 109]⟩) (by unfold maxLen; decide)) (plainElem_bool Tryz.underlying4 true)
  have b14 := b13.grown g14 b13.size (fun k e => by cases e; exact Nat.le_refl _)
  clear o13 g14 b13
  obtain ⟨u15, r15, o15, g15⟩ := o14.update (t := 102) (Maps.string_keyed Tryz.underlying9) Tryz.underlying102 (by unfold maxLen; omega) (Go.WideMaps.keyOf_string_mk Tryz.underlying9 (s := ⟨#[105, 110]⟩) (by unfold maxLen; decide)) (plainElem_bool Tryz.underlying4 true)
  have b15 := b14.grown g15 b14.size (fun k e => by cases e; exact Nat.le_refl _)
  clear o14 g15 b14
  obtain ⟨u16, r16, o16, g16⟩ := o15.update (t := 102) (Maps.string_keyed Tryz.underlying9) Tryz.underlying102 (by unfold maxLen; omega) (Go.WideMaps.keyOf_string_mk Tryz.underlying9 (s := ⟨#[97, 100, 100, 119, 105, 110, 115]⟩) (by unfold maxLen; decide)) (plainElem_bool Tryz.underlying4 true)
  have b16 := b15.grown g16 b15.size (fun k e => by cases e; exact Nat.le_refl _)
  clear o15 g16 b15
  obtain ⟨u17, r17, o17, g17⟩ := o16.update (t := 102) (Maps.string_keyed Tryz.underlying9) Tryz.underlying102 (by unfold maxLen; omega) (Go.WideMaps.keyOf_string_mk Tryz.underlying9 (s := ⟨#[114, 101, 109, 111, 118, 101, 119, 105, 110, 115]⟩) (by unfold maxLen; decide)) (plainElem_bool Tryz.underlying4 true)
  have b17 := b16.grown g17 b16.size (fun k e => by cases e; exact Nat.le_refl _)
  clear o16 g17 b16
  obtain ⟨u18, r18, o18, g18⟩ := o17.update (t := 102) (Maps.string_keyed Tryz.underlying9) Tryz.underlying102 (by unfold maxLen; omega) (Go.WideMaps.keyOf_string_mk Tryz.underlying9 (s := ⟨#[108, 97, 115, 116]⟩) (by unfold maxLen; decide)) (plainElem_bool Tryz.underlying4 true)
  have b18 := b17.grown g18 b17.size (fun k e => by cases e; exact Nat.le_refl _)
  clear o17 g18 b17
  obtain ⟨u19, r19, o19, g19⟩ := o18.update (t := 102) (Maps.string_keyed Tryz.underlying9) Tryz.underlying102 (by unfold maxLen; omega) (Go.WideMaps.keyOf_string_mk Tryz.underlying9 (s := ⟨#[109, 117, 108, 116, 105]⟩) (by unfold maxLen; decide)) (plainElem_bool Tryz.underlying4 true)
  have b19 := b18.grown g19 b18.size (fun k e => by cases e; exact Nat.le_refl _)
  clear o18 g19 b18
  obtain ⟨u20, r20, o20, g20⟩ := o19.update (t := 102) (Maps.string_keyed Tryz.underlying9) Tryz.underlying102 (by unfold maxLen; omega) (Go.WideMaps.keyOf_string_mk Tryz.underlying9 (s := ⟨#[104, 105, 100, 101]⟩) (by unfold maxLen; decide)) (plainElem_bool Tryz.underlying4 true)
  have b20 := b19.grown g20 b19.size (fun k e => by cases e; exact Nat.le_refl _)
  clear o19 g20 b19
  obtain ⟨u21, r21, o21, g21⟩ := o20.update (t := 102) (Maps.string_keyed Tryz.underlying9) Tryz.underlying102 (by unfold maxLen; omega) (Go.WideMaps.keyOf_string_mk Tryz.underlying9 (s := ⟨#[111, 114, 100, 101, 114, 101, 100]⟩) (by unfold maxLen; decide)) (plainElem_bool Tryz.underlying4 true)
  have b21 := b20.grown g21 b20.size (fun k e => by cases e; exact Nat.le_refl _)
  clear o20 g21 b20
  obtain ⟨u22, r22, o22, g22⟩ := o21.update (t := 102) (Maps.string_keyed Tryz.underlying9) Tryz.underlying102 (by unfold maxLen; omega) (Go.WideMaps.keyOf_string_mk Tryz.underlying9 (s := ⟨#[114, 101, 113, 117, 105, 114, 101]⟩) (by unfold maxLen; decide)) (plainElem_bool Tryz.underlying4 true)
  have b22 := b21.grown g22 b21.size (fun k e => by cases e; exact Nat.le_refl _)
  clear o21 g22 b21
  obtain ⟨u23, r23, o23, g23⟩ := o22.update (t := 102) (Maps.string_keyed Tryz.underlying9) Tryz.underlying102 (by unfold maxLen; omega) (Go.WideMaps.keyOf_string_mk Tryz.underlying9 (s := ⟨#[104, 111, 108, 100]⟩) (by unfold maxLen; decide)) (plainElem_bool Tryz.underlying4 true)
  have b23 := b22.grown g23 b22.size (fun k e => by cases e; exact Nat.le_refl _)
  clear o22 g23 b22
  obtain ⟨u24, r24, o24, g24⟩ := o23.update (t := 102) (Maps.string_keyed Tryz.underlying9) Tryz.underlying102 (by unfold maxLen; omega) (Go.WideMaps.keyOf_string_mk Tryz.underlying9 (s := ⟨#[105, 110, 115, 101, 114, 116]⟩) (by unfold maxLen; decide)) (plainElem_bool Tryz.underlying4 true)
  have b24 := b23.grown g24 b23.size (fun k e => by cases e; exact Nat.le_refl _)
  clear o23 g24 b23
  obtain ⟨u25, r25, o25, g25⟩ := o24.update (t := 102) (Maps.string_keyed Tryz.underlying9) Tryz.underlying102 (by unfold maxLen; omega) (Go.WideMaps.keyOf_string_mk Tryz.underlying9 (s := ⟨#[100, 101, 108, 101, 116, 101]⟩) (by unfold maxLen; decide)) (plainElem_bool Tryz.underlying4 true)
  have b25 := b24.grown g25 b24.size (fun k e => by cases e; exact Nat.le_refl _)
  clear o24 g25 b24
  obtain ⟨u26, r26, o26, g26⟩ := o25.update (t := 102) (Maps.string_keyed Tryz.underlying9) Tryz.underlying102 (by unfold maxLen; omega) (Go.WideMaps.keyOf_string_mk Tryz.underlying9 (s := ⟨#[97, 100, 100]⟩) (by unfold maxLen; decide)) (plainElem_bool Tryz.underlying4 true)
  have b26 := b25.grown g26 b25.size (fun k e => by cases e; exact Nat.le_refl _)
  clear o25 g26 b25
  obtain ⟨u27, r27, o27, g27⟩ := o26.update (t := 102) (Maps.string_keyed Tryz.underlying9) Tryz.underlying102 (by unfold maxLen; omega) (Go.WideMaps.keyOf_string_mk Tryz.underlying9 (s := ⟨#[102, 114, 111, 109]⟩) (by unfold maxLen; decide)) (plainElem_bool Tryz.underlying4 true)
  have b27 := b26.grown g27 b26.size (fun k e => by cases e; exact Nat.le_refl _)
  clear o26 g27 b26
  obtain ⟨u28, r28, o28, g28⟩ := o27.update (t := 102) (Maps.string_keyed Tryz.underlying9) Tryz.underlying102 (by unfold maxLen; omega) (Go.WideMaps.keyOf_string_mk Tryz.underlying9 (s := ⟨#[112, 117, 116]⟩) (by unfold maxLen; decide)) (plainElem_bool Tryz.underlying4 true)
  have b28 := b27.grown g28 b27.size (fun k e => by cases e; exact Nat.le_refl _)
  clear o27 g28 b27
  obtain ⟨u29, r29, o29, g29⟩ := o28.update (t := 102) (Maps.string_keyed Tryz.underlying9) Tryz.underlying102 (by unfold maxLen; omega) (Go.WideMaps.keyOf_string_mk Tryz.underlying9 (s := ⟨#[100, 114, 111, 112]⟩) (by unfold maxLen; decide)) (plainElem_bool Tryz.underlying4 true)
  have b29 := b28.grown g29 b28.size (fun k e => by cases e; exact Nat.le_refl _)
  clear o28 g29 b28
  obtain ⟨u30, r30, o30, g30⟩ := o29.update (t := 102) (Maps.string_keyed Tryz.underlying9) Tryz.underlying102 (by unfold maxLen; omega) (Go.WideMaps.keyOf_string_mk Tryz.underlying9 (s := ⟨#[97, 115, 115, 105, 103, 110]⟩) (by unfold maxLen; decide)) (plainElem_bool Tryz.underlying4 true)
  have b30 := b29.grown g30 b29.size (fun k e => by cases e; exact Nat.le_refl _)
  clear o29 g30 b29
  obtain ⟨u31, r31, o31, g31⟩ := o30.update (t := 102) (Maps.string_keyed Tryz.underlying9) Tryz.underlying102 (by unfold maxLen; omega) (Go.WideMaps.keyOf_string_mk Tryz.underlying9 (s := ⟨#[102, 111, 114]⟩) (by unfold maxLen; decide)) (plainElem_bool Tryz.underlying4 true)
  have b31 := b30.grown g31 b30.size (fun k e => by cases e; exact Nat.le_refl _)
  clear o30 g31 b30
  obtain ⟨u32, r32, o32, g32⟩ := o31.update (t := 102) (Maps.string_keyed Tryz.underlying9) Tryz.underlying102 (by unfold maxLen; omega) (Go.WideMaps.keyOf_string_mk Tryz.underlying9 (s := ⟨#[119, 104, 101, 114, 101]⟩) (by unfold maxLen; decide)) (plainElem_bool Tryz.underlying4 true)
  have b32 := b31.grown g32 b31.size (fun k e => by cases e; exact Nat.le_refl _)
  clear o31 g32 b31
  obtain ⟨u33, r33, o33, g33⟩ := o32.update (t := 102) (Maps.string_keyed Tryz.underlying9) Tryz.underlying102 (by unfold maxLen; omega) (Go.WideMaps.keyOf_string_mk Tryz.underlying9 (s := ⟨#[97, 110, 100]⟩) (by unfold maxLen; decide)) (plainElem_bool Tryz.underlying4 true)
  have b33 := b32.grown g33 b32.size (fun k e => by cases e; exact Nat.le_refl _)
  clear o32 g33 b32
  obtain ⟨u34, r34, o34, g34⟩ := o33.update (t := 102) (Maps.string_keyed Tryz.underlying9) Tryz.underlying102 (by unfold maxLen; omega) (Go.WideMaps.keyOf_string_mk Tryz.underlying9 (s := ⟨#[111, 114]⟩) (by unfold maxLen; decide)) (plainElem_bool Tryz.underlying4 true)
  have b34 := b33.grown g34 b33.size (fun k e => by cases e; exact Nat.le_refl _)
  clear o33 g34 b33
  obtain ⟨u35, r35, o35, g35⟩ := o34.update (t := 102) (Maps.string_keyed Tryz.underlying9) Tryz.underlying102 (by unfold maxLen; omega) (Go.WideMaps.keyOf_string_mk Tryz.underlying9 (s := ⟨#[110, 111, 116]⟩) (by unfold maxLen; decide)) (plainElem_bool Tryz.underlying4 true)
  have b35 := b34.grown g35 b34.size (fun k e => by cases e; exact Nat.le_refl _)
  clear o34 g35 b34
  have HO := hidden o35
  have HB := hidden b35
  clear o35 b35
  go_enter Tryz.func111, Tryz.ntmps111
  go_wp2_with fail
  go_ret
  exact ⟨rfl, HO.out, HB.out⟩

end Go.Proofs.YtccggnoamchhnaaGreatDoor
/-
  Kind, of any word.
-/
namespace Go.Proofs.YtccggnoamchhnaaGreatDoor
open Go.RowKit Go.Shelf Go.Lib
open Go.Maps (Keyed IsMap)

theorem kw_fold (l : List UInt8) (z : DataW Unit) : ∀ (ks : List (List UInt8)) (D : DataW Unit), IsMap D →
    (ks.foldl (fun d k => d.put (.string k) (.lit (.bool true))) D).atKey (.string l) z = if l ∈ ks then .lit (.bool true) else D.atKey (.string l) z
  | [], D, _ => by simp
  | k :: ks, D, hD => by
    rw [List.foldl_cons, kw_fold l z ks _ (hD.put _ _)]
    by_cases h1 : l ∈ ks
    · rw [if_pos h1, if_pos (List.mem_cons_of_mem _ h1)]
    · rw [if_neg h1]
      by_cases h2 : l = k
      · subst h2
        rw [if_pos List.mem_cons_self]
        exact Maps.atKey_put_same hD (by simp [WideAt.IsKeyLit]) _ _
      · rw [if_neg (by simp [h1, h2])]
        exact Maps.atKey_put_other (fun e => h2 (by cases e; rfl)) _ _

theorem kw_at (l : List UInt8) : kwMap.atKey (.string l) (.lit (.bool false)) = .lit (.bool (decide (l ∈ kwords))) := by
  unfold kwMap
  rw [kw_fold l _ kwords _ Maps.isMap_empty]
  by_cases h : l ∈ kwords
  · rw [if_pos h, decide_eq_true h]
  · rw [if_neg h, decide_eq_false h]
    rfl

/-- The kind of a word. -/
def kindW (s : ByteArray) : Nat := if kindN s = 1 ∧ s.data.toList ∈ kwords then 2 else kindN s

set_option maxRecDepth 100000 in
set_option maxHeartbeats 1600000 in
theorem kind_any (s : ByteArray) (hs : s.size ≤ 4096) (w : World) :
    Calls Tryz.prog 100 #[.string s] w fun e w' => e = .returned (.int .i64 (kindW s : Nat)) ∧ Below w.heap.size w w' := by
  by_cases hk : kindN s = 1
  · have hn := newScanner_any s w hs
    have hkw := fun w' => keywords_any w'
    obtain ⟨t, ht⟩ : ∃ t, nextT s.data.toList 0 = t := ⟨_, rfl⟩
    obtain ⟨k1, k2, k3⟩ : t.at_ = 0 ∧ t.end_ = s.size ∧ t.kind = 1 := by
      unfold kindN at hk
      rw [ht] at hk
      by_cases h : t.at_ = 0 ∧ t.end_ = s.size
      · rw [if_pos h] at hk; exact ⟨h.1, h.2, hk⟩
      · rw [if_neg h] at hk; cases hk
    obtain ⟨r, hr⟩ : ∃ r, kindW s = r := ⟨_, rfl⟩
    have hr2 : r = if s.data.toList ∈ kwords then 2 else 1 := by
      rw [← hr]
      unfold kindW
      by_cases h : s.data.toList ∈ kwords
      · rw [if_pos ⟨hk, h⟩, if_pos h]
      · rw [if_neg (fun hh => h hh.2), if_neg h, hk]
    rw [hr]
    have HT := hidden ht
    have HR := hidden hr2
    clear ht hk hr hr2
    go_enter Tryz.func100, Tryz.ntmps100
    go_wp2_with fail
    (with_reducible refine hn.mono ?_)
    rintro e w1 ⟨b, rfl, hI, hB1, _⟩
    have hn0 : Calls Tryz.prog 110 #[scanV s b, .int .i64 0] w1 fun e w' => e = .returned (tokV (nextT s.data.toList 0)) ∧ Below w1.heap.size w1 w' := next_any hI 0 (Nat.zero_le _)
    rw [HT.out] at hn0
    have HB1 := hidden hB1
    clear hI hB1 hn
    go_wp2_with fail
    (with_reducible refine hn0.mono ?_)
    rintro e w2 ⟨rfl, hB2⟩
    have HB : Hid (Below w.heap.size w (w2.alloc (.cells #[.int .i64 t.kind, .int .i64 t.from_, .int .i64 t.at_, .int .i64 t.end_] 96))) := (bt HB1.out hB2).alloc (by have := HB1.out.size; have := hB2.size; omega) _
    clear hB2 hn0 HB1
    dsimp only [tokV]
    have e1 : ((t.at_ : Int) != 0) = false := by rw [k1]; rfl
    have e2 : ((t.end_ : Int) != (s.size : Int)) = false := by rw [k2]; simp
    have e3 : ((t.kind : Int) == 1) = true := by rw [k3]; rfl
    have HK := hidden k3
    have cK : (w2.alloc (.cells #[.int .i64 t.kind, .int .i64 t.from_, .int .i64 t.at_, .int .i64 t.end_] 96)).cell? ⟨w2.heap.size, 0, none⟩ = some (.int .i64 t.kind) := by simp
    have hz : w2.heap.size < (w2.alloc (.cells #[.int .i64 t.kind, .int .i64 t.from_, .int .i64 t.at_, .int .i64 t.end_] 96)).heap.size := by simp
    clear k1 k2 k3
    go_wp2_with fail
    (with_reducible refine (hkw _).mono ?_)
    rintro e w3 ⟨rfl, hown, hB3⟩
    rw [World.size_alloc] at hown
    obtain ⟨c, hrun, hat⟩ := lookup_bool hown (Maps.string_keyed Tryz.underlying9) (t := 102) Tryz.underlying102 Tryz.underlying4 (Tryz.zeroValue4 _) (WideMaps.keyOf_string_mk Tryz.underlying9 (s := s) (by unfold maxLen; omega))
    have cK3 : w3.cell? ⟨w2.heap.size, 0, none⟩ = some (.int .i64 t.kind) := (hB3.cell (p := ⟨w2.heap.size, 0, none⟩) hz).trans cK
    have HB3 := hidden (bt HB.out hB3)
    rw [kw_at] at hat
    have HC : Hid (decide (s.data.toList ∈ kwords) = c) := by injection hat with h; injection h
    clear hown hat hB3 hkw HB cK hz
    cases c with
    | true =>
      have HV : Hid (r = 2) := HR.out.trans (if_pos (of_decide_eq_true HC.out))
      go_wp2_with fail
      go_ret
      exact ⟨by rw [HV.out]; rfl, HB3.out⟩
    | false =>
      have HV : Hid (r = t.kind) := (HR.out.trans (if_neg (of_decide_eq_false HC.out))).trans HK.out.symm
      go_wp2_with fail
      go_ret
      exact ⟨by rw [HV.out]; rfl, HB3.out⟩
  · have h : kindW s = kindN s := by unfold kindW; exact if_neg (fun h => hk h.1)
    rw [h]
    exact kind_plain s hs hk w

end Go.Proofs.YtccggnoamchhnaaGreatDoor
