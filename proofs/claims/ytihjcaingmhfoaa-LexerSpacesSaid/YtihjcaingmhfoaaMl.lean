import Derived.Test.YtihjcaingmhfoaaMk
import Derived.StringKeys
/-
  The map of keywords.
-/
namespace Go.Proofs.Ytihjcaingmhfoaa
open Go.RowKit Go.Shelf Go.Lib
open Go.Maps (Keyed)

/-- The keywords, in the order in which they are written. -/
def kwords : List (List UInt8) := [[115, 111, 114, 116],
  [114, 101, 108, 97, 116, 105, 111, 110],
  [99, 111, 117, 110, 116, 101, 114],
  [115, 101, 116],
  [114, 101, 103, 105, 115, 116, 101, 114],
  [105, 110, 118, 97, 114, 105, 97, 110, 116],
  [111, 112, 101, 114, 97, 116, 105, 111, 110],
  [107, 101, 121],
  [114, 101, 102, 101, 114, 101, 110, 99, 101],
  [116, 111],
  [99, 111, 117, 110, 116],
  [97, 99, 121, 99, 108, 105, 99],
  [97, 108, 108],
  [115, 117, 109],
  [105, 110],
  [97, 100, 100, 119, 105, 110, 115],
  [114, 101, 109, 111, 118, 101, 119, 105, 110, 115],
  [108, 97, 115, 116],
  [109, 117, 108, 116, 105],
  [104, 105, 100, 101],
  [111, 114, 100, 101, 114, 101, 100],
  [114, 101, 113, 117, 105, 114, 101],
  [104, 111, 108, 100],
  [105, 110, 115, 101, 114, 116],
  [100, 101, 108, 101, 116, 101],
  [97, 100, 100],
  [102, 114, 111, 109],
  [112, 117, 116],
  [100, 114, 111, 112],
  [97, 115, 115, 105, 103, 110],
  [102, 111, 114],
  [119, 104, 101, 114, 101],
  [97, 110, 100],
  [111, 114],
  [110, 111, 116]]
def kwMap : DataW Unit := kwords.foldl (fun d k => d.put (.string k) (.lit (.bool true))) (.map [])

set_option maxRecDepth 100000 in
set_option maxHeartbeats 1600000 in
theorem keywords_any (w : World) :
    Calls Try.prog 35 #[] w fun e w' => e = .returned (.map (some w.heap.size)) ∧ w'.ownsMap Try.prog 9 (plainElem (H := Unit) Try.prog 4) w.heap.size 35 kwMap ∧ Below w.heap.size w w' := by
  have hmm := @run_makeMap Try.prog
  have o0 : (w.alloc (.map #[] 0)).ownsMap Try.prog 9 (plainElem (H := Unit) Try.prog 4) w.heap.size 0 (.map []) := World.ownsMap_made w _ _ _
  have b0 : Below w.heap.size w (w.alloc (.map #[] 0)) := (Below.refl _ _).alloc (Nat.le_refl _) _
  obtain ⟨u1, r1, o1, g1⟩ := o0.update (t := 67) (Maps.string_keyed Try.underlying9) Try.underlying67 (by unfold maxLen; omega) (Go.WideMaps.keyOf_string_mk Try.underlying9 (s := ⟨#[115, 111, 114, 116]⟩) (by unfold maxLen; decide)) (plainElem_bool Try.underlying4 true)
  have b1 := b0.grown g1 b0.size (fun k e => by cases e; exact Nat.le_refl _)
  clear o0 g1 b0
  obtain ⟨u2, r2, o2, g2⟩ := o1.update (t := 67) (Maps.string_keyed Try.underlying9) Try.underlying67 (by unfold maxLen; omega) (Go.WideMaps.keyOf_string_mk Try.underlying9 (s := ⟨#[114, 101, 108, 97, 116, 105, 111, 110]⟩) (by unfold maxLen; decide)) (plainElem_bool Try.underlying4 true)
  have b2 := b1.grown g2 b1.size (fun k e => by cases e; exact Nat.le_refl _)
  clear o1 g2 b1
  obtain ⟨u3, r3, o3, g3⟩ := o2.update (t := 67) (Maps.string_keyed Try.underlying9) Try.underlying67 (by unfold maxLen; omega) (Go.WideMaps.keyOf_string_mk Try.underlying9 (s := ⟨#[99, 111, 117, 110, 116, 101, 114]⟩) (by unfold maxLen; decide)) (plainElem_bool Try.underlying4 true)
  have b3 := b2.grown g3 b2.size (fun k e => by cases e; exact Nat.le_refl _)
  clear o2 g3 b2
  obtain ⟨u4, r4, o4, g4⟩ := o3.update (t := 67) (Maps.string_keyed Try.underlying9) Try.underlying67 (by unfold maxLen; omega) (Go.WideMaps.keyOf_string_mk Try.underlying9 (s := ⟨#[115, 101, 116]⟩) (by unfold maxLen; decide)) (plainElem_bool Try.underlying4 true)
  have b4 := b3.grown g4 b3.size (fun k e => by cases e; exact Nat.le_refl _)
  clear o3 g4 b3
  obtain ⟨u5, r5, o5, g5⟩ := o4.update (t := 67) (Maps.string_keyed Try.underlying9) Try.underlying67 (by unfold maxLen; omega) (Go.WideMaps.keyOf_string_mk Try.underlying9 (s := ⟨#[114, 101, 103, 105, 115, 116, 101, 114]⟩) (by unfold maxLen; decide)) (plainElem_bool Try.underlying4 true)
  have b5 := b4.grown g5 b4.size (fun k e => by cases e; exact Nat.le_refl _)
  clear o4 g5 b4
  obtain ⟨u6, r6, o6, g6⟩ := o5.update (t := 67) (Maps.string_keyed Try.underlying9) Try.underlying67 (by unfold maxLen; omega) (Go.WideMaps.keyOf_string_mk Try.underlying9 (s := ⟨#[105, 110, 118, 97, 114, 105, 97, 110, 116]⟩) (by unfold maxLen; decide)) (plainElem_bool Try.underlying4 true)
  have b6 := b5.grown g6 b5.size (fun k e => by cases e; exact Nat.le_refl _)
  clear o5 g6 b5
  obtain ⟨u7, r7, o7, g7⟩ := o6.update (t := 67) (Maps.string_keyed Try.underlying9) Try.underlying67 (by unfold maxLen; omega) (Go.WideMaps.keyOf_string_mk Try.underlying9 (s := ⟨#[111, 112, 101, 114, 97, 116, 105, 111, 110]⟩) (by unfold maxLen; decide)) (plainElem_bool Try.underlying4 true)
  have b7 := b6.grown g7 b6.size (fun k e => by cases e; exact Nat.le_refl _)
  clear o6 g7 b6
  obtain ⟨u8, r8, o8, g8⟩ := o7.update (t := 67) (Maps.string_keyed Try.underlying9) Try.underlying67 (by unfold maxLen; omega) (Go.WideMaps.keyOf_string_mk Try.underlying9 (s := ⟨#[107, 101, 121]⟩) (by unfold maxLen; decide)) (plainElem_bool Try.underlying4 true)
  have b8 := b7.grown g8 b7.size (fun k e => by cases e; exact Nat.le_refl _)
  clear o7 g8 b7
  obtain ⟨u9, r9, o9, g9⟩ := o8.update (t := 67) (Maps.string_keyed Try.underlying9) Try.underlying67 (by unfold maxLen; omega) (Go.WideMaps.keyOf_string_mk Try.underlying9 (s := ⟨#[114, 101, 102, 101, 114, 101, 110, 99, 101]⟩) (by unfold maxLen; decide)) (plainElem_bool Try.underlying4 true)
  have b9 := b8.grown g9 b8.size (fun k e => by cases e; exact Nat.le_refl _)
  clear o8 g9 b8
  obtain ⟨u10, r10, o10, g10⟩ := o9.update (t := 67) (Maps.string_keyed Try.underlying9) Try.underlying67 (by unfold maxLen; omega) (Go.WideMaps.keyOf_string_mk Try.underlying9 (s := ⟨#[116, 111]⟩) (by unfold maxLen; decide)) (plainElem_bool Try.underlying4 true)
  have b10 := b9.grown g10 b9.size (fun k e => by cases e; exact Nat.le_refl _)
  clear o9 g10 b9
  obtain ⟨u11, r11, o11, g11⟩ := o10.update (t := 67) (Maps.string_keyed Try.underlying9) Try.underlying67 (by unfold maxLen; omega) (Go.WideMaps.keyOf_string_mk Try.underlying9 (s := ⟨#[99, 111, 117, 110, 116]⟩) (by unfold maxLen; decide)) (plainElem_bool Try.underlying4 true)
  have b11 := b10.grown g11 b10.size (fun k e => by cases e; exact Nat.le_refl _)
  clear o10 g11 b10
  obtain ⟨u12, r12, o12, g12⟩ := o11.update (t := 67) (Maps.string_keyed Try.underlying9) Try.underlying67 (by unfold maxLen; omega) (Go.WideMaps.keyOf_string_mk Try.underlying9 (s := ⟨#[97, 99, 121, 99, 108, 105, 99]⟩) (by unfold maxLen; decide)) (plainElem_bool Try.underlying4 true)
  have b12 := b11.grown g12 b11.size (fun k e => by cases e; exact Nat.le_refl _)
  clear o11 g12 b11
  obtain ⟨u13, r13, o13, g13⟩ := o12.update (t := 67) (Maps.string_keyed Try.underlying9) Try.underlying67 (by unfold maxLen; omega) (Go.WideMaps.keyOf_string_mk Try.underlying9 (s := ⟨#[97, 108, 108]⟩) (by unfold maxLen; decide)) (plainElem_bool Try.underlying4 true)
  have b13 := b12.grown g13 b12.size (fun k e => by cases e; exact Nat.le_refl _)
  clear o12 g13 b12
  obtain ⟨u14, r14, o14, g14⟩ := o13.update (t := 67) (Maps.string_keyed Try.underlying9) Try.underlying67 (by unfold maxLen; omega) (Go.WideMaps.keyOf_string_mk Try.underlying9 (s := ⟨#[115, 117, 109]⟩) (by unfold maxLen; decide)) (plainElem_bool Try.underlying4 true)
  have b14 := b13.grown g14 b13.size (fun k e => by cases e; exact Nat.le_refl _)
  clear o13 g14 b13
  obtain ⟨u15, r15, o15, g15⟩ := o14.update (t := 67) (Maps.string_keyed Try.underlying9) Try.underlying67 (by unfold maxLen; omega) (Go.WideMaps.keyOf_string_mk Try.underlying9 (s := ⟨#[105, 110]⟩) (by unfold maxLen; decide)) (plainElem_bool Try.underlying4 true)
  have b15 := b14.grown g15 b14.size (fun k e => by cases e; exact Nat.le_refl _)
  clear o14 g15 b14
  obtain ⟨u16, r16, o16, g16⟩ := o15.update (t := 67) (Maps.string_keyed Try.underlying9) Try.underlying67 (by unfold maxLen; omega) (Go.WideMaps.keyOf_string_mk Try.underlying9 (s := ⟨#[97, 100, 100, 119, 105, 110, 115]⟩) (by unfold maxLen; decide)) (plainElem_bool Try.underlying4 true)
  have b16 := b15.grown g16 b15.size (fun k e => by cases e; exact Nat.le_refl _)
  clear o15 g16 b15
  obtain ⟨u17, r17, o17, g17⟩ := o16.update (t := 67) (Maps.string_keyed Try.underlying9) Try.underlying67 (by unfold maxLen; omega) (Go.WideMaps.keyOf_string_mk Try.underlying9 (s := ⟨#[114, 101, 109, 111, 118, 101, 119, 105, 110, 115]⟩) (by unfold maxLen; decide)) (plainElem_bool Try.underlying4 true)
  have b17 := b16.grown g17 b16.size (fun k e => by cases e; exact Nat.le_refl _)
  clear o16 g17 b16
  obtain ⟨u18, r18, o18, g18⟩ := o17.update (t := 67) (Maps.string_keyed Try.underlying9) Try.underlying67 (by unfold maxLen; omega) (Go.WideMaps.keyOf_string_mk Try.underlying9 (s := ⟨#[108, 97, 115, 116]⟩) (by unfold maxLen; decide)) (plainElem_bool Try.underlying4 true)
  have b18 := b17.grown g18 b17.size (fun k e => by cases e; exact Nat.le_refl _)
  clear o17 g18 b17
  obtain ⟨u19, r19, o19, g19⟩ := o18.update (t := 67) (Maps.string_keyed Try.underlying9) Try.underlying67 (by unfold maxLen; omega) (Go.WideMaps.keyOf_string_mk Try.underlying9 (s := ⟨#[109, 117, 108, 116, 105]⟩) (by unfold maxLen; decide)) (plainElem_bool Try.underlying4 true)
  have b19 := b18.grown g19 b18.size (fun k e => by cases e; exact Nat.le_refl _)
  clear o18 g19 b18
  obtain ⟨u20, r20, o20, g20⟩ := o19.update (t := 67) (Maps.string_keyed Try.underlying9) Try.underlying67 (by unfold maxLen; omega) (Go.WideMaps.keyOf_string_mk Try.underlying9 (s := ⟨#[104, 105, 100, 101]⟩) (by unfold maxLen; decide)) (plainElem_bool Try.underlying4 true)
  have b20 := b19.grown g20 b19.size (fun k e => by cases e; exact Nat.le_refl _)
  clear o19 g20 b19
  obtain ⟨u21, r21, o21, g21⟩ := o20.update (t := 67) (Maps.string_keyed Try.underlying9) Try.underlying67 (by unfold maxLen; omega) (Go.WideMaps.keyOf_string_mk Try.underlying9 (s := ⟨#[111, 114, 100, 101, 114, 101, 100]⟩) (by unfold maxLen; decide)) (plainElem_bool Try.underlying4 true)
  have b21 := b20.grown g21 b20.size (fun k e => by cases e; exact Nat.le_refl _)
  clear o20 g21 b20
  obtain ⟨u22, r22, o22, g22⟩ := o21.update (t := 67) (Maps.string_keyed Try.underlying9) Try.underlying67 (by unfold maxLen; omega) (Go.WideMaps.keyOf_string_mk Try.underlying9 (s := ⟨#[114, 101, 113, 117, 105, 114, 101]⟩) (by unfold maxLen; decide)) (plainElem_bool Try.underlying4 true)
  have b22 := b21.grown g22 b21.size (fun k e => by cases e; exact Nat.le_refl _)
  clear o21 g22 b21
  obtain ⟨u23, r23, o23, g23⟩ := o22.update (t := 67) (Maps.string_keyed Try.underlying9) Try.underlying67 (by unfold maxLen; omega) (Go.WideMaps.keyOf_string_mk Try.underlying9 (s := ⟨#[104, 111, 108, 100]⟩) (by unfold maxLen; decide)) (plainElem_bool Try.underlying4 true)
  have b23 := b22.grown g23 b22.size (fun k e => by cases e; exact Nat.le_refl _)
  clear o22 g23 b22
  obtain ⟨u24, r24, o24, g24⟩ := o23.update (t := 67) (Maps.string_keyed Try.underlying9) Try.underlying67 (by unfold maxLen; omega) (Go.WideMaps.keyOf_string_mk Try.underlying9 (s := ⟨#[105, 110, 115, 101, 114, 116]⟩) (by unfold maxLen; decide)) (plainElem_bool Try.underlying4 true)
  have b24 := b23.grown g24 b23.size (fun k e => by cases e; exact Nat.le_refl _)
  clear o23 g24 b23
  obtain ⟨u25, r25, o25, g25⟩ := o24.update (t := 67) (Maps.string_keyed Try.underlying9) Try.underlying67 (by unfold maxLen; omega) (Go.WideMaps.keyOf_string_mk Try.underlying9 (s := ⟨#[100, 101, 108, 101, 116, 101]⟩) (by unfold maxLen; decide)) (plainElem_bool Try.underlying4 true)
  have b25 := b24.grown g25 b24.size (fun k e => by cases e; exact Nat.le_refl _)
  clear o24 g25 b24
  obtain ⟨u26, r26, o26, g26⟩ := o25.update (t := 67) (Maps.string_keyed Try.underlying9) Try.underlying67 (by unfold maxLen; omega) (Go.WideMaps.keyOf_string_mk Try.underlying9 (s := ⟨#[97, 100, 100]⟩) (by unfold maxLen; decide)) (plainElem_bool Try.underlying4 true)
  have b26 := b25.grown g26 b25.size (fun k e => by cases e; exact Nat.le_refl _)
  clear o25 g26 b25
  obtain ⟨u27, r27, o27, g27⟩ := o26.update (t := 67) (Maps.string_keyed Try.underlying9) Try.underlying67 (by unfold maxLen; omega) (Go.WideMaps.keyOf_string_mk Try.underlying9 (s := ⟨#[102, 114, 111, 109]⟩) (by unfold maxLen; decide)) (plainElem_bool Try.underlying4 true)
  have b27 := b26.grown g27 b26.size (fun k e => by cases e; exact Nat.le_refl _)
  clear o26 g27 b26
  obtain ⟨u28, r28, o28, g28⟩ := o27.update (t := 67) (Maps.string_keyed Try.underlying9) Try.underlying67 (by unfold maxLen; omega) (Go.WideMaps.keyOf_string_mk Try.underlying9 (s := ⟨#[112, 117, 116]⟩) (by unfold maxLen; decide)) (plainElem_bool Try.underlying4 true)
  have b28 := b27.grown g28 b27.size (fun k e => by cases e; exact Nat.le_refl _)
  clear o27 g28 b27
  obtain ⟨u29, r29, o29, g29⟩ := o28.update (t := 67) (Maps.string_keyed Try.underlying9) Try.underlying67 (by unfold maxLen; omega) (Go.WideMaps.keyOf_string_mk Try.underlying9 (s := ⟨#[100, 114, 111, 112]⟩) (by unfold maxLen; decide)) (plainElem_bool Try.underlying4 true)
  have b29 := b28.grown g29 b28.size (fun k e => by cases e; exact Nat.le_refl _)
  clear o28 g29 b28
  obtain ⟨u30, r30, o30, g30⟩ := o29.update (t := 67) (Maps.string_keyed Try.underlying9) Try.underlying67 (by unfold maxLen; omega) (Go.WideMaps.keyOf_string_mk Try.underlying9 (s := ⟨#[97, 115, 115, 105, 103, 110]⟩) (by unfold maxLen; decide)) (plainElem_bool Try.underlying4 true)
  have b30 := b29.grown g30 b29.size (fun k e => by cases e; exact Nat.le_refl _)
  clear o29 g30 b29
  obtain ⟨u31, r31, o31, g31⟩ := o30.update (t := 67) (Maps.string_keyed Try.underlying9) Try.underlying67 (by unfold maxLen; omega) (Go.WideMaps.keyOf_string_mk Try.underlying9 (s := ⟨#[102, 111, 114]⟩) (by unfold maxLen; decide)) (plainElem_bool Try.underlying4 true)
  have b31 := b30.grown g31 b30.size (fun k e => by cases e; exact Nat.le_refl _)
  clear o30 g31 b30
  obtain ⟨u32, r32, o32, g32⟩ := o31.update (t := 67) (Maps.string_keyed Try.underlying9) Try.underlying67 (by unfold maxLen; omega) (Go.WideMaps.keyOf_string_mk Try.underlying9 (s := ⟨#[119, 104, 101, 114, 101]⟩) (by unfold maxLen; decide)) (plainElem_bool Try.underlying4 true)
  have b32 := b31.grown g32 b31.size (fun k e => by cases e; exact Nat.le_refl _)
  clear o31 g32 b31
  obtain ⟨u33, r33, o33, g33⟩ := o32.update (t := 67) (Maps.string_keyed Try.underlying9) Try.underlying67 (by unfold maxLen; omega) (Go.WideMaps.keyOf_string_mk Try.underlying9 (s := ⟨#[97, 110, 100]⟩) (by unfold maxLen; decide)) (plainElem_bool Try.underlying4 true)
  have b33 := b32.grown g33 b32.size (fun k e => by cases e; exact Nat.le_refl _)
  clear o32 g33 b32
  obtain ⟨u34, r34, o34, g34⟩ := o33.update (t := 67) (Maps.string_keyed Try.underlying9) Try.underlying67 (by unfold maxLen; omega) (Go.WideMaps.keyOf_string_mk Try.underlying9 (s := ⟨#[111, 114]⟩) (by unfold maxLen; decide)) (plainElem_bool Try.underlying4 true)
  have b34 := b33.grown g34 b33.size (fun k e => by cases e; exact Nat.le_refl _)
  clear o33 g34 b33
  obtain ⟨u35, r35, o35, g35⟩ := o34.update (t := 67) (Maps.string_keyed Try.underlying9) Try.underlying67 (by unfold maxLen; omega) (Go.WideMaps.keyOf_string_mk Try.underlying9 (s := ⟨#[110, 111, 116]⟩) (by unfold maxLen; decide)) (plainElem_bool Try.underlying4 true)
  have b35 := b34.grown g35 b34.size (fun k e => by cases e; exact Nat.le_refl _)
  clear o34 g35 b34
  have HO := hidden o35
  have HB := hidden b35
  clear o35 b35
  go_enter Try.func35, Try.ntmps35
  go_wp2_with fail
  go_ret
  exact ⟨rfl, HO.out, HB.out⟩

end Go.Proofs.Ytihjcaingmhfoaa
