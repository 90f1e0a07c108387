import Derived.Test.YtlbaaiglebpjiaaGreatDoorZb
/-
  The map of the shapes is filled. By gen_zd.py.
-/
namespace Go.Proofs.YtlbaaiglebpjiaaGreatDoor
open Go.RowKit Go.Shelf Go.Lib

/-- What the filling keeps. -/
def Sta (w0 w : World) (m : Nat) (l : List (Int × Entry)) : Prop := MapOk w m l ∧ Below m w0 w ∧ MaxAt w
theorem Sta.later {w0 w w' : World} {m : Nat} {l : List (Int × Entry)} (h : Sta w0 w m l) (hb : Below w.heap.size w w') : Sta w0 w' m l := by
  obtain ⟨es, c, hm⟩ := h.1.isMap
  exact ⟨h.1.later hb, h.2.1.trans (hb.mono (Nat.le_of_lt (Array.getElem?_eq_some_iff.1 hm).1)), h.2.2.keep hb⟩
theorem Sta.put {w0 w : World} {m : Nat} {l : List (Int × Entry)} (h : Sta w0 w m l) {k : Int} {v : Value} {e : Entry} (hv : ShV w m v (.inr e)) (hk : (Lit.int .i64 k).wf = true) (hl : l.length < 1000) :
    ∃ w', (Instr.mapUpdate 59 (.map (some m)) (.int .i64 k) v).run Tryz.prog w = .ok () w' ∧ Sta w0 w' m ((k, e) :: l) ∧ CellsOn w w' := by
  obtain ⟨w', r1, r2, r3, r4⟩ := h.1.put hv hk hl
  obtain ⟨x, hx⟩ := h.2.2
  exact ⟨w', r1, ⟨r2, h.2.1.trans r4, x, r3.cell _ _ hx⟩, r3⟩

def declL : List (Int × Entry) := [(9, .parts (.name) [.of [23], .either (.of [1]) (.word [(⟨#[111, 114, 100, 101, 114, 101, 100]⟩ : ByteArray)]), .of [25]]), (8, .parts (.name) [.of [13, 14, 15, 16, 17]]), (7, .parts (.name) [.of [10], .of [12], .word [(⟨#[108, 97, 115, 116]⟩ : ByteArray), (⟨#[109, 117, 108, 116, 105]⟩ : ByteArray)]]), (6, .parts (.name) [.of [10], .word [(⟨#[97, 100, 100, 119, 105, 110, 115]⟩ : ByteArray), (⟨#[114, 101, 109, 111, 118, 101, 119, 105, 110, 115]⟩ : ByteArray)]]), (5, .parts (.name) [.of [10], .of [12]]), (4, .parts (.name) [.of [10]]), (3, .parts (.name) [.of [36]]), (2, .many (.oneOf [(⟨#[]⟩ : ByteArray)]) 0 (.of [3, 4, 5, 6, 7, 8, 9])), (1, .parts (.oneOf [(⟨#[]⟩ : ByteArray)]) [])]

set_option maxRecDepth 100000 in
set_option maxHeartbeats 6400000 in
theorem addDeclarations_any (m : Nat) (l : List (Int × Entry)) (w : World) (S : Sta w w m l) (hl : l.length < 900) :
    Calls Tryz.prog 63 #[.map (some m)] w fun e w' => (∃ v, e = .returned v) ∧ Sta w w' m (declL ++ l) := by
  go_enter Tryz.func63, Tryz.ntmps63
  have c := of_lit m [10] w 3
  change Calls Tryz.prog 49 #[.map (some m), .slice (some ⟨w.heap.size, 0, none⟩) 1 1] (w.alloc (.cells #[.int .i64 10] 3)) _ at c
  unfold MadeSh at c
  go_wp2_with fail
  (with_reducible refine c.mono ?_)
  rintro e w1 ⟨g1, lb1, rfl, h1, b1⟩
  clear c
  replace S := S.later b1
  clear b1
  have c := of_lit m [12] w1 3
  change Calls Tryz.prog 49 #[.map (some m), .slice (some ⟨w1.heap.size, 0, none⟩) 1 1] (w1.alloc (.cells #[.int .i64 12] 3)) _ at c
  unfold MadeSh at c
  go_wp2_with fail
  (with_reducible refine c.mono ?_)
  rintro e w2 ⟨g2, lb2, rfl, h2, b2⟩
  clear c
  replace h1 := h1.on (CellsOn.of_below b2)
  replace S := S.later b2
  clear b2
  have c := of_lit m [1] w2 3
  change Calls Tryz.prog 49 #[.map (some m), .slice (some ⟨w2.heap.size, 0, none⟩) 1 1] (w2.alloc (.cells #[.int .i64 1] 3)) _ at c
  unfold MadeSh at c
  go_wp2_with fail
  (with_reducible refine c.mono ?_)
  rintro e w3 ⟨g3, lb3, rfl, h3, b3⟩
  clear c
  replace h1 := h1.on (CellsOn.of_below b3)
  replace h2 := h2.on (CellsOn.of_below b3)
  replace S := S.later b3
  clear b3
  have c := of_lit m [3, 4, 5, 6, 7, 8, 9] w3 3
  change Calls Tryz.prog 49 #[.map (some m), .slice (some ⟨w3.heap.size, 0, none⟩) 7 7] (w3.alloc (.cells #[.int .i64 3, .int .i64 4, .int .i64 5, .int .i64 6, .int .i64 7, .int .i64 8, .int .i64 9] 3)) _ at c
  unfold MadeSh at c
  go_wp2_with fail
  (with_reducible refine c.mono ?_)
  rintro e w4 ⟨g4, lb4, rfl, h4, b4⟩
  clear c
  replace h1 := h1.on (CellsOn.of_below b4)
  replace h2 := h2.on (CellsOn.of_below b4)
  replace h3 := h3.on (CellsOn.of_below b4)
  replace S := S.later b4
  clear b4
  have c := of_lit m [13, 14, 15, 16, 17] w4 3
  change Calls Tryz.prog 49 #[.map (some m), .slice (some ⟨w4.heap.size, 0, none⟩) 5 5] (w4.alloc (.cells #[.int .i64 13, .int .i64 14, .int .i64 15, .int .i64 16, .int .i64 17] 3)) _ at c
  unfold MadeSh at c
  go_wp2_with fail
  (with_reducible refine c.mono ?_)
  rintro e w5 ⟨g5, lb5, rfl, h5, b5⟩
  clear c
  replace h1 := h1.on (CellsOn.of_below b5)
  replace h2 := h2.on (CellsOn.of_below b5)
  replace h3 := h3.on (CellsOn.of_below b5)
  replace h4 := h4.on (CellsOn.of_below b5)
  replace S := S.later b5
  clear b5
  have c := oneOf_lit [(⟨#[]⟩ : ByteArray)] w5
  change Calls Tryz.prog 75 #[.slice (some ⟨w5.heap.size, 0, none⟩) 1 1] (w5.alloc (.cells #[.string (⟨#[]⟩ : ByteArray)] 9)) _ at c
  unfold MadeText at c
  go_wp2_with fail
  (with_reducible refine c.mono ?_)
  rintro e w6 ⟨g6, lb6, rfl, h6, b6⟩
  clear c
  replace h1 := h1.on (CellsOn.of_below b6)
  replace h2 := h2.on (CellsOn.of_below b6)
  replace h3 := h3.on (CellsOn.of_below b6)
  replace h4 := h4.on (CellsOn.of_below b6)
  replace h5 := h5.on (CellsOn.of_below b6)
  replace S := S.later b6
  clear b6
  have c := parts_nil m (.oneOf [(⟨#[]⟩ : ByteArray)]) (tv := .func (.func g6) #[] lb6) (w := w6) h6
  unfold MadeSh at c
  go_wp2_with fail
  (with_reducible refine c.mono ?_)
  rintro e w7 ⟨g7, lb7, rfl, h7, b7⟩
  clear c
  clear h6
  replace h1 := h1.on (CellsOn.of_below b7)
  replace h2 := h2.on (CellsOn.of_below b7)
  replace h3 := h3.on (CellsOn.of_below b7)
  replace h4 := h4.on (CellsOn.of_below b7)
  replace h5 := h5.on (CellsOn.of_below b7)
  replace S := S.later b7
  clear b7
  obtain ⟨w8, r8, T, k8⟩ := S.put (k := 1) h7 rfl (by first | omega | (simp; omega))
  clear h7
  replace h1 := h1.on k8
  replace h2 := h2.on k8
  replace h3 := h3.on k8
  replace h4 := h4.on k8
  replace h5 := h5.on k8
  clear S k8
  have S := T
  clear T
  have c := oneOf_lit [(⟨#[]⟩ : ByteArray)] w8
  change Calls Tryz.prog 75 #[.slice (some ⟨w8.heap.size, 0, none⟩) 1 1] (w8.alloc (.cells #[.string (⟨#[]⟩ : ByteArray)] 9)) _ at c
  unfold MadeText at c
  go_wp2_with fail
  (with_reducible refine c.mono ?_)
  rintro e w9 ⟨g9, lb9, rfl, h9, b9⟩
  clear c
  replace h1 := h1.on (CellsOn.of_below b9)
  replace h2 := h2.on (CellsOn.of_below b9)
  replace h3 := h3.on (CellsOn.of_below b9)
  replace h4 := h4.on (CellsOn.of_below b9)
  replace h5 := h5.on (CellsOn.of_below b9)
  replace S := S.later b9
  clear b9
  have c := many_make m (.oneOf [(⟨#[]⟩ : ByteArray)]) 0 (.of [3, 4, 5, 6, 7, 8, 9]) (tv := .func (.func g9) #[] lb9) (w := w9) h9 h4
  change Calls Tryz.prog 76 #[.func (.func g9) #[] lb9, .int .i64 0, .func (.func g4) #[] lb4] w9 _ at c
  unfold MadeSh at c
  go_wp2_with fail
  (with_reducible refine c.mono ?_)
  rintro e w10 ⟨g10, lb10, rfl, h10, b10⟩
  clear c
  clear h4 h9
  replace h1 := h1.on (CellsOn.of_below b10)
  replace h2 := h2.on (CellsOn.of_below b10)
  replace h3 := h3.on (CellsOn.of_below b10)
  replace h5 := h5.on (CellsOn.of_below b10)
  replace S := S.later b10
  clear b10
  obtain ⟨w11, r11, T, k11⟩ := S.put (k := 2) h10 rfl (by first | omega | (simp; omega))
  clear h10
  replace h1 := h1.on k11
  replace h2 := h2.on k11
  replace h3 := h3.on k11
  replace h5 := h5.on k11
  clear S k11
  have S := T
  clear T
  have c := of_lit m [36] w11 3
  change Calls Tryz.prog 49 #[.map (some m), .slice (some ⟨w11.heap.size, 0, none⟩) 1 1] (w11.alloc (.cells #[.int .i64 36] 3)) _ at c
  unfold MadeSh at c
  go_wp2_with fail
  (with_reducible refine c.mono ?_)
  rintro e w12 ⟨g12, lb12, rfl, h12, b12⟩
  clear c
  replace h1 := h1.on (CellsOn.of_below b12)
  replace h2 := h2.on (CellsOn.of_below b12)
  replace h3 := h3.on (CellsOn.of_below b12)
  replace h5 := h5.on (CellsOn.of_below b12)
  replace S := S.later b12
  clear b12
  have c := parts_lit m (.name) [.of [36]] [.func (.func g12) #[] lb12] (tv := .func (.func 77) #[] #[]) (w := w12) 57 ⟨rfl, S.2.2⟩ rfl (fun i v s hv hs => by
    rcases i with _ | i
    · simp at hv hs; subst hv; subst hs; exact h12
    · simp at hv)
  change Calls Tryz.prog 74 #[.func (.func 77) #[] #[], .slice (some ⟨w12.heap.size, 0, none⟩) 1 1] (w12.alloc (.cells #[.func (.func g12) #[] lb12] 57)) _ at c
  unfold MadeSh at c
  go_wp2_with fail
  (with_reducible refine c.mono ?_)
  rintro e w13 ⟨g13, lb13, rfl, h13, b13⟩
  clear c
  clear h12
  replace h1 := h1.on (CellsOn.of_below b13)
  replace h2 := h2.on (CellsOn.of_below b13)
  replace h3 := h3.on (CellsOn.of_below b13)
  replace h5 := h5.on (CellsOn.of_below b13)
  replace S := S.later b13
  clear b13
  obtain ⟨w14, r14, T, k14⟩ := S.put (k := 3) h13 rfl (by first | omega | (simp; omega))
  clear h13
  replace h1 := h1.on k14
  replace h2 := h2.on k14
  replace h3 := h3.on k14
  replace h5 := h5.on k14
  clear S k14
  have S := T
  clear T
  have c := parts_lit m (.name) [.of [10]] [.func (.func g1) #[] lb1] (tv := .func (.func 77) #[] #[]) (w := w14) 57 ⟨rfl, S.2.2⟩ rfl (fun i v s hv hs => by
    rcases i with _ | i
    · simp at hv hs; subst hv; subst hs; exact h1
    · simp at hv)
  change Calls Tryz.prog 74 #[.func (.func 77) #[] #[], .slice (some ⟨w14.heap.size, 0, none⟩) 1 1] (w14.alloc (.cells #[.func (.func g1) #[] lb1] 57)) _ at c
  unfold MadeSh at c
  go_wp2_with fail
  (with_reducible refine c.mono ?_)
  rintro e w15 ⟨g15, lb15, rfl, h15, b15⟩
  clear c
  replace h1 := h1.on (CellsOn.of_below b15)
  replace h2 := h2.on (CellsOn.of_below b15)
  replace h3 := h3.on (CellsOn.of_below b15)
  replace h5 := h5.on (CellsOn.of_below b15)
  replace S := S.later b15
  clear b15
  obtain ⟨w16, r16, T, k16⟩ := S.put (k := 4) h15 rfl (by first | omega | (simp; omega))
  clear h15
  replace h1 := h1.on k16
  replace h2 := h2.on k16
  replace h3 := h3.on k16
  replace h5 := h5.on k16
  clear S k16
  have S := T
  clear T
  have c := parts_lit m (.name) [.of [10], .of [12]] [.func (.func g1) #[] lb1, .func (.func g2) #[] lb2] (tv := .func (.func 77) #[] #[]) (w := w16) 57 ⟨rfl, S.2.2⟩ rfl (fun i v s hv hs => by
    rcases i with _ | _ | i
    · simp at hv hs; subst hv; subst hs; exact h1
    · simp at hv hs; subst hv; subst hs; exact h2
    · simp at hv)
  change Calls Tryz.prog 74 #[.func (.func 77) #[] #[], .slice (some ⟨w16.heap.size, 0, none⟩) 2 2] (w16.alloc (.cells #[.func (.func g1) #[] lb1, .func (.func g2) #[] lb2] 57)) _ at c
  unfold MadeSh at c
  go_wp2_with fail
  (with_reducible refine c.mono ?_)
  rintro e w17 ⟨g17, lb17, rfl, h17, b17⟩
  clear c
  replace h1 := h1.on (CellsOn.of_below b17)
  replace h2 := h2.on (CellsOn.of_below b17)
  replace h3 := h3.on (CellsOn.of_below b17)
  replace h5 := h5.on (CellsOn.of_below b17)
  replace S := S.later b17
  clear b17
  obtain ⟨w18, r18, T, k18⟩ := S.put (k := 5) h17 rfl (by first | omega | (simp; omega))
  clear h17
  replace h1 := h1.on k18
  replace h2 := h2.on k18
  replace h3 := h3.on k18
  replace h5 := h5.on k18
  clear S k18
  have S := T
  clear T
  have c := word_lit m [(⟨#[97, 100, 100, 119, 105, 110, 115]⟩ : ByteArray), (⟨#[114, 101, 109, 111, 118, 101, 119, 105, 110, 115]⟩ : ByteArray)] w18
  change Calls Tryz.prog 78 #[.slice (some ⟨w18.heap.size, 0, none⟩) 2 2] (w18.alloc (.cells #[.string (⟨#[97, 100, 100, 119, 105, 110, 115]⟩ : ByteArray), .string (⟨#[114, 101, 109, 111, 118, 101, 119, 105, 110, 115]⟩ : ByteArray)] 9)) _ at c
  unfold MadeSh at c
  go_wp2_with fail
  (with_reducible refine c.mono ?_)
  rintro e w19 ⟨g19, lb19, rfl, h19, b19⟩
  clear c
  replace h1 := h1.on (CellsOn.of_below b19)
  replace h2 := h2.on (CellsOn.of_below b19)
  replace h3 := h3.on (CellsOn.of_below b19)
  replace h5 := h5.on (CellsOn.of_below b19)
  replace S := S.later b19
  clear b19
  have c := parts_lit m (.name) [.of [10], .word [(⟨#[97, 100, 100, 119, 105, 110, 115]⟩ : ByteArray), (⟨#[114, 101, 109, 111, 118, 101, 119, 105, 110, 115]⟩ : ByteArray)]] [.func (.func g1) #[] lb1, .func (.func g19) #[] lb19] (tv := .func (.func 77) #[] #[]) (w := w19) 57 ⟨rfl, S.2.2⟩ rfl (fun i v s hv hs => by
    rcases i with _ | _ | i
    · simp at hv hs; subst hv; subst hs; exact h1
    · simp at hv hs; subst hv; subst hs; exact h19
    · simp at hv)
  change Calls Tryz.prog 74 #[.func (.func 77) #[] #[], .slice (some ⟨w19.heap.size, 0, none⟩) 2 2] (w19.alloc (.cells #[.func (.func g1) #[] lb1, .func (.func g19) #[] lb19] 57)) _ at c
  unfold MadeSh at c
  go_wp2_with fail
  (with_reducible refine c.mono ?_)
  rintro e w20 ⟨g20, lb20, rfl, h20, b20⟩
  clear c
  clear h19
  replace h1 := h1.on (CellsOn.of_below b20)
  replace h2 := h2.on (CellsOn.of_below b20)
  replace h3 := h3.on (CellsOn.of_below b20)
  replace h5 := h5.on (CellsOn.of_below b20)
  replace S := S.later b20
  clear b20
  obtain ⟨w21, r21, T, k21⟩ := S.put (k := 6) h20 rfl (by first | omega | (simp; omega))
  clear h20
  replace h1 := h1.on k21
  replace h2 := h2.on k21
  replace h3 := h3.on k21
  replace h5 := h5.on k21
  clear S k21
  have S := T
  clear T
  have c := word_lit m [(⟨#[108, 97, 115, 116]⟩ : ByteArray), (⟨#[109, 117, 108, 116, 105]⟩ : ByteArray)] w21
  change Calls Tryz.prog 78 #[.slice (some ⟨w21.heap.size, 0, none⟩) 2 2] (w21.alloc (.cells #[.string (⟨#[108, 97, 115, 116]⟩ : ByteArray), .string (⟨#[109, 117, 108, 116, 105]⟩ : ByteArray)] 9)) _ at c
  unfold MadeSh at c
  go_wp2_with fail
  (with_reducible refine c.mono ?_)
  rintro e w22 ⟨g22, lb22, rfl, h22, b22⟩
  clear c
  replace h1 := h1.on (CellsOn.of_below b22)
  replace h2 := h2.on (CellsOn.of_below b22)
  replace h3 := h3.on (CellsOn.of_below b22)
  replace h5 := h5.on (CellsOn.of_below b22)
  replace S := S.later b22
  clear b22
  have c := parts_lit m (.name) [.of [10], .of [12], .word [(⟨#[108, 97, 115, 116]⟩ : ByteArray), (⟨#[109, 117, 108, 116, 105]⟩ : ByteArray)]] [.func (.func g1) #[] lb1, .func (.func g2) #[] lb2, .func (.func g22) #[] lb22] (tv := .func (.func 77) #[] #[]) (w := w22) 57 ⟨rfl, S.2.2⟩ rfl (fun i v s hv hs => by
    rcases i with _ | _ | _ | i
    · simp at hv hs; subst hv; subst hs; exact h1
    · simp at hv hs; subst hv; subst hs; exact h2
    · simp at hv hs; subst hv; subst hs; exact h22
    · simp at hv)
  change Calls Tryz.prog 74 #[.func (.func 77) #[] #[], .slice (some ⟨w22.heap.size, 0, none⟩) 3 3] (w22.alloc (.cells #[.func (.func g1) #[] lb1, .func (.func g2) #[] lb2, .func (.func g22) #[] lb22] 57)) _ at c
  unfold MadeSh at c
  go_wp2_with fail
  (with_reducible refine c.mono ?_)
  rintro e w23 ⟨g23, lb23, rfl, h23, b23⟩
  clear c
  clear h1 h2 h22
  replace h3 := h3.on (CellsOn.of_below b23)
  replace h5 := h5.on (CellsOn.of_below b23)
  replace S := S.later b23
  clear b23
  obtain ⟨w24, r24, T, k24⟩ := S.put (k := 7) h23 rfl (by first | omega | (simp; omega))
  clear h23
  replace h3 := h3.on k24
  replace h5 := h5.on k24
  clear S k24
  have S := T
  clear T
  have c := parts_lit m (.name) [.of [13, 14, 15, 16, 17]] [.func (.func g5) #[] lb5] (tv := .func (.func 77) #[] #[]) (w := w24) 57 ⟨rfl, S.2.2⟩ rfl (fun i v s hv hs => by
    rcases i with _ | i
    · simp at hv hs; subst hv; subst hs; exact h5
    · simp at hv)
  change Calls Tryz.prog 74 #[.func (.func 77) #[] #[], .slice (some ⟨w24.heap.size, 0, none⟩) 1 1] (w24.alloc (.cells #[.func (.func g5) #[] lb5] 57)) _ at c
  unfold MadeSh at c
  go_wp2_with fail
  (with_reducible refine c.mono ?_)
  rintro e w25 ⟨g25, lb25, rfl, h25, b25⟩
  clear c
  clear h5
  replace h3 := h3.on (CellsOn.of_below b25)
  replace S := S.later b25
  clear b25
  obtain ⟨w26, r26, T, k26⟩ := S.put (k := 8) h25 rfl (by first | omega | (simp; omega))
  clear h25
  replace h3 := h3.on k26
  clear S k26
  have S := T
  clear T
  have c := of_lit m [23] w26 3
  change Calls Tryz.prog 49 #[.map (some m), .slice (some ⟨w26.heap.size, 0, none⟩) 1 1] (w26.alloc (.cells #[.int .i64 23] 3)) _ at c
  unfold MadeSh at c
  go_wp2_with fail
  (with_reducible refine c.mono ?_)
  rintro e w27 ⟨g27, lb27, rfl, h27, b27⟩
  clear c
  replace h3 := h3.on (CellsOn.of_below b27)
  replace S := S.later b27
  clear b27
  have c := word_lit m [(⟨#[111, 114, 100, 101, 114, 101, 100]⟩ : ByteArray)] w27
  change Calls Tryz.prog 78 #[.slice (some ⟨w27.heap.size, 0, none⟩) 1 1] (w27.alloc (.cells #[.string (⟨#[111, 114, 100, 101, 114, 101, 100]⟩ : ByteArray)] 9)) _ at c
  unfold MadeSh at c
  go_wp2_with fail
  (with_reducible refine c.mono ?_)
  rintro e w28 ⟨g28, lb28, rfl, h28, b28⟩
  clear c
  replace h3 := h3.on (CellsOn.of_below b28)
  replace h27 := h27.on (CellsOn.of_below b28)
  replace S := S.later b28
  clear b28
  have c := either_make m _ _ h3 h28
  unfold MadeSh at c
  go_wp2_with fail
  (with_reducible refine c.mono ?_)
  rintro e w29 ⟨g29, lb29, rfl, h29, b29⟩
  clear c
  clear h3 h28
  replace h27 := h27.on (CellsOn.of_below b29)
  replace S := S.later b29
  clear b29
  have c := of_lit m [25] w29 3
  change Calls Tryz.prog 49 #[.map (some m), .slice (some ⟨w29.heap.size, 0, none⟩) 1 1] (w29.alloc (.cells #[.int .i64 25] 3)) _ at c
  unfold MadeSh at c
  go_wp2_with fail
  (with_reducible refine c.mono ?_)
  rintro e w30 ⟨g30, lb30, rfl, h30, b30⟩
  clear c
  replace h27 := h27.on (CellsOn.of_below b30)
  replace h29 := h29.on (CellsOn.of_below b30)
  replace S := S.later b30
  clear b30
  have c := parts_lit m (.name) [.of [23], .either (.of [1]) (.word [(⟨#[111, 114, 100, 101, 114, 101, 100]⟩ : ByteArray)]), .of [25]] [.func (.func g27) #[] lb27, .func (.func g29) #[] lb29, .func (.func g30) #[] lb30] (tv := .func (.func 77) #[] #[]) (w := w30) 57 ⟨rfl, S.2.2⟩ rfl (fun i v s hv hs => by
    rcases i with _ | _ | _ | i
    · simp at hv hs; subst hv; subst hs; exact h27
    · simp at hv hs; subst hv; subst hs; exact h29
    · simp at hv hs; subst hv; subst hs; exact h30
    · simp at hv)
  change Calls Tryz.prog 74 #[.func (.func 77) #[] #[], .slice (some ⟨w30.heap.size, 0, none⟩) 3 3] (w30.alloc (.cells #[.func (.func g27) #[] lb27, .func (.func g29) #[] lb29, .func (.func g30) #[] lb30] 57)) _ at c
  unfold MadeSh at c
  go_wp2_with fail
  (with_reducible refine c.mono ?_)
  rintro e w31 ⟨g31, lb31, rfl, h31, b31⟩
  clear c
  clear h27 h29 h30
  replace S := S.later b31
  clear b31
  obtain ⟨w32, r32, T, k32⟩ := S.put (k := 9) h31 rfl (by first | omega | (simp; omega))
  clear h31
  clear S k32
  have S := T
  clear T
  go_wp2_with fail
  go_end0
  exact ⟨⟨_, rfl⟩, S⟩

def invL : List (Int × Entry) := [(17, .parts (.oneOf [(⟨#[]⟩ : ByteArray)]) [.of [10], .of [20], .bound (.of [37])]), (16, .parts (.name) []), (15, .parts (.name) [.of [18], .bound (.of [37])]), (14, .parts (.name) [.of [35], .of [35], .either (.of [1]) (.word [(⟨#[104, 105, 100, 101]⟩ : ByteArray)])]), (13, .parts (.name) [.of [18]])]

set_option maxRecDepth 100000 in
set_option maxHeartbeats 6400000 in
theorem addInvariants_any (m : Nat) (l : List (Int × Entry)) (w : World) (S : Sta w w m l) (hl : l.length < 900) :
    Calls Tryz.prog 64 #[.map (some m)] w fun e w' => (∃ v, e = .returned v) ∧ Sta w w' m (invL ++ l) := by
  go_enter Tryz.func64, Tryz.ntmps64
  have c := of_lit m [35] w 3
  change Calls Tryz.prog 49 #[.map (some m), .slice (some ⟨w.heap.size, 0, none⟩) 1 1] (w.alloc (.cells #[.int .i64 35] 3)) _ at c
  unfold MadeSh at c
  go_wp2_with fail
  (with_reducible refine c.mono ?_)
  rintro e w1 ⟨g1, lb1, rfl, h1, b1⟩
  clear c
  replace S := S.later b1
  clear b1
  have c := of_lit m [18] w1 3
  change Calls Tryz.prog 49 #[.map (some m), .slice (some ⟨w1.heap.size, 0, none⟩) 1 1] (w1.alloc (.cells #[.int .i64 18] 3)) _ at c
  unfold MadeSh at c
  go_wp2_with fail
  (with_reducible refine c.mono ?_)
  rintro e w2 ⟨g2, lb2, rfl, h2, b2⟩
  clear c
  replace h1 := h1.on (CellsOn.of_below b2)
  replace S := S.later b2
  clear b2
  have c := of_lit m [37] w2 3
  change Calls Tryz.prog 49 #[.map (some m), .slice (some ⟨w2.heap.size, 0, none⟩) 1 1] (w2.alloc (.cells #[.int .i64 37] 3)) _ at c
  unfold MadeSh at c
  go_wp2_with fail
  (with_reducible refine c.mono ?_)
  rintro e w3 ⟨g3, lb3, rfl, h3, b3⟩
  clear c
  replace h1 := h1.on (CellsOn.of_below b3)
  replace h2 := h2.on (CellsOn.of_below b3)
  replace S := S.later b3
  clear b3
  have c := bound_make m _ h3
  unfold MadeSh at c
  go_wp2_with fail
  (with_reducible refine c.mono ?_)
  rintro e w4 ⟨g4, lb4, rfl, h4, b4⟩
  clear c
  clear h3
  replace h1 := h1.on (CellsOn.of_below b4)
  replace h2 := h2.on (CellsOn.of_below b4)
  replace S := S.later b4
  clear b4
  have c := parts_lit m (.name) [.of [18]] [.func (.func g2) #[] lb2] (tv := .func (.func 77) #[] #[]) (w := w4) 57 ⟨rfl, S.2.2⟩ rfl (fun i v s hv hs => by
    rcases i with _ | i
    · simp at hv hs; subst hv; subst hs; exact h2
    · simp at hv)
  change Calls Tryz.prog 74 #[.func (.func 77) #[] #[], .slice (some ⟨w4.heap.size, 0, none⟩) 1 1] (w4.alloc (.cells #[.func (.func g2) #[] lb2] 57)) _ at c
  unfold MadeSh at c
  go_wp2_with fail
  (with_reducible refine c.mono ?_)
  rintro e w5 ⟨g5, lb5, rfl, h5, b5⟩
  clear c
  replace h1 := h1.on (CellsOn.of_below b5)
  replace h2 := h2.on (CellsOn.of_below b5)
  replace h4 := h4.on (CellsOn.of_below b5)
  replace S := S.later b5
  clear b5
  obtain ⟨w6, r6, T, k6⟩ := S.put (k := 13) h5 rfl (by first | omega | (simp; omega))
  clear h5
  replace h1 := h1.on k6
  replace h2 := h2.on k6
  replace h4 := h4.on k6
  clear S k6
  have S := T
  clear T
  have c := of_lit m [1] w6 3
  change Calls Tryz.prog 49 #[.map (some m), .slice (some ⟨w6.heap.size, 0, none⟩) 1 1] (w6.alloc (.cells #[.int .i64 1] 3)) _ at c
  unfold MadeSh at c
  go_wp2_with fail
  (with_reducible refine c.mono ?_)
  rintro e w7 ⟨g7, lb7, rfl, h7, b7⟩
  clear c
  replace h1 := h1.on (CellsOn.of_below b7)
  replace h2 := h2.on (CellsOn.of_below b7)
  replace h4 := h4.on (CellsOn.of_below b7)
  replace S := S.later b7
  clear b7
  have c := word_lit m [(⟨#[104, 105, 100, 101]⟩ : ByteArray)] w7
  change Calls Tryz.prog 78 #[.slice (some ⟨w7.heap.size, 0, none⟩) 1 1] (w7.alloc (.cells #[.string (⟨#[104, 105, 100, 101]⟩ : ByteArray)] 9)) _ at c
  unfold MadeSh at c
  go_wp2_with fail
  (with_reducible refine c.mono ?_)
  rintro e w8 ⟨g8, lb8, rfl, h8, b8⟩
  clear c
  replace h1 := h1.on (CellsOn.of_below b8)
  replace h2 := h2.on (CellsOn.of_below b8)
  replace h4 := h4.on (CellsOn.of_below b8)
  replace h7 := h7.on (CellsOn.of_below b8)
  replace S := S.later b8
  clear b8
  have c := either_make m _ _ h7 h8
  unfold MadeSh at c
  go_wp2_with fail
  (with_reducible refine c.mono ?_)
  rintro e w9 ⟨g9, lb9, rfl, h9, b9⟩
  clear c
  clear h7 h8
  replace h1 := h1.on (CellsOn.of_below b9)
  replace h2 := h2.on (CellsOn.of_below b9)
  replace h4 := h4.on (CellsOn.of_below b9)
  replace S := S.later b9
  clear b9
  have c := parts_lit m (.name) [.of [35], .of [35], .either (.of [1]) (.word [(⟨#[104, 105, 100, 101]⟩ : ByteArray)])] [.func (.func g1) #[] lb1, .func (.func g1) #[] lb1, .func (.func g9) #[] lb9] (tv := .func (.func 77) #[] #[]) (w := w9) 57 ⟨rfl, S.2.2⟩ rfl (fun i v s hv hs => by
    rcases i with _ | _ | _ | i
    · simp at hv hs; subst hv; subst hs; exact h1
    · simp at hv hs; subst hv; subst hs; exact h1
    · simp at hv hs; subst hv; subst hs; exact h9
    · simp at hv)
  change Calls Tryz.prog 74 #[.func (.func 77) #[] #[], .slice (some ⟨w9.heap.size, 0, none⟩) 3 3] (w9.alloc (.cells #[.func (.func g1) #[] lb1, .func (.func g1) #[] lb1, .func (.func g9) #[] lb9] 57)) _ at c
  unfold MadeSh at c
  go_wp2_with fail
  (with_reducible refine c.mono ?_)
  rintro e w10 ⟨g10, lb10, rfl, h10, b10⟩
  clear c
  clear h1 h9
  replace h2 := h2.on (CellsOn.of_below b10)
  replace h4 := h4.on (CellsOn.of_below b10)
  replace S := S.later b10
  clear b10
  obtain ⟨w11, r11, T, k11⟩ := S.put (k := 14) h10 rfl (by first | omega | (simp; omega))
  clear h10
  replace h2 := h2.on k11
  replace h4 := h4.on k11
  clear S k11
  have S := T
  clear T
  have c := parts_lit m (.name) [.of [18], .bound (.of [37])] [.func (.func g2) #[] lb2, .func (.func g4) #[] lb4] (tv := .func (.func 77) #[] #[]) (w := w11) 57 ⟨rfl, S.2.2⟩ rfl (fun i v s hv hs => by
    rcases i with _ | _ | i
    · simp at hv hs; subst hv; subst hs; exact h2
    · simp at hv hs; subst hv; subst hs; exact h4
    · simp at hv)
  change Calls Tryz.prog 74 #[.func (.func 77) #[] #[], .slice (some ⟨w11.heap.size, 0, none⟩) 2 2] (w11.alloc (.cells #[.func (.func g2) #[] lb2, .func (.func g4) #[] lb4] 57)) _ at c
  unfold MadeSh at c
  go_wp2_with fail
  (with_reducible refine c.mono ?_)
  rintro e w12 ⟨g12, lb12, rfl, h12, b12⟩
  clear c
  clear h2
  replace h4 := h4.on (CellsOn.of_below b12)
  replace S := S.later b12
  clear b12
  obtain ⟨w13, r13, T, k13⟩ := S.put (k := 15) h12 rfl (by first | omega | (simp; omega))
  clear h12
  replace h4 := h4.on k13
  clear S k13
  have S := T
  clear T
  have c := parts_nil m (.name) (tv := .func (.func 77) #[] #[]) (w := w13) ⟨rfl, S.2.2⟩
  unfold MadeSh at c
  go_wp2_with fail
  (with_reducible refine c.mono ?_)
  rintro e w14 ⟨g14, lb14, rfl, h14, b14⟩
  clear c
  replace h4 := h4.on (CellsOn.of_below b14)
  replace S := S.later b14
  clear b14
  obtain ⟨w15, r15, T, k15⟩ := S.put (k := 16) h14 rfl (by first | omega | (simp; omega))
  clear h14
  replace h4 := h4.on k15
  clear S k15
  have S := T
  clear T
  have c := oneOf_lit [(⟨#[]⟩ : ByteArray)] w15
  change Calls Tryz.prog 75 #[.slice (some ⟨w15.heap.size, 0, none⟩) 1 1] (w15.alloc (.cells #[.string (⟨#[]⟩ : ByteArray)] 9)) _ at c
  unfold MadeText at c
  go_wp2_with fail
  (with_reducible refine c.mono ?_)
  rintro e w16 ⟨g16, lb16, rfl, h16, b16⟩
  clear c
  replace h4 := h4.on (CellsOn.of_below b16)
  replace S := S.later b16
  clear b16
  have c := of_lit m [10] w16 3
  change Calls Tryz.prog 49 #[.map (some m), .slice (some ⟨w16.heap.size, 0, none⟩) 1 1] (w16.alloc (.cells #[.int .i64 10] 3)) _ at c
  unfold MadeSh at c
  go_wp2_with fail
  (with_reducible refine c.mono ?_)
  rintro e w17 ⟨g17, lb17, rfl, h17, b17⟩
  clear c
  replace h4 := h4.on (CellsOn.of_below b17)
  replace h16 := h16.on (CellsOn.of_below b17)
  replace S := S.later b17
  clear b17
  have c := of_lit m [20] w17 3
  change Calls Tryz.prog 49 #[.map (some m), .slice (some ⟨w17.heap.size, 0, none⟩) 1 1] (w17.alloc (.cells #[.int .i64 20] 3)) _ at c
  unfold MadeSh at c
  go_wp2_with fail
  (with_reducible refine c.mono ?_)
  rintro e w18 ⟨g18, lb18, rfl, h18, b18⟩
  clear c
  replace h4 := h4.on (CellsOn.of_below b18)
  replace h16 := h16.on (CellsOn.of_below b18)
  replace h17 := h17.on (CellsOn.of_below b18)
  replace S := S.later b18
  clear b18
  have c := parts_lit m (.oneOf [(⟨#[]⟩ : ByteArray)]) [.of [10], .of [20], .bound (.of [37])] [.func (.func g17) #[] lb17, .func (.func g18) #[] lb18, .func (.func g4) #[] lb4] (tv := .func (.func g16) #[] lb16) (w := w18) 57 h16 rfl (fun i v s hv hs => by
    rcases i with _ | _ | _ | i
    · simp at hv hs; subst hv; subst hs; exact h17
    · simp at hv hs; subst hv; subst hs; exact h18
    · simp at hv hs; subst hv; subst hs; exact h4
    · simp at hv)
  change Calls Tryz.prog 74 #[.func (.func g16) #[] lb16, .slice (some ⟨w18.heap.size, 0, none⟩) 3 3] (w18.alloc (.cells #[.func (.func g17) #[] lb17, .func (.func g18) #[] lb18, .func (.func g4) #[] lb4] 57)) _ at c
  unfold MadeSh at c
  go_wp2_with fail
  (with_reducible refine c.mono ?_)
  rintro e w19 ⟨g19, lb19, rfl, h19, b19⟩
  clear c
  clear h4 h16 h17 h18
  replace S := S.later b19
  clear b19
  obtain ⟨w20, r20, T, k20⟩ := S.put (k := 17) h19 rfl (by first | omega | (simp; omega))
  clear h19
  clear S k20
  have S := T
  clear T
  go_wp2_with fail
  go_end0
  exact ⟨⟨_, rfl⟩, S⟩

def partL : List (Int × Entry) := [(24, .parts (.name) [.of [35, 12]]), (23, .many (.oneOf [(⟨#[]⟩ : ByteArray)]) 0 (.of [24])), (22, .many (.name) 0 (.of [35, 36])), (21, .parts (.oneOf [(⟨#[43]⟩ : ByteArray), (⟨#[45]⟩ : ByteArray)]) [.of [1, 36], .of [1, 10], .of [22]]), (20, .many (.oneOf [(⟨#[]⟩ : ByteArray)]) 1 (.of [21])), (18, .many (.oneOf [(⟨#[]⟩ : ByteArray)]) 0 (.of [35])), (12, .parts (.oneOf [(⟨#[]⟩ : ByteArray)]) [.of [37], .of [37]]), (11, .parts (.name) [.of [35]]), (10, .many (.oneOf [(⟨#[]⟩ : ByteArray)]) 0 (.of [11]))]

set_option maxRecDepth 100000 in
set_option maxHeartbeats 6400000 in
theorem addParts_any (m : Nat) (l : List (Int × Entry)) (w : World) (S : Sta w w m l) (hl : l.length < 900) :
    Calls Tryz.prog 65 #[.map (some m)] w fun e w' => (∃ v, e = .returned v) ∧ Sta w w' m (partL ++ l) := by
  go_enter Tryz.func65, Tryz.ntmps65
  have c := of_lit m [35] w 3
  change Calls Tryz.prog 49 #[.map (some m), .slice (some ⟨w.heap.size, 0, none⟩) 1 1] (w.alloc (.cells #[.int .i64 35] 3)) _ at c
  unfold MadeSh at c
  go_wp2_with fail
  (with_reducible refine c.mono ?_)
  rintro e w1 ⟨g1, lb1, rfl, h1, b1⟩
  clear c
  replace S := S.later b1
  clear b1
  have c := of_lit m [37] w1 3
  change Calls Tryz.prog 49 #[.map (some m), .slice (some ⟨w1.heap.size, 0, none⟩) 1 1] (w1.alloc (.cells #[.int .i64 37] 3)) _ at c
  unfold MadeSh at c
  go_wp2_with fail
  (with_reducible refine c.mono ?_)
  rintro e w2 ⟨g2, lb2, rfl, h2, b2⟩
  clear c
  replace h1 := h1.on (CellsOn.of_below b2)
  replace S := S.later b2
  clear b2
  have c := oneOf_lit [(⟨#[]⟩ : ByteArray)] w2
  change Calls Tryz.prog 75 #[.slice (some ⟨w2.heap.size, 0, none⟩) 1 1] (w2.alloc (.cells #[.string (⟨#[]⟩ : ByteArray)] 9)) _ at c
  unfold MadeText at c
  go_wp2_with fail
  (with_reducible refine c.mono ?_)
  rintro e w3 ⟨g3, lb3, rfl, h3, b3⟩
  clear c
  replace h1 := h1.on (CellsOn.of_below b3)
  replace h2 := h2.on (CellsOn.of_below b3)
  replace S := S.later b3
  clear b3
  have c := of_lit m [11] w3 3
  change Calls Tryz.prog 49 #[.map (some m), .slice (some ⟨w3.heap.size, 0, none⟩) 1 1] (w3.alloc (.cells #[.int .i64 11] 3)) _ at c
  unfold MadeSh at c
  go_wp2_with fail
  (with_reducible refine c.mono ?_)
  rintro e w4 ⟨g4, lb4, rfl, h4, b4⟩
  clear c
  replace h1 := h1.on (CellsOn.of_below b4)
  replace h2 := h2.on (CellsOn.of_below b4)
  replace h3 := h3.on (CellsOn.of_below b4)
  replace S := S.later b4
  clear b4
  have c := many_make m (.oneOf [(⟨#[]⟩ : ByteArray)]) 0 (.of [11]) (tv := .func (.func g3) #[] lb3) (w := w4) h3 h4
  change Calls Tryz.prog 76 #[.func (.func g3) #[] lb3, .int .i64 0, .func (.func g4) #[] lb4] w4 _ at c
  unfold MadeSh at c
  go_wp2_with fail
  (with_reducible refine c.mono ?_)
  rintro e w5 ⟨g5, lb5, rfl, h5, b5⟩
  clear c
  clear h3 h4
  replace h1 := h1.on (CellsOn.of_below b5)
  replace h2 := h2.on (CellsOn.of_below b5)
  replace S := S.later b5
  clear b5
  obtain ⟨w6, r6, T, k6⟩ := S.put (k := 10) h5 rfl (by first | omega | (simp; omega))
  clear h5
  replace h1 := h1.on k6
  replace h2 := h2.on k6
  clear S k6
  have S := T
  clear T
  have c := parts_lit m (.name) [.of [35]] [.func (.func g1) #[] lb1] (tv := .func (.func 77) #[] #[]) (w := w6) 57 ⟨rfl, S.2.2⟩ rfl (fun i v s hv hs => by
    rcases i with _ | i
    · simp at hv hs; subst hv; subst hs; exact h1
    · simp at hv)
  change Calls Tryz.prog 74 #[.func (.func 77) #[] #[], .slice (some ⟨w6.heap.size, 0, none⟩) 1 1] (w6.alloc (.cells #[.func (.func g1) #[] lb1] 57)) _ at c
  unfold MadeSh at c
  go_wp2_with fail
  (with_reducible refine c.mono ?_)
  rintro e w7 ⟨g7, lb7, rfl, h7, b7⟩
  clear c
  replace h1 := h1.on (CellsOn.of_below b7)
  replace h2 := h2.on (CellsOn.of_below b7)
  replace S := S.later b7
  clear b7
  obtain ⟨w8, r8, T, k8⟩ := S.put (k := 11) h7 rfl (by first | omega | (simp; omega))
  clear h7
  replace h1 := h1.on k8
  replace h2 := h2.on k8
  clear S k8
  have S := T
  clear T
  have c := oneOf_lit [(⟨#[]⟩ : ByteArray)] w8
  change Calls Tryz.prog 75 #[.slice (some ⟨w8.heap.size, 0, none⟩) 1 1] (w8.alloc (.cells #[.string (⟨#[]⟩ : ByteArray)] 9)) _ at c
  unfold MadeText at c
  go_wp2_with fail
  (with_reducible refine c.mono ?_)
  rintro e w9 ⟨g9, lb9, rfl, h9, b9⟩
  clear c
  replace h1 := h1.on (CellsOn.of_below b9)
  replace h2 := h2.on (CellsOn.of_below b9)
  replace S := S.later b9
  clear b9
  have c := parts_lit m (.oneOf [(⟨#[]⟩ : ByteArray)]) [.of [37], .of [37]] [.func (.func g2) #[] lb2, .func (.func g2) #[] lb2] (tv := .func (.func g9) #[] lb9) (w := w9) 57 h9 rfl (fun i v s hv hs => by
    rcases i with _ | _ | i
    · simp at hv hs; subst hv; subst hs; exact h2
    · simp at hv hs; subst hv; subst hs; exact h2
    · simp at hv)
  change Calls Tryz.prog 74 #[.func (.func g9) #[] lb9, .slice (some ⟨w9.heap.size, 0, none⟩) 2 2] (w9.alloc (.cells #[.func (.func g2) #[] lb2, .func (.func g2) #[] lb2] 57)) _ at c
  unfold MadeSh at c
  go_wp2_with fail
  (with_reducible refine c.mono ?_)
  rintro e w10 ⟨g10, lb10, rfl, h10, b10⟩
  clear c
  clear h2 h9
  replace h1 := h1.on (CellsOn.of_below b10)
  replace S := S.later b10
  clear b10
  obtain ⟨w11, r11, T, k11⟩ := S.put (k := 12) h10 rfl (by first | omega | (simp; omega))
  clear h10
  replace h1 := h1.on k11
  clear S k11
  have S := T
  clear T
  have c := oneOf_lit [(⟨#[]⟩ : ByteArray)] w11
  change Calls Tryz.prog 75 #[.slice (some ⟨w11.heap.size, 0, none⟩) 1 1] (w11.alloc (.cells #[.string (⟨#[]⟩ : ByteArray)] 9)) _ at c
  unfold MadeText at c
  go_wp2_with fail
  (with_reducible refine c.mono ?_)
  rintro e w12 ⟨g12, lb12, rfl, h12, b12⟩
  clear c
  replace h1 := h1.on (CellsOn.of_below b12)
  replace S := S.later b12
  clear b12
  have c := many_make m (.oneOf [(⟨#[]⟩ : ByteArray)]) 0 (.of [35]) (tv := .func (.func g12) #[] lb12) (w := w12) h12 h1
  change Calls Tryz.prog 76 #[.func (.func g12) #[] lb12, .int .i64 0, .func (.func g1) #[] lb1] w12 _ at c
  unfold MadeSh at c
  go_wp2_with fail
  (with_reducible refine c.mono ?_)
  rintro e w13 ⟨g13, lb13, rfl, h13, b13⟩
  clear c
  clear h1 h12
  replace S := S.later b13
  clear b13
  obtain ⟨w14, r14, T, k14⟩ := S.put (k := 18) h13 rfl (by first | omega | (simp; omega))
  clear h13
  clear S k14
  have S := T
  clear T
  have c := oneOf_lit [(⟨#[]⟩ : ByteArray)] w14
  change Calls Tryz.prog 75 #[.slice (some ⟨w14.heap.size, 0, none⟩) 1 1] (w14.alloc (.cells #[.string (⟨#[]⟩ : ByteArray)] 9)) _ at c
  unfold MadeText at c
  go_wp2_with fail
  (with_reducible refine c.mono ?_)
  rintro e w15 ⟨g15, lb15, rfl, h15, b15⟩
  clear c
  replace S := S.later b15
  clear b15
  have c := of_lit m [21] w15 3
  change Calls Tryz.prog 49 #[.map (some m), .slice (some ⟨w15.heap.size, 0, none⟩) 1 1] (w15.alloc (.cells #[.int .i64 21] 3)) _ at c
  unfold MadeSh at c
  go_wp2_with fail
  (with_reducible refine c.mono ?_)
  rintro e w16 ⟨g16, lb16, rfl, h16, b16⟩
  clear c
  replace h15 := h15.on (CellsOn.of_below b16)
  replace S := S.later b16
  clear b16
  have c := many_make m (.oneOf [(⟨#[]⟩ : ByteArray)]) 1 (.of [21]) (tv := .func (.func g15) #[] lb15) (w := w16) h15 h16
  change Calls Tryz.prog 76 #[.func (.func g15) #[] lb15, .int .i64 1, .func (.func g16) #[] lb16] w16 _ at c
  unfold MadeSh at c
  go_wp2_with fail
  (with_reducible refine c.mono ?_)
  rintro e w17 ⟨g17, lb17, rfl, h17, b17⟩
  clear c
  clear h15 h16
  replace S := S.later b17
  clear b17
  obtain ⟨w18, r18, T, k18⟩ := S.put (k := 20) h17 rfl (by first | omega | (simp; omega))
  clear h17
  clear S k18
  have S := T
  clear T
  have c := oneOf_lit [(⟨#[43]⟩ : ByteArray), (⟨#[45]⟩ : ByteArray)] w18
  change Calls Tryz.prog 75 #[.slice (some ⟨w18.heap.size, 0, none⟩) 2 2] (w18.alloc (.cells #[.string (⟨#[43]⟩ : ByteArray), .string (⟨#[45]⟩ : ByteArray)] 9)) _ at c
  unfold MadeText at c
  go_wp2_with fail
  (with_reducible refine c.mono ?_)
  rintro e w19 ⟨g19, lb19, rfl, h19, b19⟩
  clear c
  replace S := S.later b19
  clear b19
  have c := of_lit m [1, 36] w19 3
  change Calls Tryz.prog 49 #[.map (some m), .slice (some ⟨w19.heap.size, 0, none⟩) 2 2] (w19.alloc (.cells #[.int .i64 1, .int .i64 36] 3)) _ at c
  unfold MadeSh at c
  go_wp2_with fail
  (with_reducible refine c.mono ?_)
  rintro e w20 ⟨g20, lb20, rfl, h20, b20⟩
  clear c
  replace h19 := h19.on (CellsOn.of_below b20)
  replace S := S.later b20
  clear b20
  have c := of_lit m [1, 10] w20 3
  change Calls Tryz.prog 49 #[.map (some m), .slice (some ⟨w20.heap.size, 0, none⟩) 2 2] (w20.alloc (.cells #[.int .i64 1, .int .i64 10] 3)) _ at c
  unfold MadeSh at c
  go_wp2_with fail
  (with_reducible refine c.mono ?_)
  rintro e w21 ⟨g21, lb21, rfl, h21, b21⟩
  clear c
  replace h19 := h19.on (CellsOn.of_below b21)
  replace h20 := h20.on (CellsOn.of_below b21)
  replace S := S.later b21
  clear b21
  have c := of_lit m [22] w21 3
  change Calls Tryz.prog 49 #[.map (some m), .slice (some ⟨w21.heap.size, 0, none⟩) 1 1] (w21.alloc (.cells #[.int .i64 22] 3)) _ at c
  unfold MadeSh at c
  go_wp2_with fail
  (with_reducible refine c.mono ?_)
  rintro e w22 ⟨g22, lb22, rfl, h22, b22⟩
  clear c
  replace h19 := h19.on (CellsOn.of_below b22)
  replace h20 := h20.on (CellsOn.of_below b22)
  replace h21 := h21.on (CellsOn.of_below b22)
  replace S := S.later b22
  clear b22
  have c := parts_lit m (.oneOf [(⟨#[43]⟩ : ByteArray), (⟨#[45]⟩ : ByteArray)]) [.of [1, 36], .of [1, 10], .of [22]] [.func (.func g20) #[] lb20, .func (.func g21) #[] lb21, .func (.func g22) #[] lb22] (tv := .func (.func g19) #[] lb19) (w := w22) 57 h19 rfl (fun i v s hv hs => by
    rcases i with _ | _ | _ | i
    · simp at hv hs; subst hv; subst hs; exact h20
    · simp at hv hs; subst hv; subst hs; exact h21
    · simp at hv hs; subst hv; subst hs; exact h22
    · simp at hv)
  change Calls Tryz.prog 74 #[.func (.func g19) #[] lb19, .slice (some ⟨w22.heap.size, 0, none⟩) 3 3] (w22.alloc (.cells #[.func (.func g20) #[] lb20, .func (.func g21) #[] lb21, .func (.func g22) #[] lb22] 57)) _ at c
  unfold MadeSh at c
  go_wp2_with fail
  (with_reducible refine c.mono ?_)
  rintro e w23 ⟨g23, lb23, rfl, h23, b23⟩
  clear c
  clear h19 h20 h21 h22
  replace S := S.later b23
  clear b23
  obtain ⟨w24, r24, T, k24⟩ := S.put (k := 21) h23 rfl (by first | omega | (simp; omega))
  clear h23
  clear S k24
  have S := T
  clear T
  have c := of_lit m [35, 36] w24 3
  change Calls Tryz.prog 49 #[.map (some m), .slice (some ⟨w24.heap.size, 0, none⟩) 2 2] (w24.alloc (.cells #[.int .i64 35, .int .i64 36] 3)) _ at c
  unfold MadeSh at c
  go_wp2_with fail
  (with_reducible refine c.mono ?_)
  rintro e w25 ⟨g25, lb25, rfl, h25, b25⟩
  clear c
  replace S := S.later b25
  clear b25
  have c := many_make m (.name) 0 (.of [35, 36]) (tv := .func (.func 77) #[] #[]) (w := w25) ⟨rfl, S.2.2⟩ h25
  change Calls Tryz.prog 76 #[.func (.func 77) #[] #[], .int .i64 0, .func (.func g25) #[] lb25] w25 _ at c
  unfold MadeSh at c
  go_wp2_with fail
  (with_reducible refine c.mono ?_)
  rintro e w26 ⟨g26, lb26, rfl, h26, b26⟩
  clear c
  clear h25
  replace S := S.later b26
  clear b26
  obtain ⟨w27, r27, T, k27⟩ := S.put (k := 22) h26 rfl (by first | omega | (simp; omega))
  clear h26
  clear S k27
  have S := T
  clear T
  have c := oneOf_lit [(⟨#[]⟩ : ByteArray)] w27
  change Calls Tryz.prog 75 #[.slice (some ⟨w27.heap.size, 0, none⟩) 1 1] (w27.alloc (.cells #[.string (⟨#[]⟩ : ByteArray)] 9)) _ at c
  unfold MadeText at c
  go_wp2_with fail
  (with_reducible refine c.mono ?_)
  rintro e w28 ⟨g28, lb28, rfl, h28, b28⟩
  clear c
  replace S := S.later b28
  clear b28
  have c := of_lit m [24] w28 3
  change Calls Tryz.prog 49 #[.map (some m), .slice (some ⟨w28.heap.size, 0, none⟩) 1 1] (w28.alloc (.cells #[.int .i64 24] 3)) _ at c
  unfold MadeSh at c
  go_wp2_with fail
  (with_reducible refine c.mono ?_)
  rintro e w29 ⟨g29, lb29, rfl, h29, b29⟩
  clear c
  replace h28 := h28.on (CellsOn.of_below b29)
  replace S := S.later b29
  clear b29
  have c := many_make m (.oneOf [(⟨#[]⟩ : ByteArray)]) 0 (.of [24]) (tv := .func (.func g28) #[] lb28) (w := w29) h28 h29
  change Calls Tryz.prog 76 #[.func (.func g28) #[] lb28, .int .i64 0, .func (.func g29) #[] lb29] w29 _ at c
  unfold MadeSh at c
  go_wp2_with fail
  (with_reducible refine c.mono ?_)
  rintro e w30 ⟨g30, lb30, rfl, h30, b30⟩
  clear c
  clear h28 h29
  replace S := S.later b30
  clear b30
  obtain ⟨w31, r31, T, k31⟩ := S.put (k := 23) h30 rfl (by first | omega | (simp; omega))
  clear h30
  clear S k31
  have S := T
  clear T
  have c := of_lit m [35, 12] w31 3
  change Calls Tryz.prog 49 #[.map (some m), .slice (some ⟨w31.heap.size, 0, none⟩) 2 2] (w31.alloc (.cells #[.int .i64 35, .int .i64 12] 3)) _ at c
  unfold MadeSh at c
  go_wp2_with fail
  (with_reducible refine c.mono ?_)
  rintro e w32 ⟨g32, lb32, rfl, h32, b32⟩
  clear c
  replace S := S.later b32
  clear b32
  have c := parts_lit m (.name) [.of [35, 12]] [.func (.func g32) #[] lb32] (tv := .func (.func 77) #[] #[]) (w := w32) 57 ⟨rfl, S.2.2⟩ rfl (fun i v s hv hs => by
    rcases i with _ | i
    · simp at hv hs; subst hv; subst hs; exact h32
    · simp at hv)
  change Calls Tryz.prog 74 #[.func (.func 77) #[] #[], .slice (some ⟨w32.heap.size, 0, none⟩) 1 1] (w32.alloc (.cells #[.func (.func g32) #[] lb32] 57)) _ at c
  unfold MadeSh at c
  go_wp2_with fail
  (with_reducible refine c.mono ?_)
  rintro e w33 ⟨g33, lb33, rfl, h33, b33⟩
  clear c
  clear h32
  replace S := S.later b33
  clear b33
  obtain ⟨w34, r34, T, k34⟩ := S.put (k := 24) h33 rfl (by first | omega | (simp; omega))
  clear h33
  clear S k34
  have S := T
  clear T
  go_wp2_with fail
  go_end0
  exact ⟨⟨_, rfl⟩, S⟩

def stmtL : List (Int × Entry) := [(34, .parts (.oneOf [(⟨#[]⟩ : ByteArray)]) [.of [11], .either (.of [1]) (.of [35, 36, 39, 40]), .of [25]]), (33, .parts (.oneOf [(⟨#[]⟩ : ByteArray)]) [.of [22], .of [35, 36, 39, 40]]), (30, .parts (.oneOf [(⟨#[]⟩ : ByteArray)]) [.of [35, 36, 39, 40], .of [22]]), (32, .parts (.oneOf [(⟨#[]⟩ : ByteArray)]) [.of [22]]), (31, .parts (.oneOf [(⟨#[]⟩ : ByteArray)]) [.of [22]]), (29, .parts (.oneOf [(⟨#[]⟩ : ByteArray)]) [.of [22]]), (28, .parts (.oneOf [(⟨#[]⟩ : ByteArray)]) [.of [22]]), (27, .parts (.oneOf [(⟨#[]⟩ : ByteArray)]) [.of [20], .bound (.of [35, 36, 39, 40])]), (26, .parts (.oneOf [(⟨#[]⟩ : ByteArray)]) [.of [35, 36, 39, 40]]), (25, .many (.oneOf [(⟨#[]⟩ : ByteArray)]) 0 (.of [26, 27, 28, 29, 30, 31, 32, 33, 34]))]

set_option maxRecDepth 100000 in
set_option maxHeartbeats 6400000 in
theorem addStatements_any (m : Nat) (l : List (Int × Entry)) (w : World) (S : Sta w w m l) (hl : l.length < 900) :
    Calls Tryz.prog 66 #[.map (some m)] w fun e w' => (∃ v, e = .returned v) ∧ Sta w w' m (stmtL ++ l) := by
  go_enter Tryz.func66, Tryz.ntmps66
  have c := of_lit m [22] w 3
  change Calls Tryz.prog 49 #[.map (some m), .slice (some ⟨w.heap.size, 0, none⟩) 1 1] (w.alloc (.cells #[.int .i64 22] 3)) _ at c
  unfold MadeSh at c
  go_wp2_with fail
  (with_reducible refine c.mono ?_)
  rintro e w1 ⟨g1, lb1, rfl, h1, b1⟩
  clear c
  replace S := S.later b1
  clear b1
  have c := of_lit m [25] w1 3
  change Calls Tryz.prog 49 #[.map (some m), .slice (some ⟨w1.heap.size, 0, none⟩) 1 1] (w1.alloc (.cells #[.int .i64 25] 3)) _ at c
  unfold MadeSh at c
  go_wp2_with fail
  (with_reducible refine c.mono ?_)
  rintro e w2 ⟨g2, lb2, rfl, h2, b2⟩
  clear c
  replace h1 := h1.on (CellsOn.of_below b2)
  replace S := S.later b2
  clear b2
  have c := of_lit m [26, 27, 28, 29, 30, 31, 32, 33, 34] w2 3
  change Calls Tryz.prog 49 #[.map (some m), .slice (some ⟨w2.heap.size, 0, none⟩) 9 9] (w2.alloc (.cells #[.int .i64 26, .int .i64 27, .int .i64 28, .int .i64 29, .int .i64 30, .int .i64 31, .int .i64 32, .int .i64 33, .int .i64 34] 3)) _ at c
  unfold MadeSh at c
  go_wp2_with fail
  (with_reducible refine c.mono ?_)
  rintro e w3 ⟨g3, lb3, rfl, h3, b3⟩
  clear c
  replace h1 := h1.on (CellsOn.of_below b3)
  replace h2 := h2.on (CellsOn.of_below b3)
  replace S := S.later b3
  clear b3
  have c := oneOf_lit [(⟨#[]⟩ : ByteArray)] w3
  change Calls Tryz.prog 75 #[.slice (some ⟨w3.heap.size, 0, none⟩) 1 1] (w3.alloc (.cells #[.string (⟨#[]⟩ : ByteArray)] 9)) _ at c
  unfold MadeText at c
  go_wp2_with fail
  (with_reducible refine c.mono ?_)
  rintro e w4 ⟨g4, lb4, rfl, h4, b4⟩
  clear c
  replace h1 := h1.on (CellsOn.of_below b4)
  replace h2 := h2.on (CellsOn.of_below b4)
  replace h3 := h3.on (CellsOn.of_below b4)
  replace S := S.later b4
  clear b4
  have c := many_make m (.oneOf [(⟨#[]⟩ : ByteArray)]) 0 (.of [26, 27, 28, 29, 30, 31, 32, 33, 34]) (tv := .func (.func g4) #[] lb4) (w := w4) h4 h3
  change Calls Tryz.prog 76 #[.func (.func g4) #[] lb4, .int .i64 0, .func (.func g3) #[] lb3] w4 _ at c
  unfold MadeSh at c
  go_wp2_with fail
  (with_reducible refine c.mono ?_)
  rintro e w5 ⟨g5, lb5, rfl, h5, b5⟩
  clear c
  clear h3 h4
  replace h1 := h1.on (CellsOn.of_below b5)
  replace h2 := h2.on (CellsOn.of_below b5)
  replace S := S.later b5
  clear b5
  obtain ⟨w6, r6, T, k6⟩ := S.put (k := 25) h5 rfl (by first | omega | (simp; omega))
  clear h5
  replace h1 := h1.on k6
  replace h2 := h2.on k6
  clear S k6
  have S := T
  clear T
  have c := oneOf_lit [(⟨#[]⟩ : ByteArray)] w6
  change Calls Tryz.prog 75 #[.slice (some ⟨w6.heap.size, 0, none⟩) 1 1] (w6.alloc (.cells #[.string (⟨#[]⟩ : ByteArray)] 9)) _ at c
  unfold MadeText at c
  go_wp2_with fail
  (with_reducible refine c.mono ?_)
  rintro e w7 ⟨g7, lb7, rfl, h7, b7⟩
  clear c
  replace h1 := h1.on (CellsOn.of_below b7)
  replace h2 := h2.on (CellsOn.of_below b7)
  replace S := S.later b7
  clear b7
  have c := expression_make m w7
  unfold MadeSh at c
  go_wp2_with fail
  (with_reducible refine c.mono ?_)
  rintro e w8 ⟨g8, lb8, rfl, h8, b8⟩
  clear c
  replace h1 := h1.on (CellsOn.of_below b8)
  replace h2 := h2.on (CellsOn.of_below b8)
  replace h7 := h7.on (CellsOn.of_below b8)
  replace S := S.later b8
  clear b8
  have c := parts_lit m (.oneOf [(⟨#[]⟩ : ByteArray)]) [.of [35, 36, 39, 40]] [.func (.func g8) #[] lb8] (tv := .func (.func g7) #[] lb7) (w := w8) 57 h7 rfl (fun i v s hv hs => by
    rcases i with _ | i
    · simp at hv hs; subst hv; subst hs; exact h8
    · simp at hv)
  change Calls Tryz.prog 74 #[.func (.func g7) #[] lb7, .slice (some ⟨w8.heap.size, 0, none⟩) 1 1] (w8.alloc (.cells #[.func (.func g8) #[] lb8] 57)) _ at c
  unfold MadeSh at c
  go_wp2_with fail
  (with_reducible refine c.mono ?_)
  rintro e w9 ⟨g9, lb9, rfl, h9, b9⟩
  clear c
  clear h7 h8
  replace h1 := h1.on (CellsOn.of_below b9)
  replace h2 := h2.on (CellsOn.of_below b9)
  replace S := S.later b9
  clear b9
  obtain ⟨w10, r10, T, k10⟩ := S.put (k := 26) h9 rfl (by first | omega | (simp; omega))
  clear h9
  replace h1 := h1.on k10
  replace h2 := h2.on k10
  clear S k10
  have S := T
  clear T
  have c := oneOf_lit [(⟨#[]⟩ : ByteArray)] w10
  change Calls Tryz.prog 75 #[.slice (some ⟨w10.heap.size, 0, none⟩) 1 1] (w10.alloc (.cells #[.string (⟨#[]⟩ : ByteArray)] 9)) _ at c
  unfold MadeText at c
  go_wp2_with fail
  (with_reducible refine c.mono ?_)
  rintro e w11 ⟨g11, lb11, rfl, h11, b11⟩
  clear c
  replace h1 := h1.on (CellsOn.of_below b11)
  replace h2 := h2.on (CellsOn.of_below b11)
  replace S := S.later b11
  clear b11
  have c := of_lit m [20] w11 3
  change Calls Tryz.prog 49 #[.map (some m), .slice (some ⟨w11.heap.size, 0, none⟩) 1 1] (w11.alloc (.cells #[.int .i64 20] 3)) _ at c
  unfold MadeSh at c
  go_wp2_with fail
  (with_reducible refine c.mono ?_)
  rintro e w12 ⟨g12, lb12, rfl, h12, b12⟩
  clear c
  replace h1 := h1.on (CellsOn.of_below b12)
  replace h2 := h2.on (CellsOn.of_below b12)
  replace h11 := h11.on (CellsOn.of_below b12)
  replace S := S.later b12
  clear b12
  have c := expression_make m w12
  unfold MadeSh at c
  go_wp2_with fail
  (with_reducible refine c.mono ?_)
  rintro e w13 ⟨g13, lb13, rfl, h13, b13⟩
  clear c
  replace h1 := h1.on (CellsOn.of_below b13)
  replace h2 := h2.on (CellsOn.of_below b13)
  replace h11 := h11.on (CellsOn.of_below b13)
  replace h12 := h12.on (CellsOn.of_below b13)
  replace S := S.later b13
  clear b13
  have c := bound_make m _ h13
  unfold MadeSh at c
  go_wp2_with fail
  (with_reducible refine c.mono ?_)
  rintro e w14 ⟨g14, lb14, rfl, h14, b14⟩
  clear c
  clear h13
  replace h1 := h1.on (CellsOn.of_below b14)
  replace h2 := h2.on (CellsOn.of_below b14)
  replace h11 := h11.on (CellsOn.of_below b14)
  replace h12 := h12.on (CellsOn.of_below b14)
  replace S := S.later b14
  clear b14
  have c := parts_lit m (.oneOf [(⟨#[]⟩ : ByteArray)]) [.of [20], .bound (.of [35, 36, 39, 40])] [.func (.func g12) #[] lb12, .func (.func g14) #[] lb14] (tv := .func (.func g11) #[] lb11) (w := w14) 57 h11 rfl (fun i v s hv hs => by
    rcases i with _ | _ | i
    · simp at hv hs; subst hv; subst hs; exact h12
    · simp at hv hs; subst hv; subst hs; exact h14
    · simp at hv)
  change Calls Tryz.prog 74 #[.func (.func g11) #[] lb11, .slice (some ⟨w14.heap.size, 0, none⟩) 2 2] (w14.alloc (.cells #[.func (.func g12) #[] lb12, .func (.func g14) #[] lb14] 57)) _ at c
  unfold MadeSh at c
  go_wp2_with fail
  (with_reducible refine c.mono ?_)
  rintro e w15 ⟨g15, lb15, rfl, h15, b15⟩
  clear c
  clear h11 h12 h14
  replace h1 := h1.on (CellsOn.of_below b15)
  replace h2 := h2.on (CellsOn.of_below b15)
  replace S := S.later b15
  clear b15
  obtain ⟨w16, r16, T, k16⟩ := S.put (k := 27) h15 rfl (by first | omega | (simp; omega))
  clear h15
  replace h1 := h1.on k16
  replace h2 := h2.on k16
  clear S k16
  have S := T
  clear T
  go_wp2_with fail
  have bL : Below w16.heap.size w16 (w16.alloc (.cells #[.int .i64 28, .int .i64 29, .int .i64 31, .int .i64 32] 3)) := (Below.refl _ _).alloc (Nat.le_refl _) _
  replace h1 := h1.on (CellsOn.of_below bL)
  replace h2 := h2.on (CellsOn.of_below bL)
  replace S := S.later bL
  have q0 : (w16.alloc (.cells #[.int .i64 28, .int .i64 29, .int .i64 31, .int .i64 32] 3)).cell? ⟨w16.heap.size, 0, none⟩ = some (.int .i64 28) := by simp
  have q1 : (w16.alloc (.cells #[.int .i64 28, .int .i64 29, .int .i64 31, .int .i64 32] 3)).cell? ⟨w16.heap.size, 1, none⟩ = some (.int .i64 29) := by simp
  have q2 : (w16.alloc (.cells #[.int .i64 28, .int .i64 29, .int .i64 31, .int .i64 32] 3)).cell? ⟨w16.heap.size, 2, none⟩ = some (.int .i64 31) := by simp
  have q3 : (w16.alloc (.cells #[.int .i64 28, .int .i64 29, .int .i64 31, .int .i64 32] 3)).cell? ⟨w16.heap.size, 3, none⟩ = some (.int .i64 32) := by simp
  clear bL
  generalize w16.alloc (.cells #[.int .i64 28, .int .i64 29, .int .i64 31, .int .i64 32] 3) = wL at *
  refine wp_loop_rounds 5 ?_
  rw [rounds_succ]
  have c := oneOf_lit [(⟨#[]⟩ : ByteArray)] wL
  change Calls Tryz.prog 75 #[.slice (some ⟨wL.heap.size, 0, none⟩) 1 1] (wL.alloc (.cells #[.string (⟨#[]⟩ : ByteArray)] 9)) _ at c
  unfold MadeText at c
  go_wp2_with fail
  (with_reducible refine c.mono ?_)
  rintro e w17 ⟨g17, lb17, rfl, h17, b17⟩
  clear c
  replace h1 := h1.on (CellsOn.of_below b17)
  replace h2 := h2.on (CellsOn.of_below b17)
  replace q0 := (CellsOn.of_below b17).cell _ _ q0
  replace q1 := (CellsOn.of_below b17).cell _ _ q1
  replace q2 := (CellsOn.of_below b17).cell _ _ q2
  replace q3 := (CellsOn.of_below b17).cell _ _ q3
  replace S := S.later b17
  clear b17
  have c := parts_lit m (.oneOf [(⟨#[]⟩ : ByteArray)]) [.of [22]] [.func (.func g1) #[] lb1] (tv := .func (.func g17) #[] lb17) (w := w17) 57 h17 rfl (fun i v s hv hs => by
    rcases i with _ | i
    · simp at hv hs; subst hv; subst hs; exact h1
    · simp at hv)
  change Calls Tryz.prog 74 #[.func (.func g17) #[] lb17, .slice (some ⟨w17.heap.size, 0, none⟩) 1 1] (w17.alloc (.cells #[.func (.func g1) #[] lb1] 57)) _ at c
  unfold MadeSh at c
  go_wp2_with fail
  (with_reducible refine c.mono ?_)
  rintro e w18 ⟨g18, lb18, rfl, h18, b18⟩
  clear c
  replace h1 := h1.on (CellsOn.of_below b18)
  replace h2 := h2.on (CellsOn.of_below b18)
  replace h17 := h17.on (CellsOn.of_below b18)
  replace q0 := (CellsOn.of_below b18).cell _ _ q0
  replace q1 := (CellsOn.of_below b18).cell _ _ q1
  replace q2 := (CellsOn.of_below b18).cell _ _ q2
  replace q3 := (CellsOn.of_below b18).cell _ _ q3
  replace S := S.later b18
  clear b18
  obtain ⟨w19, r19, T, k19⟩ := S.put (k := 28) h18 rfl (by first | omega | (simp; omega))
  replace h1 := h1.on k19
  replace h2 := h2.on k19
  replace h17 := h17.on k19
  replace h18 := h18.on k19
  replace q0 := k19.cell _ _ q0
  replace q1 := k19.cell _ _ q1
  replace q2 := k19.cell _ _ q2
  replace q3 := k19.cell _ _ q3
  clear S k19
  have S := T
  clear T
  go_wp2_with fail
  rw [rounds_succ]
  have c := oneOf_lit [(⟨#[]⟩ : ByteArray)] w19
  change Calls Tryz.prog 75 #[.slice (some ⟨w19.heap.size, 0, none⟩) 1 1] (w19.alloc (.cells #[.string (⟨#[]⟩ : ByteArray)] 9)) _ at c
  unfold MadeText at c
  go_wp2_with fail
  (with_reducible refine c.mono ?_)
  rintro e w20 ⟨g20, lb20, rfl, h20, b20⟩
  clear c
  replace h1 := h1.on (CellsOn.of_below b20)
  replace h2 := h2.on (CellsOn.of_below b20)
  replace h17 := h17.on (CellsOn.of_below b20)
  replace h18 := h18.on (CellsOn.of_below b20)
  replace q0 := (CellsOn.of_below b20).cell _ _ q0
  replace q1 := (CellsOn.of_below b20).cell _ _ q1
  replace q2 := (CellsOn.of_below b20).cell _ _ q2
  replace q3 := (CellsOn.of_below b20).cell _ _ q3
  replace S := S.later b20
  clear b20
  have c := parts_lit m (.oneOf [(⟨#[]⟩ : ByteArray)]) [.of [22]] [.func (.func g1) #[] lb1] (tv := .func (.func g20) #[] lb20) (w := w20) 57 h20 rfl (fun i v s hv hs => by
    rcases i with _ | i
    · simp at hv hs; subst hv; subst hs; exact h1
    · simp at hv)
  change Calls Tryz.prog 74 #[.func (.func g20) #[] lb20, .slice (some ⟨w20.heap.size, 0, none⟩) 1 1] (w20.alloc (.cells #[.func (.func g1) #[] lb1] 57)) _ at c
  unfold MadeSh at c
  go_wp2_with fail
  (with_reducible refine c.mono ?_)
  rintro e w21 ⟨g21, lb21, rfl, h21, b21⟩
  clear c
  replace h1 := h1.on (CellsOn.of_below b21)
  replace h2 := h2.on (CellsOn.of_below b21)
  replace h17 := h17.on (CellsOn.of_below b21)
  replace h18 := h18.on (CellsOn.of_below b21)
  replace h20 := h20.on (CellsOn.of_below b21)
  replace q0 := (CellsOn.of_below b21).cell _ _ q0
  replace q1 := (CellsOn.of_below b21).cell _ _ q1
  replace q2 := (CellsOn.of_below b21).cell _ _ q2
  replace q3 := (CellsOn.of_below b21).cell _ _ q3
  replace S := S.later b21
  clear b21
  obtain ⟨w22, r22, T, k22⟩ := S.put (k := 29) h21 rfl (by first | omega | (simp; omega))
  replace h1 := h1.on k22
  replace h2 := h2.on k22
  replace h17 := h17.on k22
  replace h18 := h18.on k22
  replace h20 := h20.on k22
  replace h21 := h21.on k22
  replace q0 := k22.cell _ _ q0
  replace q1 := k22.cell _ _ q1
  replace q2 := k22.cell _ _ q2
  replace q3 := k22.cell _ _ q3
  clear S k22
  have S := T
  clear T
  go_wp2_with fail
  rw [rounds_succ]
  have c := oneOf_lit [(⟨#[]⟩ : ByteArray)] w22
  change Calls Tryz.prog 75 #[.slice (some ⟨w22.heap.size, 0, none⟩) 1 1] (w22.alloc (.cells #[.string (⟨#[]⟩ : ByteArray)] 9)) _ at c
  unfold MadeText at c
  go_wp2_with fail
  (with_reducible refine c.mono ?_)
  rintro e w23 ⟨g23, lb23, rfl, h23, b23⟩
  clear c
  replace h1 := h1.on (CellsOn.of_below b23)
  replace h2 := h2.on (CellsOn.of_below b23)
  replace h17 := h17.on (CellsOn.of_below b23)
  replace h18 := h18.on (CellsOn.of_below b23)
  replace h20 := h20.on (CellsOn.of_below b23)
  replace h21 := h21.on (CellsOn.of_below b23)
  replace q0 := (CellsOn.of_below b23).cell _ _ q0
  replace q1 := (CellsOn.of_below b23).cell _ _ q1
  replace q2 := (CellsOn.of_below b23).cell _ _ q2
  replace q3 := (CellsOn.of_below b23).cell _ _ q3
  replace S := S.later b23
  clear b23
  have c := parts_lit m (.oneOf [(⟨#[]⟩ : ByteArray)]) [.of [22]] [.func (.func g1) #[] lb1] (tv := .func (.func g23) #[] lb23) (w := w23) 57 h23 rfl (fun i v s hv hs => by
    rcases i with _ | i
    · simp at hv hs; subst hv; subst hs; exact h1
    · simp at hv)
  change Calls Tryz.prog 74 #[.func (.func g23) #[] lb23, .slice (some ⟨w23.heap.size, 0, none⟩) 1 1] (w23.alloc (.cells #[.func (.func g1) #[] lb1] 57)) _ at c
  unfold MadeSh at c
  go_wp2_with fail
  (with_reducible refine c.mono ?_)
  rintro e w24 ⟨g24, lb24, rfl, h24, b24⟩
  clear c
  replace h1 := h1.on (CellsOn.of_below b24)
  replace h2 := h2.on (CellsOn.of_below b24)
  replace h17 := h17.on (CellsOn.of_below b24)
  replace h18 := h18.on (CellsOn.of_below b24)
  replace h20 := h20.on (CellsOn.of_below b24)
  replace h21 := h21.on (CellsOn.of_below b24)
  replace h23 := h23.on (CellsOn.of_below b24)
  replace q0 := (CellsOn.of_below b24).cell _ _ q0
  replace q1 := (CellsOn.of_below b24).cell _ _ q1
  replace q2 := (CellsOn.of_below b24).cell _ _ q2
  replace q3 := (CellsOn.of_below b24).cell _ _ q3
  replace S := S.later b24
  clear b24
  obtain ⟨w25, r25, T, k25⟩ := S.put (k := 31) h24 rfl (by first | omega | (simp; omega))
  replace h1 := h1.on k25
  replace h2 := h2.on k25
  replace h17 := h17.on k25
  replace h18 := h18.on k25
  replace h20 := h20.on k25
  replace h21 := h21.on k25
  replace h23 := h23.on k25
  replace h24 := h24.on k25
  replace q0 := k25.cell _ _ q0
  replace q1 := k25.cell _ _ q1
  replace q2 := k25.cell _ _ q2
  replace q3 := k25.cell _ _ q3
  clear S k25
  have S := T
  clear T
  go_wp2_with fail
  rw [rounds_succ]
  have c := oneOf_lit [(⟨#[]⟩ : ByteArray)] w25
  change Calls Tryz.prog 75 #[.slice (some ⟨w25.heap.size, 0, none⟩) 1 1] (w25.alloc (.cells #[.string (⟨#[]⟩ : ByteArray)] 9)) _ at c
  unfold MadeText at c
  go_wp2_with fail
  (with_reducible refine c.mono ?_)
  rintro e w26 ⟨g26, lb26, rfl, h26, b26⟩
  clear c
  replace h1 := h1.on (CellsOn.of_below b26)
  replace h2 := h2.on (CellsOn.of_below b26)
  replace h17 := h17.on (CellsOn.of_below b26)
  replace h18 := h18.on (CellsOn.of_below b26)
  replace h20 := h20.on (CellsOn.of_below b26)
  replace h21 := h21.on (CellsOn.of_below b26)
  replace h23 := h23.on (CellsOn.of_below b26)
  replace h24 := h24.on (CellsOn.of_below b26)
  replace q0 := (CellsOn.of_below b26).cell _ _ q0
  replace q1 := (CellsOn.of_below b26).cell _ _ q1
  replace q2 := (CellsOn.of_below b26).cell _ _ q2
  replace q3 := (CellsOn.of_below b26).cell _ _ q3
  replace S := S.later b26
  clear b26
  have c := parts_lit m (.oneOf [(⟨#[]⟩ : ByteArray)]) [.of [22]] [.func (.func g1) #[] lb1] (tv := .func (.func g26) #[] lb26) (w := w26) 57 h26 rfl (fun i v s hv hs => by
    rcases i with _ | i
    · simp at hv hs; subst hv; subst hs; exact h1
    · simp at hv)
  change Calls Tryz.prog 74 #[.func (.func g26) #[] lb26, .slice (some ⟨w26.heap.size, 0, none⟩) 1 1] (w26.alloc (.cells #[.func (.func g1) #[] lb1] 57)) _ at c
  unfold MadeSh at c
  go_wp2_with fail
  (with_reducible refine c.mono ?_)
  rintro e w27 ⟨g27, lb27, rfl, h27, b27⟩
  clear c
  clear h17 h20 h23 h26
  replace h1 := h1.on (CellsOn.of_below b27)
  replace h2 := h2.on (CellsOn.of_below b27)
  replace h18 := h18.on (CellsOn.of_below b27)
  replace h21 := h21.on (CellsOn.of_below b27)
  replace h24 := h24.on (CellsOn.of_below b27)
  replace q0 := (CellsOn.of_below b27).cell _ _ q0
  replace q1 := (CellsOn.of_below b27).cell _ _ q1
  replace q2 := (CellsOn.of_below b27).cell _ _ q2
  replace q3 := (CellsOn.of_below b27).cell _ _ q3
  replace S := S.later b27
  clear b27
  obtain ⟨w28, r28, T, k28⟩ := S.put (k := 32) h27 rfl (by first | omega | (simp; omega))
  clear h18 h21 h24 h27
  replace h1 := h1.on k28
  replace h2 := h2.on k28
  replace q0 := k28.cell _ _ q0
  replace q1 := k28.cell _ _ q1
  replace q2 := k28.cell _ _ q2
  replace q3 := k28.cell _ _ q3
  clear S k28
  have S := T
  clear T
  go_wp2_with fail
  rw [rounds_succ]
  clear q0 q1 q2 q3
  have c := oneOf_lit [(⟨#[]⟩ : ByteArray)] w28
  change Calls Tryz.prog 75 #[.slice (some ⟨w28.heap.size, 0, none⟩) 1 1] (w28.alloc (.cells #[.string (⟨#[]⟩ : ByteArray)] 9)) _ at c
  unfold MadeText at c
  go_wp2_with fail
  (with_reducible refine c.mono ?_)
  rintro e w29 ⟨g29, lb29, rfl, h29, b29⟩
  clear c
  replace h1 := h1.on (CellsOn.of_below b29)
  replace h2 := h2.on (CellsOn.of_below b29)
  replace S := S.later b29
  clear b29
  have c := expression_make m w29
  unfold MadeSh at c
  go_wp2_with fail
  (with_reducible refine c.mono ?_)
  rintro e w30 ⟨g30, lb30, rfl, h30, b30⟩
  clear c
  replace h1 := h1.on (CellsOn.of_below b30)
  replace h2 := h2.on (CellsOn.of_below b30)
  replace h29 := h29.on (CellsOn.of_below b30)
  replace S := S.later b30
  clear b30
  have c := parts_lit m (.oneOf [(⟨#[]⟩ : ByteArray)]) [.of [35, 36, 39, 40], .of [22]] [.func (.func g30) #[] lb30, .func (.func g1) #[] lb1] (tv := .func (.func g29) #[] lb29) (w := w30) 57 h29 rfl (fun i v s hv hs => by
    rcases i with _ | _ | i
    · simp at hv hs; subst hv; subst hs; exact h30
    · simp at hv hs; subst hv; subst hs; exact h1
    · simp at hv)
  change Calls Tryz.prog 74 #[.func (.func g29) #[] lb29, .slice (some ⟨w30.heap.size, 0, none⟩) 2 2] (w30.alloc (.cells #[.func (.func g30) #[] lb30, .func (.func g1) #[] lb1] 57)) _ at c
  unfold MadeSh at c
  go_wp2_with fail
  (with_reducible refine c.mono ?_)
  rintro e w31 ⟨g31, lb31, rfl, h31, b31⟩
  clear c
  clear h29 h30
  replace h1 := h1.on (CellsOn.of_below b31)
  replace h2 := h2.on (CellsOn.of_below b31)
  replace S := S.later b31
  clear b31
  obtain ⟨w32, r32, T, k32⟩ := S.put (k := 30) h31 rfl (by first | omega | (simp; omega))
  clear h31
  replace h1 := h1.on k32
  replace h2 := h2.on k32
  clear S k32
  have S := T
  clear T
  have c := oneOf_lit [(⟨#[]⟩ : ByteArray)] w32
  change Calls Tryz.prog 75 #[.slice (some ⟨w32.heap.size, 0, none⟩) 1 1] (w32.alloc (.cells #[.string (⟨#[]⟩ : ByteArray)] 9)) _ at c
  unfold MadeText at c
  go_wp2_with fail
  (with_reducible refine c.mono ?_)
  rintro e w33 ⟨g33, lb33, rfl, h33, b33⟩
  clear c
  replace h1 := h1.on (CellsOn.of_below b33)
  replace h2 := h2.on (CellsOn.of_below b33)
  replace S := S.later b33
  clear b33
  have c := expression_make m w33
  unfold MadeSh at c
  go_wp2_with fail
  (with_reducible refine c.mono ?_)
  rintro e w34 ⟨g34, lb34, rfl, h34, b34⟩
  clear c
  replace h1 := h1.on (CellsOn.of_below b34)
  replace h2 := h2.on (CellsOn.of_below b34)
  replace h33 := h33.on (CellsOn.of_below b34)
  replace S := S.later b34
  clear b34
  have c := parts_lit m (.oneOf [(⟨#[]⟩ : ByteArray)]) [.of [22], .of [35, 36, 39, 40]] [.func (.func g1) #[] lb1, .func (.func g34) #[] lb34] (tv := .func (.func g33) #[] lb33) (w := w34) 57 h33 rfl (fun i v s hv hs => by
    rcases i with _ | _ | i
    · simp at hv hs; subst hv; subst hs; exact h1
    · simp at hv hs; subst hv; subst hs; exact h34
    · simp at hv)
  change Calls Tryz.prog 74 #[.func (.func g33) #[] lb33, .slice (some ⟨w34.heap.size, 0, none⟩) 2 2] (w34.alloc (.cells #[.func (.func g1) #[] lb1, .func (.func g34) #[] lb34] 57)) _ at c
  unfold MadeSh at c
  go_wp2_with fail
  (with_reducible refine c.mono ?_)
  rintro e w35 ⟨g35, lb35, rfl, h35, b35⟩
  clear c
  clear h1 h33 h34
  replace h2 := h2.on (CellsOn.of_below b35)
  replace S := S.later b35
  clear b35
  obtain ⟨w36, r36, T, k36⟩ := S.put (k := 33) h35 rfl (by first | omega | (simp; omega))
  clear h35
  replace h2 := h2.on k36
  clear S k36
  have S := T
  clear T
  have c := oneOf_lit [(⟨#[]⟩ : ByteArray)] w36
  change Calls Tryz.prog 75 #[.slice (some ⟨w36.heap.size, 0, none⟩) 1 1] (w36.alloc (.cells #[.string (⟨#[]⟩ : ByteArray)] 9)) _ at c
  unfold MadeText at c
  go_wp2_with fail
  (with_reducible refine c.mono ?_)
  rintro e w37 ⟨g37, lb37, rfl, h37, b37⟩
  clear c
  replace h2 := h2.on (CellsOn.of_below b37)
  replace S := S.later b37
  clear b37
  have c := of_lit m [11] w37 3
  change Calls Tryz.prog 49 #[.map (some m), .slice (some ⟨w37.heap.size, 0, none⟩) 1 1] (w37.alloc (.cells #[.int .i64 11] 3)) _ at c
  unfold MadeSh at c
  go_wp2_with fail
  (with_reducible refine c.mono ?_)
  rintro e w38 ⟨g38, lb38, rfl, h38, b38⟩
  clear c
  replace h2 := h2.on (CellsOn.of_below b38)
  replace h37 := h37.on (CellsOn.of_below b38)
  replace S := S.later b38
  clear b38
  have c := of_lit m [1] w38 3
  change Calls Tryz.prog 49 #[.map (some m), .slice (some ⟨w38.heap.size, 0, none⟩) 1 1] (w38.alloc (.cells #[.int .i64 1] 3)) _ at c
  unfold MadeSh at c
  go_wp2_with fail
  (with_reducible refine c.mono ?_)
  rintro e w39 ⟨g39, lb39, rfl, h39, b39⟩
  clear c
  replace h2 := h2.on (CellsOn.of_below b39)
  replace h37 := h37.on (CellsOn.of_below b39)
  replace h38 := h38.on (CellsOn.of_below b39)
  replace S := S.later b39
  clear b39
  have c := expression_make m w39
  unfold MadeSh at c
  go_wp2_with fail
  (with_reducible refine c.mono ?_)
  rintro e w40 ⟨g40, lb40, rfl, h40, b40⟩
  clear c
  replace h2 := h2.on (CellsOn.of_below b40)
  replace h37 := h37.on (CellsOn.of_below b40)
  replace h38 := h38.on (CellsOn.of_below b40)
  replace h39 := h39.on (CellsOn.of_below b40)
  replace S := S.later b40
  clear b40
  have c := either_make m _ _ h39 h40
  unfold MadeSh at c
  go_wp2_with fail
  (with_reducible refine c.mono ?_)
  rintro e w41 ⟨g41, lb41, rfl, h41, b41⟩
  clear c
  clear h39 h40
  replace h2 := h2.on (CellsOn.of_below b41)
  replace h37 := h37.on (CellsOn.of_below b41)
  replace h38 := h38.on (CellsOn.of_below b41)
  replace S := S.later b41
  clear b41
  have c := parts_lit m (.oneOf [(⟨#[]⟩ : ByteArray)]) [.of [11], .either (.of [1]) (.of [35, 36, 39, 40]), .of [25]] [.func (.func g38) #[] lb38, .func (.func g41) #[] lb41, .func (.func g2) #[] lb2] (tv := .func (.func g37) #[] lb37) (w := w41) 57 h37 rfl (fun i v s hv hs => by
    rcases i with _ | _ | _ | i
    · simp at hv hs; subst hv; subst hs; exact h38
    · simp at hv hs; subst hv; subst hs; exact h41
    · simp at hv hs; subst hv; subst hs; exact h2
    · simp at hv)
  change Calls Tryz.prog 74 #[.func (.func g37) #[] lb37, .slice (some ⟨w41.heap.size, 0, none⟩) 3 3] (w41.alloc (.cells #[.func (.func g38) #[] lb38, .func (.func g41) #[] lb41, .func (.func g2) #[] lb2] 57)) _ at c
  unfold MadeSh at c
  go_wp2_with fail
  (with_reducible refine c.mono ?_)
  rintro e w42 ⟨g42, lb42, rfl, h42, b42⟩
  clear c
  clear h2 h37 h38 h41
  replace S := S.later b42
  clear b42
  obtain ⟨w43, r43, T, k43⟩ := S.put (k := 34) h42 rfl (by first | omega | (simp; omega))
  clear h42
  clear S k43
  have S := T
  clear T
  go_wp2_with fail
  go_end0
  exact ⟨⟨_, rfl⟩, S⟩

def exprL : List (Int × Entry) := [(40, .parts (.oneOf [(⟨#[111, 114]⟩ : ByteArray), (⟨#[97, 110, 100]⟩ : ByteArray), (⟨#[61, 61]⟩ : ByteArray), (⟨#[33, 61]⟩ : ByteArray), (⟨#[60]⟩ : ByteArray), (⟨#[60, 61]⟩ : ByteArray), (⟨#[62]⟩ : ByteArray), (⟨#[62, 61]⟩ : ByteArray), (⟨#[43]⟩ : ByteArray), (⟨#[45]⟩ : ByteArray), (⟨#[42]⟩ : ByteArray)]) [.of [35, 36, 39, 40], .of [35, 36, 39, 40]]), (39, .parts (.oneOf [(⟨#[45]⟩ : ByteArray), (⟨#[110, 111, 116]⟩ : ByteArray)]) [.of [35, 36, 39, 40]]), (37, .parts (.integer) []), (36, .parts (.number) []), (35, .parts (.name) [])]

set_option maxRecDepth 100000 in
set_option maxHeartbeats 6400000 in
theorem addExpressions_any (m : Nat) (l : List (Int × Entry)) (w : World) (S : Sta w w m l) (hl : l.length < 900) :
    Calls Tryz.prog 67 #[.map (some m)] w fun e w' => (∃ v, e = .returned v) ∧ Sta w w' m (exprL ++ l) := by
  go_enter Tryz.func67, Tryz.ntmps67
  have c := oneOf_lit [(⟨#[111, 114]⟩ : ByteArray), (⟨#[97, 110, 100]⟩ : ByteArray), (⟨#[61, 61]⟩ : ByteArray), (⟨#[33, 61]⟩ : ByteArray), (⟨#[60]⟩ : ByteArray), (⟨#[60, 61]⟩ : ByteArray), (⟨#[62]⟩ : ByteArray), (⟨#[62, 61]⟩ : ByteArray), (⟨#[43]⟩ : ByteArray), (⟨#[45]⟩ : ByteArray), (⟨#[42]⟩ : ByteArray)] w
  change Calls Tryz.prog 75 #[.slice (some ⟨w.heap.size, 0, none⟩) 11 11] (w.alloc (.cells #[.string (⟨#[111, 114]⟩ : ByteArray), .string (⟨#[97, 110, 100]⟩ : ByteArray), .string (⟨#[61, 61]⟩ : ByteArray), .string (⟨#[33, 61]⟩ : ByteArray), .string (⟨#[60]⟩ : ByteArray), .string (⟨#[60, 61]⟩ : ByteArray), .string (⟨#[62]⟩ : ByteArray), .string (⟨#[62, 61]⟩ : ByteArray), .string (⟨#[43]⟩ : ByteArray), .string (⟨#[45]⟩ : ByteArray), .string (⟨#[42]⟩ : ByteArray)] 9)) _ at c
  unfold MadeText at c
  go_wp2_with fail
  (with_reducible refine c.mono ?_)
  rintro e w1 ⟨g1, lb1, rfl, h1, b1⟩
  clear c
  replace S := S.later b1
  clear b1
  have c := parts_nil m (.name) (tv := .func (.func 77) #[] #[]) (w := w1) ⟨rfl, S.2.2⟩
  unfold MadeSh at c
  go_wp2_with fail
  (with_reducible refine c.mono ?_)
  rintro e w2 ⟨g2, lb2, rfl, h2, b2⟩
  clear c
  replace h1 := h1.on (CellsOn.of_below b2)
  replace S := S.later b2
  clear b2
  obtain ⟨w3, r3, T, k3⟩ := S.put (k := 35) h2 rfl (by first | omega | (simp; omega))
  clear h2
  replace h1 := h1.on k3
  clear S k3
  have S := T
  clear T
  have c := parts_nil m (.number) (tv := .func (.func 81) #[] #[]) (w := w3) ⟨rfl, S.2.2⟩
  unfold MadeSh at c
  go_wp2_with fail
  (with_reducible refine c.mono ?_)
  rintro e w4 ⟨g4, lb4, rfl, h4, b4⟩
  clear c
  replace h1 := h1.on (CellsOn.of_below b4)
  replace S := S.later b4
  clear b4
  obtain ⟨w5, r5, T, k5⟩ := S.put (k := 36) h4 rfl (by first | omega | (simp; omega))
  clear h4
  replace h1 := h1.on k5
  clear S k5
  have S := T
  clear T
  have c := parts_nil m (.integer) (tv := .func (.func 82) #[] #[]) (w := w5) ⟨rfl, S.2.2⟩
  unfold MadeSh at c
  go_wp2_with fail
  (with_reducible refine c.mono ?_)
  rintro e w6 ⟨g6, lb6, rfl, h6, b6⟩
  clear c
  replace h1 := h1.on (CellsOn.of_below b6)
  replace S := S.later b6
  clear b6
  obtain ⟨w7, r7, T, k7⟩ := S.put (k := 37) h6 rfl (by first | omega | (simp; omega))
  clear h6
  replace h1 := h1.on k7
  clear S k7
  have S := T
  clear T
  have c := oneOf_lit [(⟨#[45]⟩ : ByteArray), (⟨#[110, 111, 116]⟩ : ByteArray)] w7
  change Calls Tryz.prog 75 #[.slice (some ⟨w7.heap.size, 0, none⟩) 2 2] (w7.alloc (.cells #[.string (⟨#[45]⟩ : ByteArray), .string (⟨#[110, 111, 116]⟩ : ByteArray)] 9)) _ at c
  unfold MadeText at c
  go_wp2_with fail
  (with_reducible refine c.mono ?_)
  rintro e w8 ⟨g8, lb8, rfl, h8, b8⟩
  clear c
  replace h1 := h1.on (CellsOn.of_below b8)
  replace S := S.later b8
  clear b8
  have c := expression_make m w8
  unfold MadeSh at c
  go_wp2_with fail
  (with_reducible refine c.mono ?_)
  rintro e w9 ⟨g9, lb9, rfl, h9, b9⟩
  clear c
  replace h1 := h1.on (CellsOn.of_below b9)
  replace h8 := h8.on (CellsOn.of_below b9)
  replace S := S.later b9
  clear b9
  have c := parts_lit m (.oneOf [(⟨#[45]⟩ : ByteArray), (⟨#[110, 111, 116]⟩ : ByteArray)]) [.of [35, 36, 39, 40]] [.func (.func g9) #[] lb9] (tv := .func (.func g8) #[] lb8) (w := w9) 57 h8 rfl (fun i v s hv hs => by
    rcases i with _ | i
    · simp at hv hs; subst hv; subst hs; exact h9
    · simp at hv)
  change Calls Tryz.prog 74 #[.func (.func g8) #[] lb8, .slice (some ⟨w9.heap.size, 0, none⟩) 1 1] (w9.alloc (.cells #[.func (.func g9) #[] lb9] 57)) _ at c
  unfold MadeSh at c
  go_wp2_with fail
  (with_reducible refine c.mono ?_)
  rintro e w10 ⟨g10, lb10, rfl, h10, b10⟩
  clear c
  clear h8 h9
  replace h1 := h1.on (CellsOn.of_below b10)
  replace S := S.later b10
  clear b10
  obtain ⟨w11, r11, T, k11⟩ := S.put (k := 39) h10 rfl (by first | omega | (simp; omega))
  clear h10
  replace h1 := h1.on k11
  clear S k11
  have S := T
  clear T
  have c := expression_make m w11
  unfold MadeSh at c
  go_wp2_with fail
  (with_reducible refine c.mono ?_)
  rintro e w12 ⟨g12, lb12, rfl, h12, b12⟩
  clear c
  replace h1 := h1.on (CellsOn.of_below b12)
  replace S := S.later b12
  clear b12
  have c := expression_make m w12
  unfold MadeSh at c
  go_wp2_with fail
  (with_reducible refine c.mono ?_)
  rintro e w13 ⟨g13, lb13, rfl, h13, b13⟩
  clear c
  replace h1 := h1.on (CellsOn.of_below b13)
  replace h12 := h12.on (CellsOn.of_below b13)
  replace S := S.later b13
  clear b13
  have c := parts_lit m (.oneOf [(⟨#[111, 114]⟩ : ByteArray), (⟨#[97, 110, 100]⟩ : ByteArray), (⟨#[61, 61]⟩ : ByteArray), (⟨#[33, 61]⟩ : ByteArray), (⟨#[60]⟩ : ByteArray), (⟨#[60, 61]⟩ : ByteArray), (⟨#[62]⟩ : ByteArray), (⟨#[62, 61]⟩ : ByteArray), (⟨#[43]⟩ : ByteArray), (⟨#[45]⟩ : ByteArray), (⟨#[42]⟩ : ByteArray)]) [.of [35, 36, 39, 40], .of [35, 36, 39, 40]] [.func (.func g12) #[] lb12, .func (.func g13) #[] lb13] (tv := .func (.func g1) #[] lb1) (w := w13) 57 h1 rfl (fun i v s hv hs => by
    rcases i with _ | _ | i
    · simp at hv hs; subst hv; subst hs; exact h12
    · simp at hv hs; subst hv; subst hs; exact h13
    · simp at hv)
  change Calls Tryz.prog 74 #[.func (.func g1) #[] lb1, .slice (some ⟨w13.heap.size, 0, none⟩) 2 2] (w13.alloc (.cells #[.func (.func g12) #[] lb12, .func (.func g13) #[] lb13] 57)) _ at c
  unfold MadeSh at c
  go_wp2_with fail
  (with_reducible refine c.mono ?_)
  rintro e w14 ⟨g14, lb14, rfl, h14, b14⟩
  clear c
  clear h1 h12 h13
  replace S := S.later b14
  clear b14
  obtain ⟨w15, r15, T, k15⟩ := S.put (k := 40) h14 rfl (by first | omega | (simp; omega))
  clear h14
  clear S k15
  have S := T
  clear T
  go_wp2_with fail
  go_end0
  exact ⟨⟨_, rfl⟩, S⟩

end Go.Proofs.YtlbaaiglebpjiaaGreatDoor
