import Derived.Test.YtfmoophjdgejeaaGreatDoorCs
/-
  The reader of a call's text.
-/
namespace Go.Proofs.YtfmoophjdgejeaaGreatDoor
open Go.RowKit Go.Shelf
attribute [local go_sem] Oper.semAt_some

/-- A reader holds the words that are left. -/
def ReadsAt (w : World) (R : Nat) (ws : List ByteArray) : Prop :=
  ∃ p cap g o, Boxed w R 145 (.slice p ws.length cap) ∧ ws.length ≤ cap ∧ (ws ≠ [] → p = some ⟨g, o, none⟩ ∧ g < R) ∧ ∀ (i : Nat) x, ws[i]? = some x → w.cell? ⟨g, o + i, none⟩ = some (.string x)

theorem ReadsAt.lt {w : World} {R : Nat} {ws : List ByteArray} (h : ReadsAt w R ws) : R < w.heap.size := by
  obtain ⟨_, _, _, _, h, _⟩ := h
  exact h.lt

theorem ReadsAt.later {w w' : World} {R : Nat} {ws : List ByteArray} (h : ReadsAt w R ws) (hb : Below w.heap.size w w') : ReadsAt w' R ws := by
  have hR := h.lt
  obtain ⟨p, cap, g, o, h1, h2, h3, h4⟩ := h
  refine ⟨p, cap, g, o, (hb.block R hR).trans h1, h2, h3, fun i x hx => ?_⟩
  have hne : ws ≠ [] := fun e => by rw [e] at hx; simp at hx
  exact (hb.cell (p := ⟨g, o + i, none⟩) (by have := (h3 hne).2; show g < _; omega)).trans (h4 i x hx)

/-- Of what lay, one block alone is turned. -/
structure AtR (R : Nat) (w w' : World) : Prop where
  os : w'.os = w.os
  tape : w'.tape = w.tape
  output : w'.output = w.output
  size : w.heap.size ≤ w'.heap.size
  block : ∀ k, k < w.heap.size → k ≠ R → w'.heap[k]? = w.heap[k]?
theorem AtR.refl (R : Nat) (w : World) : AtR R w w := ⟨rfl, rfl, rfl, Nat.le_refl _, fun _ _ _ => rfl⟩
theorem AtR.trans {R : Nat} {a b c : World} (h : AtR R a b) (h2 : AtR R b c) : AtR R a c :=
  ⟨h2.os.trans h.os, h2.tape.trans h.tape, h2.output.trans h.output, Nat.le_trans h.size h2.size, fun i h3 h4 => (h2.block i (Nat.lt_of_lt_of_le h3 h.size) h4).trans (h.block i h3 h4)⟩
theorem AtR.of_below {R : Nat} {a b : World} (h : Below a.heap.size a b) : AtR R a b := ⟨h.os, h.tape, h.output, h.size, fun j h1 _ => h.block j h1⟩
theorem AtR.set (R : Nat) (w : World) (v : Value) : AtR R w (w.setCell ⟨R, 0, none⟩ v) := ⟨rfl, rfl, rfl, Nat.le_of_eq (size_set w R v).symm, fun _ _ h => heap_set w R v h⟩
theorem AtR.below {R B : Nat} {a b : World} (h : AtR R a b) (h1 : B ≤ R) (h2 : B ≤ a.heap.size) : Below B a b := ⟨h.os, h.tape, h.output, h.size, fun k hk => h.block k (by omega) (by omega)⟩
theorem AtR.row {R : Nat} {a b : World} (h : AtR R a b) {B z n : Nat} {e : TypeId} {v : Value} {xs : List Value} (hr : a.ownsRow B e z v n xs) (hB : R < B) : b.ownsRow B e z v n xs := by
  refine ⟨hr.1, ?_⟩
  rcases hr.2 with h1 | ⟨g, cap, cur, rfl, h2, h3, h4⟩
  · exact .inl h1
  · exact .inr ⟨g, cap, cur, rfl, h2, (h.block g (Array.getElem?_eq_some_iff.1 h3).1 (by omega)).trans h3, h4⟩

set_option maxHeartbeats 800000 in
theorem rdDone_nil (R : Nat) (w : World) (h : ReadsAt w R []) :
    Calls Tryz.prog 86 #[.pointer (some ⟨R, 0, none⟩)] w fun e w' => e = .returned (.bool true) ∧ w = w' := by
  obtain ⟨p, cap, g, o, h1, h2, h3, h4⟩ := h
  have c0 := h1.cell
  simp only [List.length_nil] at c0
  clear h1 h2 h3 h4
  go_enter Tryz.func86, Tryz.ntmps86
  go_wp2_with fail
  go_ret
  exact ⟨rfl, rfl⟩

set_option maxHeartbeats 800000 in
theorem rdDone_cons (x : ByteArray) (ws : List ByteArray) (R : Nat) (w : World) (h : ReadsAt w R (x :: ws)) :
    Calls Tryz.prog 86 #[.pointer (some ⟨R, 0, none⟩)] w fun e w' => e = .returned (.bool false) ∧ w = w' := by
  obtain ⟨p, cap, g, o, h1, h2, h3, h4⟩ := h
  have c0 := h1.cell
  have hne : (((x :: ws).length : Int) == 0) = false := by rw [beq_eq_false_iff_ne, List.length_cons]; omega
  generalize (x :: ws).length = n at *
  clear h1 h2 h3 h4
  go_enter Tryz.func86, Tryz.ntmps86
  go_wp2_with fail
  go_ret
  exact ⟨rfl, rfl⟩

set_option maxRecDepth 100000 in
set_option maxHeartbeats 3200000 in
theorem rdNext_any (ws : List ByteArray) (R : Nat) (w : World) (h : ReadsAt w R ws) :
    Calls Tryz.prog 96 #[.pointer (some ⟨R, 0, none⟩)] w fun e w' => e = .returned (.string (ws.headD ⟨#[]⟩)) ∧ ReadsAt w' R ws.tail ∧ AtR R w w' := by
  have h0 := h
  obtain ⟨p, cap, g, o, h1, h2, h3, h4⟩ := h
  have c0 := h1.cell
  have f0 := h1.frozen
  have H1 := hidden h1
  have H0 := hidden h0
  cases ws with
  | nil =>
    have hdn := rdDone_nil R w h0
    clear h1 h3 h4 h0
    simp only [List.length_nil] at c0 h2
    go_enter Tryz.func96, Tryz.ntmps96
    go_wp2_with fail
    (with_reducible refine hdn.mono ?_)
    rintro e w9 ⟨rfl, rfl⟩
    clear hdn
    go_wp2_with fail
    go_ret
    exact ⟨rfl, H0.out, AtR.refl _ _⟩
  | cons x ws =>
    have hdn := rdDone_cons x ws R w h0
    obtain ⟨rfl, hg⟩ := h3 (by simp)
    have hx := h4 0 x rfl
    rw [Nat.add_zero] at hx
    have H4 := hidden h4
    clear h1 h3 h4 h0
    simp only [List.length_cons] at c0 h2
    by_cases hc1 : cap = 1
    · subst hc1
      obtain rfl : ws = [] := List.length_eq_zero_iff.1 (by omega)
      go_enter Tryz.func96, Tryz.ntmps96
      go_wp2_with fail
      (with_reducible refine hdn.mono ?_)
      rintro e w9 ⟨rfl, rfl⟩
      clear hdn
      go_wp2_with fail
      go_ret
      refine ⟨rfl, ⟨_, _, g, o, H1.out.set _, Nat.le_refl _, fun h => absurd rfl h, fun i x h => by simp at h⟩, AtR.set R w _⟩
    · go_enter Tryz.func96, Tryz.ntmps96
      go_wp2_with fail
      (with_reducible refine hdn.mono ?_)
      rintro e w9 ⟨rfl, rfl⟩
      clear hdn
      go_wp2_with fail
      go_ret
      refine ⟨rfl, ⟨_, cap - 1, g, o + 1, H1.out.set _, by show ws.length ≤ cap - 1; omega, fun h => ⟨rfl, hg⟩, fun i y hy => ?_⟩, AtR.set R w _⟩
      have h5 := H4.out (i + 1) y hy
      rw [World.cell?_of_block (a := ⟨g, o + 1 + i, none⟩) (heap_set w R _ (by show g ≠ R; omega)), show o + 1 + i = o + (i + 1) by omega]
      exact h5

set_option maxRecDepth 100000 in
set_option maxHeartbeats 3200000 in
theorem take_any (ws : List ByteArray) (y : ByteArray) (R : Nat) (w : World) (h : ReadsAt w R ws) :
    Calls Tryz.prog 97 #[.pointer (some ⟨R, 0, none⟩), .string y] w fun e w' => e = .returned (.bool (decide (ws.head? = some y))) ∧ ReadsAt w' R (if ws.head? = some y then ws.tail else ws) ∧ AtR R w w' := by
  have h0 := h
  have hnx := rdNext_any ws R w h
  obtain ⟨p, cap, g, o, h1, h2, h3, h4⟩ := h
  have c0 := h1.cell
  have f0 := h1.frozen
  have H0 := hidden h0
  cases ws with
  | nil =>
    have hdn := rdDone_nil R w h0
    clear h1 h3 h4 h0 hnx
    simp only [List.length_nil] at c0 h2
    go_enter Tryz.func97, Tryz.ntmps97
    go_wp2_with fail
    (with_reducible refine hdn.mono ?_)
    rintro e w9 ⟨rfl, rfl⟩
    clear hdn
    go_wp2_with fail
    go_ret
    exact ⟨rfl, H0.out, AtR.refl _ _⟩
  | cons x ws =>
    have hdn := rdDone_cons x ws R w h0
    obtain ⟨rfl, hg⟩ := h3 (by simp)
    have hx := h4 0 x rfl
    rw [Nat.add_zero] at hx
    clear h1 h3 h4 h0
    simp only [List.length_cons] at c0 h2
    rw [List.head?_cons]
    by_cases hxy : x = y
    · subst hxy
      rw [decide_eq_true rfl, if_pos rfl]
      go_enter Tryz.func97, Tryz.ntmps97
      go_wp2_with fail
      (with_reducible refine hdn.mono ?_)
      rintro e w9 ⟨rfl, rfl⟩
      clear hdn
      go_wp2_with fail
      (with_reducible refine hnx.mono ?_)
      rintro e w2 ⟨rfl, hr, hb⟩
      have HR := hidden hr
      have HB := hidden hb
      clear hr hb hnx c0 hx f0
      go_wp2_with fail
      go_ret
      exact ⟨rfl, HR.out, HB.out⟩
    · have hne : (x.toList == y.toList) = false := str_neq hxy
      rw [decide_eq_false (fun h => hxy (by injection h)), if_neg (fun h => hxy (by injection h))]
      have HXY := hidden hxy
      clear hxy hnx
      go_enter Tryz.func97, Tryz.ntmps97
      go_wp2_with fail
      (with_reducible refine hdn.mono ?_)
      rintro e w9 ⟨rfl, rfl⟩
      clear hdn
      go_wp2_with fail
      go_ret
      exact ⟨rfl, H0.out, AtR.refl _ _⟩

/-- What the reader of numbers answers. -/
def numOf (x : ByteArray) : Option Int := if kindW x = 3 then some (if numB x = true then numI x else 10000) else none

set_option maxRecDepth 100000 in
set_option maxHeartbeats 3200000 in
theorem rdNumber_any (ws : List ByteArray) (R : Nat) (w : World) (h : ReadsAt w R ws) (hs : ∀ x ∈ ws, x.size ≤ 4096) (hR : ∀ w', AtR R w w' → MaxAt w') :
    Calls Tryz.prog 88 #[.pointer (some ⟨R, 0, none⟩)] w fun e w' => e = .returned (.tuple #[.int .i64 ((numOf (ws.headD ⟨#[]⟩)).getD 0), .bool (numOf (ws.headD ⟨#[]⟩)).isSome]) ∧ ReadsAt w' R ws.tail ∧ AtR R w w' := by
  have hnx := rdNext_any ws R w h
  have hx : (ws.headD ⟨#[]⟩).size ≤ 4096 := by
    cases ws with
    | nil => exact Nat.zero_le _
    | cons x ws => exact hs x (by simp)
  generalize ws.headD ⟨#[]⟩ = x at *
  have hki := fun w' h => kind_any x hx w' (hR w' h)
  have hnu := fun w' h => number_any x hx w' (hR w' h)
  obtain ⟨kd, hkd⟩ : ∃ kd, kindW x = kd := ⟨_, rfl⟩
  obtain ⟨nb, hnb⟩ : ∃ nb, numB x = nb := ⟨_, rfl⟩
  rw [hkd] at hki
  rw [hnb] at hnu
  unfold numOf
  rw [hkd, hnb]
  have HKI := hidden hki
  have HNU := hidden hnu
  clear hki hnu hkd hnb hR hs
  by_cases h3 : kd = 3
  · subst h3
    rw [if_pos rfl]
    cases nb with
    | true =>
      go_enter Tryz.func88, Tryz.ntmps88
      go_wp2_with fail
      (with_reducible refine hnx.mono ?_)
      rintro e w2 ⟨rfl, hr, hb⟩
      have HR := hidden hr
      have HB := hidden hb
      clear hr hb hnx
      go_wp2_with fail
      (with_reducible refine (HKI.out _ HB.out).mono ?_)
      rintro e w3 ⟨rfl, hb3⟩
      have HB3 := hidden (HB.out.trans (AtR.of_below hb3))
      have HR3 := hidden (HR.out.later hb3)
      clear hb3
      go_wp2_with fail
      (with_reducible refine (HNU.out _ HB3.out).mono ?_)
      rintro e w4 ⟨rfl, hb4⟩
      have HB4 := hidden (HB3.out.trans (AtR.of_below hb4))
      have HR4 := hidden (HR3.out.later hb4)
      clear hb4
      go_wp2_with fail
      go_ret2
      exact ⟨rfl, HR4.out, HB4.out⟩
    | false =>
      go_enter Tryz.func88, Tryz.ntmps88
      go_wp2_with fail
      (with_reducible refine hnx.mono ?_)
      rintro e w2 ⟨rfl, hr, hb⟩
      have HR := hidden hr
      have HB := hidden hb
      clear hr hb hnx
      go_wp2_with fail
      (with_reducible refine (HKI.out _ HB.out).mono ?_)
      rintro e w3 ⟨rfl, hb3⟩
      have HB3 := hidden (HB.out.trans (AtR.of_below hb3))
      have HR3 := hidden (HR.out.later hb3)
      clear hb3
      go_wp2_with fail
      (with_reducible refine (HNU.out _ HB3.out).mono ?_)
      rintro e w4 ⟨rfl, hb4⟩
      have HB4 := hidden (HB3.out.trans (AtR.of_below hb4))
      have HR4 := hidden (HR3.out.later hb4)
      clear hb4
      go_wp2_with fail
      go_ret2
      exact ⟨rfl, HR4.out, HB4.out⟩
  · rw [if_neg h3]
    have hkz : (((kd : Nat) : Int) == 3) = false := by
      rw [beq_eq_false_iff_ne]; omega
    clear h3
    go_enter Tryz.func88, Tryz.ntmps88
    go_wp2_with fail
    (with_reducible refine hnx.mono ?_)
    rintro e w2 ⟨rfl, hr, hb⟩
    have HR := hidden hr
    have HB := hidden hb
    clear hr hb hnx
    go_wp2_with fail
    (with_reducible refine (HKI.out _ HB.out).mono ?_)
    rintro e w3 ⟨rfl, hb3⟩
    have HB3 := hidden (HB.out.trans (AtR.of_below hb3))
    have HR3 := hidden (HR.out.later hb3)
    clear hb3
    go_wp2_with fail
    go_ret2
    exact ⟨rfl, HR3.out, HB3.out⟩

end Go.Proofs.YtfmoophjdgejeaaGreatDoor
