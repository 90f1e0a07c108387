/-
  The makers of shapes.
-/
import Derived.Test.YtlbaaiglebpjiaaGreatDoorZa
import Derived.Laws.EntriesVeiled
namespace Go.Proofs.YtlbaaiglebpjiaaGreatDoor
open Go.RowKit Go.Shelf Go.Lib

theorem hmf_any : ∀ (fn : Fn) (first cap : Array Value) (w : World), (Instr.makeFunc fn first cap).run Tryz.prog w = .ok (.func fn first cap) w := fun _ _ _ _ => rfl

theorem IntsV.lit (w : World) (l : List Int) (t : TypeId) : IntsV (w.alloc (.cells (l.map (Value.int .i64)).toArray t)) (.slice (some ⟨w.heap.size, 0, none⟩) l.length l.length) l := by
  refine ⟨_, _, w.heap.size, 0, rfl, fun _ => ⟨rfl, by simp⟩, fun i z hz => ?_⟩
  rw [Nat.zero_add, World.cell?_alloc_new, List.getElem?_toArray, List.getElem?_map, hz]
  rfl

/-- A function value is handed back that asks this. -/
def MadeSh (m : Nat) (x : Sh ⊕ Entry) (w0 : World) (e : Ending) (w' : World) : Prop :=
  ∃ g lb, e = .returned (.func (.func g) #[] lb) ∧ ShV w' m (.func (.func g) #[] lb) x ∧ Below w0.heap.size w0 w'
def MadeText (p : TextP) (w0 : World) (e : Ending) (w' : World) : Prop :=
  ∃ g lb, e = .returned (.func (.func g) #[] lb) ∧ TextV w' (.func (.func g) #[] lb) p ∧ Below w0.heap.size w0 w'

theorem of_make (m : Nat) (ks : List Int) {v : Value} {w : World} (hu : IntsV w v ks) :
    Calls Tryz.prog 49 #[.map (some m), v] w (MadeSh m (.inl (.of ks)) w) := by
  have hmf := hmf_any
  have HU := hidden hu
  obtain ⟨p, cap, g, o, rfl, _, _⟩ := hu
  unfold MadeSh
  go_enter Tryz.func49, Tryz.ntmps49
  go_wp2_with fail
  go_ret
  have hb : ∀ a b, Below w.heap.size w ((w.alloc a).alloc b) := fun a b => ((Below.refl _ _).alloc (Nat.le_refl _) _).alloc (by simp) _
  exact ⟨_, _, rfl, ShV.of ks (w.heap.size + 1) w.heap.size _ (by simp [go_sem]) (HU.out.later (hb _ _)) (by simp [go_sem]), hb _ _⟩

theorem of_lit (m : Nat) (ks : List Int) (w : World) (t : TypeId) :
    Calls Tryz.prog 49 #[.map (some m), .slice (some ⟨w.heap.size, 0, none⟩) ks.length ks.length] (w.alloc (.cells (ks.map (Value.int .i64)).toArray t)) (MadeSh m (.inl (.of ks)) w) := by
  refine (of_make m ks (IntsV.lit w ks t)).mono ?_
  rintro e w' ⟨g, lb, h1, h2, h3⟩
  exact ⟨g, lb, h1, h2, ((Below.refl _ w).alloc (Nat.le_refl _) _).trans (h3.mono (by simp))⟩

theorem expression_make (m : Nat) (w : World) :
    Calls Tryz.prog 52 #[.map (some m)] w (MadeSh m (.inl (.of [35, 36, 39, 40])) w) := by
  have c := of_lit m [35, 36, 39, 40] w 3
  change Calls Tryz.prog 49 #[.map (some m), .slice (some ⟨w.heap.size, 0, none⟩) 4 4] (w.alloc (.cells #[.int .i64 35, .int .i64 36, .int .i64 39, .int .i64 40] 3)) _ at c
  unfold MadeSh at c ⊢
  go_enter Tryz.func52, Tryz.ntmps52
  go_wp2_with fail
  (with_reducible refine c.mono ?_)
  rintro e w' ⟨g, lb, rfl, h2, h3⟩
  clear c
  go_wp2_with fail
  go_ret
  exact ⟨_, _, rfl, h2, h3⟩

theorem oneOf_make (ws : List ByteArray) {v : Value} {w : World} (hu : Strs w v ws) :
    Calls Tryz.prog 75 #[v] w (MadeText (.oneOf ws) w) := by
  have hmf := hmf_any
  have HU := hidden hu
  obtain ⟨a, n, c, rfl⟩ : ∃ a n c, v = .slice a n c := by
    rcases hu with ⟨rfl, _⟩ | ⟨g, cap, rfl, _⟩
    · exact ⟨_, _, _, rfl⟩
    · exact ⟨_, _, _, rfl⟩
  clear hu
  unfold MadeText
  go_enter Tryz.func75, Tryz.ntmps75
  go_wp2_with fail
  go_ret
  have hb : ∀ a, Below w.heap.size w (w.alloc a) := fun a => (Below.refl _ _).alloc (Nat.le_refl _) _
  exact ⟨_, _, rfl, ⟨w.heap.size, _, rfl, by simp [go_sem], HU.out.below (hb _)⟩, hb _⟩

theorem oneOf_lit (ws : List ByteArray) (w : World) :
    Calls Tryz.prog 75 #[.slice (some ⟨w.heap.size, 0, none⟩) ws.length ws.length] (w.alloc (.cells (ws.map Value.string).toArray 9)) (MadeText (.oneOf ws) w) := by
  refine (oneOf_make ws (Strs.lit w ws)).mono ?_
  rintro e w' ⟨g, lb, h1, h2, h3⟩
  exact ⟨g, lb, h1, h2, ((Below.refl _ w).alloc (Nat.le_refl _) _).trans (h3.mono (by simp))⟩

/-- A slice of function values. -/
def ShsV (w : World) (m : Nat) (v : Value) (l : List Sh) : Prop :=
  ∃ sp cap g o, ∃ vs : Nat → Value, v = .slice sp l.length cap ∧ (l ≠ [] → sp = some ⟨g, o, none⟩ ∧ g < w.heap.size) ∧ (∀ i s, l[i]? = some s → w.cell? ⟨g, o + i, none⟩ = some (vs i)) ∧ ∀ i s, l[i]? = some s → ShV w m (vs i) (.inl s)

theorem ShsV.nil (w : World) (m : Nat) : ShsV w m (.slice none 0 0) [] :=
  ⟨none, 0, 0, 0, fun _ => .nilFunc, rfl, fun h => absurd rfl h, fun i s h => by simp at h, fun i s h => by simp at h⟩

theorem ShsV.lit (w : World) (m : Nat) (vs : List Value) (l : List Sh) (t : TypeId) (hl : vs.length = l.length) (h : ∀ (i : Nat) (v : Value) (s : Sh), vs[i]? = some v → l[i]? = some s → ShV w m v (.inl s)) :
    ShsV (w.alloc (.cells vs.toArray t)) m (.slice (some ⟨w.heap.size, 0, none⟩) l.length l.length) l := by
  have hv : ∀ i s, l[i]? = some s → vs[i]? = some (vs.getD i .nilFunc) := fun i s hs => by
    have := (List.getElem?_eq_some_iff.1 hs).1
    rw [List.getD_eq_getElem?_getD, List.getElem?_eq_getElem (by omega)]; rfl
  refine ⟨_, _, w.heap.size, 0, fun i => vs.getD i .nilFunc, rfl, fun _ => ⟨rfl, by simp⟩, fun i s hs => ?_, fun i s hs => ?_⟩
  · rw [Nat.zero_add, World.cell?_alloc_new, List.getElem?_toArray, hv i s hs]
  · exact (h i _ s (hv i s hs) hs).on (CellsOn.of_below ((Below.refl _ w).alloc (Nat.le_refl _) _))

theorem parts_make (m : Nat) (p : TextP) (l : List Sh) {tv sv : Value} {w : World} (ht : TextV w tv p) (hs : ShsV w m sv l) :
    Calls Tryz.prog 74 #[tv, sv] w (MadeSh m (.inr (.parts p l)) w) := by
  have hmf := hmf_any
  have HT := hidden ht
  obtain ⟨tg, tlb, rfl⟩ := ht.form
  obtain ⟨sp, cap, g, o, vs, rfl, h1, h2, h3⟩ := hs
  have H1 := hidden h1
  have H2 := hidden h2
  have H3 := hidden h3
  clear ht h1 h2 h3
  unfold MadeSh
  go_enter Tryz.func74, Tryz.ntmps74
  go_wp2_with fail
  go_ret
  have hb : ∀ a b, Below w.heap.size w ((w.alloc a).alloc b) := fun a b => ((Below.refl _ _).alloc (Nat.le_refl _) _).alloc (by simp) _
  have hon : ∀ a b, CellsOn w ((w.alloc a).alloc b) := fun a b => CellsOn.of_below (hb a b)
  exact ⟨_, _, rfl, ShV.parts p l w.heap.size (w.heap.size + 1) _ sp cap g o vs (by simp [go_sem]) (HT.out.on (hon _ _)) (by simp [go_sem]) (fun h => ⟨(H1.out h).1, Nat.lt_of_lt_of_le (H1.out h).2 (hb _ _).size⟩) (fun i s hs => (hon _ _).cell _ _ (H2.out i s hs)) (fun i s hs => (H3.out i s hs).on (hon _ _)), hb _ _⟩

theorem parts_nil (m : Nat) (p : TextP) {tv : Value} {w : World} (ht : TextV w tv p) : Calls Tryz.prog 74 #[tv, .slice none 0 0] w (MadeSh m (.inr (.parts p [])) w) := parts_make m p [] ht (ShsV.nil w m)

theorem parts_lit (m : Nat) (p : TextP) (l : List Sh) (vs : List Value) {tv : Value} {w : World} (t : TypeId) (ht : TextV w tv p) (hl : vs.length = l.length) (h : ∀ (i : Nat) (v : Value) (s : Sh), vs[i]? = some v → l[i]? = some s → ShV w m v (.inl s)) :
    Calls Tryz.prog 74 #[tv, .slice (some ⟨w.heap.size, 0, none⟩) l.length l.length] (w.alloc (.cells vs.toArray t)) (MadeSh m (.inr (.parts p l)) w) := by
  have hb : ∀ a, Below w.heap.size w (w.alloc a) := fun a => (Below.refl _ _).alloc (Nat.le_refl _) _
  refine (parts_make m p l (ht.on (CellsOn.of_below (hb _))) (ShsV.lit w m vs l t hl h)).mono ?_
  rintro e w' ⟨g, lb, h1, h2, h3⟩
  exact ⟨g, lb, h1, h2, (hb _).trans (h3.mono (by simp))⟩

theorem many_make (m : Nat) (p : TextP) (n : Nat) (x : Sh) {tv v : Value} {w : World} (ht : TextV w tv p) (hv : ShV w m v (.inl x)) :
    Calls Tryz.prog 76 #[tv, .int .i64 n, v] w (MadeSh m (.inr (.many p n x)) w) := by
  have hmf := hmf_any
  have HT := hidden ht
  have HV := hidden hv
  obtain ⟨tg, tlb, rfl⟩ := ht.form
  obtain ⟨vg, vlb, rfl⟩ := hv.form
  clear ht hv
  unfold MadeSh
  go_enter Tryz.func76, Tryz.ntmps76
  go_wp2_with fail
  go_ret
  have hb : ∀ a b c, Below w.heap.size w (((w.alloc a).alloc b).alloc c) := fun a b c => (((Below.refl _ _).alloc (Nat.le_refl _) _).alloc (by simp) _).alloc (by simp; omega) _
  have hon : ∀ a b c, CellsOn w (((w.alloc a).alloc b).alloc c) := fun a b c => CellsOn.of_below (hb a b c)
  exact ⟨_, _, rfl, ShV.many p n x w.heap.size (w.heap.size + 1) (w.heap.size + 2) _ _ (by simp [go_sem]) (HT.out.on (hon _ _ _)) (by simp [go_sem]) (by simp [go_sem]) (HV.out.on (hon _ _ _)), hb _ _ _⟩

theorem either_make (m : Nat) (a b : Sh) {va vb : Value} {w : World} (ha : ShV w m va (.inl a)) (hb : ShV w m vb (.inl b)) :
    Calls Tryz.prog 79 #[va, vb] w (MadeSh m (.inl (.either a b)) w) := by
  have hmf := hmf_any
  have HA := hidden ha
  have HB := hidden hb
  obtain ⟨ag, alb, rfl⟩ := ha.form
  obtain ⟨bg, blb, rfl⟩ := hb.form
  clear ha hb
  unfold MadeSh
  go_enter Tryz.func79, Tryz.ntmps79
  go_wp2_with fail
  go_ret
  have hb : ∀ a b, Below w.heap.size w ((w.alloc a).alloc b) := fun a b => ((Below.refl _ _).alloc (Nat.le_refl _) _).alloc (by simp) _
  have hon : ∀ a b, CellsOn w ((w.alloc a).alloc b) := fun a b => CellsOn.of_below (hb a b)
  exact ⟨_, _, rfl, ShV.either a b _ _ w.heap.size (w.heap.size + 1) (by simp [go_sem]) (by simp [go_sem]) (HA.out.on (hon _ _)) (HB.out.on (hon _ _)), hb _ _⟩

set_option maxHeartbeats 800000 in
theorem word_make (m : Nat) (ws : List ByteArray) {v : Value} {w : World} (hu : Strs w v ws) :
    Calls Tryz.prog 78 #[v] w (MadeSh m (.inl (.word ws)) w) := by
  have hmf := hmf_any
  have h1 := oneOf_make ws hu
  have h2 := fun (tv : Value) (w' : World) (ht : TextV w' tv (.oneOf ws)) => parts_nil m (.oneOf ws) ht
  obtain ⟨a, n, c, rfl⟩ : ∃ a n c, v = .slice a n c := by
    rcases hu with ⟨rfl, _⟩ | ⟨g, cap, rfl, _⟩
    · exact ⟨_, _, _, rfl⟩
    · exact ⟨_, _, _, rfl⟩
  clear hu
  unfold MadeText at h1
  unfold MadeSh at h2 ⊢
  go_enter Tryz.func78, Tryz.ntmps78
  go_wp2_with fail
  (with_reducible refine h1.mono ?_)
  rintro e w1 ⟨g1, lb1, rfl, k1, k2⟩
  have h2' := h2 _ _ k1
  clear h1 h2 k1
  go_wp2_with fail
  (with_reducible refine h2'.mono ?_)
  rintro e w2 ⟨g2, lb2, rfl, k3, k4⟩
  clear h2'
  have HK := hidden k3
  have HB := hidden (bt k2 k4)
  clear k2 k3 k4
  go_wp2_with fail
  go_ret
  refine ⟨_, _, rfl, ShV.word ws w2.heap.size _ (by simp [go_sem]) (HK.out.on (CellsOn.of_below ?_)), ?_⟩
  · repeat (first | exact Below.refl _ _ | refine Below.setCell ?_ (by first | exact Nat.le_refl _ | (simp; done) | (simp; omega)) _ | refine Below.alloc ?_ (by first | exact Nat.le_refl _ | (simp; done) | (simp; omega)) _)
  · have := HB.out.size
    repeat (first | exact HB.out | refine Below.setCell ?_ (by simp; omega) _ | refine Below.alloc ?_ (by omega) _)

set_option maxHeartbeats 800000 in
theorem word_lit (m : Nat) (ws : List ByteArray) (w : World) :
    Calls Tryz.prog 78 #[.slice (some ⟨w.heap.size, 0, none⟩) ws.length ws.length] (w.alloc (.cells (ws.map Value.string).toArray 9)) (MadeSh m (.inl (.word ws)) w) := by
  refine (word_make m ws (Strs.lit w ws)).mono ?_
  rintro e w' ⟨g, lb, h1, h2, h3⟩
  exact ⟨g, lb, h1, h2, ((Below.refl _ w).alloc (Nat.le_refl _) _).trans (h3.mono (by simp))⟩

set_option maxHeartbeats 1600000 in
theorem bound_make (m : Nat) (x : Sh) {v : Value} {w : World} (hv : ShV w m v (.inl x)) :
    Calls Tryz.prog 80 #[v] w (MadeSh m (.inl (.bound x)) w) := by
  have hmf := hmf_any
  have h1 := oneOf_lit boundWs w
  change Calls Tryz.prog 75 #[.slice (some ⟨w.heap.size, 0, none⟩) 2 2] (w.alloc (.cells #[.string (⟨#[60, 61]⟩ : ByteArray), .string (⟨#[62, 61]⟩ : ByteArray)] 9)) _ at h1
  obtain ⟨vg, vlb, rfl⟩ := hv.form
  have HV := hidden hv
  clear hv
  unfold MadeText at h1
  unfold MadeSh
  go_enter Tryz.func80, Tryz.ntmps80
  go_wp2_with fail
  (with_reducible refine h1.mono ?_)
  rintro e w1 ⟨g1, lb1, rfl, k1, k2⟩
  have h2 := parts_lit m (.oneOf boundWs) [x] [.func (.func vg) #[] vlb] 57 k1 rfl (fun i v s hv hs => by
    rcases i with _ | i
    · simp at hv hs; subst hv; subst hs; exact HV.out.on (CellsOn.of_below k2)
    · simp at hv)
  change Calls Tryz.prog 74 #[.func (.func g1) #[] lb1, .slice (some ⟨w1.heap.size, 0, none⟩) 1 1] (w1.alloc (.cells #[.func (.func vg) #[] vlb] 57)) _ at h2
  unfold MadeSh at h2
  clear h1 k1
  go_wp2_with fail
  (with_reducible refine h2.mono ?_)
  rintro e w2 ⟨g2, lb2, rfl, k3, k4⟩
  clear h2
  have HK := hidden k3
  have HB := hidden (bt k2 k4)
  clear k2 k3 k4
  go_wp2_with fail
  go_ret
  refine ⟨_, _, rfl, ShV.bound x w2.heap.size _ (by simp [go_sem]) (HK.out.on (CellsOn.of_below ?_)), ?_⟩
  · repeat (first | exact Below.refl _ _ | refine Below.setCell ?_ (by first | exact Nat.le_refl _ | (simp; done) | (simp; omega)) _ | refine Below.alloc ?_ (by first | exact Nat.le_refl _ | (simp; done) | (simp; omega)) _)
  · have := HB.out.size
    repeat (first | exact HB.out | refine Below.setCell ?_ (by simp; omega) _ | refine Below.alloc ?_ (by omega) _)

end Go.Proofs.YtlbaaiglebpjiaaGreatDoor
