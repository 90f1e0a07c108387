/-
  The shapes: what the closures answer, and how they lie in memory.
-/
import Derived.Test.YtlbaaiglebpjiaaGreatDoorJe
import Derived.Test.YtlbaaiglebpjiaaGreatDoorNb
import Derived.Maps.Own
import Derived.Maps.OwnOps
namespace Go.Proofs.YtlbaaiglebpjiaaGreatDoor
open Go.RowKit Go.Shelf Go.Lib
open Go.Maps (Keyed)

/-- What may be asked of a text. -/
inductive TextP where
  | name
  | number
  | integer
  | oneOf (ws : List ByteArray)

/-- What may be asked of a node. -/
inductive Sh where
  | of (ks : List Int)
  | either (a b : Sh)
  | word (ws : List ByteArray)
  | bound (x : Sh)

/-- What is asked of the nodes of a kind. -/
inductive Entry where
  | parts (p : TextP) (l : List Sh)
  | many (p : TextP) (n : Nat) (x : Sh)

def TextP.sem : TextP → ByteArray → Bool
  | .name, s => nameB s
  | .number, s => isNumB s
  | .integer, s => intB s
  | .oneOf ws, s => ws.any fun x => decide (x = s)

def Entry.sem (rec_ : Sh → Tree → Bool) : Entry → Tree → Bool
  | .parts p l, t => p.sem t.text && decide (t.kids.length = l.length) && (l.zip t.kids).all fun x => rec_ x.1 x.2
  | .many p n x, t => p.sem t.text && decide (n ≤ t.kids.length) && t.kids.all (rec_ x)

def boundWs : List ByteArray := [⟨#[60, 61]⟩, ⟨#[62, 61]⟩]

def Sh.sem1 (T : Int → Option Entry) (rec_ : Sh → Tree → Bool) : Sh → Tree → Bool
  | .of ks, t => ks.contains t.kind && (match T t.kind with | some e => e.sem rec_ t | none => false)
  | .either a b, t => a.sem1 T rec_ t || b.sem1 T rec_ t
  | .word ws, t => (t.kind == 38) && (Entry.parts (.oneOf ws) []).sem rec_ t
  | .bound x, t => (t.kind == 19) && (Entry.parts (.oneOf boundWs) [x]).sem rec_ t

def Sh.sem (T : Int → Option Entry) : Nat → Sh → Tree → Bool
  | 0, _, _ => false
  | n + 1, s, t => s.sem1 T (Sh.sem T n) t

/-- Each kind that is named is one of the table. -/
def Sh.wf (T : Int → Option Entry) : Sh → Bool
  | .of ks => ks.all fun k => (T k).isSome
  | .either a b => a.wf T && b.wf T
  | .word _ => true
  | .bound x => x.wf T
def Entry.wf (T : Int → Option Entry) : Entry → Bool
  | .parts _ l => l.all fun x => x.wf T
  | .many _ _ x => x.wf T

/-- A function value that asks something of a text. -/
def TextV (w : World) (v : Value) : TextP → Prop
  | .name => v = .func (.func 77) #[] #[] ∧ MaxAt w
  | .number => v = .func (.func 81) #[] #[] ∧ MaxAt w
  | .integer => v = .func (.func 82) #[] #[] ∧ MaxAt w
  | .oneOf ws => ∃ b u, v = .func (.func 97) #[] #[.pointer (some ⟨b, 0, none⟩)] ∧ w.cell? ⟨b, 0, none⟩ = some u ∧ Strs w u ws

/-- What cells held they hold. -/
structure CellsOn (w w' : World) : Prop where
  size : w.heap.size ≤ w'.heap.size
  cell : ∀ a v, w.cell? a = some v → w'.cell? a = some v

theorem CellsOn.refl (w : World) : CellsOn w w := ⟨Nat.le_refl _, fun _ _ h => h⟩
theorem CellsOn.trans {a b c : World} (h : CellsOn a b) (k : CellsOn b c) : CellsOn a c := ⟨Nat.le_trans h.size k.size, fun x v hx => k.cell x v (h.cell x v hx)⟩
theorem CellsOn.of_below {w w' : World} (h : Below w.heap.size w w') : CellsOn w w' := ⟨h.size, fun a _ hv => (h.cell (p := a) (World.block_lt_of_cell? w a hv)).trans hv⟩
theorem CellsOn.of_map {w w' : World} {m : Nat} {es c} (h : w.grownBy w' (some m)) (hm : w.heap[m]? = some (.map es c)) : CellsOn w w' := by
  refine ⟨h.size, fun a v hv => (World.cell?_of_block (h.block a.block (World.block_lt_of_cell? w a hv) (fun e => ?_))).trans hv⟩
  have : a.block = m := Option.some.inj e
  unfold World.cell? at hv
  rw [this, hm] at hv
  cases hv

theorem IntsV.on {w w' : World} {v : Value} {l : List Int} (h : IntsV w v l) (hb : CellsOn w w') : IntsV w' v l := by
  obtain ⟨p, cap, g, o, h1, h2, h3⟩ := h
  exact ⟨p, cap, g, o, h1, fun h => ⟨(h2 h).1, Nat.lt_of_lt_of_le (h2 h).2 hb.size⟩, fun i z hz => hb.cell _ _ (h3 i z hz)⟩

theorem Strs.on {w w' : World} {v : Value} {xs : List ByteArray} (h : Strs w v xs) (hb : CellsOn w w') : Strs w' v xs := by
  rcases h with h | ⟨g, cap, h1, h2, h3⟩
  · exact .inl h
  · exact .inr ⟨g, cap, h1, Nat.lt_of_lt_of_le h2 hb.size, fun j hj => hb.cell _ _ (h3 j hj)⟩

theorem TextV.on {w w' : World} {v : Value} {p : TextP} (h : TextV w v p) (hb : CellsOn w w') : TextV w' v p := by
  have key : MaxAt w → MaxAt w' := fun ⟨m, hm⟩ => ⟨m, hb.cell _ _ hm⟩
  cases p with
  | name => exact ⟨h.1, key h.2⟩
  | number => exact ⟨h.1, key h.2⟩
  | integer => exact ⟨h.1, key h.2⟩
  | oneOf ws =>
    obtain ⟨b, u, h1, h2, h3⟩ := h
    exact ⟨b, u, h1, hb.cell _ _ h2, h3.on hb⟩

/-- A function value that asks something of a node. -/
inductive ShV (w : World) (m : Nat) : Value → Sh ⊕ Entry → Prop
  | of (ks : List Int) (b1 b2 : Nat) (u : Value) (h1 : w.cell? ⟨b1, 0, none⟩ = some u) (hu : IntsV w u ks) (h2 : w.cell? ⟨b2, 0, none⟩ = some (.map (some m))) :
      ShV w m (.func (.func 68) #[] #[.pointer (some ⟨b1, 0, none⟩), .pointer (some ⟨b2, 0, none⟩)]) (.inl (.of ks))
  | either (a b : Sh) (va vb : Value) (b1 b2 : Nat) (h1 : w.cell? ⟨b1, 0, none⟩ = some va) (h2 : w.cell? ⟨b2, 0, none⟩ = some vb) (ha : ShV w m va (.inl a)) (hb : ShV w m vb (.inl b)) :
      ShV w m (.func (.func 102) #[] #[.pointer (some ⟨b1, 0, none⟩), .pointer (some ⟨b2, 0, none⟩)]) (.inl (.either a b))
  | word (ws : List ByteArray) (b : Nat) (u : Value) (h1 : w.cell? ⟨b, 0, none⟩ = some u) (hu : ShV w m u (.inr (.parts (.oneOf ws) []))) :
      ShV w m (.func (.func 101) #[] #[.pointer (some ⟨b, 0, none⟩)]) (.inl (.word ws))
  | bound (x : Sh) (b : Nat) (u : Value) (h1 : w.cell? ⟨b, 0, none⟩ = some u) (hu : ShV w m u (.inr (.parts (.oneOf boundWs) [x]))) :
      ShV w m (.func (.func 103) #[] #[.pointer (some ⟨b, 0, none⟩)]) (.inl (.bound x))
  | parts (p : TextP) (l : List Sh) (b1 b2 : Nat) (tv : Value) (sp : Option Addr) (cap g o : Nat) (vs : Nat → Value) (h1 : w.cell? ⟨b1, 0, none⟩ = some tv) (ht : TextV w tv p)
      (h2 : w.cell? ⟨b2, 0, none⟩ = some (.slice sp l.length cap)) (hp : l ≠ [] → sp = some ⟨g, o, none⟩ ∧ g < w.heap.size) (hc : ∀ i s, l[i]? = some s → w.cell? ⟨g, o + i, none⟩ = some (vs i))
      (hk : ∀ i s, l[i]? = some s → ShV w m (vs i) (.inl s)) :
      ShV w m (.func (.func 96) #[] #[.pointer (some ⟨b1, 0, none⟩), .pointer (some ⟨b2, 0, none⟩)]) (.inr (.parts p l))
  | many (p : TextP) (n : Nat) (x : Sh) (b1 b2 b3 : Nat) (tv v : Value) (h1 : w.cell? ⟨b1, 0, none⟩ = some tv) (ht : TextV w tv p) (h2 : w.cell? ⟨b2, 0, none⟩ = some (.int .i64 n))
      (h3 : w.cell? ⟨b3, 0, none⟩ = some v) (hv : ShV w m v (.inl x)) :
      ShV w m (.func (.func 99) #[] #[.pointer (some ⟨b1, 0, none⟩), .pointer (some ⟨b2, 0, none⟩), .pointer (some ⟨b3, 0, none⟩)]) (.inr (.many p n x))

theorem ShV.on {w w' : World} {m : Nat} {v : Value} {x : Sh ⊕ Entry} (h : ShV w m v x) (hb : CellsOn w w') : ShV w' m v x := by
  induction h with
  | of ks b1 b2 u h1 hu h2 => exact ShV.of ks b1 b2 u (hb.cell _ _ h1) (hu.on hb) (hb.cell _ _ h2)
  | either a b va vb b1 b2 h1 h2 ha hb' iha ihb => exact ShV.either a b va vb b1 b2 (hb.cell _ _ h1) (hb.cell _ _ h2) iha ihb
  | word ws b u h1 hu ih => exact ShV.word ws b u (hb.cell _ _ h1) ih
  | bound x b u h1 hu ih => exact ShV.bound x b u (hb.cell _ _ h1) ih
  | parts p l b1 b2 tv sp cap g o vs h1 ht h2 hp hc hk ih =>
    exact ShV.parts p l b1 b2 tv sp cap g o vs (hb.cell _ _ h1) (ht.on hb) (hb.cell _ _ h2) (fun h => ⟨(hp h).1, Nat.lt_of_lt_of_le (hp h).2 hb.size⟩) (fun i s hs => hb.cell _ _ (hc i s hs)) ih
  | many p n x b1 b2 b3 tv v h1 ht h2 h3 hv ih => exact ShV.many p n x b1 b2 b3 tv v (hb.cell _ _ h1) (ht.on hb) (hb.cell _ _ h2) (hb.cell _ _ h3) ih

/-- Any value, as it stands. -/
def asIs (v : Value) : Option (DataW Value × List MemPlace) := some (.held v, [])

/-- A table of entries: the newest first. -/
def tabOf (l : List (Int × Entry)) (k : Int) : Option Entry := (l.find? fun x => x.1 == k).map (·.2)

/-- The map of the shapes. -/
def MapOk (w : World) (m : Nat) (l : List (Int × Entry)) : Prop :=
  ∃ D : DataW Value, w.ownsMap Tryz.prog 3 asIs m l.length D ∧ Maps.IsMap D ∧ ∀ k e, tabOf l k = some e → (Lit.int .i64 k).wf = true ∧ ∃ v, D.atKey (.int .i64 k) (.held .nilFunc) = .held v ∧ ShV w m v (.inr e)

theorem MapOk.isMap {w : World} {m : Nat} {l : List (Int × Entry)} (h : MapOk w m l) : ∃ es c, w.heap[m]? = some (.map es c) := by
  obtain ⟨D, ⟨es, c, h1, _⟩, _⟩ := h
  exact ⟨es, c, h1⟩

theorem MapOk.later {w w' : World} {m : Nat} {l : List (Int × Entry)} (h : MapOk w m l) (hb : Below w.heap.size w w') : MapOk w' m l := by
  obtain ⟨D, h1, h2, h3⟩ := h
  have hlt := h1.lt
  obtain ⟨es, clock, e1, e2⟩ := h1
  refine ⟨D, ⟨es, clock, (hb.block m hlt).trans e1, e2⟩, h2, fun k e hk => ?_⟩
  obtain ⟨h6, v, h4, h5⟩ := h3 k e hk
  exact ⟨h6, v, h4, h5.on (CellsOn.of_below hb)⟩

theorem int_keyed : Keyed Tryz.prog 3 := Maps.int_keyed Tryz.underlying3

theorem MapOk.put {w : World} {m : Nat} {l : List (Int × Entry)} (h : MapOk w m l) {k : Int} {v : Value} {e : Entry} (hv : ShV w m v (.inr e)) (hk : (Lit.int .i64 k).wf = true) (hl : l.length < 1000) :
    ∃ w', (Instr.mapUpdate 59 (.map (some m)) (.int .i64 k) v).run Tryz.prog w = .ok () w' ∧ MapOk w' m ((k, e) :: l) ∧ CellsOn w w' ∧ Below m w w' := by
  obtain ⟨es, c, hm⟩ := h.isMap
  obtain ⟨D, h1, h2, h3⟩ := h
  have hkey := Maps.keyOf_int_mk Tryz.underlying3 hk
  obtain ⟨w', r1, r2, r3⟩ := h1.update (t := 59) int_keyed Tryz.underlying59 (by unfold maxLen; omega) hkey (d := .held v) (ps := []) rfl
  have hon := CellsOn.of_map r3 hm
  refine ⟨w', r1, ⟨_, r2, h2.put _ _, fun k' e' hk' => ?_⟩, hon, r3.os, r3.tape, r3.output, r3.size, fun i hi => r3.block i (Nat.lt_trans hi h1.lt) (fun e => by have := Option.some.inj e; omega)⟩
  unfold tabOf at hk'
  rw [List.find?_cons] at hk'
  by_cases hkk : k = k'
  · subst hkk
    rw [show ((k, e).1 == k) = true by simp] at hk'
    have : e' = e := by simpa using hk'.symm
    subst this
    exact ⟨hk, v, Maps.atKey_put_same h2 (by simp [WideAt.IsKeyLit]) _ _, hv.on hon⟩
  · rw [show ((k, e).1 == k') = false by simpa using hkk] at hk'
    obtain ⟨h6, v', h4, h5⟩ := h3 k' e' hk'
    refine ⟨h6, v', ?_, h5.on hon⟩
    rw [Maps.atKey_put_other (fun e => hkk (by cases e; rfl)) _ _]
    exact h4

theorem MapOk.lookup_later {w : World} {m : Nat} {l : List (Int × Entry)} (h : MapOk w m l) {k : Int} {e : Entry} (he : tabOf l k = some e) :
    ∃ v, ShV w m v (.inr e) ∧ ∀ W, Below w.heap.size w W → (Instr.lookup 59 (.map (some m)) (.int .i64 k) false).run Tryz.prog W = .ok v W := by
  obtain ⟨D, h1, h2, h3⟩ := h
  obtain ⟨h6, v, h4, h5⟩ := h3 k e he
  refine ⟨v, h5, fun W hb => ?_⟩
  have hlt := h1.lt
  obtain ⟨es, clock, e1, e2⟩ := h1
  have h1' : W.ownsMap Tryz.prog 3 asIs m l.length D := ⟨es, clock, (hb.block m hlt).trans e1, e2⟩
  have hz : (zeroValue 57).run Tryz.prog W = .ok .nilFunc W := Tryz.zeroValue57 _
  obtain ⟨u, ps, r1, r2⟩ := h1'.lookup (t := 59) int_keyed Tryz.underlying59 hz (zd := .held .nilFunc) (zp := []) rfl (Maps.keyOf_int_mk Tryz.underlying3 h6)
  rw [h4] at r2
  have : u = v := by simpa [asIs] using congrArg (fun x => x.map (·.1)) r2
  rw [← this]; exact r1

theorem TextV.form {w : World} {v : Value} {p : TextP} (h : TextV w v p) : ∃ g lb, v = .func (.func g) #[] lb := by
  cases p with
  | name => exact ⟨_, _, h.1⟩
  | number => exact ⟨_, _, h.1⟩
  | integer => exact ⟨_, _, h.1⟩
  | oneOf ws => obtain ⟨b, u, h1, _⟩ := h; exact ⟨_, _, h1⟩

theorem ShV.form {w : World} {m : Nat} {v : Value} {x : Sh ⊕ Entry} (h : ShV w m v x) : ∃ g lb, v = .func (.func g) #[] lb := by
  cases h <;> exact ⟨_, _, rfl⟩

end Go.Proofs.YtlbaaiglebpjiaaGreatDoor
