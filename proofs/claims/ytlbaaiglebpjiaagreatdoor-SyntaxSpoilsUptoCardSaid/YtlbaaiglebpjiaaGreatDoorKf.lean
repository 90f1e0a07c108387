/-
  Plain facts on the shapes: what is spoilt is no program; what is stripped is one if it was.
-/
import Derived.Test.YtlbaaiglebpjiaaGreatDoorKd
import Derived.Test.YtlbaaiglebpjiaaGreatDoorZh
namespace Go.Proofs.YtlbaaiglebpjiaaGreatDoor
open Go.RowKit Go.Shelf Go.Lib

def qT : ByteArray := ⟨#[63]⟩
def Entry.txt : Entry → TextP
  | .parts p _ => p
  | .many p _ _ => p
/-- A shape whose own words are no question mark. -/
def Sh.noQ : Sh → Bool
  | .of _ => true
  | .either a b => a.noQ && b.noQ
  | .word ws => !(ws.any fun x => decide (x = qT))
  | .bound x => x.noQ

structure Fine (T : Int → Option Entry) : Prop where
  txt : ∀ k e, T k = some e → e.txt.sem qT = false
  kids : ∀ k e, T k = some e → ∀ s ∈ e.kids, s.noQ = true
  zero : T 0 = none
  word : T 38 = none
  bound : T 19 = none

theorem tab_fine : Fine tab := by
  have h : (shapesL.all fun x => !(x.2.txt.sem qT) && (x.2.kids.all fun s => s.noQ)) = true := by kernel_rfl
  have hf : ∀ k e, tab k = some e → (!(e.txt.sem qT) && (e.kids.all fun s => s.noQ)) = true := by
    intro k e hk
    unfold tab tabOf at hk
    cases hx : shapesL.find? (fun x => x.1 == k) with
    | none => rw [hx] at hk; cases hk
    | some x =>
      rw [hx] at hk
      have : x.2 = e := Option.some.inj hk
      subst this
      exact List.all_eq_true.1 h x (List.mem_of_find?_eq_some hx)
  refine ⟨fun k e hk => ?_, fun k e hk s hs => ?_, by kernel_rfl, by kernel_rfl, by kernel_rfl⟩
  · have := hf k e hk
    rw [Bool.and_eq_true] at this
    simpa using this.1
  · have := hf k e hk
    rw [Bool.and_eq_true] at this
    exact List.all_eq_true.1 this.2 s hs

section
variable {T : Int → Option Entry}

theorem entry_parts (r : Sh → Tree → Bool) (p : TextP) (l : List Sh) (t : Tree) : (Entry.parts p l).sem r t = (p.sem t.text && decide (t.kids.length = l.length) && (l.zip t.kids).all fun x => r x.1 x.2) := rfl
theorem entry_many (r : Sh → Tree → Bool) (p : TextP) (n : Nat) (x : Sh) (t : Tree) : (Entry.many p n x).sem r t = (p.sem t.text && decide (n ≤ t.kids.length) && t.kids.all (r x)) := rfl
theorem sem1_word (r : Sh → Tree → Bool) (ws : List ByteArray) (t : Tree) : (Sh.word ws).sem1 T r t = ((t.kind == 38) && (Entry.parts (.oneOf ws) []).sem r t) := rfl
theorem sem1_bound (r : Sh → Tree → Bool) (x : Sh) (t : Tree) : (Sh.bound x).sem1 T r t = ((t.kind == 19) && (Entry.parts (.oneOf boundWs) [x]).sem r t) := rfl
theorem sem_oneOf (ws : List ByteArray) (s : ByteArray) : (TextP.oneOf ws).sem s = ws.any fun x => decide (x = s) := rfl

/-- No shape takes the tree. -/
def Rej (T : Int → Option Entry) (t : Tree) : Prop := ∀ n s, s.noQ = true → Sh.sem T n s t = false

theorem sem1_text (hT : Fine T) {r : Sh → Tree → Bool} {t : Tree} (h : t.text = qT) : ∀ s : Sh, s.noQ = true → s.sem1 T r t = false := by
  intro s
  induction s with
  | of ks =>
    intro _
    unfold Sh.sem1
    cases hk : T t.kind with
    | none => simp
    | some e =>
      have := hT.txt _ _ hk
      cases e with
      | parts p l => simp only [Entry.txt] at this; simp [Entry.sem, h, this]
      | many p n x => simp only [Entry.txt] at this; simp [Entry.sem, h, this]
  | either a b iha ihb =>
    intro hs
    unfold Sh.noQ at hs
    rw [Bool.and_eq_true] at hs
    unfold Sh.sem1
    rw [iha hs.1, ihb hs.2]; rfl
  | word ws =>
    intro hs
    unfold Sh.noQ at hs
    have h2 : (ws.any fun x => decide (x = qT)) = false := by simpa using hs
    rw [sem1_word, entry_parts, sem_oneOf, h, h2]; simp
  | bound x _ =>
    intro _
    have h2 : (boundWs.any fun x => decide (x = qT)) = false := by kernel_rfl
    rw [sem1_bound, entry_parts, sem_oneOf, h, h2]; simp

theorem rej_text (hT : Fine T) {t : Tree} (h : t.text = qT) : Rej T t := fun n s hs => by
  cases n with
  | zero => rfl
  | succ n => exact sem1_text hT h s hs

theorem rej_zero (hT : Fine T) : Rej T zeroT := fun n s hs => by
  cases n with
  | zero => rfl
  | succ n =>
    show s.sem1 T (Sh.sem T n) zeroT = false
    clear hs
    induction s with
    | of ks => unfold Sh.sem1; rw [show zeroT.kind = 0 from rfl, hT.zero]; simp
    | either a b iha ihb => unfold Sh.sem1; rw [iha, ihb]; rfl
    | word ws => unfold Sh.sem1; rfl
    | bound x _ => unfold Sh.sem1; rfl

theorem zip_all_false {r : Sh → Tree → Bool} {x : Tree} (hr : ∀ s, s.noQ = true → r s x = false) : ∀ (l : List Sh) (ts : List Tree), (∀ s ∈ l, s.noQ = true) → ts.length = l.length → x ∈ ts → ((l.zip ts).all fun y => r y.1 y.2) = false
  | [], [], _, _, hx => by cases hx
  | s :: l, t :: ts, hl, hlen, hx => by
    rw [List.zip_cons_cons, List.all_cons]
    rcases List.mem_cons.1 hx with rfl | hx
    · rw [hr s (hl s List.mem_cons_self)]; rfl
    · rw [zip_all_false hr l ts (fun s hs => hl s (List.mem_cons_of_mem _ hs)) (by simpa using hlen) hx, Bool.and_false]

theorem entry_kid {r : Sh → Tree → Bool} {e : Entry} {t x : Tree} (he : ∀ s ∈ e.kids, s.noQ = true) (hx : x ∈ t.kids) (hr : ∀ s, s.noQ = true → r s x = false) : e.sem r t = false := by
  cases e with
  | parts p l =>
    rw [entry_parts]
    by_cases hl : t.kids.length = l.length
    · rw [zip_all_false hr l t.kids he hl hx, Bool.and_false]
    · rw [decide_eq_false hl, Bool.and_false, Bool.false_and]
  | many p n s =>
    rw [entry_many]
    have : t.kids.all (r s) = false := by
      rw [List.all_eq_false]
      exact ⟨x, hx, by rw [hr s (he s (by simp [Entry.kids]))]; simp⟩
    rw [this, Bool.and_false]

/-- Above a node that no shape takes there is none that a shape takes. -/
theorem rej_kid (hT : Fine T) {t x : Tree} (hx : x ∈ t.kids) (h : Rej T x) : Rej T t := fun n s hs => by
  cases n with
  | zero => rfl
  | succ n =>
    show s.sem1 T (Sh.sem T n) t = false
    induction s with
    | of ks =>
      unfold Sh.sem1
      cases hk : T t.kind with
      | none => simp
      | some e => simp only; rw [entry_kid (hT.kids _ _ hk) hx (h n), Bool.and_false]
    | either a b iha ihb =>
      unfold Sh.noQ at hs
      rw [Bool.and_eq_true] at hs
      unfold Sh.sem1
      rw [iha hs.1, ihb hs.2]; rfl
    | word ws =>
      rw [sem1_word, entry_kid (e := .parts (.oneOf ws) []) (fun s hs => by simp [Entry.kids] at hs) hx (h n), Bool.and_false]
    | bound y ih =>
      unfold Sh.noQ at hs
      rw [sem1_bound, entry_kid (e := .parts (.oneOf boundWs) [y]) (fun s hs2 => by simp [Entry.kids] at hs2; subst hs2; exact hs) hx (h n), Bool.and_false]

theorem rej_replace (hT : Fine T) {b : Tree} (h : Rej T b) : ∀ {l : List Int} {t y : Tree}, t.get l = some y → Rej T (t.replace (l.map Int.toNat) b)
  | [], t, y, _ => by rw [List.map_nil, Tree.replace]; exact h
  | z :: p, t, y, hg => by
    obtain ⟨m, x, rfl, hx, h2⟩ := Tree.get_split hg
    rw [List.map_cons, show ((m : Int)).toNat = m by omega, Tree.replace_cons hx]
    refine rej_kid hT (x := x.replace (p.map Int.toNat) b) ?_ (rej_replace hT h h2)
    rw [Tree.kids_mk]
    exact List.mem_of_getElem? (List.getElem?_set_self (List.getElem?_eq_some_iff.1 hx).1)

/-- A node that some shape takes: what its kind asks. -/
def Taken (T : Int → Option Entry) (r : Sh → Tree → Bool) (t : Tree) : Prop :=
  (∃ e, T t.kind = some e ∧ e.sem r t = true) ∨ (t.kind = 38 ∧ t.kids.length = 0) ∨ (t.kind = 19 ∧ t.kids.length = 1 ∧ ∀ x ∈ t.kids, ∃ s, s.noQ = true ∧ r s x = true)

theorem taken_of {r : Sh → Tree → Bool} {t : Tree} : ∀ s : Sh, s.noQ = true → s.sem1 T r t = true → Taken T r t := by
  intro s
  induction s with
  | of ks =>
    intro _ h
    unfold Sh.sem1 at h
    rw [Bool.and_eq_true] at h
    cases hk : T t.kind with
    | none => rw [hk] at h; cases h.2
    | some e => rw [hk] at h; exact .inl ⟨e, hk, h.2⟩
  | either a b iha ihb =>
    intro hs h
    unfold Sh.noQ at hs
    rw [Bool.and_eq_true] at hs
    unfold Sh.sem1 at h
    rw [Bool.or_eq_true] at h
    rcases h with h | h
    · exact iha hs.1 h
    · exact ihb hs.2 h
  | word ws =>
    intro _ h
    rw [sem1_word, entry_parts] at h
    simp only [Bool.and_eq_true, decide_eq_true_eq, beq_iff_eq] at h
    exact .inr (.inl ⟨h.1, by simpa using h.2.1.2⟩)
  | bound y _ =>
    intro hs h
    unfold Sh.noQ at hs
    rw [sem1_bound, entry_parts] at h
    simp only [Bool.and_eq_true, decide_eq_true_eq, beq_iff_eq] at h
    refine .inr (.inr ⟨h.1, by simpa using h.2.1.2, fun x hx => ⟨y, hs, ?_⟩⟩)
    have hl : t.kids.length = 1 := by simpa using h.2.1.2
    obtain ⟨k, hk⟩ : ∃ k, t.kids = [k] := by
      cases hts : t.kids with
      | nil => rw [hts] at hl; cases hl
      | cons k ks => cases ks with
        | nil => exact ⟨k, rfl⟩
        | cons _ _ => rw [hts] at hl; simp at hl
    rw [hk] at hx h
    simp at hx
    subst hx
    simpa using h.2.2

/-- With one more node without a kind no shape takes it. -/
theorem rej_more (hT : Fine T) {r : Sh → Tree → Bool} {x y : Tree} (hk : y.kind = x.kind) (hy : y.kids = x.kids ++ [zeroT]) (h : Taken T r x) : Rej T y := fun n s hs => by
  cases n with
  | zero => rfl
  | succ n =>
    show s.sem1 T (Sh.sem T n) y = false
    cases hb : s.sem1 T (Sh.sem T n) y with
    | false => rfl
    | true =>
      exfalso
      have hlen : y.kids.length = x.kids.length + 1 := by rw [hy]; simp
      rcases taken_of s hs hb with ⟨e, he, hes⟩ | ⟨h1, h2⟩ | ⟨h1, h2, _⟩
      · rcases h with ⟨e', he', hes'⟩ | ⟨h3, h4⟩ | ⟨h3, h4, _⟩
        · rw [hk, he'] at he
          obtain rfl := Option.some.inj he
          cases e' with
          | parts p l =>
            rw [entry_parts] at hes hes'
            simp only [Bool.and_eq_true, decide_eq_true_eq] at hes hes'
            have := hes.1.2
            have := hes'.1.2
            omega
          | many p m sx =>
            rw [entry_many, Bool.and_eq_true] at hes
            have := List.all_eq_true.1 hes.2 zeroT (by rw [hy]; simp)
            rw [rej_zero hT n sx (hT.kids _ _ he' sx (by simp [Entry.kids]))] at this
            cases this
        · rw [hk, h3, hT.word] at he; cases he
        · rw [hk, h3, hT.bound] at he; cases he
      · omega
      · rcases h with ⟨e', he', _⟩ | ⟨h3, h4⟩ | ⟨h3, h4, _⟩
        · rw [hk] at h1; rw [h1, hT.bound] at he'; cases he'
        · rw [hk, h3] at h1; cases h1
        · omega

theorem zip_all_kid {r : Sh → Tree → Bool} : ∀ (l : List Sh) (ts : List Tree) {x : Tree}, ts.length = l.length → ((l.zip ts).all fun y => r y.1 y.2) = true → x ∈ ts → ∃ s ∈ l, r s x = true
  | [], [], x, _, _, hx => by cases hx
  | s :: l, t :: ts, x, hlen, h, hx => by
    rw [List.zip_cons_cons, List.all_cons, Bool.and_eq_true] at h
    rcases List.mem_cons.1 hx with rfl | hx
    · exact ⟨s, List.mem_cons_self, h.1⟩
    · obtain ⟨s', h1, h2⟩ := zip_all_kid l ts (by simpa using hlen) h.2 hx
      exact ⟨s', List.mem_cons_of_mem _ h1, h2⟩

/-- The kids of a node that some shape takes are taken, too. -/
theorem taken_kid (hT : Fine T) {n : Nat} {t x : Tree} (h : Taken T (Sh.sem T n) t) (hx : x ∈ t.kids) : ∃ m, Taken T (Sh.sem T m) x := by
  have hs : ∃ s, s.noQ = true ∧ Sh.sem T n s x = true := by
    rcases h with ⟨e, he, hes⟩ | ⟨_, h2⟩ | ⟨_, _, h3⟩
    · cases e with
      | parts p l =>
        rw [entry_parts] at hes
        simp only [Bool.and_eq_true, decide_eq_true_eq] at hes
        obtain ⟨s, h1, h2⟩ := zip_all_kid l t.kids hes.1.2 hes.2 hx
        exact ⟨s, hT.kids _ _ he s h1, h2⟩
      | many p m s =>
        rw [entry_many, Bool.and_eq_true] at hes
        exact ⟨s, hT.kids _ _ he s (by simp [Entry.kids]), List.all_eq_true.1 hes.2 x hx⟩
    · rw [List.length_eq_zero_iff.1 h2] at hx; cases hx
    · exact h3 x hx
  obtain ⟨s, h1, h2⟩ := hs
  cases n with
  | zero => cases h2
  | succ n => exact ⟨n, taken_of s h1 h2⟩

theorem taken_get (hT : Fine T) : ∀ {l : List Int} {t y : Tree} {n : Nat}, Taken T (Sh.sem T n) t → t.get l = some y → ∃ m, Taken T (Sh.sem T m) y
  | [], t, y, n, h, hg => by simp [Tree.get] at hg; subst hg; exact ⟨n, h⟩
  | z :: p, t, y, n, h, hg => by
    obtain ⟨m, x, rfl, hx, h2⟩ := Tree.get_split hg
    obtain ⟨k, h3⟩ := taken_kid hT h (List.mem_of_getElem? hx)
    exact taken_get hT h3 h2

theorem sem_strip : ∀ (n : Nat) (s : Sh) (t : Tree), Sh.sem T n s t.strip = Sh.sem T n s t
  | 0, _, _ => rfl
  | n + 1, s, t => by
    have ih := fun s t => sem_strip n s t
    have he : ∀ e : Entry, e.sem (Sh.sem T n) t.strip = e.sem (Sh.sem T n) t := by
      intro e
      have hz : ∀ (l : List Sh) (ts : List Tree), ((l.zip (ts.map Tree.strip)).all fun x => Sh.sem T n x.1 x.2) = ((l.zip ts).all fun x => Sh.sem T n x.1 x.2) := by
        intro l
        induction l with
        | nil => intro ts; rfl
        | cons a l ih2 =>
          intro ts
          cases ts with
          | nil => rfl
          | cons b ts => rw [List.map_cons, List.zip_cons_cons, List.zip_cons_cons, List.all_cons, List.all_cons, ih, ih2]
      cases e with
      | parts p l => rw [entry_parts, entry_parts, strip_kids, hz, List.length_map, show t.strip.text = t.text by rw [strip_eq]; rfl]
      | many p m x =>
        rw [entry_many, entry_many, strip_kids, List.length_map, List.all_map, show t.strip.text = t.text by rw [strip_eq]; rfl]
        have : (Sh.sem T n x ∘ Tree.strip) = Sh.sem T n x := funext fun y => ih x y
        rw [this]
    show s.sem1 T (Sh.sem T n) t.strip = s.sem1 T (Sh.sem T n) t
    have hk : t.strip.kind = t.kind := by rw [strip_eq]; rfl
    induction s with
    | of ks =>
      unfold Sh.sem1
      rw [hk]
      cases T t.kind with
      | none => rfl
      | some e => simp only; rw [he]
    | either a b iha ihb => unfold Sh.sem1; rw [iha, ihb]
    | word ws => rw [sem1_word, sem1_word, hk, he]
    | bound x _ => rw [sem1_bound, sem1_bound, hk, he]
end

theorem levels_strip (t : Tree) : t.strip.levels = t.levels := by
  refine Tree.induct (P := fun t => t.strip.levels = t.levels) (fun t ih => ?_) t
  rw [Tree.levels_eq, Tree.levels_eq t, strip_kids]
  have h : ∀ ts : List Tree, (∀ x ∈ ts, x.strip.levels = x.levels) → Tree.levelsL (ts.map Tree.strip) = Tree.levelsL ts := by
    intro ts
    induction ts with
    | nil => intro _; rfl
    | cons a ts ih2 => intro h; rw [List.map_cons, Tree.levelsL, Tree.levelsL, h a List.mem_cons_self, ih2 (fun x hx => h x (List.mem_cons_of_mem _ hx))]
  rw [h t.kids ih]

theorem prog_strip (t : Tree) : progB t.strip = progB t := by unfold progB; rw [levels_strip, sem_strip]

/-- What is spoilt is no program. -/
theorem prog_spoilt {t y b : Tree} {l : List Int} (hg : t.get l = some y) (h : Rej tab b) : progB (t.replace (l.map Int.toNat) b) = false := rej_replace tab_fine h hg _ _ rfl

theorem prog_taken {t : Tree} (h : progB t = true) : ∃ n, Taken tab (Sh.sem tab n) t := by
  unfold progB at h
  cases hl : t.levels with
  | zero => rw [hl] at h; cases h
  | succ n => rw [hl] at h; exact ⟨n, taken_of (.of [2]) rfl h⟩

end Go.Proofs.YtlbaaiglebpjiaaGreatDoor
