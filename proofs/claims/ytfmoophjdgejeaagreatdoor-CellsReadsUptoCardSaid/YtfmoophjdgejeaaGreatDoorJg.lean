import Derived.RowKit
import Derived.Below
import Derived.WalkKit
/-
  Tuples, as lists of numbers: the k-th one, the next one, their values. No program stands here.
-/
namespace Go.Proofs.YtfmoophjdgejeaaGreatDoor

def prodL : List Nat → Nat
  | [] => 1
  | n :: ns => n * prodL ns

/-- The k-th tuple. -/
def tupN : List Nat → Nat → List Nat
  | [], _ => []
  | n :: ns, k => (k / prodL ns) % n :: tupN ns k

/-- The next tuple, and whether there is one. -/
def advL : List Nat → List Nat → List Nat × Bool
  | x :: xs, n :: ns => if (advL xs ns).2 then (x :: (advL xs ns).1, true) else if x + 1 < n then ((x + 1) :: (advL xs ns).1, true) else (0 :: (advL xs ns).1, false)
  | _, _ => ([], false)

/-- The value of a tuple. -/
def hornL : List Nat → List Nat → Nat
  | _ :: ns, x :: xs => x * prodL ns + hornL ns xs
  | _, _ => 0

def Pos (ss : List Nat) : Prop := ∀ n ∈ ss, 1 ≤ n
def InL : List Nat → List Nat → Prop
  | [], [] => True
  | n :: ns, x :: xs => x < n ∧ InL ns xs
  | _, _ => False

theorem Pos.tail {n : Nat} {ns : List Nat} (h : Pos (n :: ns)) : Pos ns := fun m hm => h m (List.mem_cons_of_mem _ hm)
theorem Pos.head {n : Nat} {ns : List Nat} (h : Pos (n :: ns)) : 1 ≤ n := h n List.mem_cons_self

theorem prod_pos : ∀ {ss : List Nat}, Pos ss → 1 ≤ prodL ss
  | [], _ => Nat.le_refl _
  | _ :: _, h => Nat.mul_pos h.head (prod_pos h.tail)

theorem tup_len : ∀ (ss : List Nat) (k : Nat), (tupN ss k).length = ss.length
  | [], _ => rfl
  | _ :: ns, k => by rw [tupN, List.length_cons, tup_len ns, List.length_cons]

theorem tup_in : ∀ {ss : List Nat} (_ : Pos ss) (k : Nat), InL ss (tupN ss k)
  | [], _, _ => trivial
  | _ :: _, h, k => ⟨Nat.mod_lt _ h.head, tup_in h.tail k⟩

theorem tup_zero : ∀ (ss : List Nat), tupN ss 0 = List.replicate ss.length 0
  | [] => rfl
  | _ :: ns => by rw [tupN, Nat.zero_div, Nat.zero_mod, tup_zero ns]; rfl

theorem tup_add : ∀ {ss : List Nat} (_ : Pos ss) (k m : Nat), tupN ss (k + m * prodL ss) = tupN ss k
  | [], _, _, _ => rfl
  | n :: ns, h, k, m => by
    have hp := prod_pos h.tail
    rw [tupN, tupN]
    have e : k + m * prodL (n :: ns) = k + (m * n) * prodL ns := by rw [prodL, Nat.mul_assoc]
    rw [e, tup_add h.tail k (m * n), Nat.add_mul_div_right _ _ (by omega), Nat.add_mul_mod_self_right]

theorem adv_tup : ∀ {ss : List Nat} (_ : Pos ss) (k : Nat), advL (tupN ss k) ss = (tupN ss (k + 1), decide ((k + 1) % prodL ss ≠ 0))
  | [], _, k => by simp [tupN, advL, prodL, Nat.mod_one]
  | n :: ns, h, k => by
    have hp := prod_pos h.tail
    have hn := h.head
    have ih := adv_tup h.tail k
    rw [tupN, advL, ih, tupN, prodL]
    generalize hP : prodL ns = P at *
    dsimp only
    by_cases hd : (k + 1) % P = 0
    · have e1 : (k + 1) / P = k / P + 1 := Nat.succ_div_of_mod_eq_zero hd
      rw [decide_eq_false (by simp [hd]), if_neg (by simp), e1]
      have e2 : (k + 1) % (n * P) = P * ((k / P + 1) % n) := by
        rw [Nat.mul_comm n P, Nat.mod_mul, hd, Nat.zero_add, e1]
      have hlt := Nat.mod_lt (k / P) hn
      by_cases hx : k / P % n + 1 < n
      · have e3 : (k / P + 1) % n = k / P % n + 1 := by
          rw [Nat.add_mod, Nat.mod_eq_of_lt (show 1 < n by omega), Nat.mod_eq_of_lt hx]
        rw [if_pos hx, e3, e2, e3]
        congr 1
        rw [decide_eq_true]
        exact Nat.mul_ne_zero (by omega) (by omega)
      · have e3 : (k / P + 1) % n = 0 := by
          have : k / P % n + 1 = n := by omega
          rw [← Nat.mod_add_mod, this, Nat.mod_self]
        rw [if_neg hx, e3, e2, e3, Nat.mul_zero]
        simp
    · have e1 : (k + 1) / P = k / P := Nat.succ_div_of_mod_ne_zero hd
      rw [decide_eq_true hd, if_pos rfl, e1]
      congr 1
      rw [decide_eq_true]
      intro hz
      apply hd
      have : P ∣ k + 1 := Nat.dvd_trans (Nat.dvd_mul_left P n) (Nat.dvd_of_mod_eq_zero hz)
      exact Nat.mod_eq_zero_of_dvd this

theorem adv_len : ∀ (xs ns : List Nat), xs.length = ns.length → (advL xs ns).1.length = xs.length
  | [], _, _ => by simp [advL]
  | _ :: _, [], h => by simp at h
  | x :: xs, n :: ns, h => by
    have ih := adv_len xs ns (by simpa using h)
    rw [advL]
    split
    · simp [ih]
    · split <;> simp [ih]

theorem adv_in : ∀ (xs ns : List Nat), InL ns xs → InL ns (advL xs ns).1
  | [], [], _ => trivial
  | [], _ :: _, h => h.elim
  | _ :: _, [], h => h.elim
  | x :: xs, n :: ns, h => by
    have ih := adv_in xs ns h.2
    rw [advL]
    split
    · exact ⟨h.1, ih⟩
    · split
      · exact ⟨by assumption, ih⟩
      · exact ⟨by have := h.1; omega, ih⟩

/-- A part at the end that has been turned through. -/
theorem adv_front : ∀ (a s b t : List Nat), a.length = s.length → (advL b t).2 = true → advL (a ++ b) (s ++ t) = (a ++ (advL b t).1, true)
  | [], [], b, t, _, h => by rw [List.nil_append, List.nil_append, List.nil_append, ← h]
  | [], _ :: _, _, _, h, _ => by simp at h
  | _ :: _, [], _, _, h, _ => by simp at h
  | x :: a, n :: s, b, t, hl, h => by
    rw [List.cons_append, List.cons_append, advL, adv_front a s b t (by simpa using hl) h]
    simp

theorem horn_lt : ∀ {ss t : List Nat}, InL ss t → hornL ss t < prodL ss
  | [], [], _ => Nat.one_pos
  | n :: ns, x :: xs, h => by
    have ih := horn_lt h.2
    rw [hornL, prodL]
    have : (x + 1) * prodL ns ≤ n * prodL ns := Nat.mul_le_mul_right _ h.1
    rw [Nat.add_mul, Nat.one_mul] at this
    omega
  | [], _ :: _, h => h.elim
  | _ :: _, [], h => h.elim

theorem tup_horn : ∀ {ss t : List Nat} (_ : Pos ss), InL ss t → tupN ss (hornL ss t) = t
  | [], [], _, _ => rfl
  | n :: ns, x :: xs, hp, h => by
    have hlt := horn_lt h.2
    have h1 := prod_pos hp.tail
    rw [hornL, tupN]
    have e1 : (x * prodL ns + hornL ns xs) / prodL ns = x := by
      rw [Nat.add_comm, Nat.add_mul_div_right _ _ (by omega), Nat.div_eq_of_lt hlt, Nat.zero_add]
    rw [e1, Nat.mod_eq_of_lt h.1, Nat.add_comm, tup_add hp.tail, tup_horn hp.tail h.2]
  | [], _ :: _, _, h => h.elim
  | _ :: _, [], _, h => h.elim

theorem horn_tup : ∀ {ss : List Nat} (_ : Pos ss) (k : Nat), hornL ss (tupN ss k) = k % prodL ss
  | [], _, k => by rw [tupN, prodL, Nat.mod_one]; rfl
  | n :: ns, hp, k => by
    rw [tupN, hornL, horn_tup hp.tail, prodL, Nat.mul_comm n, Nat.mod_mul, Nat.mul_comm, Nat.add_comm]

/-- The tuples of sizes, in lexicographic order. -/
def tups (ss : List Nat) : List (List Nat) := (List.range (prodL ss)).map (tupN ss)

theorem tups_len (ss : List Nat) : (tups ss).length = prodL ss := by unfold tups; simp
theorem tups_get (ss : List Nat) (k : Nat) (h : k < prodL ss) : (tups ss)[k]? = some (tupN ss k) := by
  unfold tups; rw [List.getElem?_map, List.getElem?_range h]; rfl

theorem tup_mod : ∀ {ss : List Nat} (_ : Pos ss) (k : Nat), tupN ss (k % prodL ss) = tupN ss k := fun {ss} hp k => by
  have h := tup_add hp (k % prodL ss) (k / prodL ss)
  rw [Nat.mul_comm, Nat.mod_add_div] at h
  exact h.symm

theorem prod_snoc : ∀ (ss : List Nat) (n : Nat), prodL (ss ++ [n]) = prodL ss * n
  | [], n => by simp [prodL]
  | m :: ss, n => by rw [List.cons_append, prodL, prod_snoc ss n, prodL, Nat.mul_assoc]

theorem tup_snoc : ∀ (ss : List Nat) (n k : Nat), 1 ≤ n → tupN (ss ++ [n]) k = tupN ss (k / n) ++ [k % n]
  | [], n, k, _ => by simp [tupN, prodL]
  | m :: ss, n, k, h => by
    rw [List.cons_append, tupN, tup_snoc ss n k h, prod_snoc, tupN, List.cons_append, Nat.mul_comm, Nat.div_div_eq_div_mul]

theorem range_mul (a n : Nat) : List.range (a * n) = (List.range a).flatMap fun q => (List.range n).map fun x => q * n + x := by
  induction a with
  | zero => simp
  | succ a ih =>
    rw [Nat.add_mul, Nat.one_mul, List.range_add, ih, List.range_succ, List.flatMap_append]
    simp

/-- The tuples of one size more. -/
theorem tups_snoc (ss : List Nat) (n : Nat) (h : 1 ≤ n) : tups (ss ++ [n]) = (tups ss).flatMap fun t => (List.range n).map fun x => t ++ [x] := by
  unfold tups
  rw [prod_snoc, range_mul, List.map_flatMap, List.flatMap_map]
  congr 1
  funext q
  rw [List.map_map]
  apply List.map_congr_left
  intro x hx
  rw [List.mem_range] at hx
  show tupN (ss ++ [n]) (q * n + x) = tupN ss q ++ [x]
  rw [tup_snoc ss n _ h]
  congr 2
  · rw [Nat.add_comm, Nat.add_mul_div_right _ _ (by omega), Nat.div_eq_of_lt hx, Nat.zero_add]
  · rw [Nat.add_comm, Nat.add_mul_mod_self_right, Nat.mod_eq_of_lt hx]

end Go.Proofs.YtfmoophjdgejeaaGreatDoor
/-
  How lists of integers and of tables lie in memory.
-/
namespace Go.Proofs.YtfmoophjdgejeaaGreatDoor
open Go.RowKit

/-- A slice that reads as integers. -/
def IntsV (w : World) (v : Value) (l : List Int) : Prop :=
  ∃ p cap g o, v = .slice p l.length cap ∧ (l ≠ [] → p = some ⟨g, o, none⟩ ∧ g < w.heap.size) ∧ ∀ i z, l[i]? = some z → w.cell? ⟨g, o + i, none⟩ = some (.int .i64 z)

theorem IntsV.of_blocks {w w' : World} {v : Value} {l : List Int} (h : IntsV w v l) (hs : w.heap.size ≤ w'.heap.size) (hb : ∀ p n c, v = .slice p n c → ∀ g o, p = some ⟨g, o, none⟩ → g < w.heap.size → w'.heap[g]? = w.heap[g]?) : IntsV w' v l := by
  obtain ⟨p, cap, g, o, h1, h2, h3⟩ := h
  refine ⟨p, cap, g, o, h1, fun h => ⟨(h2 h).1, Nat.lt_of_lt_of_le (h2 h).2 hs⟩, fun i z hz => ?_⟩
  have hg := h2 (fun e => by rw [e] at hz; simp at hz)
  exact (World.cell?_of_block (a := ⟨g, o + i, none⟩) (hb p _ cap h1 g o hg.1 hg.2)).trans (h3 i z hz)

theorem IntsV.later {w w' : World} {v : Value} {l : List Int} (h : IntsV w v l) (hb : Below w.heap.size w w') : IntsV w' v l :=
  h.of_blocks hb.size (fun _ _ _ _ g _ _ hg => hb.block g hg)

structure Tab where
  name : ByteArray
  kind : Int
  cols : List Int
  lo : Int
  hi : Int
  first : Int

/-- A table as a value. -/
def tabV (t : Tab) (cv : Value) : Value := .agg #[.string t.name, .int .i64 t.kind, cv, .int .i64 t.lo, .int .i64 t.hi, .int .i64 t.first]
def tabC (t : Tab) (cv : Value) : List Value := [.string t.name, .int .i64 t.kind, cv, .int .i64 t.lo, .int .i64 t.hi, .int .i64 t.first]

/-- A table lies at a place. -/
structure TabAt (w : World) (g o : Nat) (t : Tab) (cv : Value) : Prop where
  c0 : w.cell? ⟨g, o, none⟩ = some (.string t.name)
  c1 : w.cell? ⟨g, o + 1, none⟩ = some (.int .i64 t.kind)
  c2 : w.cell? ⟨g, o + 2, none⟩ = some cv
  c3 : w.cell? ⟨g, o + 3, none⟩ = some (.int .i64 t.lo)
  c4 : w.cell? ⟨g, o + 4, none⟩ = some (.int .i64 t.hi)
  c5 : w.cell? ⟨g, o + 5, none⟩ = some (.int .i64 t.first)

theorem TabAt.of_block {w w' : World} {g o : Nat} {t : Tab} {cv : Value} (h : TabAt w g o t cv) (hb : w'.heap[g]? = w.heap[g]?) : TabAt w' g o t cv := by
  have e : ∀ k, w'.cell? ⟨g, k, none⟩ = w.cell? ⟨g, k, none⟩ := fun k => World.cell?_of_block (a := ⟨g, k, none⟩) hb
  exact ⟨by rw [e]; exact h.c0, by rw [e]; exact h.c1, by rw [e]; exact h.c2, by rw [e]; exact h.c3, by rw [e]; exact h.c4, by rw [e]; exact h.c5⟩

/-- A slice that reads as tables. -/
def TabsV (w : World) (v : Value) (ts : List Tab) : Prop :=
  ∃ p cap g o, ∃ ks : Nat → Value, v = .slice p ts.length cap ∧ (ts ≠ [] → p = some ⟨g, o, none⟩ ∧ g < w.heap.size) ∧ ∀ i t, ts[i]? = some t → TabAt w g (o + i * 6) t (ks i) ∧ IntsV w (ks i) t.cols

theorem TabsV.later {w w' : World} {v : Value} {ts : List Tab} (h : TabsV w v ts) (hb : Below w.heap.size w w') : TabsV w' v ts := by
  obtain ⟨p, cap, g, o, ks, h1, h2, h3⟩ := h
  refine ⟨p, cap, g, o, ks, h1, fun h => ⟨(h2 h).1, Nat.lt_of_lt_of_le (h2 h).2 hb.size⟩, fun i t ht => ?_⟩
  have hg := h2 (fun e => by rw [e] at ht; simp at ht)
  exact ⟨(h3 i t ht).1.of_block (hb.block g hg.2), (h3 i t ht).2.later hb⟩

theorem drop_step {α : Type} {l : List α} {k : Nat} {z : α} (h : l[k]? = some z) : l.drop k = z :: l.drop (k + 1) := by
  obtain ⟨h1, h2⟩ := List.getElem?_eq_some_iff.1 h
  rw [List.drop_eq_getElem_cons h1, h2]

theorem take_step {α : Type} {l : List α} {k : Nat} {z : α} (h : l[k]? = some z) : l.take (k + 1) = l.take k ++ [z] := by
  obtain ⟨h1, h2⟩ := List.getElem?_eq_some_iff.1 h
  rw [List.take_add_one, h]; rfl

/-- The sizes and columns that a layout may have. -/
def sizeB (z : Int) : Bool := decide (1 ≤ z) && decide (z ≤ 6)
def colB (n : Nat) (z : Int) : Bool := decide (0 ≤ z) && decide (z < n)
def soundB (ss : List Int) : Bool := ss.all sizeB
def colsB (ss cs : List Int) : Bool := cs.all (colB ss.length) && decide (cs.length ≤ 3)
/-- The sizes of the sorts of columns. -/
def lensL (ss cs : List Int) : List Nat := cs.map fun c => (ss.getD c.toNat 0).toNat

end Go.Proofs.YtfmoophjdgejeaaGreatDoor
