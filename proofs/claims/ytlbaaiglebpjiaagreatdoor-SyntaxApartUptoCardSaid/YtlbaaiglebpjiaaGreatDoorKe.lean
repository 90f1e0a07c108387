/-
  spoil: it writes over the nodes of a tree of one's own, and over nothing else.
-/
import Derived.Test.YtlbaaiglebpjiaaGreatDoorKd
import Derived.Test.YtlbaaiglebpjiaaGreatDoorZf
namespace Go.Proofs.YtlbaaiglebpjiaaGreatDoor
open Go.RowKit Go.Shelf Go.Lib

/-- Only blocks of a kind were written over. -/
structure ApartF (F : Nat → Prop) (w w' : World) : Prop where
  os : w'.os = w.os
  tape : w'.tape = w.tape
  output : w'.output = w.output
  size : w.heap.size ≤ w'.heap.size
  block : ∀ k, k < w.heap.size → ¬ F k → w'.heap[k]? = w.heap[k]?

theorem ApartF.refl (F : Nat → Prop) (w : World) : ApartF F w w := ⟨rfl, rfl, rfl, Nat.le_refl _, fun _ _ _ => rfl⟩
theorem ApartF.trans {F : Nat → Prop} {a b c : World} (h : ApartF F a b) (k : ApartF F b c) : ApartF F a c :=
  ⟨k.os.trans h.os, k.tape.trans h.tape, k.output.trans h.output, Nat.le_trans h.size k.size, fun i h1 h2 => (k.block i (Nat.lt_of_lt_of_le h1 h.size) h2).trans (h.block i h1 h2)⟩
theorem ApartF.mono {F F' : Nat → Prop} {a b : World} (h : ApartF F a b) (hm : ∀ k, F k → F' k) : ApartF F' a b := ⟨h.os, h.tape, h.output, h.size, fun i h1 h2 => h.block i h1 (fun e => h2 (hm i e))⟩
theorem ApartF.set {F : Nat → Prop} {a b : World} (h : ApartF F a b) (p : Addr) (v : Value) (hp : F p.block) : ApartF F a (b.setCell p v) :=
  ⟨h.os, h.tape, h.output, by simpa [World.setCell] using h.size, fun i h1 h2 => (Below.heap_setCell _ _ _ _ (fun e => h2 (by rw [e]; exact hp))).trans (h.block i h1 h2)⟩
theorem ApartF.below {F : Nat → Prop} {B : Nat} {a b : World} (h : ApartF F a b) (hF : ∀ k, F k → B ≤ k) (hB : B ≤ a.heap.size) : Below B a b :=
  ⟨h.os, h.tape, h.output, h.size, fun k hk => h.block k (by omega) (fun e => by have := hF k e; omega)⟩

/-- What is left of a row of trees to be spoilt. -/
def LeftO (w : World) (g : Nat) (ts : List Tree) (ks : Nat → Value) (Fs : Nat → Nat → Prop) (k : Nat) : Prop :=
  ∀ (i : Nat) x, k ≤ i → ts[i]? = some x → NodeAt w g (i * 5) x (ks i) ∧ (∀ j, j < 5 → w.frozen? ⟨g, i * 5 + j, none⟩ = false) ∧ KidsO w (ks i) x.kids (Fs i)

/-- One node was written over, what lies below it was spoilt: the rest is left. -/
theorem LeftO.step {w w3 : World} {g : Nat} {ts : List Tree} {ks : Nat → Value} {Fs : Nat → Nat → Prop} {k : Nat} {s : ByteArray} {z : Int} (h : LeftO w g ts ks Fs k) (hk : k < ts.length)
    (h3 : ApartF (Fs k) ((w.setCell ⟨g, k * 5 + 1, none⟩ (.string s)).setCell ⟨g, k * 5 + 2, none⟩ (.int .i64 z)) w3) (hg : g < w.heap.size) (hgF : ∀ i b, i < ts.length → Fs i b → b ≠ g)
    (hd : ∀ i j b, i < ts.length → j < ts.length → Fs i b → Fs j b → i = j) (hlt : ∀ (i : Nat) b, i < ts.length → Fs i b → b < w.heap.size) : LeftO w3 g ts ks Fs (k + 1) := by
  intro i x hi hx
  have hil := (List.getElem?_eq_some_iff.1 hx).1
  obtain ⟨h1, h2, h4⟩ := h i x (by omega) hx
  have hsz : ((w.setCell ⟨g, k * 5 + 1, none⟩ (.string s)).setCell ⟨g, k * 5 + 2, none⟩ (.int .i64 z)).heap.size = w.heap.size := by simp [World.setCell]
  have hgb : w3.heap[g]? = ((w.setCell ⟨g, k * 5 + 1, none⟩ (.string s)).setCell ⟨g, k * 5 + 2, none⟩ (.int .i64 z)).heap[g]? := h3.block g (by rw [hsz]; exact hg) (fun e => hgF k g hk e rfl)
  have hc : ∀ j, j < 5 → w3.cell? ⟨g, i * 5 + j, none⟩ = w.cell? ⟨g, i * 5 + j, none⟩ := fun j hj => by
    rw [World.cell?_of_block (a := ⟨g, i * 5 + j, none⟩) hgb]
    have n1 : k * 5 + 1 ≠ i * 5 + j := by omega
    have n2 : k * 5 + 2 ≠ i * 5 + j := by omega
    simp [go_sem]
  have hf : ∀ j, j < 5 → w3.frozen? ⟨g, i * 5 + j, none⟩ = w.frozen? ⟨g, i * 5 + j, none⟩ := fun j hj => by
    rw [World.frozen?_of_block (a := ⟨g, i * 5 + j, none⟩) hgb]
    simp [go_sem]
  refine ⟨h1.of_cells hc, fun j hj => (hf j hj).trans (h2 j hj), h4.keep (fun b hb => ?_)⟩
  rw [h3.block b (by rw [hsz]; exact hlt i b hil hb) (fun e => by have := hd i k b hil hk hb e; omega), Below.heap_setCell _ _ _ _ (hgF i b hil hb), Below.heap_setCell _ _ _ _ (hgF i b hil hb)]

theorem KidsO.lt {w : World} {v : Value} {ts : List Tree} {F : Nat → Prop} (h : KidsO w v ts F) : KidsO w v ts (fun b => F b ∧ b < w.heap.size) := by
  induction h with
  | mk p cap ts F g ks Fs hcap hp ha hz hk hF hd ih =>
    refine KidsO.mk p cap ts _ g ks (fun i b => Fs i b ∧ b < w.heap.size) hcap (fun h => ⟨(hp h).1, (hp h).2, ?_⟩) ha hz ih (fun i b hi hb => ⟨⟨(hF i b hi hb.1).1, hb.2⟩, (hF i b hi hb.1).2⟩) (fun i j b hi hj h1 h2 => hd i j b hi hj h1.1 h2.1)
    cases ts with
    | nil => exact absurd rfl h
    | cons t ts => exact (ha 0 t rfl).lt

set_option maxRecDepth 100000 in
set_option maxHeartbeats 6400000 in
theorem spoil_any (t : Tree) : ∀ (kv : Value) (w : World) (F : Nat → Prop), KidsO w kv t.kids F → (∀ b, F b → b < w.heap.size) → TextsOk t → t.count ≤ 4194304 →
    Calls Tryz.prog 41 #[kv] w fun e w' => (∃ r, e = .returned r) ∧ ApartF F w w' := by
  refine Tree.induct (P := fun t => ∀ (kv : Value) (w : World) (F : Nat → Prop), KidsO w kv t.kids F → (∀ b, F b → b < w.heap.size) → TextsOk t → t.count ≤ 4194304 →
    Calls Tryz.prog 41 #[kv] w fun e w' => (∃ r, e = .returned r) ∧ ApartF F w w') (fun t ih => ?_) t
  intro kv w F hO hFl htx hct
  obtain ⟨p, cap, g, ks, Fs, rfl, hp, ha, hz, hk, hF, hd⟩ := hO.open
  have hlen : t.kids.length < 4194304 := by have := Tree.length_le_countL t.kids; have := Tree.count_eq t; omega
  have hL : LeftO w g t.kids ks Fs 0 := fun i x _ hx => ⟨ha i x hx, hz i x hx, hk i x hx⟩
  have HP := hidden hp
  have HF := hidden hF
  have HD := hidden hd
  have HFL := hidden hFl
  have HTX := hidden htx
  have HC : Hid (Tree.countL t.kids < 4194304) := by have := Tree.count_eq t; show _ < _; omega
  clear hO hp ha hz hk hF hd hFl htx hct
  go_enter Tryz.func41, Tryz.ntmps41
  go_wp2_with fail
  go_loopw [5] (fun i wr => ∃ k : Nat, k ≤ t.kids.length ∧ i = .int .i64 k ∧ Hid (ApartF F w wr ∧ LeftO wr g t.kids ks Fs k)) (fun i _ => t.kids.length - (intOf i).toNat)
  case atStart => exact ⟨0, Nat.zero_le _, rfl, ApartF.refl _ _, hL⟩
  case round =>
    obtain ⟨k, hkl, rfl, hh⟩ := hrel
    clear hL
    by_cases hlt : k < t.kids.length
    · obtain ⟨x, hx⟩ : ∃ x, t.kids[k]? = some x := ⟨_, List.getElem?_eq_getElem hlt⟩
      obtain ⟨hA, hL⟩ := hh.out
      obtain ⟨rfl, hgF⟩ := HP.out (fun h => by rw [h] at hlt; exact absurd hlt (Nat.not_lt_zero _))
      have hg : g < wr.heap.size := Nat.lt_of_lt_of_le (HFL.out g hgF) hA.size
      obtain ⟨⟨c0, c1, c2, c3, c4⟩, hz, hO⟩ := hL k x (Nat.le_refl _) hx
      have z1 := hz 1 (by omega)
      have z2 := hz 2 (by omega)
      obtain ⟨q, qc, hkf⟩ : ∃ q qc, ks k = .slice q x.kids.length qc := by
        obtain ⟨q, qc, _, _, _, e, _⟩ := hO.open
        exact ⟨q, qc, e⟩
      have hts : x.text.size ≤ 4096 := HTX.out x (by rw [Tree.nodes_eq]; exact List.mem_cons_of_mem _ (by
        have h1 : x.nodes = Tree.nodesL [x] := (Tree.nodesL_one x).symm
        have h2 := Tree.nodesL_take hx
        have h3 : Tree.nodesL t.kids = Tree.nodesL (t.kids.take (k + 1)) ++ Tree.nodesL (t.kids.drop (k + 1)) := by rw [← Tree.nodesL_append, List.take_append_drop]
        rw [h3, h2]
        exact List.mem_append_left _ (List.mem_append_right _ (by rw [Tree.nodes_eq]; exact List.mem_cons_self)))) 
      have htk : TextsOk x := fun y hy => HTX.out y (nodes_kid (List.mem_of_getElem? hx) y hy)
      have hcx : x.count ≤ 4194304 := by have := Tree.count_kid hx; have := HC.out; omega
      rw [hkf] at c4 hO
      have hltz : (k : Int) < (t.kids.length : Int) := by omega
      have hFk : ∀ b, Fs k b → F b ∧ b ≠ g := fun b hb => HF.out k b hlt hb
      have hrec : ∀ s z', Calls Tryz.prog 41 #[.slice q x.kids.length qc] ((wr.setCell ⟨g, k * 5 + 1, none⟩ (.string s)).setCell ⟨g, k * 5 + 2, none⟩ (.int .i64 z')) fun e w' => (∃ r, e = .returned r) ∧ ApartF F w w' ∧ LeftO w' g t.kids ks Fs (k + 1) := by
        intro s z'
        refine (ih x (List.mem_of_getElem? hx) _ _ (Fs k) (hO.keep (fun b hb => ?_)) (fun b hb => ?_) htk hcx).mono ?_
        · rw [Below.heap_setCell _ _ _ _ (hFk b hb).2, Below.heap_setCell _ _ _ _ (hFk b hb).2]
        · have h1 := HFL.out b (hFk b hb).1
          have h2 := hA.size
          simp [World.setCell]; omega
        · rintro e w' ⟨h1, h2⟩
          refine ⟨h1, ((hA.set ⟨g, k * 5 + 1, none⟩ (.string s) hgF).set ⟨g, k * 5 + 2, none⟩ (.int .i64 z') hgF).trans (h2.mono (fun b hb => (hFk b hb).1)), ?_⟩
          exact hL.step hlt h2 hg (fun i b hi hb => (HF.out i b hi hb).2) HD.out (fun i b hi hb => Nat.lt_of_lt_of_le (HFL.out b (HF.out i b hi hb).1) hA.size)
      have hsz : ¬ (9223372036854775807 < x.text.size + 1) := by omega
      clear ih hA hL hO hz hkf hts htk hFk hh hx
      go_wp2_with (go_at_call 41; (with_reducible refine (hrec _ _).mono ?_); rintro e w3 ⟨⟨r3, rfl⟩, hA3, hL3⟩)
      have HA3 := hidden hA3
      have HL3 := hidden hL3
      clear hA3 hL3 hrec
      go_roundw
      case rel => exact ⟨k + 1, by omega, by go_num, HA3.out, HL3.out⟩
      case measure => simp [intOf]; omega
    · obtain rfl : k = t.kids.length := by omega
      have HA := hidden hh.out.1
      clear hh
      go_wp2_with fail
      go_end0
      exact ⟨⟨_, rfl⟩, HA.out⟩

end Go.Proofs.YtlbaaiglebpjiaaGreatDoor
