/-
  A node of a tree of one's own is written over. No program stands here.
-/
import Derived.Test.YtlbaaiglebpjiaaGreatDoorJe
namespace Go.Proofs.YtlbaaiglebpjiaaGreatDoor
open Go.RowKit Go.Shelf Go.Lib

/-- A tree of one's own lies at a place. -/
def Loc (W : World) (G O : Nat) (t : Tree) (F : Nat → Prop) : Prop :=
  ∃ p c, NodeAt W G O t (.slice p t.kids.length c) ∧ (∀ j, j < 5 → W.frozen? ⟨G, O + j, none⟩ = false) ∧ KidsO W (.slice p t.kids.length c) t.kids F ∧ ¬ F G

/-- Where a path leads. -/
inductive Reach (W : World) : Nat → Nat → Tree → (Nat → Prop) → List Nat → Nat → Nat → Tree → Prop
  | here (G O : Nat) (t : Tree) (F : Nat → Prop) (h : Loc W G O t F) : Reach W G O t F [] G O t
  | step (G O : Nat) (t : Tree) (F : Nat → Prop) (i : Nat) (x : Tree) (p : List Nat) (G' O' : Nat) (y : Tree) (g c : Nat) (ks : Nat → Value) (Fs : Nat → Nat → Prop)
      (h0 : NodeAt W G O t (.slice (some ⟨g, 0, none⟩) t.kids.length c)) (hz0 : ∀ j, j < 5 → W.frozen? ⟨G, O + j, none⟩ = false) (hG : ¬ F G) (hg : F g) (hcap : t.kids.length ≤ c)
      (ha : ∀ i t', t.kids[i]? = some t' → NodeAt W g (i * 5) t' (ks i)) (hz : ∀ i t', t.kids[i]? = some t' → ∀ j, j < 5 → W.frozen? ⟨g, i * 5 + j, none⟩ = false)
      (hk : ∀ i t', t.kids[i]? = some t' → KidsO W (ks i) t'.kids (Fs i)) (hF : ∀ i b, i < t.kids.length → Fs i b → F b ∧ b ≠ g) (hd : ∀ i j b, i < t.kids.length → j < t.kids.length → Fs i b → Fs j b → i = j)
      (hx : t.kids[i]? = some x) (hr : Reach W g (i * 5) x (Fs i) p G' O' y) : Reach W G O t F (i :: p) G' O' y

theorem KidsO.inv {w : World} {p : Option Addr} {n cap : Nat} {ts : List Tree} {F : Nat → Prop} (h : KidsO w (.slice p n cap) ts F) :
    ∃ (g : Nat) (ks : Nat → Value) (Fs : Nat → Nat → Prop), ts.length ≤ cap ∧ (ts ≠ [] → p = some ⟨g, 0, none⟩ ∧ F g) ∧ (∀ i t, ts[i]? = some t → NodeAt w g (i * 5) t (ks i)) ∧ (∀ i t, ts[i]? = some t → ∀ j, j < 5 → w.frozen? ⟨g, i * 5 + j, none⟩ = false) ∧
      (∀ i t, ts[i]? = some t → KidsO w (ks i) t.kids (Fs i)) ∧ (∀ i b, i < ts.length → Fs i b → F b ∧ b ≠ g) ∧ ∀ i j b, i < ts.length → j < ts.length → Fs i b → Fs j b → i = j := by
  generalize hv : Value.slice p n cap = v at h
  cases h with
  | mk p' cap' ts F g ks Fs hcap hp ha hz hk hF hd =>
    injection hv with e1 e2 e3
    subst e1; subst e3
    exact ⟨g, ks, Fs, hcap, hp, ha, hz, hk, hF, hd⟩

theorem KidsO.form {w : World} {v : Value} {ts : List Tree} {F : Nat → Prop} (h : KidsO w v ts F) : ∃ p c, v = .slice p ts.length c := by
  cases h with
  | mk p cap ts F g ks Fs hcap hp ha hz hk hF hd => exact ⟨p, cap, rfl⟩

theorem Reach.loc {W : World} {G O : Nat} {t : Tree} {F : Nat → Prop} {p : List Nat} {G' O' : Nat} {y : Tree} (h : Reach W G O t F p G' O' y) : ∃ F', Loc W G' O' y F' := by
  induction h with
  | here G O t F h => exact ⟨F, h⟩
  | step G O t F i x p G' O' y g c ks Fs h0 hz0 hG hg hcap ha hz hk hF hd hx hr ih => exact ih

/-- One step more. -/
theorem Reach.snoc {W : World} {G O : Nat} {t : Tree} {F : Nat → Prop} {p : List Nat} {G' O' : Nat} {y : Tree} (h : Reach W G O t F p G' O' y) {i : Nat} {x : Tree} (hx : y.kids[i]? = some x) :
    ∃ g c, NodeAt W G' O' y (.slice (some ⟨g, 0, none⟩) y.kids.length c) ∧ Reach W G O t F (p ++ [i]) g (i * 5) x := by
  induction h with
  | here G O t F h =>
    obtain ⟨sp, sc, h1, h2, h3, h4⟩ := h
    obtain ⟨g, ks, Fs, hcap, hp, ha, hz, hk, hF, hd⟩ := h3.inv
    · obtain ⟨rfl, hg⟩ := hp (fun e => by rw [e] at hx; simp at hx)
      have hil := (List.getElem?_eq_some_iff.1 hx).1
      refine ⟨g, sc, h1, ?_⟩
      obtain ⟨q, c, hq⟩ := (hk i x hx).form
      refine Reach.step G O t F i x [] g (i * 5) x g sc ks Fs h1 h2 h4 hg hcap ha hz hk hF hd hx (Reach.here g (i * 5) x (Fs i) ⟨q, c, by rw [← hq]; exact ha i x hx, hz i x hx, by rw [← hq]; exact hk i x hx, fun hb => (hF i g hil hb).2 rfl⟩)
  | step G O t F j z p G' O' y g c ks Fs h0 hz0 hG hg hcap ha hz hk hF hd hz' hr ih =>
    obtain ⟨g2, c2, h1, h2⟩ := ih hx
    exact ⟨g2, c2, h1, Reach.step G O t F j z _ _ _ _ g c ks Fs h0 hz0 hG hg hcap ha hz hk hF hd hz' h2⟩

/-- A node is stored at a place. -/
abbrev putAt (w : World) (G O : Nat) (k : Int) (s : ByteArray) (a e : Int) (kv : Value) : World :=
  ((((w.setCell ⟨G, O, none⟩ (.int .i64 k)).setCell ⟨G, O + 1, none⟩ (.string s)).setCell ⟨G, O + 2, none⟩ (.int .i64 a)).setCell ⟨G, O + 3, none⟩ (.int .i64 e)).setCell ⟨G, O + 4, none⟩ kv

theorem putAt_other (w : World) (G O : Nat) (k : Int) (s : ByteArray) (a e : Int) (kv : Value) (i : Nat) (h : i ≠ G) : (putAt w G O k s a e kv).heap[i]? = w.heap[i]? := by
  unfold putAt
  rw [Below.heap_setCell _ _ _ _ h, Below.heap_setCell _ _ _ _ h, Below.heap_setCell _ _ _ _ h, Below.heap_setCell _ _ _ _ h, Below.heap_setCell _ _ _ _ h]

theorem putAt_size (w : World) (G O : Nat) (k : Int) (s : ByteArray) (a e : Int) (kv : Value) : (putAt w G O k s a e kv).heap.size = w.heap.size := by simp [putAt, World.setCell]

theorem putAt_cell (w : World) (G O : Nat) (k : Int) (s : ByteArray) (a e : Int) (kv : Value) (o : Nat) (h : o < O ∨ O + 5 ≤ o) : (putAt w G O k s a e kv).cell? ⟨G, o, none⟩ = w.cell? ⟨G, o, none⟩ ∧ (putAt w G O k s a e kv).frozen? ⟨G, o, none⟩ = w.frozen? ⟨G, o, none⟩ := by
  have g0 : O ≠ o := by omega
  have g1 : O + 1 ≠ o := by omega
  have g2 : O + 2 ≠ o := by omega
  have g3 : O + 3 ≠ o := by omega
  have g4 : O + 4 ≠ o := by omega
  have e : ∀ (w : World) (j : Nat) (v : Value), j ≠ o → (w.setCell ⟨G, j, none⟩ v).cell? ⟨G, o, none⟩ = w.cell? ⟨G, o, none⟩ ∧ (w.setCell ⟨G, j, none⟩ v).frozen? ⟨G, o, none⟩ = w.frozen? ⟨G, o, none⟩ := by
    intro w j v hj
    constructor
    · simp [go_sem]
    · simp [go_sem]
  unfold putAt
  exact ⟨by rw [(e _ _ _ g4).1, (e _ _ _ g3).1, (e _ _ _ g2).1, (e _ _ _ g1).1, (e _ _ _ g0).1], by rw [(e _ _ _ g4).2, (e _ _ _ g3).2, (e _ _ _ g2).2, (e _ _ _ g1).2, (e _ _ _ g0).2]⟩

theorem putAt_node {w : World} {G O : Nat} {x b : Tree} {kv kb : Value} (h : NodeAt w G O x kv) (hz : ∀ j, j < 5 → w.frozen? ⟨G, O + j, none⟩ = false) :
    NodeAt (putAt w G O b.kind b.text b.at_ b.end_ kb) G O b kb ∧ ∀ j, j < 5 → (putAt w G O b.kind b.text b.at_ b.end_ kb).frozen? ⟨G, O + j, none⟩ = false := by
  obtain ⟨c0, c1, c2, c3, c4⟩ := h
  refine ⟨⟨by simp [putAt, go_sem, c0], by simp [putAt, go_sem, c1], by simp [putAt, go_sem, c2], by simp [putAt, go_sem, c3], by simp [putAt, go_sem, c4]⟩, fun j hj => ?_⟩
  have := hz j hj
  simp [putAt, go_sem, this]

theorem NodeAt.of_cells {w w' : World} {g o : Nat} {t : Tree} {kv : Value} (h : NodeAt w g o t kv) (e : ∀ j, j < 5 → w'.cell? ⟨g, o + j, none⟩ = w.cell? ⟨g, o + j, none⟩) : NodeAt w' g o t kv :=
  ⟨(e 0 (by omega)).trans h.c0, (e 1 (by omega)).trans h.c1, (e 2 (by omega)).trans h.c2, (e 3 (by omega)).trans h.c3, (e 4 (by omega)).trans h.c4⟩

/-- What is written at the end of the path stands in the tree. -/
theorem Reach.put {W : World} {G O : Nat} {t : Tree} {F : Nat → Prop} {p : List Nat} {G' O' : Nat} {y : Tree} (h : Reach W G O t F p G' O' y) (b : Tree) (q : Option Addr) (c : Nat) (Fb : Nat → Prop)
    (hb : KidsO W (.slice q b.kids.length c) b.kids Fb) (hd1 : ∀ k, Fb k → ¬ F k) (hd2 : ¬ Fb G) :
    Loc (putAt W G' O' b.kind b.text b.at_ b.end_ (.slice q b.kids.length c)) G O (t.replace p b) (fun k => F k ∨ Fb k) ∧
    (∀ k, k ≠ G → ¬ F k → (putAt W G' O' b.kind b.text b.at_ b.end_ (.slice q b.kids.length c)).heap[k]? = W.heap[k]?) ∧
    (∀ o, o < O ∨ O + 5 ≤ o → (putAt W G' O' b.kind b.text b.at_ b.end_ (.slice q b.kids.length c)).cell? ⟨G, o, none⟩ = W.cell? ⟨G, o, none⟩ ∧ (putAt W G' O' b.kind b.text b.at_ b.end_ (.slice q b.kids.length c)).frozen? ⟨G, o, none⟩ = W.frozen? ⟨G, o, none⟩) := by
  induction h with
  | here G O t F h =>
    obtain ⟨sp, sc, h1, h2, h3, h4⟩ := h
    obtain ⟨n1, n2⟩ := putAt_node (b := b) (kb := .slice q b.kids.length c) h1 h2
    refine ⟨?_, fun k h5 _ => putAt_other _ _ _ _ _ _ _ _ _ h5, fun o ho => putAt_cell _ _ _ _ _ _ _ _ _ ho⟩
    rw [Tree.replace]
    exact ⟨q, c, n1, n2, (hb.keep (fun k hk => putAt_other _ _ _ _ _ _ _ _ _ (fun e => hd2 (by rw [← e]; exact hk)))).mono (fun k hk => .inr hk), fun h => h.elim h4 hd2⟩
  | step G O t F i x p G' O' y g c' ks Fs h0 hz0 hG hg hcap ha hz hk hF hd hx hr ih =>
    have hil := (List.getElem?_eq_some_iff.1 hx).1
    obtain ⟨i1, i2, i3⟩ := ih (fun k hk1 hk2 => hd1 k hk1 (hF i k hil hk2).1) (fun h => hd1 g h hg)
    generalize putAt W G' O' b.kind b.text b.at_ b.end_ (.slice q b.kids.length c) = W' at *
    have hGg : G ≠ g := fun e => hG (by rw [e]; exact hg)
    have hGb : W'.heap[G]? = W.heap[G]? := i2 G hGg (fun h => hG (hF i G hil h).1)
    refine ⟨?_, fun k h5 h6 => i2 k (fun e => h6 (by rw [e]; exact hg)) (fun h => h6 (hF i k hil h).1), fun o _ => ⟨World.cell?_of_block (a := ⟨G, o, none⟩) hGb, World.frozen?_of_block (a := ⟨G, o, none⟩) hGb⟩⟩
    have hrep : t.replace (i :: p) b = .mk t.kind t.text t.at_ t.end_ (t.kids.set i (x.replace p b)) := by rw [Tree.replace, hx]
    rw [hrep]
    have hlen : (t.kids.set i (x.replace p b)).length = t.kids.length := List.length_set
    obtain ⟨ip, ic, j1, j2, j3, j4⟩ := i1
    refine ⟨some ⟨g, 0, none⟩, c', ?_, fun j hj => (World.frozen?_of_block (a := ⟨G, O + j, none⟩) hGb).trans (hz0 j hj), ?_, fun h => h.elim hG hd2⟩
    · show NodeAt W' G O (.mk t.kind t.text t.at_ t.end_ (t.kids.set i (x.replace p b))) (.slice (some ⟨g, 0, none⟩) (t.kids.set i (x.replace p b)).length c')
      rw [hlen]
      obtain ⟨c0, c1, c2, c3, c4⟩ := h0.of_block hGb
      exact ⟨c0, c1, c2, c3, c4⟩
    · show KidsO W' (.slice (some ⟨g, 0, none⟩) (t.kids.set i (x.replace p b)).length c') (t.kids.set i (x.replace p b)) _
      have hget : ∀ j t', (t.kids.set i (x.replace p b))[j]? = some t' → (j = i ∧ t' = x.replace p b) ∨ (j ≠ i ∧ t.kids[j]? = some t') := by
        intro j t' h
        rw [List.getElem?_set] at h
        by_cases hij : i = j
        · rw [if_pos hij, if_pos hil] at h
          exact .inl ⟨hij.symm, (Option.some.inj h).symm⟩
        · rw [if_neg hij] at h
          exact .inr ⟨fun e => hij e.symm, h⟩
      have hoff : ∀ j, j ≠ i → ∀ o, o < 5 → W'.cell? ⟨g, j * 5 + o, none⟩ = W.cell? ⟨g, j * 5 + o, none⟩ ∧ W'.frozen? ⟨g, j * 5 + o, none⟩ = W.frozen? ⟨g, j * 5 + o, none⟩ := fun j hj o ho => i3 (j * 5 + o) (by omega)
      refine KidsO.mk (some ⟨g, 0, none⟩) c' _ _ g (fun j => if j = i then .slice ip (x.replace p b).kids.length ic else ks j) (fun j k => if j = i then Fs i k ∨ Fb k else Fs j k) (by rw [hlen]; exact hcap) (fun _ => ⟨rfl, .inl hg⟩) ?_ ?_ ?_ ?_ ?_
      · intro j t' h
        rcases hget j t' h with ⟨rfl, rfl⟩ | ⟨h1, h2⟩
        · simp only [if_true]; exact j1
        · simp only [if_neg h1]; exact (ha j t' h2).of_cells (fun o ho => (hoff j h1 o ho).1)
      · intro j t' h o ho
        rcases hget j t' h with ⟨rfl, rfl⟩ | ⟨h1, h2⟩
        · exact j2 o ho
        · exact (hoff j h1 o ho).2.trans (hz j t' h2 o ho)
      · intro j t' h
        rcases hget j t' h with ⟨rfl, rfl⟩ | ⟨h1, h2⟩
        · simp only [if_true]; exact j3
        · simp only [if_neg h1]
          have hjl := (List.getElem?_eq_some_iff.1 h2).1
          exact (hk j t' h2).keep (fun k hk' => i2 k (hF j k hjl hk').2 (fun h3 => h1 (hd j i k hjl hil hk' h3)))
      · intro j k hj h
        rw [hlen] at hj
        by_cases hji : j = i
        · subst hji
          simp only [if_true] at h
          rcases h with h | h
          · exact ⟨.inl (hF j k hil h).1, (hF j k hil h).2⟩
          · exact ⟨.inr h, fun e => hd1 k h (by rw [e]; exact hg)⟩
        · simp only [if_neg hji] at h
          exact ⟨.inl (hF j k hj h).1, (hF j k hj h).2⟩
      · intro j j' k hj hj' h h'
        rw [hlen] at hj hj'
        by_cases hji : j = i <;> by_cases hji' : j' = i
        · rw [hji, hji']
        · subst hji
          simp only [if_true] at h
          simp only [if_neg hji'] at h'
          rcases h with h | h
          · exact hd j j' k hj hj' h h'
          · exact absurd (hF j' k hj' h').1 (hd1 k h)
        · subst hji'
          simp only [if_true] at h'
          simp only [if_neg hji] at h
          rcases h' with h' | h'
          · exact hd j j' k hj hj' h h'
          · exact absurd (hF j k hj h).1 (hd1 k h')
        · simp only [if_neg hji] at h
          simp only [if_neg hji'] at h'
          exact hd j j' k hj hj' h h'

end Go.Proofs.YtlbaaiglebpjiaaGreatDoor
