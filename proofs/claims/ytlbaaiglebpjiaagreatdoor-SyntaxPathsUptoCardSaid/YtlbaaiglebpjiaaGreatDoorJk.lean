import Derived.Test.YtlbaaiglebpjiaaGreatDoorJj
import Derived.Test.YtlbaaiglebpjiaaGreatDoorYx
import Derived.Test.YtlbaaiglebpjiaaGreatDoorQb
import Derived.Test.YtlbaaiglebpjiaaGreatDoorJh
import Derived.Maps.AppendAt
import Derived.Test.YtlbaaiglebpjiaaGreatDoorKa
/-
  The reference: Paths.
-/





namespace Go.Proofs.YtlbaaiglebpjiaaGreatDoor
open Go.RowKit Go.Shelf Go.Lib

theorem infoInts : (Tryz.prog.info? 28).map (fun i => (i.zero, i.size, i.bytes)) = some (some (.slice none 0 0), 1, 24) := by kernel_rfl

theorem nats_one (q : List Nat) : ∀ u ∈ q.map natI, u.oneCell' = true := by
  intro u hu
  obtain ⟨k, _, rfl⟩ := List.mem_map.1 hu
  rfl

/-- A path lies in a block that is not the row's. -/
def PathV (w : World) (L : Nat) (row : Option Nat) (v : Value) (q : List Nat) : Prop :=
  ∃ g cap, v = .slice (some ⟨g, 0, none⟩) q.length cap ∧ (L ≤ g ∧ g < w.heap.size) ∧ some g ≠ row ∧ ∀ (j : Nat) u, (q.map natI)[j]? = some u → w.cell? ((⟨g, 0, none⟩ : Addr).add j) = some u

theorem PathV.step {w w' : World} {L : Nat} {row row' : Option Nat} {v : Value} {q : List Nat} (h : PathV w L row v q) (hg : w.grownBy w' row) (hn : row' = row ∨ ∃ g', row' = some g' ∧ w.heap.size ≤ g') : PathV w' L row' v q := by
  obtain ⟨g, cap, rfl, h1, h2, h3⟩ := h
  refine ⟨g, cap, rfl, ⟨h1.1, Nat.lt_of_lt_of_le h1.2 hg.size⟩, ?_, fun j u hu => ?_⟩
  · rcases hn with rfl | ⟨g', rfl, hg'⟩
    · exact h2
    · intro e; cases e; omega
  · have hb : ((⟨g, 0, none⟩ : Addr).add j).block = g := by unfold Addr.add; split <;> rfl
    exact (World.cell?_of_block (by rw [hb]; exact hg.block g h1.2 h2)).trans (h3 j u hu)

theorem grown_of_below {w w' : World} (row : Option Nat) (hb : Below w.heap.size w w') : w.grownBy w' row := ⟨hb.os, hb.tape, hb.output, hb.size, fun k hk _ => hb.block k hk⟩

theorem PathV.below {w w' : World} {L : Nat} {row : Option Nat} {v : Value} {q : List Nat} (h : PathV w L row v q) (hb : Below w.heap.size w w') : PathV w' L row v q := h.step (grown_of_below row hb) (.inl rfl)

/-- Another block was written. -/
theorem PathV.apart {w w' : World} {L : Nat} {row : Option Nat} {v : Value} {q : List Nat} {b : Nat} (h : PathV w L row v q) (hg : w.grownBy w' (some b)) (hne : ∀ g c, v = .slice (some ⟨g, 0, none⟩) q.length c → g ≠ b) : PathV w' L row v q := by
  obtain ⟨g, cap, rfl, h1, h2, h3⟩ := h
  refine ⟨g, cap, rfl, ⟨h1.1, Nat.lt_of_lt_of_le h1.2 hg.size⟩, h2, fun j u hu => ?_⟩
  have hb : ((⟨g, 0, none⟩ : Addr).add j).block = g := by unfold Addr.add; split <;> rfl
  exact (World.cell?_of_block (by rw [hb]; exact hg.block g h1.2 (fun e => hne g cap rfl (Option.some.inj e)))).trans (h3 j u hu)

theorem PathV.lt {w : World} {L : Nat} {row : Option Nat} {v : Value} {q : List Nat} (h : PathV w L row v q) : ∀ g c, v = .slice (some ⟨g, 0, none⟩) q.length c → g < w.heap.size := by
  obtain ⟨g, cap, rfl, h1, _⟩ := h
  intro g' c' e
  simp at e
  omega

theorem PathV.ints {w : World} {L : Nat} {row : Option Nat} {v : Value} {q : List Nat} (h : PathV w L row v q) : IntsV w v (Tree.ints q) := by
  obtain ⟨g, cap, rfl, h1, h2, h3⟩ := h
  refine ⟨some ⟨g, 0, none⟩, cap, g, 0, by rw [Tree.ints_len], fun _ => ⟨rfl, h1.2⟩, fun i z hz => ?_⟩
  have hz' : (q.map natI)[i]? = some (.int .i64 z) := by
    unfold Tree.ints at hz
    rw [List.getElem?_map] at hz ⊢
    cases hq : q[i]? with
    | none => rw [hq] at hz; cases hz
    | some k => rw [hq] at hz; cases hz; rfl
  have := h3 i _ hz'
  have hadd : (⟨g, 0, none⟩ : Addr).add i = ⟨g, i, none⟩ := by unfold Addr.add; split <;> simp_all
  rw [hadd] at this
  rw [Nat.zero_add]; exact this

/-- A row that holds the paths of a tree, from number 0 on. -/
def PathsAt (w : World) (L g n : Nat) (row : Option Nat) (t : Tree) : Prop :=
  g < w.heap.size ∧ some g ≠ row ∧ ∀ i, i < n → ∃ v q, w.cell? ⟨g, i, none⟩ = some v ∧ t.pathOf i = some q ∧ PathV w L row v q

theorem PathsAt.step {w w' : World} {L g n : Nat} {row row' : Option Nat} {t : Tree} (h : PathsAt w L g n row t) (hg : w.grownBy w' row) (hn : row' = row ∨ ∃ g', row' = some g' ∧ w.heap.size ≤ g') : PathsAt w' L g n row' t := by
  obtain ⟨h1, h2, h3⟩ := h
  refine ⟨Nat.lt_of_lt_of_le h1 hg.size, ?_, fun i hi => ?_⟩
  · rcases hn with rfl | ⟨g', rfl, hg'⟩
    · exact h2
    · intro e; cases e; omega
  · obtain ⟨v, q, c1, c2, c3⟩ := h3 i hi
    exact ⟨v, q, (World.cell?_of_block (a := ⟨g, i, none⟩) (hg.block g h1 h2)).trans c1, c2, c3.step hg hn⟩

/-- What the loops keep: a row of one's own, its elements the paths of the first numbers. -/
structure Out (w0 w : World) (B : Nat) (g n c : Nat) (vs : List Value) (t : Tree) : Prop where
  own : w.ownsRow B 28 1 (.slice (some ⟨g, 0, none⟩) n c) n vs
  elems : ∀ (i : Nat) v, vs[i]? = some v → ∃ q, t.pathOf i = some q ∧ PathV w B (some g) v q
  below : Below w0.heap.size w0 w
  base : w0.heap.size < B
  size : B ≤ w.heap.size

theorem own_keep {w w' : World} {base e size n : Nat} {v : Value} {xs : List Value} (h : w.ownsRow base e size v n xs) (hb : ∀ g, v.ownBlock = some g → w'.heap[g]? = w.heap[g]?) : w'.ownsRow base e size v n xs := by
  refine ⟨h.1, ?_⟩
  rcases h.2 with h | ⟨g, cap, cur, h1, h2, h3, h4⟩
  · exact .inl h
  · exact .inr ⟨g, cap, cur, h1, h2, (hb g (by rw [h1]; rfl)).trans h3, h4⟩

theorem Out.glt {w0 w : World} {B g n c : Nat} {vs : List Value} {t : Tree} (h : Out w0 w B g n c vs t) : B ≤ g ∧ g < w.heap.size := h.own.lt g rfl

theorem Out.later {w0 w w' : World} {B g n c : Nat} {vs : List Value} {t : Tree} (h : Out w0 w B g n c vs t) (hb : Below w.heap.size w w') : Out w0 w' B g n c vs t :=
  ⟨ownsB h.own hb, fun i v hi => by obtain ⟨q, h1, h2⟩ := h.elems i v hi; exact ⟨q, h1, h2.below hb⟩, bt h.below hb, h.base, Nat.le_trans h.size hb.size⟩

/-- A literal of one number is a row of one's own. -/
theorem own_one (w : World) (x : Value) (e : TypeId) (b : Nat) (hb : b ≤ w.heap.size) : (w.alloc (.cells #[x] e)).ownsRow b e 1 (.slice (some ⟨w.heap.size, 0, none⟩) 1 1) 1 [x] :=
  ⟨rfl, Or.inr ⟨w.heap.size, 1, #[x], rfl, hb, World.alloc_heap_new w (.cells #[x] e), Nat.le_refl _, by decide, rfl, rfl⟩⟩

/-- One more path: the literal, the path behind it, the literal of it, the row. -/
theorem Out.add {w0 w A2 A4 : World} {B g n c g' c' gq cq k : Nat} {vs : List Value} {t : Tree} {q : List Nat} (h : Out w0 w B g n c vs t)
    (h1 : (w.alloc (.cells #[natI k] 3)).grownBy A2 (some w.heap.size)) (h2 : A2.ownsRow w.heap.size 3 1 (.slice (some ⟨gq, 0, none⟩) (1 + q.length) cq) (1 + q.length) ([natI k] ++ q.map natI))
    (h3 : (A2.alloc (.cells #[.slice (some ⟨gq, 0, none⟩) (1 + q.length) cq] 28)).grownBy A4 (some g)) (h4 : A4.ownsRow B 28 1 (.slice (some ⟨g', 0, none⟩) (n + 1) c') (n + 1) (vs ++ [.slice (some ⟨gq, 0, none⟩) (1 + q.length) cq]))
    (h5 : some g' = some g ∨ some g' = some (A2.heap.size + 1)) (hp : t.pathOf n = some (k :: q)) : Out w0 A4 B g' (n + 1) c' (vs ++ [.slice (some ⟨gq, 0, none⟩) (1 + q.length) cq]) t ∧ w.grownBy A4 (some g) := by
  have hgl := h.glt
  have s1 := h1.size
  have s3 := h3.size
  simp only [World.size_alloc] at s1 s3
  have hgq := h2.lt gq rfl
  have hbl : ∀ b, b < w.heap.size → some b ≠ some g → A4.heap[b]? = w.heap[b]? := fun b hb hne =>
    (h3.block b (by simp; omega) hne).trans ((((below_alloc A2 _).block b (by omega))).trans ((h1.block b (by simp; omega) (fun e => by cases e; omega)).trans ((below_alloc w _).block b hb)))
  have hG : w.grownBy A4 (some g) := ⟨h3.os.trans h1.os, h3.tape.trans h1.tape, h3.output.trans h1.output, by omega, hbl⟩
  have hrow : some g' = some g ∨ ∃ x, some g' = some x ∧ w.heap.size ≤ x := by
    rcases h5 with h5 | h5
    · exact .inl h5
    · exact .inr ⟨_, h5, by omega⟩
  have hlen : vs.length = n := by have := h.own.1; omega
  refine ⟨⟨h4, fun i v hi => ?_, h.below.grown hG (Nat.le_of_lt (Nat.lt_of_lt_of_le h.base h.size)) (fun b hb => by cases hb; have := h.base; omega), h.base, by have := h.size; omega⟩, hG⟩
  rcases Nat.lt_or_ge i vs.length with hi' | hi'
  · rw [List.getElem?_append_left hi'] at hi
    obtain ⟨q', e1, e2⟩ := h.elems i v hi
    exact ⟨q', e1, e2.step hG hrow⟩
  · rw [List.getElem?_append_right hi'] at hi
    have hi0 : i - vs.length = 0 := by have := (List.getElem?_eq_some_iff.1 hi).1; simp at this; omega
    rw [hi0] at hi
    obtain rfl : Value.slice (some ⟨gq, 0, none⟩) (1 + q.length) cq = v := by simpa using hi
    obtain rfl : i = n := by omega
    refine ⟨k :: q, hp, gq, cq, by rw [List.length_cons, Nat.add_comm], ⟨by have := h.size; omega, by omega⟩, ?_, fun j u hu => ?_⟩
    · rcases h5 with h5 | h5
      · intro e; cases h5; cases e; omega
      · intro e; cases h5; cases e; omega
    · have hb : ((⟨gq, 0, none⟩ : Addr).add j).block = gq := by unfold Addr.add; split <;> rfl
      have hc := h2.cells (g := gq) rfl j u hu
      have e1 : A4.heap[gq]? = A2.heap[gq]? := (h3.block gq (by simp; omega) (fun e => by cases e; omega)).trans ((below_alloc A2 _).block gq hgq.2)
      exact (World.cell?_of_block (by rw [hb]; exact e1)).trans hc

end Go.Proofs.YtlbaaiglebpjiaaGreatDoor
/-
  The reference: Paths, the walk.
-/

namespace Go.Proofs.YtlbaaiglebpjiaaGreatDoor
open Go.RowKit Go.Shelf Go.Lib

theorem path_at {t x : Tree} {k m : Nat} {q : List Nat} (hx : t.kids[k]? = some x) (hq : x.pathOf m = some q) : t.pathOf (1 + Tree.countL (t.kids.take k) + m) = some (k :: q) := by
  have hm : m < x.count := by
    rcases Nat.lt_or_ge m x.count with h | h
    · exact h
    · rw [Tree.pathOf_none x h] at hq; cases hq
  rw [show 1 + Tree.countL (t.kids.take k) + m = (Tree.countL (t.kids.take k) + m) + 1 by omega, pathOf_succ, Tree.pathL_at hx hm, hq, Nat.zero_add]
  rfl

theorem path_len' (t : Tree) : ∀ {n : Nat} {q : List Nat}, t.pathOf n = some q → q.length + 1 ≤ t.count := by
  refine Tree.induct (P := fun t => ∀ {n : Nat} {q : List Nat}, t.pathOf n = some q → q.length + 1 ≤ t.count) (fun t ih => ?_) t
  intro n q h
  cases n with
  | zero => rw [pathOf_zero] at h; cases h; have := Tree.count_pos t; simp; omega
  | succ n =>
    rw [pathOf_succ] at h
    obtain ⟨j, x, q', n', h1, rfl, h3, h4, rfl⟩ := Tree.pathL_some h
    have := ih x (List.mem_of_getElem? h1) h3
    have := Tree.count_kid h1
    rw [List.length_cons, Tree.count_eq]; omega

/-- The paths, as the call hands them back. -/
def PathsRet (w : World) (t : Tree) (e : Ending) (w' : World) : Prop :=
  ∃ g c, e = .returned (.slice (some ⟨g, 0, none⟩) t.count c) ∧ w.heap.size < g ∧ PathsAt w' (w.heap.size + 1) g t.count none t ∧ Below w.heap.size w w'

theorem Out.ret {w0 w : World} {B g n c : Nat} {vs : List Value} {t : Tree} (h : Out w0 w B g n c vs t) : PathsAt w B g n none t := by
  have hgl := h.glt
  refine ⟨hgl.2, (by intro e; cases e), fun i hi => ?_⟩
  have hlen : vs.length = n := by have := h.own.1; omega
  obtain ⟨v, hv⟩ : ∃ v, vs[i]? = some v := ⟨_, List.getElem?_eq_getElem (by omega)⟩
  obtain ⟨q, h1, g', cap, rfl, h2, h3, h4⟩ := h.elems i v hv
  refine ⟨_, q, ?_, h1, g', cap, rfl, h2, (by intro e; cases e), h4⟩
  have := h.own.cells (g := g) rfl i _ hv
  have hadd : (⟨g, 0, none⟩ : Addr).add i = ⟨g, i, none⟩ := by unfold Addr.add; split <;> simp_all
  rw [hadd] at this
  exact this

theorem out_keep {w w5 : World} {B e n g c : Nat} {vs : List Value} {x : Obj} (h : w.ownsRow B e 1 (.slice (some ⟨g, 0, none⟩) n c) n vs) (hg : g < w.heap.size) (h5 : (w.alloc x).grownBy w5 (some w.heap.size)) :
    w5.ownsRow B e 1 (.slice (some ⟨g, 0, none⟩) n c) n vs :=
  own_keep h (fun b hb => by
    obtain rfl : g = b := Option.some.inj hb
    exact (h5.block g (by simp; omega) (fun e => by have := Option.some.inj e; omega)).trans ((below_alloc w x).block g hg))

set_option maxRecDepth 100000 in
set_option maxHeartbeats 12800000 in
theorem refPaths_any (t : Tree) : ∀ (kv : Value) (w : World), KidsV w kv t.kids → t.count ≤ 4194304 →
    Calls Tryz.prog 55 #[nodeV t kv] w (PathsRet w t) := by
  refine Tree.induct (P := fun t => ∀ (kv : Value) (w : World), KidsV w kv t.kids → t.count ≤ 4194304 →
    Calls Tryz.prog 55 #[nodeV t kv] w (PathsRet w t)) (fun t ih => ?_) t
  intro kv w hk hct
  obtain ⟨i0, hi, hz0, hz1, hz2⟩ := info_parts infoInts
  obtain ⟨j0, hj, hy0, hy1, hy2⟩ := info_parts infoInt
  obtain ⟨p, cap, g, o, rfl, hpp, hat⟩ := hk.open
  have HAT := hidden hat
  have HPP := hidden hpp
  have HC := hidden (Tree.count_eq t)
  have HCT := hidden hct
  have hlb : t.kids.length < 4194304 := by have := Tree.length_le_countL t.kids; have := Tree.count_eq t; omega
  clear hk hat hpp hct
  simp only [nodeV]
  go_enter Tryz.func55, Tryz.ntmps55
  go_wp2_with fail
  obtain ⟨w3, hw3⟩ : ∃ w3, w3 = ((w.alloc (.cells #[.int .i64 t.kind, .string t.text, .int .i64 t.at_, .int .i64 t.end_, .slice p t.kids.length cap] 24)).alloc (.cells #[] 3)).alloc (.cells #[.slice (some ⟨w.heap.size + 1, 0, none⟩) 0 0] 28) := ⟨_, rfl⟩
  have hb4 : w3.cell? ⟨w.heap.size, 4, none⟩ = some (.slice p t.kids.length cap) := by rw [hw3]; simp [go_sem]
  have hO : Out w w3 (w.heap.size + 1) (w.heap.size + 1 + 1) 1 1 [.slice (some ⟨w.heap.size + 1, 0, none⟩) 0 0] t := by
    rw [hw3]
    refine ⟨?_, fun i v hi => ?_, ((below_alloc w _).alloc (by simp) _).alloc (by simp; omega) _, Nat.lt_succ_self _, by simp⟩
    · have h := own_one ((w.alloc (.cells #[.int .i64 t.kind, .string t.text, .int .i64 t.at_, .int .i64 t.end_, .slice p t.kids.length cap] 24)).alloc (.cells #[] 3)) (.slice (some ⟨w.heap.size + 1, 0, none⟩) 0 0) 28 (w.heap.size + 1) (by simp)
      simpa using h
    · rcases i with _ | i
      · simp at hi
        subst hi
        exact ⟨[], pathOf_zero t, w.heap.size + 1, 0, rfl, ⟨Nat.le_refl _, by simp⟩, by simp, fun j u hu => by simp at hu⟩
      · simp at hi
  rw [← hw3]
  clear hw3
  go_loopw [3, 4] (fun ov i wr => ∃ k g5 c5 : Nat, k ≤ t.kids.length ∧ i = .int .i64 k ∧ ov = .slice (some ⟨g5, 0, none⟩) (1 + Tree.countL (t.kids.take k)) c5 ∧ Hid (∃ vs, Out w wr (w.heap.size + 1) g5 (1 + Tree.countL (t.kids.take k)) c5 vs t ∧ wr.cell? ⟨w.heap.size, 4, none⟩ = some (.slice p t.kids.length cap))) (fun _ i _ => t.kids.length - (intOf i).toNat)
  case atStart => exact ⟨0, w.heap.size + 1 + 1, 1, Nat.zero_le _, rfl, by rw [List.take_zero, Tree.countL_nil], _, by rw [List.take_zero, Tree.countL_nil]; exact hO, hb4⟩
  case round =>
    obtain ⟨k, g5, c5, hk, rfl, rfl, hh⟩ := hrel
    obtain ⟨vs, hOut, hb4'⟩ := hh.out
    have HOUT := hidden hOut
    clear hh hO hb4 hOut
    by_cases hlt : k < t.kids.length
    · obtain ⟨x, hx⟩ : ∃ x, t.kids[k]? = some x := ⟨_, List.getElem?_eq_getElem hlt⟩
      obtain ⟨rfl, hg⟩ := HPP.out (fun h => by rw [h] at hlt; exact absurd hlt (Nat.not_lt_zero _))
      obtain ⟨kv', hn, hkv⟩ := HAT.out k x hx
      obtain ⟨p2, cap2, _, _, rfl, _, _⟩ := hkv.open
      obtain ⟨c0, c1, c2, c3, c4⟩ := hn.of_block (HOUT.out.below.block g hg)
      have hltz : (k : Int) < (t.kids.length : Int) := by omega
      have hcx : x.count ≤ 4194304 := by have := Tree.count_kid hx; have := HC.out; have := HCT.out; omega
      have hrec := ih x (List.mem_of_getElem? hx) _ wr (hkv.later HOUT.out.below) hcx
      simp only [nodeV] at hrec
      have HX := hidden hx
      have HT := hidden (Tree.countL_take hx)
      have htm : 1 + Tree.countL (t.kids.take (k + 1)) ≤ 4194304 := by have := Tree.countL_take_le t.kids (k + 1); have := HC.out; have := HCT.out; omega
      have hbw : w.heap.size < wr.heap.size := Nat.lt_of_lt_of_le HOUT.out.base HOUT.out.size
      have HTM := hidden htm
      have HB4 := hidden hb4'
      clear hn hkv hx ih htm
      go_wp2_with fail
      (with_reducible refine hrec.mono ?_)
      rintro e w4 ⟨gl, cl, rfl, hgl, hPA, hb⟩
      have HOUT4 := hidden (HOUT.out.later hb)
      have HB44 := hidden ((hb.cell (p := ⟨w.heap.size, 4, none⟩) hbw).trans HB4.out)
      have hglt := HOUT.out.glt
      have HPA : Hid (PathsAt w4 (wr.heap.size + 1) gl x.count (some g5) x) := by
        refine ⟨hPA.1, fun e => by cases e; omega, fun i hi => ?_⟩
        obtain ⟨v, q, e1, e2, g', cp, rfl, e4, _, e5⟩ := hPA.2.2 i hi
        exact ⟨_, q, e1, e2, g', cp, rfl, e4, (fun e => by cases e; omega), e5⟩
      clear hrec hb hPA hgl c0 c1 c2 c3 c4 hb4' hglt HB4 HOUT hg HAT HPP
      go_wp2_with fail
      obtain ⟨wo, hwo⟩ : ∃ wo, wo = w4 := ⟨_, rfl⟩
      subst hwo
      go_loopw [3, 6] (fun ov j wr2 => ∃ jj g6 c6 : Nat, jj ≤ x.count ∧ j = .int .i64 jj ∧ ov = .slice (some ⟨g6, 0, none⟩) (1 + Tree.countL (t.kids.take k) + jj) c6 ∧ Hid (∃ vs L, Out w wr2 (w.heap.size + 1) g6 (1 + Tree.countL (t.kids.take k) + jj) c6 vs t ∧ PathsAt wr2 L gl x.count (some g6) x ∧ wr2.cell? ⟨w.heap.size, 4, none⟩ = some (.slice (some ⟨g, o, none⟩) t.kids.length cap))) (fun _ j _ => x.count - (intOf j).toNat)
      case atStart => exact ⟨0, g5, c5, Nat.zero_le _, rfl, rfl, vs, _, HOUT4.out, HPA.out, HB44.out⟩
      case round =>
        obtain ⟨jj, g6, c6, hjj, rfl, rfl, hh2⟩ := hrel
        obtain ⟨vs2, L2, hOut2, hPA2, hb42⟩ := hh2.out
        clear hh2 HOUT4 HPA HB44
        have HO2 := hidden hOut2
        have HP2 := hidden hPA2
        have HB42 := hidden hb42
        have hsum : 1 + Tree.countL (t.kids.take k) + x.count ≤ 4194304 := by have := HT.out; have := HTM.out; omega
        by_cases hlt2 : jj < x.count
        · obtain ⟨v, q, e1, e2, gq, cq, rfl, e4, e5, e6⟩ := hPA2.2.2 jj hlt2
          have hgl2 := hPA2.1
          have hne2 : gl ≠ wr.heap.size := Nat.ne_of_lt hgl2
          have hltz2 : (jj : Int) < (x.count : Int) := by omega
          have hql := path_len' x e2
          have hog := hOut2.glt
          have hown := hOut2.own
          have hbase := hOut2.base
          have hsz := hOut2.size
          have HPT := hidden (path_at HX.out e2)
          have hbq : ∀ j, ((⟨gq, 0, none⟩ : Addr).add j).block = gq := fun j => by unfold Addr.add; split <;> rfl
          have hca : ∀ (j : Nat) (u : Value), (q.map natI)[j]? = some u → (wr.alloc (.cells #[natI k] 3)).cell? ((⟨gq, 0, none⟩ : Addr).add j) = some u := fun j u hu => ((below_alloc wr (.cells #[natI k] 3)).cell (by rw [hbq]; exact e4.2)).trans (e6 j u hu)
          have HCA := hidden hca
          have HQL := hidden hql
          have hqn : q.length ≤ 4194304 := by omega
          clear hOut2 hPA2 e2 e4 e5 e6 hca hbq hql hb42
          generalize 1 + Tree.countL (t.kids.take k) = n0 at *
          go_wp2_with (first | (at_builtin; refine wpList_append_own_at _ rfl (.tmp 30) (.tmp 34) 28 rfl wr.heap.size 3 j0 (.int .i64 0) 1 8 Tryz.underlying28 hj hy0 hy1 hy2 rfl (by decide) _ _ _ rfl (own_one wr (natI k) 3 wr.heap.size (Nat.le_refl _)) ⟨gq, 0, none⟩ q.length cq (q.map natI) rfl (by simp) HCA.out (nats_one _) (by unfold maxLen; omega) (by omega) (by simp) ?_; intro v' w5 hown5 hgrow5 hnn5 hat5; go_loud (obtain ⟨g7, c7, rfl, hg7⟩ := rowForm hown5 (fun e => by have := (hnn5.1 e).1; cases this)); go_loud (have hownO := out_keep hown hog.2 hgrow5); have hs5 := hgrow5.size; have H5 := hidden (And.intro hown5 hgrow5); clear hown5 hgrow5 hnn5 hat5) | (at_builtin; refine wpList_append_own_at _ rfl (.tmp 28) (.tmp 36) 65 rfl (w.heap.size + 1) 28 i0 (.slice none 0 0) 1 24 Tryz.underlying65 hi hz0 hz1 hz2 rfl (by decide) _ _ _ rfl (ownsB hownO (below_alloc w5 _)) ⟨w5.heap.size, 0, none⟩ 1 1 [.slice (some ⟨g7, 0, none⟩) (1 + q.length) c7] rfl rfl (by intro j u h; rcases j with _ | j <;> simp at h; subst h; simp [go_sem, Addr.add]) (by intro u hu; rw [List.mem_singleton.1 hu]; rfl) (by unfold maxLen; omega) (by omega) (by simp at hs5 ⊢; omega) ?_; intro v8 w8 hown8 hgrow8 hnn8 hat8; obtain ⟨g9, c9, rfl, hg9⟩ := rowForm hown8 (fun e => by have := (hnn8.1 e).1; cases this)))
          have hh5 : some g9 = some g6 ∨ some g9 = some (w5.heap.size + 1) := by
            rcases hat8 with h | h
            · exact .inl h
            · rw [World.size_alloc] at h; exact .inr h
          have HADD := hidden (Out.add HO2.out H5.out.2 H5.out.1 hgrow8 hown8 hh5 HPT.out)
          have HROW : Hid (some g9 = some g6 ∨ ∃ g', some g9 = some g' ∧ wr.heap.size ≤ g') := by
            rcases hh5 with h | h
            · exact .inl h
            · exact .inr ⟨_, h, by simp at hs5; omega⟩
          clear hown8 hgrow8 hnn8 hat8 hh5 hownO hown hs5
          go_roundw
          case rel =>
            obtain ⟨d1, d2⟩ := HADD.out
            refine ⟨jj + 1, g9, c9, by omega, by go_num, rfl, _, L2, d1, HP2.out.step d2 HROW.out, ?_⟩
            exact (World.cell?_of_block (a := ⟨w.heap.size, 4, none⟩) (d2.block w.heap.size (by omega) (fun e => by have := Option.some.inj e; omega))).trans HB42.out
          case measure => simp [intOf]; omega
        · obtain rfl : jj = x.count := by omega
          have hge : ¬ ((x.count : Int) < (x.count : Int)) := by omega
          clear hOut2 hPA2 hb42
          go_wp2_with fail
          go_roundw
          case rel => exact ⟨k + 1, g6, c6, by omega, by go_num, by rw [HT.out, Nat.add_assoc], vs2, by rw [HT.out, ← Nat.add_assoc]; exact HO2.out, HB42.out⟩
          case measure => simp [intOf]; omega
    · obtain rfl : k = t.kids.length := by omega
      have HF : Hid (PathsRet w t (.returned (.slice (some ⟨g5, 0, none⟩) (1 + Tree.countL (t.kids.take t.kids.length)) c5)) wr) := by
        have hO := HOUT.out
        have hgl := hO.glt
        rw [List.take_length] at hO ⊢
        have e : 1 + Tree.countL t.kids = t.count := by have := HC.out; omega
        rw [e] at hO ⊢
        exact ⟨g5, c5, rfl, by omega, hO.ret, hO.below⟩
      clear ih
      go_wp2_with fail
      go_ret
      exact HF.out

end Go.Proofs.YtlbaaiglebpjiaaGreatDoor
/-
  The reference: Path and Number.
-/


namespace Go.Proofs.YtlbaaiglebpjiaaGreatDoor
open Go.RowKit Go.Shelf Go.Lib

/-- What Path answers. -/
def PathRet (w : World) (t : Tree) (z : Int) (e : Ending) (w' : World) : Prop :=
  Below w.heap.size w w' ∧ ((∃ (n : Nat) (q : List Nat) (v : Value), z = n ∧ t.pathOf n = some q ∧ e = .returned (.tuple #[v, .bool true]) ∧ IntsV w' v (Tree.ints q)) ∨ ((z < 0 ∨ (t.count : Int) ≤ z) ∧ e = .returned (.tuple #[.slice none 0 0, .bool false])))

set_option maxRecDepth 100000 in
set_option maxHeartbeats 6400000 in
theorem refPath_any (t : Tree) (kv : Value) (z : Int) (w : World) (hk : KidsV w kv t.kids) (hct : t.count ≤ 4194304) :
    Calls Tryz.prog 20 #[nodeV t kv, .int .i64 z] w (PathRet w t z) := by
  have hpa := fun W (hb : Below w.heap.size w W) => refPaths_any t kv W (hk.later hb) hct
  obtain ⟨p, cap, g, o, rfl, _, _⟩ := hk.open
  simp only [nodeV] at hpa ⊢
  clear hk
  have hpa1 := hpa _ (below_alloc w (.cells #[.int .i64 t.kind, .string t.text, .int .i64 t.at_, .int .i64 t.end_, .slice p t.kids.length cap] 24))
  clear hpa
  go_enter Tryz.func20, Tryz.ntmps20
  go_wp2_with fail
  (with_reducible refine hpa1.mono ?_)
  rintro e w2 ⟨g2, c2, rfl, hg2, hP, hb2⟩
  have HB := hidden (bt (below_alloc w (.cells #[.int .i64 t.kind, .string t.text, .int .i64 t.at_, .int .i64 t.end_, .slice p t.kids.length cap] 24)) hb2)
  have HP := hidden hP
  clear hpa1 hP hb2 hg2
  by_cases h0 : z < 0
  · have d0 : decide (z < 0) = true := decide_eq_true h0
    have HF : Hid (PathRet w t z (.returned (.tuple #[.slice none 0 0, .bool false])) w2) := ⟨HB.out, .inr ⟨.inl h0, rfl⟩⟩
    go_wp2_with fail
    go_ret2
    exact HF.out
  · by_cases h1 : (t.count : Int) ≤ z
    · have HF : Hid (PathRet w t z (.returned (.tuple #[.slice none 0 0, .bool false])) w2) := ⟨HB.out, .inr ⟨.inr h1, rfl⟩⟩
      go_wp2_with fail
      go_ret2
      exact HF.out
    · obtain ⟨n, rfl⟩ : ∃ n : Nat, z = n := ⟨z.toNat, by omega⟩
      have hn : n < t.count := by omega
      obtain ⟨v, q, e1, e2, e3⟩ := HP.out.2.2 n hn
      have hnz : (n : Int) < (t.count : Int) := by omega
      have hn0 : (0 : Int) ≤ (n : Int) := by omega
      have HF : Hid (PathRet w t (n : Int) (.returned (.tuple #[v, .bool true])) w2) := ⟨HB.out, .inl ⟨n, q, v, rfl, e2, rfl, e3.ints⟩⟩
      obtain ⟨g', cp, rfl, _, _, _⟩ := e3
      clear e2 hn
      go_wp2_with fail
      go_ret2
      exact HF.out

/-- What Number answers. -/
def NumberRet (w : World) (t : Tree) (l : List Int) (e : Ending) (w' : World) : Prop :=
  Below w.heap.size w w' ∧ ((∃ y, t.get l = some y ∧ e = .returned (.tuple #[.int .i64 (t.numberOf l), .bool true])) ∨ (t.get l = none ∧ e = .returned (.tuple #[.int .i64 0, .bool false])))

def NoneYet (t : Tree) (l : List Int) (k : Nat) : Prop := ∀ i q, i < k → t.pathOf i = some q → Tree.ints q ≠ l

set_option maxRecDepth 100000 in
set_option maxHeartbeats 6400000 in
theorem refNumber_any (t : Tree) (kv : Value) (l : List Int) (pv : Value) (w : World) (hk : KidsV w kv t.kids) (hp : IntsV w pv l) (hct : t.count ≤ 100000) (hll : l.length ≤ 100000) :
    Calls Tryz.prog 22 #[nodeV t kv, pv] w (NumberRet w t l) := by
  have hpa := fun W (hb : Below w.heap.size w W) => refPaths_any t kv W (hk.later hb) (by omega)
  obtain ⟨p, cap, g, o, rfl, _, _⟩ := hk.open
  have HPV := hidden hp
  obtain ⟨pp, pcap, pg, po, rfl, _, _⟩ := hp
  simp only [nodeV] at hpa ⊢
  clear hk
  have hpa1 := hpa _ (below_alloc w (.cells #[.int .i64 t.kind, .string t.text, .int .i64 t.at_, .int .i64 t.end_, .slice p t.kids.length cap] 24))
  clear hpa
  go_enter Tryz.func22, Tryz.ntmps22
  go_wp2_with fail
  (with_reducible refine hpa1.mono ?_)
  rintro e w2 ⟨g2, c2, rfl, hg2, hP, hb2⟩
  have HB := hidden (bt (below_alloc w (.cells #[.int .i64 t.kind, .string t.text, .int .i64 t.at_, .int .i64 t.end_, .slice p t.kids.length cap] 24)) hb2)
  have HP := hidden hP
  have HPV2 := hidden (HPV.out.later HB.out)
  clear hpa1 hP hb2 hg2
  go_wp2_with fail
  go_loopw [7] (fun i wr => ∃ k : Nat, k ≤ t.count ∧ i = .int .i64 k ∧ Hid (NoneYet t l k ∧ Below w2.heap.size w2 wr)) (fun i _ => t.count - (intOf i).toNat)
  case atStart => exact ⟨0, Nat.zero_le _, rfl, fun i q h => absurd h (Nat.not_lt_zero i), Below.refl _ _⟩
  case round =>
    obtain ⟨k, hk, rfl, hh⟩ := hrel
    obtain ⟨hN, hB⟩ := hh.out
    clear hh
    by_cases hlt : k < t.count
    · obtain ⟨v, q, e1, e2, e3⟩ := HP.out.2.2 k hlt
      have hnz : (k : Int) < (t.count : Int) := by omega
      have hn0 : (0 : Int) ≤ (k : Int) := by omega
      have hgl := HP.out.1
      have c1 := (hB.cell (p := ⟨g2, k, none⟩) hgl).trans e1
      have hql := path_len' t e2
      have hin := refInts_row ((e3.ints.later hB).row) ((HPV2.out.later hB).row) (by rw [Tree.ints_len]; omega) hll
      obtain ⟨g', cp, rfl, _, _, _⟩ := e3
      have HB2 := hidden hB
      have HQ := hidden e2
      have HN := hidden hN
      clear e1 e2 hgl hB hN hql
      by_cases heq : Tree.ints q = l
      · rw [decide_eq_true heq] at hin
        have HF : Hid (∀ w', Below w2.heap.size w2 w' → NumberRet w t l (.returned (.tuple #[.int .i64 k, .bool true])) w') := fun w' hb => by
          obtain ⟨⟨y, h1⟩, h2⟩ := Tree.pathOf_get t HQ.out
          rw [heq] at h1 h2
          exact ⟨bt HB.out hb, .inl ⟨y, h1, by rw [h2]⟩⟩
        clear heq
        go_wp2_with fail
        (with_reducible refine hin.mono ?_)
        rintro e w3 ⟨rfl, qn, rfl⟩
        clear hin
        go_wp2_with fail
        go_ret2
        exact HF.out _ (below_drewN HB2.out _)
      · rw [decide_eq_false heq] at hin
        have HN2 : Hid (NoneYet t l (k + 1)) := fun i q' h1 h2 => by
          rcases Nat.lt_or_ge i k with h | h
          · exact HN.out i q' h h2
          · obtain rfl : i = k := by omega
            rw [HQ.out] at h2
            cases h2
            exact heq
        clear heq
        go_wp2_with fail
        (with_reducible refine hin.mono ?_)
        rintro e w3 ⟨rfl, qn, rfl⟩
        clear hin
        go_wp2_with fail
        go_roundw
        case rel => exact ⟨k + 1, by omega, by go_num, HN2.out, below_drewN HB2.out _⟩
        case measure => simp [intOf]; omega
    · obtain rfl : k = t.count := by omega
      have hge : ¬ ((t.count : Int) < (t.count : Int)) := by omega
      have HF : Hid (NumberRet w t l (.returned (.tuple #[.int .i64 0, .bool false])) wr) := by
        refine ⟨bt HB.out hB, .inr ⟨?_, rfl⟩⟩
        cases hg : t.get l with
        | none => rfl
        | some y =>
          obtain ⟨h1, h2⟩ := Tree.numberOf_path hg
          have h3 := Tree.numberOf_lt hg
          have := Tree.count_pos y
          exact absurd h2 (hN _ _ (by omega) h1)
      clear hN hB
      go_wp2_with fail
      go_ret2
      exact HF.out

end Go.Proofs.YtlbaaiglebpjiaaGreatDoor
