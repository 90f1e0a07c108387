/-
  Texts.
-/
import Derived.Test.YtlbaaiglebpjiaaGreatDoorJe
import Derived.Deep.AppendLies
import Derived.Laws.EntriesVeiled
namespace Go.Proofs.YtlbaaiglebpjiaaGreatDoor
open Go.RowKit Go.Shelf Go.Lib

/-- Blocks from K on that lay are as they were, but those that are owned; what is owned was owned or is new. -/
structure KeptO (K : Nat) (Own : World → Nat → Prop) (w w' : World) : Prop where
  size : w.heap.size ≤ w'.heap.size
  block : ∀ k, K ≤ k → k < w.heap.size → ¬ Own w k → w'.heap[k]? = w.heap[k]?
  own : ∀ k, Own w' k → Own w k ∨ w.heap.size ≤ k

theorem KeptO.trans {K : Nat} {Own : World → Nat → Prop} {a b c : World} (h : KeptO K Own a b) (k : KeptO K Own b c) : KeptO K Own a c := by
  refine ⟨Nat.le_trans h.size k.size, fun i h1 h2 h3 => ?_, fun i hi => ?_⟩
  · refine (k.block i h1 (Nat.lt_of_lt_of_le h2 h.size) (fun ho => ?_)).trans (h.block i h1 h2 h3)
    rcases h.own i ho with h4 | h4
    · exact h3 h4
    · omega
  · rcases k.own i hi with h4 | h4
    · exact h.own i h4
    · exact .inr (Nat.le_trans h.size h4)

set_option maxRecDepth 100000 in
set_option maxHeartbeats 3200000 in
theorem each_own {gf : Nat} {lb : Array Value} (eg : ∀ args w, (callFunc gf args).run Tryz.prog w = .ok (.enter gf args) w) {K : Nat} {Own : World → Nat → Prop} {w0 : World} {L : List Tree} (hL : L.length ≤ 4611686018427387904) {J : List Tree → World → Prop}
    (hJ : ∀ s W, J s W → Below w0.heap.size w0 W ∧ K ≤ W.heap.size) (hA : ∀ s W W', J s W → Below W.heap.size W W' → J s W' ∧ (∀ k, Own W' k → Own W k)) (hO : ∀ s W k, J s W → Own W k → k < W.heap.size)
    (hv : ∀ s x kv W, J s W → KidsV w0 kv x.kids → (s ++ [x]) <+: L → Calls Tryz.prog gf (#[nodeV x kv] ++ lb) W fun e W' => (∃ v, e = .returned v) ∧ J (s ++ [x]) W' ∧ KeptO K Own W W') (t : Tree) :
    ∀ kv pre W, J pre W → KidsV w0 kv t.kids → (pre ++ t.nodes) <+: L →
      Calls Tryz.prog 56 #[nodeV t kv, .func (.func gf) #[] lb] W fun e W' => (∃ v, e = .returned v) ∧ J (pre ++ t.nodes) W' ∧ KeptO K Own W W' := by
  refine Tree.induct (P := fun t => ∀ kv pre W, J pre W → KidsV w0 kv t.kids → (pre ++ t.nodes) <+: L →
      Calls Tryz.prog 56 #[nodeV t kv, .func (.func gf) #[] lb] W fun e W' => (∃ v, e = .returned v) ∧ J (pre ++ t.nodes) W' ∧ KeptO K Own W W') (fun t ih => ?_) t
  intro kv pre W hj hk hp
  have hvis := fun W1 (h : J pre W1) => hv pre t kv W1 h hk (nodes_prefix hp)
  obtain ⟨p, cap, g, o, rfl, hpp, hat⟩ := hk.open
  have HP := hidden hp
  have HAT := hidden hat
  have HPP := hidden hpp
  have hKW := (hJ _ _ hj).2
  have hlb : t.kids.length ≤ 4611686018427387904 := Nat.le_trans (nodes_len hp) hL
  have hal : ∀ s W W', J s W → Below W.heap.size W W' → KeptO K Own W W' := fun s W W' h hb => ⟨hb.size, fun k _ h2 _ => hb.block k h2, fun k hk => .inl ((hA s W W' h hb).2 k hk)⟩
  have hbox : ∀ W2, KeptO K Own (W.alloc (.cells #[.int .i64 t.kind, .string t.text, .int .i64 t.at_, .int .i64 t.end_, .slice p t.kids.length cap] 24)) W2 → W2.cell? ⟨W.heap.size, 4, none⟩ = some (.slice p t.kids.length cap) := by
    intro W2 h
    have hno : ¬ Own (W.alloc (.cells #[.int .i64 t.kind, .string t.text, .int .i64 t.at_, .int .i64 t.end_, .slice p t.kids.length cap] 24)) W.heap.size := by
      intro ho
      have := hO _ _ _ hj ((hA _ _ _ hj ((Below.refl _ _).alloc (Nat.le_refl _) _)).2 _ ho)
      omega
    refine (World.cell?_of_block (a := ⟨W.heap.size, 4, none⟩) (h.block _ hKW (by simp) hno)).trans ?_
    simp [go_sem]
  have hb1 : ∀ o, J pre (W.alloc o) := fun o => (hA _ _ _ hj ((Below.refl _ _).alloc (Nat.le_refl _) _)).1
  have hkal : ∀ o, KeptO K Own W (W.alloc o) := fun o => hal _ _ _ hj ((Below.refl _ _).alloc (Nat.le_refl _) _)
  clear hk hp hat hpp hv
  simp only [nodeV] at hvis ⊢
  go_enter Tryz.func56, Tryz.ntmps56
  go_wp2_with (go_at_fn gf; (with_reducible refine (hvis _ (hb1 _)).mono ?_); rintro e W2 ⟨⟨v, rfl⟩, hj2, hk2⟩; have hbx := hbox _ hk2)
  have hk3 : KeptO K Own W W2 := (hkal _).trans hk2
  clear hk2 hbox hvis hb1 hj hkal
  go_loopw [12] (fun i wr => ∃ k : Nat, k ≤ t.kids.length ∧ i = .int .i64 k ∧ Hid (J (pre ++ t :: Tree.nodesL (t.kids.take k)) wr ∧ KeptO K Own W wr)) (fun i _ => t.kids.length - (intOf i).toNat)
  case atStart => exact ⟨0, Nat.zero_le _, rfl, by rw [List.take_zero, Tree.nodesL]; exact hj2, hk3⟩
  case round =>
    obtain ⟨k, hk, rfl, hh⟩ := hrel
    clear hj2 hk3
    by_cases hlt : k < t.kids.length
    · have hx : t.kids[k]? = some t.kids[k] := List.getElem?_eq_getElem hlt
      generalize t.kids[k] = x at hx
      obtain ⟨rfl, hg⟩ := HPP.out (fun h => by rw [h] at hlt; exact absurd hlt (Nat.not_lt_zero _))
      obtain ⟨kv', hn, hkv⟩ := HAT.out k x hx
      obtain ⟨p2, cap2, _, _, rfl, _, _⟩ := hkv.open
      have hn2 := hn.of_block ((hJ _ _ hh.out.1).1.block g hg)
      have c0 := hn2.c0
      have c1 := hn2.c1
      have c2 := hn2.c2
      have c3 := hn2.c3
      have c4 := hn2.c4
      have hltz : (k : Int) < (t.kids.length : Int) := by omega
      have hrec : ∀ W', Below wr.heap.size wr W' → Calls Tryz.prog 56 #[.agg #[.int .i64 x.kind, .string x.text, .int .i64 x.at_, .int .i64 x.end_, .slice p2 x.kids.length cap2], .func (.func gf) #[] lb] W' fun e W' => (∃ v, e = .returned v) ∧ J (pre ++ t :: Tree.nodesL (t.kids.take (k + 1))) W' ∧ KeptO K Own wr W' := by
        intro W' hb
        refine (ih x (List.mem_of_getElem? hx) _ _ W' (hA _ _ _ hh.out.1 hb).1 hkv (nodes_step HP.out hx)).mono ?_
        rintro e W3 ⟨h1, h2, h3⟩
        rw [nodes_more hx] at h2
        exact ⟨h1, h2, (hal _ _ _ hh.out.1 hb).trans h3⟩
      clear hn hn2 hkv hx ih
      go_wp2_with (go_at_call 56; (with_reducible refine (hrec _ (by repeat (first | exact Below.refl _ _ | refine Below.setCell ?_ (by first | exact Nat.le_refl _ | (simp; done) | (simp; omega)) _ | refine Below.alloc ?_ (by first | exact Nat.le_refl _ | (simp; done) | (simp; omega)) _))).mono ?_); rintro e W3 ⟨⟨v, rfl⟩, hj3, hk3⟩)
      go_roundw
      case rel => exact ⟨k + 1, by omega, by go_num, hj3, hh.out.2.trans hk3⟩
      case measure => simp [intOf]; omega
    · obtain rfl : k = t.kids.length := by omega
      go_wp2_with fail
      go_end0
      exact ⟨⟨_, rfl⟩, by rw [← nodes_all]; exact hh.out.1, hh.out.2⟩

/-- The texts of the nodes of a kind. -/
def txts (k : Int) (s : List Tree) : List ByteArray := (s.filter fun x => x.kind == k).map Tree.text
theorem txts_yes {k : Int} {s : List Tree} {x : Tree} (h : x.kind = k) : txts k (s ++ [x]) = txts k s ++ [x.text] := by
  unfold txts; rw [List.filter_append, List.filter_cons_of_pos (by simp [h]), List.filter_nil, List.map_append]; rfl
theorem txts_no {k : Int} {s : List Tree} {x : Tree} (h : ¬ x.kind = k) : txts k (s ++ [x]) = txts k s := by
  unfold txts; rw [List.filter_append, List.filter_cons_of_neg (by simp [h]), List.filter_nil, List.append_nil]
theorem txts_len (k : Int) (s : List Tree) : (txts k s).length ≤ s.length := by unfold txts; rw [List.length_map]; exact List.length_filter_le _ _

/-- What Texts keeps: b: the variable, below it the kind. -/
structure TJ (w0 : World) (k : Int) (b : Nat) (s : List Tree) (W : World) : Prop where
  below : Below w0.heap.size w0 W
  h0 : w0.heap.size < b ∧ b + 1 ≤ W.heap.size
  kind : W.cell? ⟨b - 1, 0, none⟩ = some (.int .i64 k)
  var_ : ∃ v, W.cell? ⟨b, 0, none⟩ = some v ∧ W.ownsRow (b + 1) 9 1 v (txts k s).length ((txts k s).map Value.string)
  varZ : W.frozen? ⟨b, 0, none⟩ = false

def TOwn (b : Nat) (W : World) (k : Nat) : Prop := ∃ v, W.cell? ⟨b, 0, none⟩ = some v ∧ v.ownBlock = some k

theorem TJ.later {w0 : World} {k : Int} {b : Nat} {s : List Tree} {W W' : World} (h : TJ w0 k b s W) (hb : Below W.heap.size W W') : TJ w0 k b s W' ∧ ∀ i, TOwn b W' i → TOwn b W i := by
  obtain ⟨a1, a2, a3, ⟨v, a4, a5⟩, a6⟩ := h
  have hc : W'.cell? ⟨b, 0, none⟩ = W.cell? ⟨b, 0, none⟩ := hb.cell (p := ⟨b, 0, none⟩) a2.2
  refine ⟨⟨bt a1 hb, ⟨a2.1, Nat.le_trans a2.2 hb.size⟩, (hb.cell (p := ⟨b - 1, 0, none⟩) (by show b - 1 < _; omega)).trans a3, ⟨v, hc.trans a4, ⟨a5.1, ?_⟩⟩, (hb.frozen (p := ⟨b, 0, none⟩) a2.2).trans a6⟩, fun i hi => ?_⟩
  · rcases a5.2 with h | ⟨g, cap, cur, e1, e2, e3, e4⟩
    · exact .inl h
    · exact .inr ⟨g, cap, cur, e1, e2, (hb.block g (Array.getElem?_eq_some_iff.1 e3).1).trans e3, e4⟩
  · obtain ⟨v', h1, h2⟩ := hi
    exact ⟨v', by rw [← hc]; exact h1, h2⟩

theorem TJ.own_lt {w0 : World} {k : Int} {b : Nat} {s : List Tree} {W : World} (h : TJ w0 k b s W) {i : Nat} (hi : TOwn b W i) : b + 1 ≤ i ∧ i < W.heap.size := by
  obtain ⟨v, a4, a5⟩ := h.var_
  obtain ⟨v', h1, h2⟩ := hi
  rw [a4] at h1
  cases h1
  exact a5.lt i h2

theorem infoStr : (Tryz.prog.info? 9).map (fun i => (i.zero, i.size, i.bytes)) = some (some (.string ByteArray.empty), 1, 16) := by kernel_rfl

set_option maxRecDepth 100000 in
set_option maxHeartbeats 6400000 in
theorem texts1_any {w0 : World} {k : Int} {b : Nat} {s : List Tree} (x : Tree) (kv : Value) (W : World) (h : TJ w0 k b s W) (hk : KidsV w0 kv x.kids) (hs : s.length ≤ 4194304) :
    Calls Tryz.prog 60 #[nodeV x kv, .pointer (some ⟨b - 1, 0, none⟩), .pointer (some ⟨b, 0, none⟩)] W fun e W' => (∃ v, e = .returned v) ∧ TJ w0 k b (s ++ [x]) W' ∧ KeptO (b + 1) (TOwn b) W W' := by
  obtain ⟨i0, hi, hz0, hz1, hz2⟩ := info_parts infoStr
  have hlt : b < W.heap.size := h.h0.2
  have hlt1 : b - 1 < W.heap.size := by omega
  have hb0 : b - 1 < b := by have := h.h0.1; omega
  have n0 : b ≠ W.heap.size := by omega
  have n1 : b - 1 ≠ W.heap.size := by omega
  have kc := h.kind
  obtain ⟨v, vc, own⟩ := h.var_
  have vz := h.varZ
  obtain ⟨kp, kcap, kg, ko, rfl, _, _⟩ := hk.open
  obtain ⟨pa, pn, pc, rfl⟩ : ∃ pa pn pc, v = .slice pa pn pc := by
    rcases own.2 with ⟨h, _⟩ | ⟨g', cap', cur, h, _⟩
    · exact ⟨_, _, _, h⟩
    · exact ⟨_, _, _, h⟩
  have hlen := txts_len k s
  have hal : ∀ o, Below W.heap.size W (W.alloc o) := fun o => (Below.refl _ _).alloc (Nat.le_refl _) _
  have H := hidden h
  simp only [nodeV]
  clear hk h
  by_cases hkk : x.kind = k
  · have d1 : (x.kind == k) = true := by rw [hkk]; simp
    have HK := hidden hkk
    clear hkk
    have hfin : ∀ g5 cap5 w5, w5.ownsRow (b + 1) 9 1 (.slice (some ⟨g5, 0, none⟩) ((txts k s).length + 1) cap5) ((txts k s).length + 1) ((txts k s).map Value.string ++ [.string x.text]) →
        ((W.alloc (.cells #[.int .i64 x.kind, .string x.text, .int .i64 x.at_, .int .i64 x.end_, .slice kp x.kids.length kcap] 24)).alloc (.cells #[.string x.text] 9)).grownBy w5 (Value.slice pa pn pc).ownBlock →
        ((Value.slice pa pn pc).ownBlock = some g5 ∨ g5 = W.heap.size + 2) →
        w5.cell? ⟨b, 0, none⟩ = some (.slice pa pn pc) ∧ w5.frozen? ⟨b, 0, none⟩ = false ∧ Hid (TJ w0 k b (s ++ [x]) (w5.setCell ⟨b, 0, none⟩ (.slice (some ⟨g5, 0, none⟩) ((txts k s).length + 1) cap5)) ∧ KeptO (b + 1) (TOwn b) W (w5.setCell ⟨b, 0, none⟩ (.slice (some ⟨g5, 0, none⟩) ((txts k s).length + 1) cap5))) := by
      intro g5 cap5 w5 ho hgr hat5
      have hz2' : ((W.alloc (.cells #[.int .i64 x.kind, .string x.text, .int .i64 x.at_, .int .i64 x.end_, .slice kp x.kids.length kcap] 24)).alloc (.cells #[.string x.text] 9)).heap.size = W.heap.size + 2 := by simp
      have hb2 : Below W.heap.size W ((W.alloc (.cells #[.int .i64 x.kind, .string x.text, .int .i64 x.at_, .int .i64 x.end_, .slice kp x.kids.length kcap] 24)).alloc (.cells #[.string x.text] 9)) := (hal _).alloc (by simp) _
      have hrow : ∀ i, (Value.slice pa pn pc).ownBlock = some i → b + 1 ≤ i ∧ i < W.heap.size := own.lt
      have hz5 := hgr.size
      rw [hz2'] at hz5
      have hold : ∀ i, i < W.heap.size → some i ≠ (Value.slice pa pn pc).ownBlock → w5.heap[i]? = W.heap[i]? := fun i h1 h2 => (hgr.block i (by rw [hz2']; omega) h2).trans (hb2.block i h1)
      have hlow : ∀ i, i ≤ b → w5.heap[i]? = W.heap[i]? := fun i h1 => hold i (by omega) (fun e => by have := (hrow i e.symm).1; omega)
      have q6 := (World.cell?_of_block (a := ⟨b, 0, none⟩) (hlow b (Nat.le_refl _))).trans vc
      have q7 := (World.frozen?_of_block (a := ⟨b, 0, none⟩) (hlow b (Nat.le_refl _))).trans vz
      have hs : ∀ i, i ≠ b → (w5.setCell ⟨b, 0, none⟩ (.slice (some ⟨g5, 0, none⟩) ((txts k s).length + 1) cap5)).heap[i]? = w5.heap[i]? := fun i hi => Below.heap_setCell _ _ _ _ hi
      have hnew : (w5.setCell ⟨b, 0, none⟩ (.slice (some ⟨g5, 0, none⟩) ((txts k s).length + 1) cap5)).cell? ⟨b, 0, none⟩ = some (.slice (some ⟨g5, 0, none⟩) ((txts k s).length + 1) cap5) := by simp [go_sem, q6]
      refine ⟨q6, q7, ⟨⟨⟨?_, ?_, ?_, ?_, ?_⟩, ⟨H.out.h0.1, by simp [World.setCell]; omega⟩, ?_, ⟨_, hnew, ?_⟩, by simp [go_sem, q7]⟩, ⟨by simp [World.setCell]; omega, fun i h1 h2 h3 => ?_, fun i hi => ?_⟩⟩⟩
      · exact hgr.os.trans H.out.below.os
      · exact hgr.tape.trans H.out.below.tape
      · exact hgr.output.trans H.out.below.output
      · have := H.out.below.size; simp [World.setCell]; omega
      · intro i hi
        have := H.out.h0.1
        exact ((hs i (by omega)).trans (hlow i (by omega))).trans (H.out.below.block i hi)
      · exact (World.cell?_of_block (a := ⟨b - 1, 0, none⟩) ((hs (b - 1) (by omega)).trans (hlow (b - 1) (by omega)))).trans kc
      · rw [txts_yes HK.out, List.length_append, List.length_singleton, List.map_append]
        exact ownsRow_setCell_below ho (by show b < b + 1; omega) _
      · refine (hs i (by omega)).trans (hold i h2 (fun e => h3 ⟨_, vc, e.symm⟩))
      · obtain ⟨v', h1, h2⟩ := hi
        rw [hnew] at h1
        cases h1
        have h3 : g5 = i := by simpa [Value.ownBlock] using h2
        subst h3
        rcases hat5 with h | h
        · exact .inl ⟨_, vc, h⟩
        · right; omega
    go_enter Tryz.func60, Tryz.ntmps60
    go_wp2_with (at_builtin; refine wpList_append_lies _ rfl (.tmp 8) (.tmp 11) 43 rfl (b + 1) 9 i0 (.string ByteArray.empty) 1 16 Tryz.underlying43 hi hz0 hz1 hz2 rfl (by decide) _ _ _ rfl ((own.alloc _).alloc _) ⟨W.heap.size + 1, 0, none⟩ 1 1 [.string x.text] rfl rfl (by intro j u hj; rcases j with _ | j; (simp at hj; subst hj; simp [Addr.add]); (simp at hj)) (by intro u hu; rw [List.mem_singleton.1 hu]; rfl) (by decide) (by unfold maxLen; omega) (by omega) (by simp; omega) (W.heap.size + 2) (by simp) ?_; intro g5 cap5 w5 hown5 hgrow5 hat5 hlt5; obtain ⟨r1, r2, HR⟩ := hfin g5 cap5 w5 hown5 hgrow5 hat5; clear hown5 hgrow5 hat5 hfin)
    go_end0
    exact ⟨⟨_, rfl⟩, HR.out.1, HR.out.2⟩
  · have d1 : (x.kind == k) = false := by rw [beq_eq_false_iff_ne]; exact hkk
    go_enter Tryz.func60, Tryz.ntmps60
    go_wp2_with fail
    go_end0
    obtain ⟨j1, j2⟩ := H.out.later (hal (.cells #[.int .i64 x.kind, .string x.text, .int .i64 x.at_, .int .i64 x.end_, .slice kp x.kids.length kcap] 24))
    refine ⟨⟨_, rfl⟩, ⟨j1.below, j1.h0, j1.kind, by rw [txts_no hkk]; exact j1.var_, j1.varZ⟩, ⟨by simp, fun i _ h2 _ => (hal _).block i h2, fun i hi => .inl (j2 i hi)⟩⟩

set_option maxRecDepth 100000 in
set_option maxHeartbeats 3200000 in
theorem texts_any (t : Tree) (kv : Value) (k : Int) (w : World) (hk : KidsV w kv t.kids) (hct : t.count ≤ 4194304) :
    Calls Tryz.prog 34 #[nodeV t kv, .int .i64 k] w fun e w' => ∃ v, e = .returned v ∧ w'.ownsRow w.heap.size 9 1 v (t.texts k).length ((t.texts k).map Value.string) ∧ Below w.heap.size w w' := by
  have hmf : ∀ (fn : Fn) (first cap : Array Value) (w : World), (Instr.makeFunc fn first cap).run Tryz.prog w = .ok (.func fn first cap) w := fun _ _ _ _ => rfl
  have eg := enters_of Tryz.func60 (by kernel_rfl) rfl
  have hE : ∀ W, TJ w k (w.heap.size + 1 + 1) [] W → Calls Tryz.prog 56 #[nodeV t kv, .func (.func 60) #[] #[.pointer (some ⟨w.heap.size + 1, 0, none⟩), .pointer (some ⟨w.heap.size + 1 + 1, 0, none⟩)]] W fun e W' => (∃ v, e = .returned v) ∧ TJ w k (w.heap.size + 1 + 1) t.nodes W' := by
    intro W hj
    refine (each_own (gf := 60) eg (K := w.heap.size + 1 + 1 + 1) (Own := TOwn (w.heap.size + 1 + 1)) (w0 := w) (L := t.nodes) (by unfold Tree.count at hct; omega) (J := TJ w k (w.heap.size + 1 + 1)) (fun s W h => ⟨h.below, h.h0.2⟩) (fun s W W' h hb => h.later hb) (fun s W i h hi => (h.own_lt hi).2) ?_ t kv [] W hj hk (by rw [List.nil_append]; exact List.prefix_refl _)).mono ?_
    · intro s x kv' W1 h1 hkx hpre
      have hl := hpre.length_le
      rw [List.length_append, List.length_singleton] at hl
      exact texts1_any x kv' W1 h1 hkx (by unfold Tree.count at hct; omega)
    · rintro e W2 ⟨a1, a2, _⟩
      rw [List.nil_append] at a2
      exact ⟨a1, a2⟩
  clear eg
  obtain ⟨kp, kcap, kg, ko, rfl, _, _⟩ := hk.open
  have HT : Hid (txts k t.nodes = t.texts k) := rfl
  simp only [nodeV] at hE ⊢
  clear hk
  go_enter Tryz.func34, Tryz.ntmps34
  go_wp2_with (go_at_call 56; go_loud (with_reducible refine (hE _ (TJ.mk (by repeat (first | exact Below.refl _ _ | refine Below.setCell ?_ (by first | exact Nat.le_refl _ | (simp; done) | (simp; omega)) _ | refine Below.alloc ?_ (by first | exact Nat.le_refl _ | (simp; done) | (simp; omega)) _)) ⟨by omega, by simp⟩ (by simp [go_sem]) ⟨.slice none 0 0, (by simp [go_sem]), World.ownsRow_nil _ _ _ _⟩ (by simp [go_sem]))).mono ?_); rintro e W2 ⟨⟨v, rfl⟩, hT⟩; obtain ⟨v2, vc, hown⟩ := hT.var_; have HO := hidden hown; have HB := hidden hT.below)
  obtain ⟨pa, pn, pc, rfl⟩ : ∃ pa pn pc, v2 = .slice pa pn pc := by
    rcases HO.out.2 with ⟨h, _⟩ | ⟨g', cap', cur, h, _⟩
    · exact ⟨_, _, _, h⟩
    · exact ⟨_, _, _, h⟩
  clear hT hown hE
  go_wp2_with fail
  go_ret
  have ho := HO.out
  rw [HT.out] at ho
  exact ⟨_, rfl, row_mono ho (by omega), HB.out⟩

end Go.Proofs.YtlbaaiglebpjiaaGreatDoor
