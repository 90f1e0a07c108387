/-
  slices.Clone of nodes; texts of a tree in which one node was replaced.
-/
import Derived.Test.YtlbaaiglebpjiaaGreatDoorKf
import Derived.Test.YtlbaaiglebpjiaaGreatDoorUg
namespace Go.Proofs.YtlbaaiglebpjiaaGreatDoor
open Go.RowKit Go.Shelf Go.Lib

theorem textsOk_iff (t : Tree) : TextsOk t ↔ t.text.size ≤ 4096 ∧ ∀ x ∈ t.kids, TextsOk x := by
  constructor
  · intro h
    refine ⟨h t (by rw [Tree.nodes_eq]; exact List.mem_cons_self), fun x hx y hy => h y (nodes_kid hx y hy)⟩
  · rintro ⟨h1, h2⟩ y hy
    rw [Tree.nodes_eq] at hy
    rcases List.mem_cons.1 hy with rfl | hy
    · exact h1
    · have : ∀ ts : List Tree, (∀ x ∈ ts, TextsOk x) → ∀ y ∈ Tree.nodesL ts, y.text.size ≤ 4096 := by
        intro ts
        induction ts with
        | nil => intro _ y hy; rw [Tree.nodesL] at hy; cases hy
        | cons a ts ih =>
          intro h y hy
          rw [Tree.nodesL] at hy
          rcases List.mem_append.1 hy with hy | hy
          · exact h a List.mem_cons_self y hy
          · exact ih (fun x hx => h x (List.mem_cons_of_mem _ hx)) y hy
      exact this t.kids h2 y hy

theorem textsOk_short {t : Tree} (h : shortB t = true) : TextsOk t := by
  intro x hx
  unfold shortB at h
  have h1 := List.all_eq_true.1 h x hx
  unfold textB at h1
  have h2 : x.text.size ≤ 40 := of_decide_eq_true h1
  omega

theorem textsOk_get {l : List Int} : ∀ {t y : Tree}, TextsOk t → t.get l = some y → TextsOk y := by
  induction l with
  | nil => intro t y h hg; simp [Tree.get] at hg; subst hg; exact h
  | cons z p ih =>
    intro t y h hg
    obtain ⟨m, x, rfl, hx, h2⟩ := Tree.get_split hg
    exact ih (((textsOk_iff t).1 h).2 x (List.mem_of_getElem? hx)) h2

theorem textsOk_replace {b : Tree} (hb : TextsOk b) : ∀ {l : List Int} {t y : Tree}, TextsOk t → t.get l = some y → TextsOk (t.replace (l.map Int.toNat) b)
  | [], t, y, _, _ => by rw [List.map_nil, Tree.replace]; exact hb
  | z :: p, t, y, h, hg => by
    obtain ⟨m, x, rfl, hx, h2⟩ := Tree.get_split hg
    rw [List.map_cons, show ((m : Int)).toNat = m by omega, Tree.replace_cons hx]
    have h1 := (textsOk_iff t).1 h
    refine (textsOk_iff _).2 ⟨h1.1, fun y hy => ?_⟩
    rw [Tree.kids_mk] at hy
    rcases List.mem_or_eq_of_mem_set hy with hy | rfl
    · exact h1.2 y hy
    · exact textsOk_replace hb (h1.2 x (List.mem_of_getElem? hx)) h2

/-- A row of one's own reads as trees. -/
theorem row_kidsV {w : World} {B : Nat} {e : TypeId} {v : Value} {L : List (Tree × Value)} (h : w.ownsRow B e 5 v L.length (forestC L)) (hk : ∀ (i : Nat) x, L[i]? = some x → KidsV w x.2 x.1.kids) : KidsV w v (L.map (·.1)) := by
  rcases h.2 with ⟨rfl, h0⟩ | ⟨g, cap, cur, rfl, h2, h3, h4, h5⟩
  · rw [List.length_eq_zero_iff.1 h0]; exact KidsV.nil w none 0
  · have hl : (L.map (·.1)).length = L.length := by simp
    have := KidsV.shut (w := w) (ts := L.map (·.1)) (p := some ⟨g, 0, none⟩) (cap := cap) (g := g) (o := 0) (by rw [hl]; exact h4) (fun _ => rfl) (fun i t ht => by
      rw [List.getElem?_map] at ht
      cases hx : L[i]? with
      | none => rw [hx] at ht; cases ht
      | some x =>
        rw [hx] at ht
        cases ht
        exact ⟨x.2, by rw [Nat.zero_add]; exact (ownsRow_nodeAt h hx).1, hk i x hx⟩)
    rw [hl] at this
    exact this

/-- What Clone hands back. -/
def CloneRet (F : Nat → Prop) (w : World) (ts : List Tree) (e : Ending) (w' : World) : Prop :=
  ∃ L p n c, e = .returned (.slice p n c) ∧ n = ts.length ∧ L.map (·.1) = ts ∧ w'.ownsRow w.heap.size 24 5 (.slice p n c) n (forestC L) ∧ (∀ (i : Nat) x, L[i]? = some x → KidsS w F x.2 x.1.kids) ∧ Below w.heap.size w w'

set_option maxRecDepth 100000 in
set_option maxHeartbeats 3200000 in
theorem clone_any (F : Nat → Prop) (ts : List Tree) (kv : Value) (w : World) (hF : ∀ k, F k → k < w.heap.size) (hk : KidsS w F kv ts) (hl : ts.length ≤ 4194304) :
    Calls Tryz.prog 39 #[kv] w (CloneRet F w ts) := by
  have q22 : ∀ (w : World) (a : Option Addr) (n c n' c' : Nat), (binOp .eql 22 (.slice a n c) (.slice none n' c')).run Tryz.prog w = .ok (.bool a.isNone) w := fun w a n c n' c' => Lib.run_eql_slice_nil w _ _ a n c n' c' Tryz.underlying22
  obtain ⟨i0, hi, hz0, hz1, hz2⟩ := info_parts infoNode
  obtain ⟨p, cap, g, o, rfl, _, hpp, L, hLt, hat⟩ := hk.open
  cases p with
  | none =>
    have h0 : ts = [] := by
      cases ts with
      | nil => rfl
      | cons a ts => obtain ⟨h, _⟩ := hpp (by simp); cases h
    subst h0
    have HR : Hid (∀ W, W = w → CloneRet F w [] (.returned (.slice none 0 0)) W) := fun W h => by
      subst h
      exact ⟨[], none, 0, 0, rfl, rfl, rfl, World.ownsRow_nil _ _ _ _, fun i x h => by simp at h, Below.refl _ _⟩
    clear hk hpp hat hLt
    simp only [List.length_nil]
    go_enter Tryz.func39, Tryz.ntmps39
    go_wp2_with fail
    go_ret
    exact HR.out _ rfl
  | some ad =>
    have hLl : L.length = ts.length := by rw [← hLt, List.length_map]
    have hnews : ∀ (j : Nat) u, (forestC L)[j]? = some u → (w.alloc (.cells #[] 24)).cell? (ad.add j) = some u := fun j u hu => by
      have hne : ts ≠ [] := by
        intro h
        rw [h] at hLl
        rw [List.length_eq_zero_iff.1 hLl] at hu
        simp [forestC] at hu
      obtain ⟨had, hgF⟩ := hpp hne
      cases had
      rw [Go.WideShapes.add_plain]
      exact ((below_alloc w _).cell (p := ⟨g, o + j, none⟩) (hF g hgF)).trans (forestC_cells (fun i x hx => (hat i x hx).1) j u hu)
    have hone : ∀ u ∈ forestC L, u.oneCell' = true := forestC_one (fun x hx => by
      obtain ⟨i, hi⟩ := List.getElem?_of_mem hx
      obtain ⟨_, _, _, _, e, _⟩ := (hat i x hi).2.open
      rw [e]; rfl)
    have hfl : (forestC L).length = ts.length * 5 := by rw [forestC_len, hLl]
    have HNEWS := hidden hnews
    have HONE := hidden hone
    have HFL := hidden hfl
    have HLT := hidden hLt
    have HAT := hidden hat
    clear hk hpp hat hLt hnews hone hfl hLl
    go_enter Tryz.func39, Tryz.ntmps39
    go_wp2_with (at_builtin; refine wpList_append_own_at _ rfl (.tmp 5) (.tmp 6) 22 rfl w.heap.size 24 i0 (.agg #[.int .i64 0, .string ⟨#[]⟩, .int .i64 0, .int .i64 0, .slice none 0 0]) 5 64 Tryz.underlying22 hi hz0 hz1 hz2 rfl (by decide) _ _ _ rfl (own_nil w 24) ad ts.length cap (forestC L) rfl HFL.out HNEWS.out HONE.out (by unfold maxLen; omega) (by omega) (by simp) ?_; intro v5 w5 hown5 hgrow5 hnn5 hat5; obtain ⟨g7, c7, rfl, hg7⟩ := rowForm hown5 (fun e => by have := (hnn5.1 e).1; cases this); have H5 := hidden (And.intro hown5 hgrow5); clear hown5 hgrow5 hnn5 hat5)
    go_ret
    have h := H5.out.1
    rw [Nat.zero_add, List.nil_append] at h
    exact ⟨L, some ⟨g7, 0, none⟩, ts.length, c7, by first | rfl | (rw [Nat.zero_add]), rfl, HLT.out, h, fun i x hx => (HAT.out i x hx).2, (below_alloc w _).grown H5.out.2 (by simp) (fun k hk => by have h : w.heap.size = k := Option.some.inj hk; omega)⟩

end Go.Proofs.YtlbaaiglebpjiaaGreatDoor
