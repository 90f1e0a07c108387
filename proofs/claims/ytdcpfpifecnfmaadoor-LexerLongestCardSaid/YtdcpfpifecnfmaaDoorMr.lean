import Derived.Test.YtdcpfpifecnfmaaDoorPc
/-
  A slice that reads as tokens; where a token stands.
-/
namespace Go.Proofs.YtdcpfpifecnfmaaDoor
open Go.RowKit Go.Shelf Go.Lib

theorem infoTok : (Tryd.prog.info? 33).map (fun i => (i.zero, i.size, i.bytes)) = some (some (.agg #[.int .i64 0, .int .i64 0, .int .i64 0, .int .i64 0]), 4, 32) := by kernel_rfl

def tokC (t : Tok) : List Value := [.int .i64 t.kind, .int .i64 t.from_, .int .i64 t.at_, .int .i64 t.end_]
/-- The cells of tokens. -/
def toksC (ts : List Tok) : List Value := ts.flatMap tokC
theorem toksC_snoc (p : List Tok) (x : Tok) : toksC (p ++ [x]) = toksC p ++ tokC x := by unfold toksC; simp
theorem tokC_new (w : World) (x : Tok) (t : TypeId) : ∀ j u, (tokC x)[j]? = some u → (w.alloc (.cells #[.int .i64 x.kind, .int .i64 x.from_, .int .i64 x.at_, .int .i64 x.end_] t)).cell? ((⟨w.heap.size, 0, none⟩ : Addr).add j) = some u := by
  intro j u hj
  rcases j with _ | _ | _ | _ | j
  · simp [tokC] at hj; subst hj; simp [Addr.add]
  · simp [tokC] at hj; subst hj; simp [Addr.add]
  · simp [tokC] at hj; subst hj; simp [Addr.add]
  · simp [tokC] at hj; subst hj; simp [Addr.add]
  · simp [tokC] at hj
theorem tokC_one (x : Tok) : ∀ u ∈ tokC x, u.oneCell' = true := by
  intro u hu
  simp only [tokC, List.mem_cons, List.not_mem_nil, or_false] at hu
  rcases hu with rfl | rfl | rfl | rfl <;> rfl

theorem toksK_len (s : ByteArray) (hs : s.size ≤ 4096) : (toksK s).length ≤ 10000 := by
  unfold toksK
  rw [List.length_map]
  have h2 := toksF_len (s.data.toList.length + 1) s.data.toList 0
  rw [bytes_len] at h2
  have h3 : (toks s.data.toList).length ≤ s.size + 1 := by unfold toks; rw [bytes_len]; exact h2
  omega

/-- A slice value that owns tokens. -/
def ToksOf (w : World) (ts : List Tok) (v : Value) (w' : World) : Prop := w'.ownsRow w.heap.size 33 4 v ts.length (toksC ts) ∧ Below w.heap.size w w'

/-- A token lies at a place. -/
structure TokAt (w : World) (g o : Nat) (t : Tok) : Prop where
  c0 : w.cell? ⟨g, o, none⟩ = some (.int .i64 t.kind)
  c1 : w.cell? ⟨g, o + 1, none⟩ = some (.int .i64 t.from_)
  c2 : w.cell? ⟨g, o + 2, none⟩ = some (.int .i64 t.at_)
  c3 : w.cell? ⟨g, o + 3, none⟩ = some (.int .i64 t.end_)

theorem TokAt.below {w w' : World} {g o B : Nat} {t : Tok} (h : TokAt w g o t) (hb : Below B w w') (hg : g < B) : TokAt w' g o t :=
  ⟨(hb.cell (p := ⟨g, o, none⟩) hg).trans h.c0, (hb.cell (p := ⟨g, o + 1, none⟩) hg).trans h.c1, (hb.cell (p := ⟨g, o + 2, none⟩) hg).trans h.c2, (hb.cell (p := ⟨g, o + 3, none⟩) hg).trans h.c3⟩

/-- A slice value that holds tokens (at least one). -/
def TokRow (w : World) (v : Value) (ts : List Tok) : Prop :=
  ∃ g cap, v = .slice (some ⟨g, 0, none⟩) ts.length cap ∧ g < w.heap.size ∧ ∀ i t, ts[i]? = some t → TokAt w g (i * 4) t

theorem toksC_get : ∀ (ts : List Tok) (i : Nat) (t : Tok) (j : Nat), ts[i]? = some t → j < 4 → (toksC ts)[i * 4 + j]? = (tokC t)[j]?
  | [], i, t, j, h, _ => by simp at h
  | x :: ts, 0, t, j, h, hj => by
    simp at h; subst h
    show ((tokC x) ++ toksC ts)[0 * 4 + j]? = _
    rw [Nat.zero_mul, Nat.zero_add, List.getElem?_append_left (by simpa [tokC] using hj)]
  | x :: ts, i + 1, t, j, h, hj => by
    have ih := toksC_get ts i t j (by simpa using h) hj
    show ((tokC x) ++ toksC ts)[(i + 1) * 4 + j]? = _
    rw [List.getElem?_append_right (by simp [tokC]; omega), ← ih]
    congr 1
    simp [tokC]; omega

theorem tokRow_of {w : World} {b : Nat} {e : TypeId} {v : Value} {ts : List Tok} (h : w.ownsRow b e 4 v ts.length (toksC ts)) (h0 : ts ≠ []) : TokRow w v ts := by
  have hc := fun g hg => h.cells (g := g) hg
  rcases h.2 with ⟨_, h1⟩ | ⟨g, cap, cur, rfl, h2, h3, _⟩
  · exact absurd (List.length_eq_zero_iff.1 h1) h0
  · refine ⟨g, cap, rfl, (Array.getElem?_eq_some_iff.1 h3).1, fun i t ht => ?_⟩
    have hh := fun j hj u hu => hc g rfl (i * 4 + j) u ((toksC_get ts i t j ht hj).trans hu)
    have e : ∀ n, ((⟨g, 0, none⟩ : Addr).add n) = ⟨g, n, none⟩ := fun n => by simp [Addr.add]; omega
    simp only [e] at hh
    exact ⟨hh 0 (by omega) _ rfl, hh 1 (by omega) _ rfl, hh 2 (by omega) _ rfl, hh 3 (by omega) _ rfl⟩

theorem TokRow.below {w w' : World} {v : Value} {ts : List Tok} (h : TokRow w v ts) (hb : Below w.heap.size w w') : TokRow w' v ts := by
  obtain ⟨g, cap, h1, h2, h3⟩ := h
  exact ⟨g, cap, h1, Nat.lt_of_lt_of_le h2 hb.size, fun i t ht => (h3 i t ht).below hb h2⟩

theorem toksK_ne (s : ByteArray) : toksK s ≠ [] := by
  unfold toksK toks
  rw [toksF]
  simp

theorem toksK_get (s : ByteArray) (i : Nat) (h : i < (toksK s).length) : ∃ t ∈ toks s.data.toList, (toksK s)[i]? = some (kwT s t) := by
  unfold toksK at h ⊢
  rw [List.length_map] at h
  exact ⟨_, List.getElem_mem h, by rw [List.getElem?_map, List.getElem?_eq_getElem h]; rfl⟩

theorem toksK_drop (s : ByteArray) (k : Nat) (h : k < (toksK s).length) : (toks s.data.toList).drop k ≠ [] := by
  unfold toksK at h
  rw [List.length_map] at h
  intro e
  have := congrArg List.length e
  rw [List.length_drop] at this
  simp at this
  omega

/-- Where token number k begins, and what it is. -/
def TokHere (s : ByteArray) (k p : Nat) : Prop := p ≤ s.size ∧ ∃ f, s.size ≤ p + f ∧ (toks s.data.toList).drop k = toksF (f + 1) s.data.toList p

theorem tokHere_first (s : ByteArray) : TokHere s 0 0 := ⟨Nat.zero_le _, s.size, by omega, by unfold toks; rw [List.drop_zero, bytes_len]⟩

theorem tokHere_get {s : ByteArray} {k p : Nat} (h : TokHere s k p) : (toksK s)[k]? = some (kwT s (nextT s.data.toList p)) := by
  obtain ⟨_, f, _, h2⟩ := h
  have : (toks s.data.toList)[k]? = some (nextT s.data.toList p) := by
    have h3 := congrArg (fun l => l[0]?) h2
    rw [toksF] at h3
    simpa [List.getElem?_drop] using h3
  unfold toksK
  rw [List.getElem?_map, this]; rfl

theorem tokHere_last {s : ByteArray} {k p : Nat} (h : TokHere s k p) (h0 : (nextT s.data.toList p).kind = 0) : k + 1 = (toksK s).length ∧ (nextT s.data.toList p).at_ = s.size ∧ (nextT s.data.toList p).end_ = s.size := by
  obtain ⟨h1, f, hf, h2⟩ := h
  obtain ⟨f1, f2, f3, f4, f5, f6⟩ := nextT_facts s.data.toList p (by rw [bytes_len]; exact h1)
  rw [bytes_len] at f4 f5
  refine ⟨?_, f5 h0, by have := f5 h0; omega⟩
  rw [toksF, if_pos h0] at h2
  have := congrArg List.length h2
  unfold toksK
  rw [List.length_map]
  rw [List.length_drop] at this
  simp at this
  omega

theorem tokHere_next {s : ByteArray} {k p : Nat} (h : TokHere s k p) (h0 : (nextT s.data.toList p).kind ≠ 0) : k + 1 < (toksK s).length ∧ (nextT s.data.toList p).at_ < (nextT s.data.toList p).end_ ∧ TokHere s (k + 1) (nextT s.data.toList p).end_ := by
  obtain ⟨h1, f, hf, h2⟩ := h
  obtain ⟨f1, f2, f3, f4, f5, f6⟩ := nextT_facts s.data.toList p (by rw [bytes_len]; exact h1)
  rw [bytes_len] at f4
  have h3 := f6 h0
  rw [toksF, if_neg h0] at h2
  obtain ⟨f', rfl⟩ : ∃ f', f = f' + 1 := ⟨f - 1, by omega⟩
  have hd : (toks s.data.toList).drop (k + 1) = toksF (f' + 1) s.data.toList (nextT s.data.toList p).end_ := by rw [← List.drop_drop, h2]; rfl
  refine ⟨?_, h3, f4, f', by omega, hd⟩
  have := congrArg List.length hd
  rw [toksF, List.length_drop, List.length_cons] at this
  unfold toksK
  rw [List.length_map]
  omega

end Go.Proofs.YtdcpfpifecnfmaaDoor
