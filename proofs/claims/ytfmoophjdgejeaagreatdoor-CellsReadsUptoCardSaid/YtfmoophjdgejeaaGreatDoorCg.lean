import Derived.Test.YtfmoophjdgejeaaGreatDoorCf
import Derived.Test.YtfmoophjdgejeaaGreatDoorJc
import Derived.Maps.AppendAt
/-
  Tuples.
-/
namespace Go.Proofs.YtfmoophjdgejeaaGreatDoor
open Go.RowKit Go.Shelf
attribute [local go_sem] Oper.semAt_some

theorem infoL : (Tryz.prog.info? 23).map (fun i => (i.zero, i.size, i.bytes)) = some (some (.slice none 0 0), 1, 24) := by kernel_rfl

theorem wpIn_append_own {F : Fence} {n : Nat} {P : Program} (w : World) {o : Oper} {a : Act} {K : Act → World → Prop} {Q : Exit → Act → World → Prop}
    (s x : Operand) (t : TypeId) (hop : o.op = Op.call { callee := Callee.builtin Builtin.append, args := #[s, x], argTypes := #[t, t] })
    (base : Nat) (e : TypeId) (i : TypeInfo) (z : Value) (size bytes : Nat) (h1 : P.underlying t = some (.slice e)) (h2 : P.info? e = some i) (h3 : i.zero = some z) (h4 : i.size = size) (h5 : i.bytes = bytes) (h6 : z.cells.size = size) (h7 : 0 < size)
    (v : Value) (k : Nat) (xs : List Value) (hs : a.eval s = v) (hown : w.ownsRow base e size v k xs) (ad : Addr) (m c : Nat) (news : List Value) (hx : a.eval x = .slice (some ad) m c) (hn : news.length = m * size)
    (hc : ∀ j u, news[j]? = some u → w.cell? (ad.add j) = some u) (h1c : ∀ u ∈ news, u.oneCell' = true) (b1 : k + m ≤ maxLen) (b2 : (k + m) * bytes ≤ 140737488355328) (b3 : base ≤ w.heap.size)
    (hK : ∀ v' w', w'.ownsRow base e size v' (k + m) (xs ++ news) → w.grownBy w' v.ownBlock → (v'.ownBlock = v.ownBlock ∨ v'.ownBlock = some w.heap.size) → K (a.put o.dst v') w') :
    Oper.wpIn F n P o a w K Q := by
  obtain ⟨v', w', hrun, r1, r2, _, r4⟩ := run_append_own_at (P := P) w base t o.type e i z size bytes h1 h2 h3 h4 h5 h6 h7 v k xs hown ad m c news hn hc h1c b1 b2 b3
  unfold Oper.wpIn
  refine ⟨?_, ?_⟩
  · simp [Oper.about, hop, resolve, Target.leads, Sem.run_pure]
  · rw [Oper.semAt_plain F _ _ (by rw [hop]; intro c hc'; cases hc')]
    simp [execOp, hop, resolve, invoke, builtin, hs, hx, hrun, Result.andThen]
    exact hK v' w' r1 r2 r4

theorem tuples_any (p : Option Addr) (n c : Nat) (w : World) :
    Calls Tryz.prog 39 #[.slice p n c] w fun e w' => e = .returned (.func (.func 61) #[] #[.pointer (some ⟨w.heap.size, 0, none⟩)]) ∧ w' = w.alloc (.cells #[.slice p n c] 23) := by
  go_enter Tryz.func39, Tryz.ntmps39
  go_wp2_with fail
  go_ret
  exact ⟨rfl, rfl⟩

/-- A row of one's own that is none of an iterator's blocks. -/
def RowO (O : Nat → Prop) (B : Nat) (w : World) (e : TypeId) (v : Value) (n : Nat) (xs : List Value) : Prop :=
  w.ownsRow B e 1 v n xs ∧ ∀ k, v.ownBlock = some k → ¬ O k

theorem own_lt {w : World} {b : Nat} {e : TypeId} {s n : Nat} {v : Value} {xs : List Value} (h : w.ownsRow b e s v n xs) : ∀ k, v.ownBlock = some k → k < w.heap.size := by
  intro k hk
  rcases h.2 with ⟨rfl, _⟩ | ⟨g, cap, cur, rfl, _, h3, _⟩
  · cases hk
  · cases hk; exact (Array.getElem?_eq_some_iff.1 h3).1

theorem RowO.turn {O : Nat → Prop} {B : Nat} {w w' : World} {e : TypeId} {v : Value} {n : Nat} {xs : List Value} (h : RowO O B w e v n xs) (ht : TurnO O w w') : RowO O B w' e v n xs := by
  refine ⟨⟨h.1.1, ?_⟩, h.2⟩
  rcases h.1.2 with h1 | ⟨g, cap, cur, rfl, h2, h3, h4⟩
  · exact .inl h1
  · exact .inr ⟨g, cap, cur, rfl, h2, (ht.block g (Array.getElem?_eq_some_iff.1 h3).1 (h.2 g rfl)).trans h3, h4⟩

theorem RowO.grow {O O' : Nat → Prop} {B : Nat} {w : World} {e : TypeId} {v : Value} {n : Nat} {xs : List Value} (h : RowO O B w e v n xs) (hg : ∀ k, O' k → O k ∨ w.heap.size ≤ k) : RowO O' B w e v n xs :=
  ⟨h.1, fun k hk ho => by
    rcases hg k ho with h1 | h1
    · exact h.2 k hk h1
    · have := own_lt h.1 k hk; omega⟩

/-- Rows of one's own, one for each tuple. -/
def RowsO (O : Nat → Prop) (B : Nat) (w : World) (v : Value) (L : List (List Nat)) : Prop :=
  ∃ svs : List Value, svs.length = L.length ∧ RowO O B w 23 v L.length svs ∧ ∀ (i : Nat) sv t, svs[i]? = some sv → L[i]? = some t → RowO O B w 3 sv t.length (intsC t)

theorem RowsO.turn {O : Nat → Prop} {B : Nat} {w w' : World} {v : Value} {L : List (List Nat)} (h : RowsO O B w v L) (ht : TurnO O w w') : RowsO O B w' v L := by
  obtain ⟨svs, h1, h2, h3⟩ := h
  exact ⟨svs, h1, h2.turn ht, fun i sv t hs hl => (h3 i sv t hs hl).turn ht⟩
theorem RowsO.grow {O O' : Nat → Prop} {B : Nat} {w : World} {v : Value} {L : List (List Nat)} (h : RowsO O B w v L) (hg : ∀ k, O' k → O k ∨ w.heap.size ≤ k) : RowsO O' B w v L := by
  obtain ⟨svs, h1, h2, h3⟩ := h
  exact ⟨svs, h1, h2.grow hg, fun i sv t hs hl => (h3 i sv t hs hl).grow hg⟩

/-- The same, of no iterator. -/
def RowsOf (B : Nat) (w : World) (v : Value) (L : List (List Nat)) : Prop := RowsO (fun _ => False) B w v L
theorem RowsO.of {O : Nat → Prop} {B : Nat} {w : World} {v : Value} {L : List (List Nat)} (h : RowsO O B w v L) : RowsOf B w v L := RowsO.grow h (fun _ hk => hk.elim)

theorem clone_any (w : World) (T C : Nat) (t : List Nat) (h : TupAt w T t) (hl : t.length ≤ 3) :
    Calls Tryz.prog 41 #[.slice (some ⟨T, 0, none⟩) t.length C] w fun e w' => ∃ cg cc, e = .returned (.slice (some ⟨cg, 0, none⟩) t.length cc) ∧ w'.ownsRow w.heap.size 3 1 (.slice (some ⟨cg, 0, none⟩) t.length cc) t.length (intsC t) ∧ Below w.heap.size w w' := by
  refine (Tryz.slices_Clone_int T 0 t.length C (natL t) w (by rw [natL_len]; exact Nat.le_refl _) (by omega) (fun j hj => ?_)).mono ?_
  · rw [natL_len] at hj
    rw [Nat.zero_add, h.1 j t[j] (List.getElem?_eq_getElem hj), List.getD_eq_getElem?_getD, natL_get (List.getElem?_eq_getElem hj)]
    rfl
  · rintro e w' ⟨v, rfl, h1, h2, h3⟩
    have : (natL t).take t.length = natL t := by rw [List.take_of_length_le]; rw [natL_len]; exact Nat.le_refl _
    rw [this] at h1
    have e : (natL t).map (Value.int .i64) = intsC t := by unfold natL intsC; rw [List.map_map]; rfl
    rw [e] at h1
    rcases h1.2 with ⟨h4, _⟩ | ⟨g, cap, cur, rfl, _⟩
    · exact absurd h4 h2
    · exact ⟨g, cap, rfl, h1, h3⟩

theorem row_later {w w' : World} {H : Nat} {e : TypeId} {size n : Nat} {v : Value} {xs : List Value} (h : w.ownsRow H e size v n xs) (hb : Below w.heap.size w w') : w'.ownsRow H e size v n xs :=
  h.kept (row := none) ⟨hb.os, hb.tape, hb.output, hb.size, fun k hk _ => hb.block k hk⟩ (by cases v.ownBlock <;> simp)

theorem rows_apart {w : World} {b b' : Nat} {e e' : TypeId} {s s' n n' : Nat} {v v' : Value} {xs xs' : List Value} (h : w.ownsRow b e s v n xs) (h' : w.ownsRow b' e' s' v' n' xs') (he : e ≠ e') : v.ownBlock = none ∨ v.ownBlock ≠ v'.ownBlock := by
  rcases h.2 with ⟨rfl, _⟩ | ⟨g, cap, cur, rfl, _, h3, _⟩
  · exact .inl rfl
  · rcases h'.2 with ⟨rfl, _⟩ | ⟨g', cap', cur', rfl, _, h3', _⟩
    · exact .inr (by simp [Value.ownBlock])
    · refine .inr (fun hh => ?_)
      simp only [Value.ownBlock, Option.some.injEq] at hh
      subst hh
      rw [h3] at h3'
      injection h3' with h4
      injection h4 with _ h5 _
      exact he h5

/-- A row of one's own is appended to a list of rows in a variable. -/
theorem rows_appended {O : Nat → Prop} {B0 : Nat} {A w1 w2 W : World} {V : Nat} {v v' cv : Value} {pre : List (List Nat)} {x : List Nat} {svs : List Value} {tmp : Obj}
    (hv : Boxed A V 30 v) (hsl : svs.length = pre.length) (hso : RowO O B0 A 23 v pre.length svs) (hse : ∀ (i : Nat) sv t, svs[i]? = some sv → pre[i]? = some t → RowO O B0 A 3 sv t.length (intsC t))
    (hb : Below A.heap.size A w1) (hcr : w1.ownsRow A.heap.size 3 1 cv x.length (intsC x)) (hB0 : B0 ≤ A.heap.size) (hOA : ∀ k, O k → k < A.heap.size) (hVO : ¬ O V) (hWB : W.heap.size ≤ B0) (hWV : W.heap.size ≤ V) (hB : Below W.heap.size W A)
    (hown' : w2.ownsRow B0 23 1 v' (pre.length + 1) (svs ++ [cv])) (hgrow : (w1.alloc tmp).grownBy w2 v.ownBlock) (hat : v'.ownBlock = v.ownBlock ∨ v'.ownBlock = some (w1.heap.size + 1)) :
    Boxed w2 V 30 v ∧ (∃ u, Boxed (w2.setCell ⟨V, 0, none⟩ v') V 30 u ∧ RowsO O B0 (w2.setCell ⟨V, 0, none⟩ v') u (pre ++ [x]) ∧ Below W.heap.size W (w2.setCell ⟨V, 0, none⟩ v')) ∧ Keeps O A (w2.setCell ⟨V, 0, none⟩ v') ∧
      (∀ k, k < A.heap.size → k ≠ V → (B0 ≤ k → O k) → (w2.setCell ⟨V, 0, none⟩ v').heap[k]? = A.heap[k]?) := by
  have hv1 : Boxed w1 V 30 v := (hb.block V hv.lt).trans hv
  have hso1 := row_later hso.1 hb
  have hz1 := hb.size
  have hWA := hB.size
  obtain ⟨hv1', hv2, hr2, _, hb2⟩ := hv1.appended (tmp := tmp) (n₀ := W.heap.size) (by decide) (row_mono hso1 hWB) (by omega) hWV (row_mono hown' hWB) hgrow
  have key2 : ∀ k, k < A.heap.size → k ≠ V → some k ≠ v.ownBlock → (w2.setCell ⟨V, 0, none⟩ v').heap[k]? = A.heap[k]? := fun k h1 h2 h3 => by
    rw [Below.heap_setCell _ _ _ _ (by show k ≠ V; exact h2)]
    rw [hgrow.block k (by simp; omega) h3]
    rw [Below.heap_alloc _ _ _ (by omega)]
    exact hb.block k h1
  have hsz : A.heap.size ≤ (w2.setCell ⟨V, 0, none⟩ v').heap.size := by have := hgrow.size; simp [World.setCell] at this ⊢; omega
  refine ⟨hv1', ⟨v', hv2, ⟨svs ++ [cv], by simp [hsl], ⟨?_, ?_⟩, ?_⟩, (hB.trans (hb.mono hWA)).trans hb2⟩, ⟨hsz, fun k h1 h2 => key2 k h2 (fun e => hVO (by rw [← e]; exact h1)) (fun e => hso.2 k e.symm h1)⟩, fun k h1 h2 h3 => key2 k h1 h2 (fun e => ?_)⟩
  · have := hown'.kept (grownBy_setCell' w2 V v') (.inr (hv1'.not_row (by decide) hown').symm)
    simpa using this
  · intro k hk ho
    rcases hat with h | h
    · exact hso.2 k (by rw [← h]; exact hk) ho
    · rw [h] at hk; cases hk; have := hOA _ ho; omega
  · intro i sv t hs ht
    have key : ∀ {b : Nat}, w1.ownsRow b 3 1 sv t.length (intsC t) → (w2.setCell ⟨V, 0, none⟩ v').ownsRow b 3 1 sv t.length (intsC t) := fun {b} h => by
      have h1 := (h.alloc tmp).kept hgrow (rows_apart h hso1 (by decide))
      exact h1.kept (grownBy_setCell' w2 V v') (.inr (hv1'.not_row (by decide) h1).symm)
    rcases Nat.lt_or_ge i svs.length with hi | hi
    · rw [List.getElem?_append_left hi] at hs
      rw [List.getElem?_append_left (by omega)] at ht
      exact ⟨key (row_later (hse i sv t hs ht).1 hb), (hse i sv t hs ht).2⟩
    · rw [List.getElem?_append_right hi] at hs
      rw [List.getElem?_append_right (by omega)] at ht
      have h0 : i - svs.length = 0 := by
        rcases Nat.eq_zero_or_pos (i - svs.length) with h | h
        · exact h
        · obtain ⟨d, hd⟩ : ∃ d, i - svs.length = d + 1 := ⟨i - svs.length - 1, by omega⟩
          rw [hd] at hs; simp at hs
      rw [h0] at hs
      rw [show i - pre.length = 0 by omega] at ht
      simp only [List.getElem?_cons_zero, Option.some.injEq] at hs ht
      subst hs; subst ht
      exact ⟨key (row_mono hcr hB0), fun k hk ho => by have h1 := row_block hcr k hk; have h2 := hOA k ho; omega⟩
  · have h4 := row_block hso.1 k e.symm
    exact hso.2 k e.symm (h3 h4)

end Go.Proofs.YtfmoophjdgejeaaGreatDoor
