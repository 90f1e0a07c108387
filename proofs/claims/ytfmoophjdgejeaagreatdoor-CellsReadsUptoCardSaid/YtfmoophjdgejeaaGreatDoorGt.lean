import Derived.Test.YtfmoophjdgejeaaGreatDoorGc
/-
  A list of tables that came in.
-/
namespace Go.Proofs.YtfmoophjdgejeaaGreatDoor
open Go.RowKit Go.ChangeShapes Go.WideShapes
variable {H : Type} {enc : TypeId × Value → H} {W : World}

instance : Inhabited Tab := ⟨⟨⟨#[]⟩, 0, [], 0, 0, 0⟩⟩
instance : Inhabited Value := ⟨.nilFunc⟩

theorem two_ {α : Type} {l : List α} (h : l.length = 2) : ∃ a b, l = [a, b] := by
  match l, h with
  | [a, b], _ => exact ⟨a, b, rfl⟩
theorem five_ {α : Type} {l : List α} (h : l.length = 5) : ∃ a b c d e, l = [a, b, c, d, e] := by
  match l, h with
  | [a, b, c, d, e], _ => exact ⟨a, b, c, d, e, rfl⟩
theorem six_ {α : Type} {l : List α} (h : l.length = 6) : ∃ a b c d e f, l = [a, b, c, d, e, f] := by
  match l, h with
  | [a, b, c, d, e, f], _ => exact ⟨a, b, c, d, e, f, rfl⟩

/-- A list of integers that was read. -/
theorem open_intsRead {fuel : Nat} {cv : Value} {x : DataW H × List MemPlace} {sp : Nat → Bool} {held : Bool} (h : DataW.trod enc Tryz.prog W 0 sp held fuel 23 [cv] = some x) :
    ∃ l, IntsV W cv l ∧ l.length ≤ Rows.uptoBulk x.1 := by
  rcases open_ints Tryz.underlying23 Tryz.underlying3 cellsInt h with ⟨hcs, _⟩ | ⟨a, len', cap', zs, hcs, _, hle, hm, hz, hx, hcell, hwz⟩
  · cases hcs
    exact ⟨[], ⟨none, 0, 0, 0, rfl, fun h => absurd rfl h, fun i z h => by simp at h⟩, Nat.zero_le _⟩
  · cases hcs
    have hd : x.1 = .slice (lits .i64 (zs.take len')) (lits .i64 (zs.drop len')) := congrArg Prod.fst hx
    obtain ⟨b, o, spot⟩ := a
    have hzl : len' ≤ zs.length := by
      rw [hz]; split <;> omega
    have hl : (zs.take len').length = len' := by rw [List.length_take]; omega
    refine ⟨zs.take len', ⟨some ⟨b, o, spot⟩, cap', b, o, by rw [hl], fun hne => ?_, fun i z hi => ?_⟩, ?_⟩
    · have h0 : 0 < zs.length := by
        rcases Nat.eq_zero_or_pos zs.length with h | h
        · rw [List.length_eq_zero_iff.1 h] at hne; simp at hne
        · exact h
      have hc := hcell 0 h0
      have hsp : spot = none := by simpa [Addr.add] using World.cell?_spot hc
      subst hsp
      exact ⟨rfl, by have := World.block_lt_of_cell? W _ hc; simpa [Addr.add] using this⟩
    · have hi2 : i < len' := by have := (List.getElem?_eq_some_iff.1 hi).1; omega
      have hci := hcell i (by omega)
      have hsp : spot = none := by
        have h0 := hcell 0 (by omega)
        simpa [Addr.add] using World.cell?_spot h0
      subst hsp
      rw [add_plain] at hci
      rw [List.getElem?_take, if_pos hi2] at hi
      rw [hci, List.getD_eq_getElem?_getD, hi]; rfl
    · rw [hd, hl, Rows.uptoBulk]
      have h1 := bulkAll_len (H := H) (lits .i64 (zs.take len'))
      have h2 : (lits (H := H) .i64 (zs.take len')).length = len' := by unfold lits; rw [List.length_map, hl]
      omega

theorem open_table (fuel : Nat) (cs : List Value) (x : DataW H × List MemPlace) {sp : Nat → Bool} {held : Bool} (h : DataW.trod enc Tryz.prog W 0 sp held fuel 44 cs = some x) :
    ∃ t cv, cs = tabC t cv ∧ IntsV W cv t.cols ∧ t.cols.length ≤ Rows.uptoBulk x.1 := by
  obtain ⟨xs, n, rfl, rfl, hl, hlen, hf⟩ := DataW.trod_struct Tryz.underlying44 h
  have hc6 : Tryz.prog.cellsOf 44 = 6 := by kernel_rfl
  rw [hc6] at hl
  obtain ⟨c0, c1, c2, c3, c4, c5, rfl⟩ := six_ hl
  obtain ⟨x0, x1, x2, x3, x4, rfl⟩ := five_ (hlen.trans (by rfl))
  have e1 : Tryz.prog.cellsOf 3 = 1 := by kernel_rfl
  have e2 : Tryz.prog.cellsOf 9 = 1 := by kernel_rfl
  have e3 : Tryz.prog.cellsOf 23 = 1 := by kernel_rfl
  have e4 : Tryz.prog.cellsOf 42 = 2 := by kernel_rfl
  have h0 : DataW.trod enc Tryz.prog W 0 sp held n 9 [c0] = some x0 := by have := hf 0 _ rfl; simpa [e1, e2, e3, e4] using this
  have h1 : DataW.trod enc Tryz.prog W 0 sp held n 3 [c1] = some x1 := by have := hf 1 _ rfl; simpa [e1, e2, e3, e4] using this
  have h2 : DataW.trod enc Tryz.prog W 0 sp held n 23 [c2] = some x2 := by have := hf 2 _ rfl; simpa [e1, e2, e3, e4] using this
  have h3 : DataW.trod enc Tryz.prog W 0 sp held n 42 [c3, c4] = some x3 := by have := hf 3 _ rfl; simpa [e1, e2, e3, e4] using this
  have h4 : DataW.trod enc Tryz.prog W 0 sp held n 3 [c5] = some x4 := by have := hf 4 _ rfl; simpa [e1, e2, e3, e4] using this
  obtain ⟨ys, m, rfl, rfl, hl2, hlen2, hf2⟩ := DataW.trod_struct Tryz.underlying42 h3
  obtain ⟨y0, y1, rfl⟩ := two_ (hlen2.trans (by rfl))
  have g0 : DataW.trod enc Tryz.prog W 0 sp held m 3 [c3] = some y0 := by have := hf2 0 _ rfl; simpa [e1, e2, e3, e4] using this
  have g1 : DataW.trod enc Tryz.prog W 0 sp held m 3 [c4] = some y1 := by have := hf2 1 _ rfl; simpa [e1, e2, e3, e4] using this
  obtain ⟨s, hs, _, _⟩ := DataW.trod_string Tryz.underlying9 h0
  obtain ⟨k, hk, _, _⟩ := DataW.trod_int Tryz.underlying3 h1
  obtain ⟨l, hl3, hl4⟩ := open_intsRead h2
  obtain ⟨lo, hlo, _, _⟩ := DataW.trod_int Tryz.underlying3 g0
  obtain ⟨hi, hhi, _, _⟩ := DataW.trod_int Tryz.underlying3 g1
  obtain ⟨f, hf3, _, _⟩ := DataW.trod_int Tryz.underlying3 h4
  cases hk; cases hs; cases hlo; cases hhi; cases hf3
  refine ⟨⟨s, k, l, lo, hi, f⟩, c2, rfl, hl3, ?_⟩
  show l.length ≤ _
  simp only [List.map_cons, List.map_nil]
  rw [Rows.uptoBulk]
  simp only [Rows.uptoBulkAll]
  omega

set_option maxRecDepth 100000 in
theorem open_tablesArg {base : Nat} {v : Value} {d : DataW H} {ps : List MemPlace} (hval : Value.okWide Tryz.prog W .any base 24 v) (h : DataW.Trod enc Tryz.prog W 0 (fun _ => true) true 24 v d ps) :
    ∃ ts, TabsV W v ts ∧ ts.length ≤ Rows.uptoBulk d ∧ ∀ t ∈ ts, t.cols.length ≤ Rows.uptoBulk d := by
  obtain ⟨a0, len, cap, rfl⟩ := okWide_slice Tryz.underlying24 hval
  obtain ⟨fuel, hf⟩ := h
  have hc6 : Tryz.prog.cellsOf 44 = 6 := by kernel_rfl
  rcases DataW.trod_slice Tryz.underlying24 hf with ⟨hv, _⟩ | ⟨ad, len', cap', elems, rest, m, rfl, hv, hx4, _, hle, _, hel, hat, _, _⟩
  · simp [Value.cells] at hv
    obtain ⟨rfl, rfl, rfl⟩ := hv
    exact ⟨[], ⟨none, 0, 0, 0, fun _ => .nilFunc, rfl, fun h => absurd rfl h, fun i z h => by simp at h⟩, Nat.zero_le _, fun t ht => by simp at ht⟩
  · simp [Value.cells] at hv
    obtain ⟨rfl, rfl, rfl⟩ := hv
    rw [hc6] at hat
    have hd : d = .slice (elems.map (·.1)) (rest.map (·.1)) := congrArg Prod.fst hx4
    have hall : ∀ i, i < len → ∃ t cv, (IntsV W cv t.cols ∧ ∀ e, (elems.map (·.1))[i]? = some e → t.cols.length ≤ Rows.uptoBulk e) ∧ ∀ j u, (tabC t cv)[j]? = some u → W.cell? ((ad.add (i * 6)).add j) = some u := by
      intro i hi
      have h5 := hat i hi
      rw [List.getElem?_eq_getElem (by omega)] at h5
      obtain ⟨cs', hc, ht⟩ := Option.bind_eq_some_iff.1 h5
      obtain ⟨t, cv, rfl, hk, hbk⟩ := open_table m cs' _ ht
      obtain ⟨_, _, hcell⟩ := World.cells?_some hc
      refine ⟨t, cv, ⟨hk, fun e he => ?_⟩, fun j u hu => ?_⟩
      · rw [List.getElem?_map, List.getElem?_eq_getElem (by omega)] at he
        have : elems[i].1 = e := Option.some.inj he
        rw [← this]; exact hbk
      have hj : j < 6 := by
        have := (List.getElem?_eq_some_iff.1 hu).1
        simpa [tabC] using this
      rw [hcell j hj]; exact hu
    obtain ⟨T, hT⟩ := Go.Deep.choose_lt (α := Tab × Value) (p := fun i x => (IntsV W x.2 x.1.cols ∧ ∀ e, (elems.map (·.1))[i]? = some e → x.1.cols.length ≤ Rows.uptoBulk e) ∧ ∀ j u, (tabC x.1 x.2)[j]? = some u → W.cell? ((ad.add (i * 6)).add j) = some u) (fun i hi => by
      obtain ⟨t, cv, h⟩ := hall i hi
      exact ⟨(t, cv), h⟩)
    have hget : ∀ i t, ((List.range len).map fun i => (T i).1)[i]? = some t → i < len ∧ t = (T i).1 := by
      intro i t h
      rw [List.getElem?_map] at h
      have hi : i < len := by
        rcases Nat.lt_or_ge i len with h1 | h1
        · exact h1
        · rw [List.getElem?_eq_none (by simpa using h1)] at h; cases h
      rw [List.getElem?_range hi] at h
      exact ⟨hi, (Option.some.inj h).symm⟩
    have hlT : ((List.range len).map fun i => (T i).1).length = len := by simp
    obtain ⟨g, o, spot⟩ := ad
    have hel2 : (elems.map (·.1)).length = len := by rw [List.length_map]; exact hel
    have hsum : ∀ (ds : List (DataW H)) (i : Nat) e, ds[i]? = some e → Rows.uptoBulk e ≤ Rows.uptoBulkAll ds := by
      intro ds
      induction ds with
      | nil => intro i e h; simp at h
      | cons d' ds ih =>
        intro i e h
        rw [Rows.uptoBulkAll]
        cases i with
        | zero => simp at h; subst h; omega
        | succ i => have := ih i e (by simpa using h); omega
    refine ⟨(List.range len).map fun i => (T i).1, ⟨some ⟨g, o, spot⟩, cap, g, o, fun i => (T i).2, by rw [hlT], fun hne => ?_, fun i t ht => ?_⟩, ?_, ?_⟩
    · have h0 : 0 < len := by
        rcases Nat.eq_zero_or_pos len with h | h
        · subst h; exact absurd rfl hne
        · exact h
      have hc := (hT 0 h0).2 0 _ rfl
      have hsp : spot = none := by simpa [Addr.add] using World.cell?_spot hc
      subst hsp
      exact ⟨rfl, by have := World.block_lt_of_cell? W _ hc; simpa [Addr.add] using this⟩
    · obtain ⟨hi, rfl⟩ := hget i t ht
      obtain ⟨⟨hk, _⟩, hc⟩ := hT i hi
      have hsp : spot = none := by
        have h0 := (hT 0 (by omega)).2 0 _ rfl
        simpa [Addr.add] using World.cell?_spot h0
      subst hsp
      have hadd : ∀ j, (((⟨g, o, none⟩ : Addr).add (i * 6)).add j) = ⟨g, o + i * 6 + j, none⟩ := fun j => by
        rw [Go.Deep.add_add, Go.WideShapes.add_plain, Nat.add_assoc]
      simp only [hadd] at hc
      exact ⟨⟨hc 0 (.string (T i).1.name) rfl, hc 1 (.int .i64 (T i).1.kind) rfl, hc 2 (T i).2 rfl, hc 3 (.int .i64 (T i).1.lo) rfl, hc 4 (.int .i64 (T i).1.hi) rfl, hc 5 (.int .i64 (T i).1.first) rfl⟩, hk⟩
    · rw [hlT, hd, Rows.uptoBulk]
      have h1 := bulkAll_len (H := H) (elems.map (·.1))
      omega
    · intro t ht
      obtain ⟨i, hi⟩ := List.getElem?_of_mem ht
      obtain ⟨hi2, rfl⟩ := hget i t hi
      have he : (elems.map (·.1))[i]? = some (elems.map (·.1))[i] := List.getElem?_eq_getElem (by omega)
      have h1 := (hT i hi2).1.2 _ he
      have h2 := hsum _ _ _ he
      rw [hd, Rows.uptoBulk]
      omega

end Go.Proofs.YtfmoophjdgejeaaGreatDoor
