import Derived.Test.YtfmoophjdgejeaaGreatDoorGt
import Derived.Test.YtfmoophjdgejeaaGreatDoorCs
/-
  A list of sorts that came in.
-/
namespace Go.Proofs.YtfmoophjdgejeaaGreatDoor
open Go.RowKit Go.ChangeShapes Go.WideShapes
variable {H : Type} {enc : TypeId × Value → H} {W : World}

theorem open_sort (fuel : Nat) (cs : List Value) (x : DataW H × List MemPlace) {sp : Nat → Bool} {held : Bool} (h : DataW.trod enc Tryz.prog W 0 sp held fuel 59 cs = some x) :
    ∃ y : ByteArray × Int, cs = [.string y.1, .int .i64 y.2] := by
  obtain ⟨xs, n, rfl, rfl, hl, hlen, hf⟩ := DataW.trod_struct Tryz.underlying59 h
  have hc2 : Tryz.prog.cellsOf 59 = 2 := by kernel_rfl
  rw [hc2] at hl
  obtain ⟨c0, c1, rfl⟩ := two_ hl
  obtain ⟨x0, x1, rfl⟩ := two_ (hlen.trans (by rfl))
  have e1 : Tryz.prog.cellsOf 3 = 1 := by kernel_rfl
  have e2 : Tryz.prog.cellsOf 9 = 1 := by kernel_rfl
  have h0 : DataW.trod enc Tryz.prog W 0 sp held n 9 [c0] = some x0 := by have := hf 0 _ rfl; simpa [e1, e2] using this
  have h1 : DataW.trod enc Tryz.prog W 0 sp held n 3 [c1] = some x1 := by have := hf 1 _ rfl; simpa [e1, e2] using this
  obtain ⟨s, hs, _, _⟩ := DataW.trod_string Tryz.underlying9 h0
  obtain ⟨k, hk, _, _⟩ := DataW.trod_int Tryz.underlying3 h1
  cases hk; cases hs
  exact ⟨(s, k), rfl⟩

set_option maxRecDepth 100000 in
theorem open_sortsArg {base : Nat} {v : Value} {d : DataW H} {ps : List MemPlace} (hval : Value.okWide Tryz.prog W .any base 22 v) (h : DataW.Trod enc Tryz.prog W 0 (fun _ => true) true 22 v d ps) :
    ∃ l, SortsV W v l ∧ l.length ≤ Rows.uptoBulk d := by
  obtain ⟨a0, len, cap, rfl⟩ := okWide_slice Tryz.underlying22 hval
  obtain ⟨fuel, hf⟩ := h
  have hc2 : Tryz.prog.cellsOf 59 = 2 := by kernel_rfl
  rcases DataW.trod_slice Tryz.underlying22 hf with ⟨hv, _⟩ | ⟨ad, len', cap', elems, rest, m, rfl, hv, hx4, _, hle, _, hel, hat, _, _⟩
  · simp [Value.cells] at hv
    obtain ⟨rfl, rfl, rfl⟩ := hv
    exact ⟨[], ⟨none, 0, 0, 0, rfl, fun h => absurd rfl h, fun i z h => by simp at h⟩, Nat.zero_le _⟩
  · simp [Value.cells] at hv
    obtain ⟨rfl, rfl, rfl⟩ := hv
    rw [hc2] at hat
    have hd : d = .slice (elems.map (·.1)) (rest.map (·.1)) := congrArg Prod.fst hx4
    have hall : ∀ i, i < len → ∃ y : ByteArray × Int, ∀ j u, [Value.string y.1, .int .i64 y.2][j]? = some u → W.cell? ((ad.add (i * 2)).add j) = some u := by
      intro i hi
      have h5 := hat i hi
      rw [List.getElem?_eq_getElem (by omega)] at h5
      obtain ⟨cs', hc, ht⟩ := Option.bind_eq_some_iff.1 h5
      obtain ⟨y, rfl⟩ := open_sort m cs' _ ht
      obtain ⟨_, _, hcell⟩ := World.cells?_some hc
      refine ⟨y, fun j u hu => ?_⟩
      have hj : j < 2 := by
        have := (List.getElem?_eq_some_iff.1 hu).1
        simpa using this
      rw [hcell j hj]; exact hu
    obtain ⟨T, hT⟩ := Go.Deep.choose_lt (α := ByteArray × Int) (p := fun i y => ∀ j u, [Value.string y.1, .int .i64 y.2][j]? = some u → W.cell? ((ad.add (i * 2)).add j) = some u) hall
    have hget : ∀ i t, ((List.range len).map fun i => T i)[i]? = some t → i < len ∧ t = T i := by
      intro i t h
      rw [List.getElem?_map] at h
      have hi : i < len := by
        rcases Nat.lt_or_ge i len with h1 | h1
        · exact h1
        · rw [List.getElem?_eq_none (by simpa using h1)] at h; cases h
      rw [List.getElem?_range hi] at h
      exact ⟨hi, (Option.some.inj h).symm⟩
    have hlT : ((List.range len).map fun i => T i).length = len := by simp
    obtain ⟨g, o, spot⟩ := ad
    have hel2 : (elems.map (·.1)).length = len := by rw [List.length_map]; exact hel
    refine ⟨(List.range len).map fun i => T i, ⟨some ⟨g, o, spot⟩, cap, g, o, by rw [hlT], fun hne => ?_, fun i t ht => ?_⟩, ?_⟩
    · have h0 : 0 < len := by
        rcases Nat.eq_zero_or_pos len with h | h
        · subst h; exact absurd rfl hne
        · exact h
      have hc := hT 0 h0 0 _ rfl
      have hsp : spot = none := by simpa [Addr.add] using World.cell?_spot hc
      subst hsp
      exact ⟨rfl, by have := World.block_lt_of_cell? W _ hc; simpa [Addr.add] using this⟩
    · obtain ⟨hi, rfl⟩ := hget i t ht
      have hc := hT i hi
      have hsp : spot = none := by
        have h0 := hT 0 (by omega) 0 _ rfl
        simpa [Addr.add] using World.cell?_spot h0
      subst hsp
      have hadd : ∀ j, (((⟨g, o, none⟩ : Addr).add (i * 2)).add j) = ⟨g, o + i * 2 + j, none⟩ := fun j => by
        rw [Go.Deep.add_add, Go.WideShapes.add_plain, Nat.add_assoc]
      simp only [hadd] at hc
      exact ⟨hc 0 _ rfl, hc 1 _ rfl⟩
    · rw [hlT, hd, Rows.uptoBulk]
      have h1 := bulkAll_len (H := H) (elems.map (·.1))
      omega

end Go.Proofs.YtfmoophjdgejeaaGreatDoor
