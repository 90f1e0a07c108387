/-
  A node that came in reads as a tree.
-/
import Derived.Test.YtlbaaiglebpjiaaGreatDoorJe
import Derived.Test.YtlbaaiglebpjiaaGreatDoorRows
import Derived.ChangeArms
import Derived.DataReads
import Derived.Deep.Slices
namespace Go.Proofs.YtlbaaiglebpjiaaGreatDoor
open Go.RowKit Go.ChangeShapes Go.WideShapes
variable {H : Type} {enc : TypeId × Value → H} {W : World} {sp : Nat → Bool} {held : Bool}

instance : Inhabited Tree := ⟨.mk 0 ⟨#[]⟩ 0 0 []⟩
instance : Inhabited Value := ⟨.nilFunc⟩

theorem five {α : Type} {l : List α} (h : l.length = 5) : ∃ a b c d e, l = [a, b, c, d, e] := by
  match l, h with
  | [a, b, c, d, e], _ => exact ⟨a, b, c, d, e, rfl⟩

theorem bulk_sum : ∀ (ts : List Tree) (ds : List (DataW H)), ts.length = ds.length → (∀ (i : Nat) (t : Tree) (d : DataW H), ts[i]? = some t → ds[i]? = some d → t.count ≤ Rows.uptoBulk d) → Tree.countL ts ≤ Rows.uptoBulkAll ds
  | [], _, _, _ => by rw [Tree.countL_nil]; exact Nat.zero_le _
  | _ :: _, [], h, _ => by simp at h
  | t :: ts, d :: ds, h, hc => by
    have h1 := hc 0 t d rfl rfl
    have h2 := bulk_sum ts ds (by simpa using h) (fun i t' d' ht hd => hc (i + 1) t' d' (by simpa using ht) (by simpa using hd))
    rw [Tree.countL_cons, Rows.uptoBulkAll]
    omega

theorem open_node : ∀ (fuel : Nat) (cs : List Value) (x : DataW H × List MemPlace), DataW.trod enc Tryz.prog W 0 sp held fuel 24 cs = some x → ∃ t kv, cs = nodeC t kv ∧ KidsV W kv t.kids ∧ t.count ≤ Rows.uptoBulk x.1 := by
  intro fuel
  induction fuel using Nat.strongRecOn with
  | ind fuel ih =>
    intro cs x h
    obtain ⟨xs, n, rfl, rfl, hl, hlen, hf⟩ := DataW.trod_struct Tryz.underlying24 h
    have hc5 : Tryz.prog.cellsOf 24 = 5 := by kernel_rfl
    rw [hc5] at hl
    obtain ⟨c0, c1, c2, c3, c4, rfl⟩ := five hl
    obtain ⟨x0, x1, x2, x3, x4, rfl⟩ := five (hlen.trans (by rfl))
    have e1 : Tryz.prog.cellsOf 3 = 1 := by kernel_rfl
    have e2 : Tryz.prog.cellsOf 9 = 1 := by kernel_rfl
    have e3 : Tryz.prog.cellsOf 22 = 1 := by kernel_rfl
    have h0 : DataW.trod enc Tryz.prog W 0 sp held n 3 [c0] = some x0 := by have := hf 0 _ rfl; simpa [e1, e2, e3] using this
    have h1 : DataW.trod enc Tryz.prog W 0 sp held n 9 [c1] = some x1 := by have := hf 1 _ rfl; simpa [e1, e2, e3] using this
    have h2 : DataW.trod enc Tryz.prog W 0 sp held n 3 [c2] = some x2 := by have := hf 2 _ rfl; simpa [e1, e2, e3] using this
    have h3 : DataW.trod enc Tryz.prog W 0 sp held n 3 [c3] = some x3 := by have := hf 3 _ rfl; simpa [e1, e2, e3] using this
    have h4 : DataW.trod enc Tryz.prog W 0 sp held n 22 [c4] = some x4 := by have := hf 4 _ rfl; simpa [e1, e2, e3] using this
    obtain ⟨k, hk, _, _⟩ := DataW.trod_int Tryz.underlying3 h0
    obtain ⟨s, hs, _, _⟩ := DataW.trod_string Tryz.underlying9 h1
    obtain ⟨a, ha, _, _⟩ := DataW.trod_int Tryz.underlying3 h2
    obtain ⟨e, he, _, _⟩ := DataW.trod_int Tryz.underlying3 h3
    cases hk; cases hs; cases ha; cases he
    rcases DataW.trod_slice Tryz.underlying22 h4 with ⟨hv, _⟩ | ⟨ad, len, cap, elems, rest, m, rfl, hv, hx4, _, hle, _, hel, hat, _, _⟩
    · cases hv
      refine ⟨.mk k s a e [], .slice none 0 0, rfl, KidsV.nil _ _ _, ?_⟩
      rw [Tree.count_eq]
      show Tree.countL [] + 1 ≤ _
      rw [Tree.countL_nil]
      show 0 + 1 ≤ Rows.uptoBulk (.agg _)
      rw [Rows.uptoBulk]; omega
    · cases hv
      rw [hc5] at hat
      have hall : ∀ i, i < len → ∃ t kv, (KidsV W kv t.kids ∧ ∀ d, (elems.map (·.1))[i]? = some d → t.count ≤ Rows.uptoBulk d) ∧ ∀ j u, (nodeC t kv)[j]? = some u → W.cell? ((ad.add (i * 5)).add j) = some u := by
        intro i hi
        have h5 := hat i hi
        rw [List.getElem?_eq_getElem (by omega)] at h5
        obtain ⟨cs', hc, ht⟩ := Option.bind_eq_some_iff.1 h5
        obtain ⟨t, kv, rfl, hk, hbk⟩ := ih m (by omega) cs' _ ht
        obtain ⟨_, _, hcell⟩ := World.cells?_some hc
        refine ⟨t, kv, ⟨hk, fun d hd => ?_⟩, fun j u hu => ?_⟩
        · rw [List.getElem?_map, List.getElem?_eq_getElem (by omega)] at hd
          have : elems[i].1 = d := Option.some.inj hd
          rw [← this]; exact hbk
        have hj : j < 5 := by
          have := (List.getElem?_eq_some_iff.1 hu).1
          simpa [nodeC] using this
        rw [hcell j hj]; exact hu
      obtain ⟨T, hT⟩ := Go.Deep.choose_lt (α := Tree × Value) (p := fun i x => (KidsV W x.2 x.1.kids ∧ ∀ d, (elems.map (·.1))[i]? = some d → x.1.count ≤ Rows.uptoBulk d) ∧ ∀ j u, (nodeC x.1 x.2)[j]? = some u → W.cell? ((ad.add (i * 5)).add j) = some u) (fun i hi => by
        obtain ⟨t, kv, h⟩ := hall i hi
        exact ⟨(t, kv), h⟩)
      have hget : ∀ i t, ((List.range len).map fun i => (T i).1)[i]? = some t → i < len ∧ t = (T i).1 := by
        intro i t h
        rw [List.getElem?_map] at h
        have hi : i < len := by
          rcases Nat.lt_or_ge i len with h1 | h1
          · exact h1
          · rw [List.getElem?_eq_none (by simpa using h1)] at h; cases h
        rw [List.getElem?_range hi] at h
        exact ⟨hi, (Option.some.inj h).symm⟩
      have hlT : ((List.range len).map fun i => (T i).1).length = len := by simp
      refine ⟨.mk k s a e ((List.range len).map fun i => (T i).1), .slice (some ad) len cap, rfl, ?_, ?_⟩
      rotate_left
      · rw [Tree.count_eq]
        show Tree.countL ((List.range len).map fun i => (T i).1) + 1 ≤ Rows.uptoBulk (.agg _)
        have hs := bulk_sum ((List.range len).map fun i => (T i).1) (elems.map (·.1)) (by simp [hel]) (fun i t d ht hd => by
          obtain ⟨hi, rfl⟩ := hget i t ht
          exact (hT i hi).1.2 d hd)
        rw [hx4]
        simp only [List.map_cons, List.map_nil]
        rw [Rows.uptoBulk]
        simp only [Rows.uptoBulkAll, Rows.uptoBulk]
        omega
      obtain ⟨g, o, spot⟩ := ad
      have hsh := KidsV.shut (w := W) (ts := (List.range len).map fun i => (T i).1) (p := some ⟨g, o, spot⟩) (cap := cap) (g := g) (o := o) (by omega) ?_ ?_
      · rw [hlT] at hsh; exact hsh
      · intro hne
        have h0 : 0 < len := by
          rcases Nat.eq_zero_or_pos len with h | h
          · subst h; exact absurd rfl hne
          · exact h
        have hc := (hT 0 h0).2 0 _ rfl
        have : spot = none := by simpa [Addr.add] using World.cell?_spot hc
        rw [this]
      · intro i t ht
        obtain ⟨hi, rfl⟩ := hget i t ht
        obtain ⟨⟨hk, _⟩, hc⟩ := hT i hi
        have hsp : spot = none := by
          have h0 := (hT 0 (by omega)).2 0 _ rfl
          simpa [Addr.add] using World.cell?_spot h0
        subst hsp
        have hadd : ∀ j, (((⟨g, o, none⟩ : Addr).add (i * 5)).add j) = ⟨g, o + i * 5 + j, none⟩ := fun j => by
          rw [Go.Deep.add_add, Go.WideShapes.add_plain, Nat.add_assoc]
        simp only [hadd] at hc
        exact ⟨(T i).2, ⟨hc 0 (.int .i64 (T i).1.kind) rfl, hc 1 (.string (T i).1.text) rfl, hc 2 (.int .i64 (T i).1.at_) rfl, hc 3 (.int .i64 (T i).1.end_) rfl, hc 4 (T i).2 rfl⟩, hk⟩

end Go.Proofs.YtlbaaiglebpjiaaGreatDoor
