import Derived.Test.YtdcpfpifecnfmaaGreatDoorLl
/-
  slices.Equal of two lists of strings; Separate.
-/
namespace Go.Proofs.YtdcpfpifecnfmaaGreatDoor
open Go.RowKit Go.Shelf Go.Lib
attribute [local go_sem] Oper.semAt_some

/-- A slice value that holds strings. -/
def Strs (w : World) (v : Value) (xs : List ByteArray) : Prop :=
  (v = .slice none 0 0 ∧ xs = []) ∨ ∃ g cap, v = .slice (some ⟨g, 0, none⟩) xs.length cap ∧ g < w.heap.size ∧ ∀ j, j < xs.length → w.cell? ⟨g, 0 + j, none⟩ = some (.string (xs.getD j ByteArray.empty))

theorem Strs.of_row {w : World} {b : Nat} {e : TypeId} {v : Value} {xs : List ByteArray} (h : w.ownsRow b e 1 v xs.length (xs.map Value.string)) : Strs w v xs := by
  rcases h.2 with ⟨rfl, h0⟩ | ⟨g, cap, cur, rfl, h2, h3, h4, h5, h6, h7⟩
  · exact .inl ⟨rfl, List.length_eq_zero_iff.1 h0⟩
  · refine .inr ⟨g, cap, rfl, (Array.getElem?_eq_some_iff.1 h3).1, fun j hj => ?_⟩
    have hc : w.cell? ⟨g, 0 + j, none⟩ = cur[0 + j]? := by simp [World.cell?, h3]
    rw [hc, Nat.zero_add]
    have h8 : (cur.toList.take (xs.length * 1))[j]? = (xs.map Value.string)[j]? := by rw [h7]
    rw [List.getElem?_take, if_pos (by omega)] at h8
    rw [← Array.getElem?_toList, h8, List.getElem?_map, List.getD_eq_getElem?_getD, List.getElem?_eq_getElem hj]
    rfl

theorem Strs.below {w w' : World} {v : Value} {xs : List ByteArray} (h : Strs w v xs) (hb : Below w.heap.size w w') : Strs w' v xs := by
  rcases h with h | ⟨g, cap, h1, h2, h3⟩
  · exact .inl h
  · exact .inr ⟨g, cap, h1, Nat.lt_of_lt_of_le h2 hb.size, fun j hj => (hb.cell (p := ⟨g, 0 + j, none⟩) h2).trans (h3 j hj)⟩

theorem Strs.lit2 (w : World) (a b : ByteArray) : Strs (w.alloc (.cells #[.string a, .string b] 9)) (.slice (some ⟨w.heap.size, 0, none⟩) 2 2) [a, b] := by
  refine .inr ⟨w.heap.size, 2, rfl, by simp, fun j hj => ?_⟩
  rcases j with _ | _ | j
  · simp
  · simp
  · simp at hj; omega

theorem equal_any {w : World} {v1 v2 : Value} {xs ys : List ByteArray} (h1 : Strs w v1 xs) (h2 : Strs w v2 ys) (hx : xs.length ≤ 20000) (hy : ys.length ≤ 20000) :
    Calls Tryz.prog 11 #[v1, v2] w fun e w' => e = .returned (.bool (decide (xs = ys))) ∧ ∃ q, w' = w.drewN q := by
  have hd0 : w = w.drewN 0 := rfl
  have hv1 : ∃ a c, v1 = .slice a xs.length c := by
    rcases h1 with ⟨rfl, rfl⟩ | ⟨g, cap, rfl, _⟩
    · exact ⟨_, _, rfl⟩
    · exact ⟨_, _, rfl⟩
  have hv2 : ∃ a c, v2 = .slice a ys.length c := by
    rcases h2 with ⟨rfl, rfl⟩ | ⟨g, cap, rfl, _⟩
    · exact ⟨_, _, rfl⟩
    · exact ⟨_, _, rfl⟩
  by_cases hl : xs.length = ys.length
  · by_cases h0 : xs.length = 0
    · obtain ⟨a1, c1, rfl⟩ := hv1
      obtain ⟨a2, c2, rfl⟩ := hv2
      rw [h0]
      have e1 : decide (xs = ys) = decide (ys.length = 0) := by
        have hx0 : xs = [] := List.length_eq_zero_iff.1 h0
        have hy0 : ys = [] := List.length_eq_zero_iff.1 (by omega)
        rw [hx0, hy0]; rfl
      rw [e1]
      refine (Tryz.slices_Equal_string_empty a1 a2 c1 ys.length c2 w (by omega)).mono ?_
      rintro e w' ⟨rfl, rfl⟩
      exact ⟨rfl, 0, rfl⟩
    · rcases h1 with ⟨rfl, rfl⟩ | ⟨g1, c1, rfl, _, k1⟩
      · exact absurd rfl h0
      · rcases h2 with ⟨rfl, rfl⟩ | ⟨g2, c2, rfl, _, k2⟩
        · exact absurd hl h0
        · refine (Tryz.slices_Equal_string g1 0 xs.length c1 g2 0 ys.length c2 xs ys w (Nat.le_refl _) (Nat.le_refl _) (by omega) (by omega) k1 k2).mono ?_
          rintro e w' ⟨rfl, h⟩
          rw [List.take_length, List.take_length]
          exact ⟨rfl, h⟩
  · obtain ⟨a1, c1, rfl⟩ := hv1
    obtain ⟨a2, c2, rfl⟩ := hv2
    refine (Tryz.slices_Equal_string_lens a1 a2 xs.length c1 ys.length c2 w hl).mono ?_
    rintro e w' ⟨rfl, rfl⟩
    refine ⟨?_, 0, rfl⟩
    have : xs ≠ ys := fun h => hl (by rw [h])
    simp [this]

theorem below_drewN {B : Nat} {a w : World} (h : Below B a w) (q : Nat) : Below B a (w.drewN q) := ⟨h.os, h.tape, h.output, h.size, h.block⟩

/-- Whether two words need a separator. -/
def sepB (a b : ByteArray) : Bool := !decide (wordsB (a ++ b) = [a, b])

set_option maxHeartbeats 800000 in
theorem separate_any (a b : ByteArray) (hs : (a ++ b).size ≤ 4096) (w : World) :
    Calls Tryz.prog 14 #[.string a, .string b] w fun e w' => e = .returned (.bool (sepB a b)) ∧ Below w.heap.size w w' := by
  have h1 := fun w' => wordsSeq_any (a ++ b) w'
  have h2 := collectWords_any (a ++ b) hs w
  have hlen := wordsB_len (a ++ b) hs
  have hab : a.size + b.size ≤ 4096 := by rw [ByteArray.size_append] at hs; exact hs
  unfold RowOf at h2
  unfold sepB
  go_enter Tryz.func14, Tryz.ntmps14
  go_wp2_with fail
  (with_reducible refine (h1 _).mono ?_)
  rintro e w1 ⟨rfl, rfl⟩
  go_wp2_with fail
  (with_reducible refine h2.mono ?_)
  rintro e w1 ⟨v, rfl, k1, k2⟩
  have hst := (Strs.of_row k1).below ((Below.refl w1.heap.size w1).alloc (Nat.le_refl _) (.cells #[.string a, .string b] 9))
  have h3 := equal_any hst (Strs.lit2 w1 a b) (by omega) (by simp)
  have hz := k2.size
  have HB := hidden (k2.alloc hz (.cells #[.string a, .string b] 9))
  clear h1 h2 hst k1 k2 hz hlen
  go_wp2_with fail
  (with_reducible refine h3.mono ?_)
  rintro e w2 ⟨rfl, q, rfl⟩
  go_wp2_with fail
  go_ret
  exact ⟨rfl, below_drewN HB.out q⟩

end Go.Proofs.YtdcpfpifecnfmaaGreatDoor
