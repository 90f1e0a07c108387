import Derived.Test.YtdcpfpifecnfmaaDoorLo
/-
  Compact.
-/
namespace Go.Proofs.YtdcpfpifecnfmaaDoor
open Go.RowKit Go.Shelf Go.Lib

theorem wordsB_size (s : ByteArray) : ∀ x ∈ wordsB s, x.size ≤ s.size := by
  intro x hx
  unfold wordsB wordsT at hx
  obtain ⟨t, _, rfl⟩ := List.mem_map.1 hx
  unfold wordOf
  rw [ByteArray.size_extract]
  omega

/-- The word ahead of word k. -/
def lastW (ws : List ByteArray) : Nat → ByteArray
  | 0 => ⟨#[]⟩
  | k + 1 => ws.getD k ByteArray.empty

/-- What stands when k words are written. -/
def cB (ws : List ByteArray) : Nat → List UInt8
  | 0 => []
  | k + 1 => cB ws k ++ (if 0 < k ∧ sepB (lastW ws k) (ws.getD k ByteArray.empty) = true then [32] else []) ++ (ws.getD k ByteArray.empty).data.toList

def compactB (s : ByteArray) : ByteArray := ⟨(cB (wordsB s) (wordsB s).length).toArray⟩

theorem getD_size {ws : List ByteArray} {m : Nat} (h : ∀ x ∈ ws, x.size ≤ m) (k : Nat) : (ws.getD k ByteArray.empty).size ≤ m := by
  rw [List.getD_eq_getElem?_getD]
  cases hk : ws[k]? with
  | none => exact Nat.zero_le _
  | some x => exact h x (List.mem_of_getElem? hk)

theorem cB_len {ws : List ByteArray} {m : Nat} (h : ∀ x ∈ ws, x.size ≤ m) : ∀ k, (cB ws k).length ≤ k * (m + 1)
  | 0 => by simp [cB]
  | k + 1 => by
    have ih := cB_len h k
    have h1 := getD_size h k
    have h2 : (ws.getD k ByteArray.empty).data.toList.length = (ws.getD k ByteArray.empty).size := bytes_len _
    have h3 : (if 0 < k ∧ sepB (lastW ws k) (ws.getD k ByteArray.empty) = true then ([32] : List UInt8) else []).length ≤ 1 := by split <;> simp
    rw [cB, List.length_append, List.length_append, h2, Nat.add_mul]
    omega

theorem byteCells_app (a b : List UInt8) : Lib.byteCells (a ++ b) = Lib.byteCells a ++ Lib.byteCells b := by unfold Lib.byteCells; rw [List.map_append]

theorem cB_next {ws : List ByteArray} {k : Nat} {x : ByteArray} (hx : ws.getD k ByteArray.empty = x) (h : ¬ (0 < k ∧ sepB (lastW ws k) x = true)) :
    Lib.byteCells (cB ws (k + 1)) = Lib.byteCells (cB ws k) ++ Lib.strCells x := by
  rw [cB, hx, if_neg h, List.append_nil, byteCells_app]; rfl

theorem cB_sep {ws : List ByteArray} {k : Nat} {x : ByteArray} (hx : ws.getD k ByteArray.empty = x) (h0 : 0 < k) (h : sepB (lastW ws k) x = true) :
    Lib.byteCells (cB ws (k + 1)) = Lib.byteCells (cB ws k) ++ [.int .u8 32] ++ Lib.strCells x := by
  rw [cB, hx, if_pos ⟨h0, h⟩, byteCells_app, byteCells_app]; rfl

theorem lastW_size {ws : List ByteArray} {m : Nat} (h : ∀ x ∈ ws, x.size ≤ m) : ∀ k, (lastW ws k).size ≤ m
  | 0 => Nat.zero_le _
  | k + 1 => getD_size h k

set_option maxRecDepth 100000 in
set_option maxHeartbeats 1600000 in
theorem compact_any (s : ByteArray) (hs : s.size ≤ 500) (w : World) :
    Calls Tryd.prog 22 #[.string s] w fun e w' => e = .returned (.string (compactB s)) ∧ Below w.heap.size w w' := by
  obtain ⟨W1, hW1⟩ : ∃ W1, W1 = w.alloc (.cells #[.pointer none, .slice none 0 0] 67) := ⟨_, rfl⟩
  have hw := words_any s (by omega) W1
  have hlen := wordsB_len s (by omega)
  have hsz : ∀ x ∈ wordsB s, x.size ≤ 500 := fun x hx => by have := wordsB_size s x hx; omega
  have hb0 : Bld w.heap.size w.heap.size [] W1 := by rw [hW1]; exact Lib.fresh_isBuilder _ _ w
  have hB0 : Below w.heap.size w W1 := by rw [hW1]; exact (Below.refl _ _).alloc (Nat.le_refl _) _
  have hz1 : W1.heap.size = w.heap.size + 1 := by rw [hW1]; simp
  unfold RowOf at hw
  unfold compactB
  generalize wordsB s = ws at *
  have HS := hidden hsz
  have HW1 := hidden hW1
  have HB0 := hidden hb0
  clear hsz hW1 hb0
  go_enter Tryd.func22, Tryd.ntmps22
  go_wp2_with fail
  rw [← HW1.out]
  (with_reducible refine hw.mono ?_)
  rintro e w2 ⟨v, rfl, hrow, hB2⟩
  obtain ⟨a, c, rfl⟩ : ∃ a c, v = .slice a ws.length c := by
    rcases hrow.2 with ⟨rfl, h0⟩ | ⟨g, cap, cur, rfl, _⟩
    · rw [h0]; exact ⟨_, _, rfl⟩
    · exact ⟨_, _, rfl⟩
  have HL : Hid (Bld w.heap.size w.heap.size (Lib.byteCells (cB ws 0)) w2 ∧ w2.ownsRow (w.heap.size + 1) 9 1 (.slice a ws.length c) ws.length (ws.map Value.string) ∧ Below w.heap.size w w2) :=
    ⟨bld_below HB0.out hB2, by rw [← hz1]; exact hrow, hB0.trans (hB2.mono (by omega))⟩
  clear hrow hB2 hB0 hw HW1 HB0 hz1
  go_wp2_with fail
  go_loopw [4, 10] (fun last i wr => ∃ k : Nat, k ≤ ws.length ∧ i = .int .i64 k ∧ last = .string (lastW ws k) ∧
    Hid (Bld w.heap.size w.heap.size (Lib.byteCells (cB ws k)) wr ∧ wr.ownsRow (w.heap.size + 1) 9 1 (.slice a ws.length c) ws.length (ws.map Value.string) ∧ Below w.heap.size w wr)) (fun _ i _ => ws.length - (intOf i).toNat)
  case atStart => exact ⟨0, Nat.zero_le _, rfl, rfl, HL⟩
  case round =>
    clear HL
    obtain ⟨k, hk, rfl, rfl, hh⟩ := hrel
    by_cases hlt : k < ws.length
    · obtain ⟨hbld, hrow, hbel⟩ := hh.out
      obtain ⟨x, hx⟩ : ∃ x, ws.getD k ByteArray.empty = x := ⟨_, rfl⟩
      have hcl : ∃ g, a = some ⟨g, 0, none⟩ ∧ wr.cell? ⟨g, k, none⟩ = some (.string x) := by
        rcases Strs.of_row hrow with ⟨h1, h2⟩ | ⟨g, cap, h1, _, h3⟩
        · rw [h2] at hlt; simp at hlt
        · cases h1
          have := h3 k hlt
          rw [Nat.zero_add, hx] at this
          exact ⟨g, rfl, this⟩
      obtain ⟨g, rfl, hcell⟩ := hcl
      have hxs : x.size ≤ 500 := by rw [← hx]; exact getD_size HS.out k
      have hls : (lastW ws k).size ≤ 500 := lastW_size HS.out k
      have hcl := cB_len HS.out k
      have hcl2 : (cB ws k).length ≤ 5100000 := Nat.le_trans hcl (by omega)
      have hdz := hbel.size
      have hbc : (Lib.byteCells (cB ws k)).length ≤ 5100000 := by rw [Lib.byteCells_length]; exact hcl2
      have hws := fun (bs : List Value) (hb : bs.length ≤ 5100001) (w' : World) (h1 : Bld w.heap.size w.heap.size bs w') (h2 : w.heap.size ≤ w'.heap.size) => writeString_any w.heap.size w.heap.size bs x w' h1 (by omega) h2
      have HWS := hidden hws
      have HX := hidden hx
      have HH := hidden hh
      clear hws
      by_cases h0 : k = 0
      · subst h0
        have hwr := HWS.out _ (by omega) wr hbld hdz
        clear hh hbld hrow hbel hx hcl hcl2 hbc
        go_wp2_with fail
        (with_reducible refine hwr.mono ?_)
        rintro e w5 ⟨rfl, hb5, hB5, hk5⟩
        have HN : Hid (Bld w.heap.size w.heap.size (Lib.byteCells (cB ws (0 + 1))) w5 ∧ w5.ownsRow (w.heap.size + 1) 9 1 (.slice (some ⟨g, 0, none⟩) ws.length c) ws.length (ws.map Value.string) ∧ Below w.heap.size w w5) :=
          ⟨by rw [cB_next HX.out (by omega)]; exact .inr hb5, row_others HH.out.2.1 hk5 (by omega) (by decide), HH.out.2.2.trans hB5⟩
        clear hwr hb5 hB5 hk5
        go_wp2_with fail
        go_roundw
        case rel => exact ⟨0 + 1, by omega, rfl, by rw [lastW, HX.out], HN⟩
        case measure => simp [intOf]; omega
      · have hpos : 0 < k := by omega
        have hpi : (0 : Int) < (k : Int) := by omega
        have hsep := fun w' => separate_any (lastW ws k) x (by rw [ByteArray.size_append]; omega) w'
        cases hb : sepB (lastW ws k) x with
        | false =>
          rw [hb] at hsep
          have HNS : Hid (¬ (0 < k ∧ sepB (lastW ws k) x = true)) := by intro h; rw [hb] at h; exact absurd h.2 (by simp)
          clear hh hbld hrow hbel hx hcl hcl2 hb h0
          go_wp2_with fail
          (with_reducible refine (hsep _).mono ?_)
          rintro e w4 ⟨rfl, hB4⟩
          have hz4 : w.heap.size ≤ w4.heap.size := Nat.le_trans hdz hB4.size
          have hwr := HWS.out _ (by omega) w4 (bld_below HH.out.1 hB4) hz4
          have HB4 := hidden hB4
          clear hsep hB4 hcell
          go_wp2_with fail
          (with_reducible refine hwr.mono ?_)
          rintro e w5 ⟨rfl, hb5, hB5, hk5⟩
          have HN : Hid (Bld w.heap.size w.heap.size (Lib.byteCells (cB ws (k + 1))) w5 ∧ w5.ownsRow (w.heap.size + 1) 9 1 (.slice (some ⟨g, 0, none⟩) ws.length c) ws.length (ws.map Value.string) ∧ Below w.heap.size w w5) :=
            ⟨by rw [cB_next HX.out HNS.out]; exact .inr hb5, row_others (row_below HH.out.2.1 HB4.out) hk5 (by omega) (by decide), (HH.out.2.2.trans (HB4.out.mono hdz)).trans hB5⟩
          clear hwr hb5 hB5 hk5 hbc
          go_wp2_with fail
          go_roundw
          case rel => exact ⟨k + 1, by omega, by go_num, by rw [lastW, HX.out], HN⟩
          case measure => simp [intOf]; omega
        | true =>
          rw [hb] at hsep
          have HNS := hidden (cB_sep HX.out hpos hb)
          clear hh hbld hrow hbel hx hcl hcl2 hb h0
          go_wp2_with fail
          (with_reducible refine (hsep _).mono ?_)
          rintro e w4 ⟨rfl, hB4⟩
          have hz4 : w.heap.size ≤ w4.heap.size := Nat.le_trans hdz hB4.size
          have hwb := writeByte_any w.heap.size w.heap.size _ 32 w4 (bld_below HH.out.1 hB4) (by omega) hz4
          have HB4 := hidden hB4
          clear hsep hB4 hcell
          go_wp2_with fail
          (with_reducible refine hwb.mono ?_)
          rintro e w6 ⟨rfl, hb6, hB6, hk6⟩
          have hz6 : w.heap.size ≤ w6.heap.size := Nat.le_trans hz4 hB6.size
          have hwr := HWS.out _ (by rw [List.length_append]; simp; omega) w6 (.inr hb6) hz6
          have HB6 := hidden (And.intro hB6 hk6)
          clear hwb hb6 hB6 hk6
          go_wp2_with fail
          (with_reducible refine hwr.mono ?_)
          rintro e w5 ⟨rfl, hb5, hB5, hk5⟩
          have HN : Hid (Bld w.heap.size w.heap.size (Lib.byteCells (cB ws (k + 1))) w5 ∧ w5.ownsRow (w.heap.size + 1) 9 1 (.slice (some ⟨g, 0, none⟩) ws.length c) ws.length (ws.map Value.string) ∧ Below w.heap.size w w5) :=
            ⟨by rw [HNS.out]; exact .inr hb5, row_others (row_others (row_below HH.out.2.1 HB4.out) HB6.out.2 (by omega) (by decide)) hk5 (by omega) (by decide), ((HH.out.2.2.trans (HB4.out.mono hdz)).trans HB6.out.1).trans hB5⟩
          clear hwr hb5 hB5 hk5 hbc
          go_wp2_with fail
          go_roundw
          case rel => exact ⟨k + 1, by omega, by go_num, by rw [lastW, HX.out], HN⟩
          case measure => simp [intOf]; omega
    · obtain rfl : k = ws.length := by omega
      have hst := Tryd.Builder_String_any w.heap.size w.heap.size (cB ws ws.length) wr hh.out.1 hh.out.2.2.size
      have HB := hidden hh.out.2.2
      clear hh
      go_wp2_with fail
      (with_reducible refine hst.mono ?_)
      rintro e w5 ⟨rfl, hB5⟩
      go_wp2_with fail
      go_ret
      exact ⟨rfl, HB.out.trans hB5⟩

end Go.Proofs.YtdcpfpifecnfmaaDoor
