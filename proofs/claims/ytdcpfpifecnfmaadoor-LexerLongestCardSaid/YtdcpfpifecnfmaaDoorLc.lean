import Derived.Test.YtdcpfpifecnfmaaDoorLb
namespace Go.Proofs.YtdcpfpifecnfmaaDoor
open Go.RowKit Go.Shelf Go.Lib

def runTo (p : UInt8 → Bool) (l : List UInt8) (k : Nat) : Nat := k + ((l.drop k).takeWhile p).length
theorem runTo_yes (p : UInt8 → Bool) (l : List UInt8) (k : Nat) (h : k < l.length) (hp : p (l.getD k 0) = true) : runTo p l k = runTo p l (k + 1) := by
  unfold runTo; rw [drop_get l k h, List.takeWhile_cons_of_pos hp, List.length_cons]; omega
theorem runTo_no (p : UInt8 → Bool) (l : List UInt8) (k : Nat) (h : k < l.length) (hp : p (l.getD k 0) = false) : runTo p l k = k := by
  unfold runTo; rw [drop_get l k h, List.takeWhile_cons_of_neg (by rw [hp]; simp)]; rfl
theorem runTo_end (p : UInt8 → Bool) (l : List UInt8) : runTo p l l.length = l.length := by unfold runTo; simp
theorem runTo_le (p : UInt8 → Bool) (l : List UInt8) (k : Nat) (h : k ≤ l.length) : runTo p l k ≤ l.length := by
  unfold runTo; have := (List.takeWhile_sublist (l := l.drop k) p).length_le; rw [List.length_drop] at this; omega


set_option maxHeartbeats 800000 in
theorem run_part {w : World} {b : Nat} {s : ByteArray} (h : Idx w b s (feedsOf s.data.toList)) (k : Nat) (hk : k ≤ s.size) :
    Calls Tryd.prog 73 #[scanV s b, .int .i64 k, .func (.func 74) #[] #[]] w fun e w' => e = .returned (.int .i64 (runTo partB s.data.toList k : Nat)) ∧ Below w.heap.size w w' := by
  have hsm := h.small
  have hbl := bytes_len s
  have hB0 : Below w.heap.size w (w.alloc (.cells #[.string s, .pointer (some ⟨b, 0, none⟩)] 59)) := (Below.refl _ _).alloc (Nat.le_refl _) _
  have c0 : (w.alloc (.cells #[.string s, .pointer (some ⟨b, 0, none⟩)] 59)).cell? ⟨w.heap.size, 0, none⟩ = some (.string s) := by simp
  obtain ⟨W0, hW0⟩ : ∃ W0, W0 = w.alloc (.cells #[.string s, .pointer (some ⟨b, 0, none⟩)] 59) := ⟨_, rfl⟩
  rw [← hW0] at hB0 c0
  have HL : Hid (s.data.toList.length = s.size) := hbl
  clear h hbl
  go_enter Tryd.func73, Tryd.ntmps73
  go_wp2
  rw [← hW0]
  clear hW0
  go_loop [1] (fun i => ∃ j : Nat, j ≤ s.size ∧ i = .int .i64 j ∧ Hid (runTo partB s.data.toList k = runTo partB s.data.toList j)) (fun i => s.size - (intOf i).toNat)
  case atStart => exact ⟨k, hk, rfl, rfl⟩
  case round =>
    obtain ⟨j, hj, rfl, hs⟩ := hrel
    by_cases hlt : j < s.size
    · have hsp := fun w' => isPart_any s[j] w'
      have hg := getD_bytes s j hlt
      cases hw : partB s[j] with
      | true =>
        rw [hw] at hsp
        have HS : Hid (runTo partB s.data.toList j = runTo partB s.data.toList (j + 1)) := runTo_yes _ _ _ (by rw [HL.out]; exact hlt) (by rw [hg]; exact hw)
        clear hg hw
        go_wp2_with (go_at_call 74; (with_reducible refine (hsp _).mono ?_); rintro e w1 ⟨rfl, rfl⟩)
        go_round
        case rel => exact ⟨j + 1, by omega, by go_num, hs.out.trans HS.out⟩
        case measure => simp [intOf]; omega
      | false =>
        rw [hw] at hsp
        have HS : Hid (runTo partB s.data.toList j = j) := runTo_no _ _ _ (by rw [HL.out]; exact hlt) (by rw [hg]; exact hw)
        clear hg hw
        go_wp2_with (go_at_call 74; (with_reducible refine (hsp _).mono ?_); rintro e w1 ⟨rfl, rfl⟩)
        go_ret
        exact ⟨by rw [hs.out, HS.out]; rfl, hB0⟩
    · obtain rfl : j = s.size := by omega
      have HS : Hid (runTo partB s.data.toList s.size = s.size) := by show _ = _; have := runTo_end partB s.data.toList; rwa [HL.out] at this
      clear hlt
      go_wp2
      go_ret
      exact ⟨by rw [hs.out, HS.out]; rfl, hB0⟩

set_option maxHeartbeats 800000 in
theorem run_digit {w : World} {b : Nat} {s : ByteArray} (h : Idx w b s (feedsOf s.data.toList)) (k : Nat) (hk : k ≤ s.size) :
    Calls Tryd.prog 73 #[scanV s b, .int .i64 k, .func (.func 75) #[] #[]] w fun e w' => e = .returned (.int .i64 (runTo digitB s.data.toList k : Nat)) ∧ Below w.heap.size w w' := by
  have hsm := h.small
  have hbl := bytes_len s
  have hB0 : Below w.heap.size w (w.alloc (.cells #[.string s, .pointer (some ⟨b, 0, none⟩)] 59)) := (Below.refl _ _).alloc (Nat.le_refl _) _
  have c0 : (w.alloc (.cells #[.string s, .pointer (some ⟨b, 0, none⟩)] 59)).cell? ⟨w.heap.size, 0, none⟩ = some (.string s) := by simp
  obtain ⟨W0, hW0⟩ : ∃ W0, W0 = w.alloc (.cells #[.string s, .pointer (some ⟨b, 0, none⟩)] 59) := ⟨_, rfl⟩
  rw [← hW0] at hB0 c0
  have HL : Hid (s.data.toList.length = s.size) := hbl
  clear h hbl
  go_enter Tryd.func73, Tryd.ntmps73
  go_wp2
  rw [← hW0]
  clear hW0
  go_loop [1] (fun i => ∃ j : Nat, j ≤ s.size ∧ i = .int .i64 j ∧ Hid (runTo digitB s.data.toList k = runTo digitB s.data.toList j)) (fun i => s.size - (intOf i).toNat)
  case atStart => exact ⟨k, hk, rfl, rfl⟩
  case round =>
    obtain ⟨j, hj, rfl, hs⟩ := hrel
    by_cases hlt : j < s.size
    · have hsp := fun w' => isDigit_any s[j] w'
      have hg := getD_bytes s j hlt
      cases hw : digitB s[j] with
      | true =>
        rw [hw] at hsp
        have HS : Hid (runTo digitB s.data.toList j = runTo digitB s.data.toList (j + 1)) := runTo_yes _ _ _ (by rw [HL.out]; exact hlt) (by rw [hg]; exact hw)
        clear hg hw
        go_wp2_with (go_at_call 75; (with_reducible refine (hsp _).mono ?_); rintro e w1 ⟨rfl, rfl⟩)
        go_round
        case rel => exact ⟨j + 1, by omega, by go_num, hs.out.trans HS.out⟩
        case measure => simp [intOf]; omega
      | false =>
        rw [hw] at hsp
        have HS : Hid (runTo digitB s.data.toList j = j) := runTo_no _ _ _ (by rw [HL.out]; exact hlt) (by rw [hg]; exact hw)
        clear hg hw
        go_wp2_with (go_at_call 75; (with_reducible refine (hsp _).mono ?_); rintro e w1 ⟨rfl, rfl⟩)
        go_ret
        exact ⟨by rw [hs.out, HS.out]; rfl, hB0⟩
    · obtain rfl : j = s.size := by omega
      have HS : Hid (runTo digitB s.data.toList s.size = s.size) := by show _ = _; have := runTo_end digitB s.data.toList; rwa [HL.out] at this
      clear hlt
      go_wp2
      go_ret
      exact ⟨by rw [hs.out, HS.out]; rfl, hB0⟩

theorem ext2 (t : ByteArray) (a b : UInt8) (r : List UInt8) (h : t.data.toList = a :: b :: r) (x y : UInt8) : ((t.extract 0 2).toList == [x, y]) = (a == x && b == y) := by
  rw [ByteArray.toList_eq, Lib.extract_data, h]
  show ([a, b] == [x, y]) = _
  by_cases h1 : a = x <;> by_cases h2 : b = y <;> simp [h1, h2]

def oneL : List UInt8 := [60, 62, 61, 43, 45, 42, 40, 41, 123, 125, 44, 58, 59]
theorem one_index (a : UInt8) : (oneB a = true → 0 ≤ Lib.indexByte oneL a) ∧ (oneB a = false → Lib.indexByte oneL a < 0) := by
  refine ⟨fun h => ?_, fun h => ?_⟩
  · have hm : a ∈ oneL := of_decide_eq_true h
    rcases (by omega : Lib.indexByte oneL a < 0 ∨ 0 ≤ Lib.indexByte oneL a) with h1 | h1
    · exfalso
      have h2 : Lib.indexByte oneL a = -1 := by have := Lib.indexByte_ge oneL a; omega
      obtain ⟨k, hk, hk2⟩ := List.getElem_of_mem hm
      exact Lib.indexByte_none h2 k (by rw [List.getElem?_eq_getElem hk, hk2])
    · exact h1
  · have hm : a ∉ oneL := of_decide_eq_false h
    rcases (by omega : Lib.indexByte oneL a < 0 ∨ 0 ≤ Lib.indexByte oneL a) with h1 | h1
    · exact h1
    · exfalso
      obtain ⟨o, ho⟩ : ∃ o : Nat, Lib.indexByte oneL a = o := ⟨(Lib.indexByte oneL a).toNat, by omega⟩
      exact hm (List.mem_of_getElem? (Lib.indexByte_some ho).1)

theorem index_call (a : UInt8) (w : World) : ∃ z : Int, -1 ≤ z ∧ z ≤ 13 ∧ (oneB a = true → 0 ≤ z) ∧ (oneB a = false → z < 0) ∧
    Calls Tryd.prog 96 #[.string ⟨#[60, 62, 61, 43, 45, 42, 40, 41, 123, 125, 44, 58, 59]⟩, .int .u8 a.toNat] w fun e w' => e = .returned (.int .i64 z) ∧ w = w' := by
  have h := Tryd.strings_IndexByte ⟨oneL.toArray⟩ a.toNat w
  have hb : Lib.indexByte oneL a ≤ 13 := by
    rcases (by omega : Lib.indexByte oneL a < 0 ∨ 0 ≤ Lib.indexByte oneL a) with h1 | h1
    · omega
    · obtain ⟨o, ho⟩ : ∃ o : Nat, Lib.indexByte oneL a = o := ⟨(Lib.indexByte oneL a).toNat, by omega⟩
      have := (List.getElem?_eq_some_iff.1 (Lib.indexByte_some ho).1).1
      have h2 : oneL.length = 13 := rfl
      omega
  refine ⟨Lib.indexByte oneL a, Lib.indexByte_ge _ _, hb, (one_index a).1, (one_index a).2, h.mono fun e w' ⟨h1, h2⟩ => ⟨?_, h2.symm⟩⟩
  rw [h1, show ((a.toNat : Int).toNat).toUInt8 = a by simp]

set_option maxHeartbeats 800000 in
theorem symbol_any (t : ByteArray) (ht : 1 ≤ t.size) (hs : t.size ≤ 4096) (w : World) :
    Calls Tryd.prog 76 #[.string t] w fun e w' => e = .returned (.int .i64 (symL t.data.toList : Nat)) ∧ w = w' := by
  have h0 : 0 < t.size := ht
  obtain ⟨a, ha⟩ : ∃ a, t[0] = a := ⟨_, rfl⟩
  have hbl := bytes_len t
  obtain ⟨z, z1, z2, z3, z4, hz⟩ := index_call a w
  cases hl : t.data.toList with
  | nil => rw [hl] at hbl; simp at hbl; omega
  | cons a' r =>
    have haa : a' = a := by
      have := getD_bytes t 0 (by omega)
      rw [hl, ha] at this; exact this
    subst haa
    cases r with
    | nil =>
      have h1 : t.size = 1 := by rw [hl] at hbl; simpa using hbl.symm
      have h2 : (t.size : Int) < 2 := by omega
      have h3 : (0 : Int) < (t.size : Int) := by omega
      show Calls _ _ _ _ fun e w' => e = .returned (.int .i64 ((if oneB a' then 1 else 0 : Nat) : Int)) ∧ w = w'
      clear hl hbl h1
      cases ho : oneB a' with
      | true =>
        have z3 := z3 ho
        clear z4 ho
        go_enter Tryd.func76, Tryd.ntmps76
        go_wp2_with (go_at_call 96; (with_reducible refine hz.mono ?_); rintro e w1 ⟨rfl, rfl⟩)
        go_ret
        exact ⟨rfl, rfl⟩
      | false =>
        have z4 := z4 ho
        clear z3 ho
        go_enter Tryd.func76, Tryd.ntmps76
        go_wp2_with (go_at_call 96; (with_reducible refine hz.mono ?_); rintro e w1 ⟨rfl, rfl⟩)
        go_ret
        exact ⟨rfl, rfl⟩
    | cons b r =>
      have h1 : 2 ≤ t.size := by rw [hl] at hbl; simp at hbl; omega
      have h2 : (2 : Int) ≤ (t.size : Int) := by omega
      have h3 : (0 : Int) < (t.size : Int) := by omega
      have e1 := ext2 t a' b r hl 61 61
      have e2 := ext2 t a' b r hl 33 61
      have e3 := ext2 t a' b r hl 60 61
      have e4 := ext2 t a' b r hl 62 61
      have e5 := ext2 t a' b r hl 46 46
      have h2d : 2 ≤ t.data.size := h1
      show Calls _ _ _ _ fun e w' => e = .returned (.int .i64 ((if twoB a' b then 2 else if oneB a' then 1 else 0 : Nat) : Int)) ∧ w = w'
      have ht2 : twoB a' b = ((a' == 61 && b == 61) || (a' == 33 && b == 61) || (a' == 60 && b == 61) || (a' == 62 && b == 61) || (a' == 46 && b == 46)) := by
        unfold twoB
        cases (b == 61) <;> cases (a' == 61) <;> cases (a' == 33) <;> cases (a' == 60) <;> cases (a' == 62) <;> cases (a' == 46) <;> cases (b == 46) <;> rfl
      rw [ht2]
      generalize (a' == 61 && b == 61) = q1 at *
      generalize (a' == 33 && b == 61) = q2 at *
      generalize (a' == 60 && b == 61) = q3 at *
      generalize (a' == 62 && b == 61) = q4 at *
      generalize (a' == 46 && b == 46) = q5 at *
      clear hl hbl ht2
      cases hq : (q1 || q2 || q3 || q4 || q5) with
      | true =>
        clear hz z1 z2 z3 z4
        cases q1 <;> cases q2 <;> cases q3 <;> cases q4 <;> cases q5 <;> first | (exact absurd hq (by decide)) | (clear hq; go_enter Tryd.func76, Tryd.ntmps76; go_wp2_with fail; go_ret; exact ⟨rfl, rfl⟩)
      | false =>
        obtain ⟨⟨⟨⟨rfl, rfl⟩, rfl⟩, rfl⟩, rfl⟩ : (((q1 = false ∧ q2 = false) ∧ q3 = false) ∧ q4 = false) ∧ q5 = false := by simpa using hq
        clear hq
        cases ho : oneB a' with
        | true =>
          have z3 := z3 ho
          clear z4 ho
          go_enter Tryd.func76, Tryd.ntmps76
          go_wp2_with (go_at_call 96; (with_reducible refine hz.mono ?_); rintro e w1 ⟨rfl, rfl⟩)
          go_ret
          exact ⟨rfl, rfl⟩
        | false =>
          have z4 := z4 ho
          clear z3 ho
          go_enter Tryd.func76, Tryd.ntmps76
          go_wp2_with (go_at_call 96; (with_reducible refine hz.mono ?_); rintro e w1 ⟨rfl, rfl⟩)
          go_ret
          exact ⟨rfl, rfl⟩

end Go.Proofs.YtdcpfpifecnfmaaDoor
