import Derived.Test.YtdcpfpifecnfmaaGreatDoorLq
import Derived.Test.YtdcpfpifecnfmaaGreatDoorKw
/-
  Kind, of any word, where keywords are looked for in their list; the library's search wants a variable of its package, which every world behind the start has.
-/
namespace Go.Proofs.YtdcpfpifecnfmaaGreatDoor
open Go.RowKit Go.Shelf Go.Lib

/-- The variable internal/bytealg.MaxLen holds some number. -/
def MaxAt (w : World) : Prop := ∃ m : Int, w.cell? ⟨2, 0, none⟩ = some (.int .i64 m)

theorem MaxAt.below {w w' : World} {B : Nat} (h : MaxAt w) (hB : 2 < B) (hb : Below B w w') : MaxAt w' := by
  obtain ⟨m, hm⟩ := h
  exact ⟨m, (World.cell?_of_block (a := ⟨2, 0, none⟩) (hb.block _ hB)).trans hm⟩
theorem MaxAt.lt {w : World} (h : MaxAt w) : 2 < w.heap.size := by
  obtain ⟨m, hm⟩ := h
  exact World.block_lt_of_cell? w _ hm
theorem MaxAt.keep {w w' : World} (h : MaxAt w) (hb : Below w.heap.size w w') : MaxAt w' := h.below h.lt hb

theorem letter_facts (c : UInt8) (h : letterB c = true) : c ≠ 32 := by
  rintro rfl; revert h; decide
theorem part_facts (c : UInt8) (h : partB c = true) : c ≠ 32 := by
  rintro rfl; revert h; decide

theorem takeWhile_only (p : UInt8 → Bool) : ∀ l : List UInt8, (l.takeWhile p).length = l.length → ∀ x ∈ l, p x = true
  | [], _, x, hx => by cases hx
  | c :: r, h, x, hx => by
    by_cases hc : p c = true
    · rw [List.takeWhile_cons_of_pos hc] at h
      rcases List.mem_cons.1 hx with rfl | hx
      · exact hc
      · exact takeWhile_only p r (by simpa using h) x hx
    · rw [List.takeWhile_cons_of_neg hc] at h
      cases h

theorem kindN_one {s : ByteArray} (h : kindN s = 1) : s.data.toList ≠ [] ∧ (32 : UInt8) ∉ s.data.toList := by
  unfold kindN at h
  by_cases hp : (nextT s.data.toList 0).at_ = 0 ∧ (nextT s.data.toList 0).end_ = s.size
  · rw [if_pos hp] at h
    obtain ⟨h1, h2⟩ := hp
    have e0 : skipTo s.data.toList 0 = 0 := h1
    have hk : (tokF (s.data.toList.drop (skipTo s.data.toList 0))).1 = 1 := h
    have he : skipTo s.data.toList 0 + (tokF (s.data.toList.drop (skipTo s.data.toList 0))).2 = s.size := h2
    rw [e0, List.drop_zero] at hk he
    cases hl : s.data.toList with
    | nil => rw [hl] at hk; simp [tokF] at hk
    | cons c r =>
      have hz : s.size = r.length + 1 := by rw [← bytes_len, hl]; rfl
      rw [hl, tokF] at hk he
      by_cases a : letterB c = true
      · rw [if_pos a] at he
        have he' : 0 + ((r.takeWhile partB).length + 1) = s.size := he
        refine ⟨by simp, fun hm => ?_⟩
        rcases List.mem_cons.1 hm with hm | hm
        · exact letter_facts c a hm.symm
        · exact part_facts 32 (takeWhile_only partB r (by omega) 32 hm) rfl
      · rw [if_neg a] at hk
        by_cases b : digitB c = true
        · rw [if_pos b] at hk; cases hk
        · rw [if_neg b] at hk; split at hk <;> cases hk
  · rw [if_neg hp] at h; cases h

set_option maxRecDepth 100000 in
theorem isKeyword_any (s : ByteArray) (hs : s.size ≤ 4096) (hk : kindN s = 1) (w : World) (hm : MaxAt w) :
    Calls Tryz.prog 18 #[.string s] w fun e w' => e = .returned (.bool (decide (s.data.toList ∈ kwords))) ∧ w' = w := by
  obtain ⟨m, hm⟩ := hm
  obtain ⟨h0, hl⟩ := kindN_one hk
  have hc := Tryz.strings_Contains kwList (((⟨#[32]⟩ : ByteArray) ++ s) ++ ⟨#[32]⟩) m w kwList_size hm
  rw [kw_contains s hl h0] at hc
  have hz1 : ((⟨#[32]⟩ : ByteArray) ++ s).size = 1 + s.size := ByteArray.size_append
  have hz : ((⟨#[32]⟩ : ByteArray) ++ s ++ ⟨#[32]⟩).size = s.size + 2 := by
    rw [ByteArray.size_append, hz1]
    show 1 + s.size + 1 = s.size + 2
    omega
  clear h0 hl hk
  go_enter Tryz.func18, Tryz.ntmps18
  go_wp2_with fail
  refine Calls.mono (show Calls _ _ _ _ _ from hc) ?_
  rintro e w' ⟨rfl, rfl⟩
  go_wp2_with fail
  go_ret
  exact ⟨rfl, rfl⟩

/-- The kind of a word. -/
def kindW (s : ByteArray) : Nat := if kindN s = 1 ∧ s.data.toList ∈ kwords then 2 else kindN s

set_option maxRecDepth 100000 in
set_option maxHeartbeats 1600000 in
theorem kind_any (s : ByteArray) (hs : s.size ≤ 4096) (w : World) (hm : MaxAt w) :
    Calls Tryz.prog 7 #[.string s] w fun e w' => e = .returned (.int .i64 (kindW s : Nat)) ∧ Below w.heap.size w w' := by
  by_cases hk : kindN s = 1
  · have hn := newScanner_any s w hs
    have hkw := fun w' h' => isKeyword_any s hs hk w' h'
    obtain ⟨t, ht⟩ : ∃ t, nextT s.data.toList 0 = t := ⟨_, rfl⟩
    obtain ⟨k1, k2, k3⟩ : t.at_ = 0 ∧ t.end_ = s.size ∧ t.kind = 1 := by
      unfold kindN at hk
      rw [ht] at hk
      by_cases h : t.at_ = 0 ∧ t.end_ = s.size
      · rw [if_pos h] at hk; exact ⟨h.1, h.2, hk⟩
      · rw [if_neg h] at hk; cases hk
    obtain ⟨r, hr⟩ : ∃ r, kindW s = r := ⟨_, rfl⟩
    have hr2 : r = if s.data.toList ∈ kwords then 2 else 1 := by
      rw [← hr]
      unfold kindW
      by_cases h : s.data.toList ∈ kwords
      · rw [if_pos ⟨hk, h⟩, if_pos h]
      · rw [if_neg (fun hh => h hh.2), if_neg h, hk]
    rw [hr]
    have HT := hidden ht
    have HR := hidden hr2
    have HM := hidden hm
    clear ht hk hr hr2 hm
    go_enter Tryz.func7, Tryz.ntmps7
    go_wp2_with fail
    (with_reducible refine hn.mono ?_)
    rintro e w1 ⟨b, rfl, hI, hB1, _⟩
    have hn0 : Calls Tryz.prog 17 #[scanV s b, .int .i64 0] w1 fun e w' => e = .returned (tokV (nextT s.data.toList 0)) ∧ Below w1.heap.size w1 w' := next_any hI 0 (Nat.zero_le _)
    rw [HT.out] at hn0
    have HB1 := hidden hB1
    clear hI hB1 hn
    go_wp2_with fail
    (with_reducible refine hn0.mono ?_)
    rintro e w2 ⟨rfl, hB2⟩
    have HB : Hid (Below w.heap.size w (w2.alloc (.cells #[.int .i64 t.kind, .int .i64 t.from_, .int .i64 t.at_, .int .i64 t.end_] 37))) := (bt HB1.out hB2).alloc (by have := HB1.out.size; have := hB2.size; omega) _
    clear hB2 hn0 HB1
    dsimp only [tokV]
    have e1 : ((t.at_ : Int) != 0) = false := by rw [k1]; rfl
    have e2 : ((t.end_ : Int) != (s.size : Int)) = false := by rw [k2]; simp
    have e3 : ((t.kind : Int) == 1) = true := by rw [k3]; rfl
    have HK := hidden k3
    have hkw2 := hkw _ (HM.out.keep HB.out)
    clear k1 k2 k3 hkw
    go_wp2_with fail
    (with_reducible refine hkw2.mono ?_)
    rintro e w3 ⟨rfl, rfl⟩
    by_cases hc : s.data.toList ∈ kwords
    · rw [decide_eq_true hc]
      have HV : Hid (r = 2) := HR.out.trans (if_pos hc)
      clear hkw2 hc
      go_wp2_with fail
      go_ret
      exact ⟨by rw [HV.out]; rfl, HB.out⟩
    · rw [decide_eq_false hc]
      have HV : Hid (r = t.kind) := (HR.out.trans (if_neg hc)).trans HK.out.symm
      clear hkw2 hc
      go_wp2_with fail
      go_ret
      exact ⟨by rw [HV.out]; rfl, HB.out⟩
  · have h : kindW s = kindN s := by unfold kindW; exact if_neg (fun h => hk h.1)
    rw [h]
    exact kind_plain s hs hk w

end Go.Proofs.YtdcpfpifecnfmaaGreatDoor
