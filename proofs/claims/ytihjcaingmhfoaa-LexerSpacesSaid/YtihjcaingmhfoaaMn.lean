import Derived.Test.YtihjcaingmhfoaaMl
/-
  Kind, of any word.
-/
namespace Go.Proofs.Ytihjcaingmhfoaa
open Go.RowKit Go.Shelf Go.Lib
open Go.Maps (Keyed IsMap)

theorem kw_fold (l : List UInt8) (z : DataW Unit) : ∀ (ks : List (List UInt8)) (D : DataW Unit), IsMap D →
    (ks.foldl (fun d k => d.put (.string k) (.lit (.bool true))) D).atKey (.string l) z = if l ∈ ks then .lit (.bool true) else D.atKey (.string l) z
  | [], D, _ => by simp
  | k :: ks, D, hD => by
    rw [List.foldl_cons, kw_fold l z ks _ (hD.put _ _)]
    by_cases h1 : l ∈ ks
    · rw [if_pos h1, if_pos (List.mem_cons_of_mem _ h1)]
    · rw [if_neg h1]
      by_cases h2 : l = k
      · subst h2
        rw [if_pos List.mem_cons_self]
        exact Maps.atKey_put_same hD (by simp [WideAt.IsKeyLit]) _ _
      · rw [if_neg (by simp [h1, h2])]
        exact Maps.atKey_put_other (fun e => h2 (by cases e; rfl)) _ _

theorem kw_at (l : List UInt8) : kwMap.atKey (.string l) (.lit (.bool false)) = .lit (.bool (decide (l ∈ kwords))) := by
  unfold kwMap
  rw [kw_fold l _ kwords _ Maps.isMap_empty]
  by_cases h : l ∈ kwords
  · rw [if_pos h, decide_eq_true h]
  · rw [if_neg h, decide_eq_false h]
    rfl

/-- The kind of a word. -/
def kindW (s : ByteArray) : Nat := if kindN s = 1 ∧ s.data.toList ∈ kwords then 2 else kindN s

set_option maxRecDepth 100000 in
set_option maxHeartbeats 1600000 in
theorem kind_any (s : ByteArray) (hs : s.size ≤ 4096) (w : World) :
    Calls Try.prog 23 #[.string s] w fun e w' => e = .returned (.int .i64 (kindW s : Nat)) ∧ Below w.heap.size w w' := by
  by_cases hk : kindN s = 1
  · have hn := newScanner_any s w hs
    have hkw := fun w' => keywords_any w'
    obtain ⟨t, ht⟩ : ∃ t, nextT s.data.toList 0 = t := ⟨_, rfl⟩
    obtain ⟨k1, k2, k3⟩ : t.at_ = 0 ∧ t.end_ = s.size ∧ t.kind = 1 := by
      unfold kindN at hk
      rw [ht] at hk
      by_cases h : t.at_ = 0 ∧ t.end_ = s.size
      · rw [if_pos h] at hk; exact ⟨h.1, h.2, hk⟩
      · rw [if_neg h] at hk; cases hk
    obtain ⟨r, hr⟩ : ∃ r, kindW s = r := ⟨_, rfl⟩
    have hr2 : r = if s.data.toList ∈ kwords then 2 else 1 := by
      rw [← hr]
      unfold kindW
      by_cases h : s.data.toList ∈ kwords
      · rw [if_pos ⟨hk, h⟩, if_pos h]
      · rw [if_neg (fun hh => h hh.2), if_neg h, hk]
    rw [hr]
    have HT := hidden ht
    have HR := hidden hr2
    clear ht hk hr hr2
    go_enter Try.func23, Try.ntmps23
    go_wp2_with fail
    (with_reducible refine hn.mono ?_)
    rintro e w1 ⟨b, rfl, hI, hB1, _⟩
    have hn0 : Calls Try.prog 34 #[scanV s b, .int .i64 0] w1 fun e w' => e = .returned (tokV (nextT s.data.toList 0)) ∧ Below w1.heap.size w1 w' := next_any hI 0 (Nat.zero_le _)
    rw [HT.out] at hn0
    have HB1 := hidden hB1
    clear hI hB1 hn
    go_wp2_with fail
    (with_reducible refine hn0.mono ?_)
    rintro e w2 ⟨rfl, hB2⟩
    have HB : Hid (Below w.heap.size w (w2.alloc (.cells #[.int .i64 t.kind, .int .i64 t.from_, .int .i64 t.at_, .int .i64 t.end_] 36))) := (bt HB1.out hB2).alloc (by have := HB1.out.size; have := hB2.size; omega) _
    clear hB2 hn0 HB1
    dsimp only [tokV]
    have e1 : ((t.at_ : Int) != 0) = false := by rw [k1]; rfl
    have e2 : ((t.end_ : Int) != (s.size : Int)) = false := by rw [k2]; simp
    have e3 : ((t.kind : Int) == 1) = true := by rw [k3]; rfl
    have HK := hidden k3
    have cK : (w2.alloc (.cells #[.int .i64 t.kind, .int .i64 t.from_, .int .i64 t.at_, .int .i64 t.end_] 36)).cell? ⟨w2.heap.size, 0, none⟩ = some (.int .i64 t.kind) := by simp
    have hz : w2.heap.size < (w2.alloc (.cells #[.int .i64 t.kind, .int .i64 t.from_, .int .i64 t.at_, .int .i64 t.end_] 36)).heap.size := by simp
    clear k1 k2 k3
    go_wp2_with fail
    (with_reducible refine (hkw _).mono ?_)
    rintro e w3 ⟨rfl, hown, hB3⟩
    rw [World.size_alloc] at hown
    obtain ⟨c, hrun, hat⟩ := lookup_bool hown (Maps.string_keyed Try.underlying9) (t := 67) Try.underlying67 Try.underlying4 (Try.zeroValue4 _) (WideMaps.keyOf_string_mk Try.underlying9 (s := s) (by unfold maxLen; omega))
    have cK3 : w3.cell? ⟨w2.heap.size, 0, none⟩ = some (.int .i64 t.kind) := (hB3.cell (p := ⟨w2.heap.size, 0, none⟩) hz).trans cK
    have HB3 := hidden (bt HB.out hB3)
    rw [kw_at] at hat
    have HC : Hid (decide (s.data.toList ∈ kwords) = c) := by injection hat with h; injection h
    clear hown hat hB3 hkw HB cK hz
    cases c with
    | true =>
      have HV : Hid (r = 2) := HR.out.trans (if_pos (of_decide_eq_true HC.out))
      go_wp2_with fail
      go_ret
      exact ⟨by rw [HV.out]; rfl, HB3.out⟩
    | false =>
      have HV : Hid (r = t.kind) := (HR.out.trans (if_neg (of_decide_eq_false HC.out))).trans HK.out.symm
      go_wp2_with fail
      go_ret
      exact ⟨by rw [HV.out]; rfl, HB3.out⟩
  · have h : kindW s = kindN s := by unfold kindW; exact if_neg (fun h => hk h.1)
    rw [h]
    exact kind_plain s hs hk w

end Go.Proofs.Ytihjcaingmhfoaa
