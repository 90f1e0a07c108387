import Derived.Test.YtbcolkkhigdmcaaDoorTs
namespace Go.Proofs.YtbcolkkhigdmcaaDoor
open Go.RowKit Go.Shelf Go.Lib

/-- The excerpt of any two numbers: none if the text has no such span. -/
def excX (l : List UInt8) (fs : List Nat) (a e : Int) : List (List UInt8) := if a < 0 ∨ e < a ∨ (l.length : Int) < e then [] else excL l fs a.toNat e.toNat

set_option maxHeartbeats 800000 in
theorem refExcerpt_none (s : ByteArray) (a e : Int) (hbad : a < 0 ∨ e < a ∨ (s.size : Int) < e) (w : World) :
    Calls Tryd.prog 22 #[.string s, .int .i64 a, .int .i64 e] w fun e' w' => ∃ v, e' = .returned v ∧ ListRow w' v [] ∧ Below w.heap.size w w' := by
  have hnil : ListRow w (.slice none 0 0) [] := ⟨none, 0, rfl, fun i hi => by simp at hi⟩
  by_cases h1 : a < 0
  · clear hbad
    go_enter Tryd.func22, Tryd.ntmps22
    go_wp2
    go_ret
    exact ⟨_, rfl, hnil, Below.refl _ _⟩
  · by_cases h2 : e < a
    · clear hbad
      go_enter Tryd.func22, Tryd.ntmps22
      go_wp2
      go_ret
      exact ⟨_, rfl, hnil, Below.refl _ _⟩
    · have h3 : (s.size : Int) < e := by omega
      clear hbad
      go_enter Tryd.func22, Tryd.ntmps22
      go_wp2
      go_ret
      exact ⟨_, rfl, hnil, Below.refl _ _⟩

theorem excerpt_both {w : World} {b : Nat} {s : ByteArray} (h : Idx w b s (feedsOf s.data.toList)) (ht : Tab w) (a e : Int) :
    (Calls Tryd.prog 21 #[.pointer (some ⟨b, 0, none⟩), .int .i64 a, .int .i64 e] w fun e' w' => ∃ v, e' = .returned v ∧ ListRow w' v (excX s.data.toList (feedsOf s.data.toList) a e) ∧ Below w.heap.size w w') ∧
    (∀ w0, Calls Tryd.prog 22 #[.string s, .int .i64 a, .int .i64 e] w0 fun e' w' => ∃ v, e' = .returned v ∧ ListRow w' v (excX s.data.toList (feedsOf s.data.toList) a e) ∧ Below w0.heap.size w0 w') := by
  have hsm := h.small
  have hbl := bytes_len s
  unfold excX
  by_cases hb : a < 0 ∨ e < a ∨ (s.data.toList.length : Int) < e
  · rw [if_pos hb]
    rw [hbl] at hb
    exact ⟨excerpt_none h a e hb, fun w0 => refExcerpt_none s a e hb w0⟩
  · rw [if_neg hb]
    rw [hbl] at hb
    obtain ⟨x, rfl⟩ : ∃ x : Nat, a = x := ⟨a.toNat, by omega⟩
    obtain ⟨y, rfl⟩ : ∃ y : Nat, e = y := ⟨e.toNat, by omega⟩
    rw [Int.toNat_natCast, Int.toNat_natCast]
    exact ⟨excerpt_any h ht x y (by omega) (by omega), fun w0 => refExcerpt_any s x y (by omega) (by omega) hsm w0⟩

theorem excX_len (s : ByteArray) (hsm : s.size ≤ 1000) (a e : Int) : (excX s.data.toList (feedsOf s.data.toList) a e).length ≤ 100000 := by
  unfold excX
  split
  · simp
  · unfold excL
    rw [excTo_len]
    have h1 := lineN_le (feedsOf s.data.toList) (max (a.toNat : Int) ((e.toNat : Int) - 1))
    have h2 := feedsOf_le s.data.toList
    rw [bytes_len] at h2
    omega

set_option maxHeartbeats 1600000 in
theorem excerpts_walk (s : ByteArray) (a e : Int) (hs : s.size ≤ 9223372036854775807) {w : World} (ht : Tab w) :
    Calls Tryd.prog 5 #[.string s, .int .i64 a, .int .i64 e] w fun e' w' => e' = .returned (.bool true) ∧ Below w.heap.size w w' := by
  have haw := awake_any ht
  by_cases hl : (200 : Int) < (s.size : Int)
  · go_enter Tryd.func5, Tryd.ntmps5
    go_wp2_with (go_at_call 10; (with_reducible refine haw.mono ?_); rintro e w1 ⟨rfl, hB1⟩)
    go_ret
    exact ⟨rfl, hB1⟩
  · have hsm : s.size ≤ 1000 := by omega
    have hnew := fun w' => new_any s w' hsm
    have hxl := excX_len s hsm a e
    clear hs
    go_enter Tryd.func5, Tryd.ntmps5
    go_wp2_with (first
      | (go_at_call 10; (with_reducible refine haw.mono ?_); rintro e' w1 ⟨rfl, hB1⟩)
      | (go_at_call 11; (with_reducible refine (hnew _).mono ?_); rintro e' w2 ⟨b, rfl, hI, hB2⟩))
    obtain ⟨hx1, hx2⟩ := excerpt_both hI (ht.below (bt hB1 hB2)) a e
    generalize excX s.data.toList (feedsOf s.data.toList) a e = X at *
    go_wp2_with (first
      | (go_at_call 21; (with_reducible refine hx1.mono ?_); rintro e' w3 ⟨v, rfl, hv, hB3⟩)
      | (go_at_call 22; (with_reducible refine (hx2 _).mono ?_); rintro e' w4 ⟨u, rfl, hu, hB4⟩; have hst := strings_any (StrRow.below hv hB4) hu (by simpa using hxl) (by simpa using hxl); rw [decide_eq_true (rfl : X.map (fun x => (⟨x.toArray⟩ : ByteArray)) = X.map fun x => (⟨x.toArray⟩ : ByteArray))] at hst)
      | (go_at_call 20; (with_reducible refine hst.mono ?_); rintro e' w5 ⟨rfl, q, rfl⟩))
    go_ret
    exact ⟨rfl, bt (bt (bt (bt hB1 hB2) hB3) hB4) (bq _ q)⟩

end Go.Proofs.YtbcolkkhigdmcaaDoor
