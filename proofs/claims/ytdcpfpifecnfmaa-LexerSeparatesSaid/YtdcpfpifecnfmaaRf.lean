import Derived.Test.YtdcpfpifecnfmaaRe
import Derived.IntWalk
/-
  The reference's Strings, Same, Separate, Compact.
-/
namespace Go.Proofs.Ytdcpfpifecnfmaa
open Go.RowKit Go.Shelf Go.Lib

/-- A slice value that reads as a list of strings. -/
def StrRow (w : World) (v : Value) (xs : List ByteArray) : Prop :=
  ∃ p cap, v = .slice p xs.length cap ∧ ∀ i, i < xs.length → ∃ b o, p = some ⟨b, o, none⟩ ∧ w.cell? ⟨b, o + i, none⟩ = some (.string (xs.getD i ByteArray.empty))

set_option maxHeartbeats 800000 in
theorem refStrings_row {w : World} {v u : Value} {xs ys : List ByteArray} (hx : StrRow w v xs) (hy : StrRow w u ys) (hlx : xs.length ≤ 100000) (hly : ys.length ≤ 100000) :
    Calls Try.prog 15 #[v, u] w fun e w' => e = .returned (.bool (decide (xs = ys))) ∧ ∃ q, w' = w.drewN q := by
  obtain ⟨p1, c1, rfl, hx⟩ := hx
  obtain ⟨p2, c2, rfl, hy⟩ := hy
  by_cases hl : xs.length = ys.length
  · by_cases h0 : xs.length = 0
    · have e1 : xs = [] := List.eq_nil_of_length_eq_zero h0
      have e2 : ys = [] := List.eq_nil_of_length_eq_zero (by omega)
      subst e1; subst e2
      clear hl h0 hx hy
      go_enter Try.func15, Try.ntmps15
      go_wp2
      go_loop [5] (fun i => i = .int .i64 0) (fun _ => 0)
      case atStart => rfl
      case round =>
        subst hrel
        go_wp2
        go_ret
        exact ⟨rfl, 0, rfl⟩
    · obtain ⟨b1, o1, rfl, _⟩ := hx 0 (by omega)
      obtain ⟨b2, o2, rfl, _⟩ := hy 0 (by omega)
      have hx' : ∀ i, i < xs.length → ∀ q, (w.drewN q).cell? ⟨b1, o1 + i, none⟩ = some (.string (xs.getD i ByteArray.empty)) := fun i hi q => by
        obtain ⟨b, o, e, h⟩ := hx i hi
        cases e; exact h
      have hy' : ∀ i, i < xs.length → ∀ q, (w.drewN q).cell? ⟨b2, o2 + i, none⟩ = some (.string (ys.getD i ByteArray.empty)) := fun i hi q => by
        obtain ⟨b, o, e, h⟩ := hy i (by omega)
        cases e; exact h
      have hfin : (∀ j, j < xs.length → xs.getD j ByteArray.empty = ys.getD j ByteArray.empty) → decide (xs = ys) = true := fun h => decide_eq_true (by
        apply List.ext_getElem hl
        intro i h1 h2
        have := h i h1
        rwa [List.getD_eq_getElem?_getD, List.getD_eq_getElem?_getD, List.getElem?_eq_getElem h1, List.getElem?_eq_getElem h2] at this)
      have hbad : ∀ j, xs.getD j ByteArray.empty ≠ ys.getD j ByteArray.empty → decide (xs = ys) = false := fun j h => decide_eq_false fun e => h (by rw [e])
      rw [← hl]
      generalize decide (xs = ys) = r at *
      generalize hn : xs.length = n at *
      have HX := Hid.out (p := ∀ i, i < n → ∀ q, (w.drewN q).cell? ⟨b1, o1 + i, none⟩ = some (.string (xs.getD i ByteArray.empty))) hx'
      have HF : Hid (((∀ j, j < n → xs.getD j ByteArray.empty = ys.getD j ByteArray.empty) → r = true) ∧ ∀ j, xs.getD j ByteArray.empty ≠ ys.getD j ByteArray.empty → r = false) := ⟨hfin, hbad⟩
      have HC : Hid ((∀ i, i < n → ∀ q, (w.drewN q).cell? ⟨b1, o1 + i, none⟩ = some (.string (xs.getD i ByteArray.empty))) ∧ ∀ i, i < n → ∀ q, (w.drewN q).cell? ⟨b2, o2 + i, none⟩ = some (.string (ys.getD i ByteArray.empty))) := ⟨hx', hy'⟩
      clear hx hy hx' hy' HX hfin hbad hl hn h0
      go_enter Try.func15, Try.ntmps15
      go_wp2
      go_loopw [5] (fun i wr => ∃ k q : Nat, k ≤ n ∧ i = .int .i64 k ∧ wr = w.drewN q ∧ Hid (∀ j, j < k → xs.getD j ByteArray.empty = ys.getD j ByteArray.empty)) (fun i _ => n - (intOf i).toNat)
      case atStart => exact ⟨0, 0, Nat.zero_le _, rfl, rfl, fun j hj => by omega⟩
      case round =>
        obtain ⟨k, q, hk, rfl, rfl, hall⟩ := hrel
        by_cases hlt : k < n
        · have g1 := HC.out.1 k hlt
          have g2 := HC.out.2 k hlt
          have hlz : (k : Int) < (n : Int) := by omega
          have hs : xs.getD k ByteArray.empty = ys.getD k ByteArray.empty → Hid (∀ j, j < k + 1 → xs.getD j ByteArray.empty = ys.getD j ByteArray.empty) := fun e j hj => by
            rcases Nat.lt_or_eq_of_le (Nat.le_of_lt_succ hj) with h | rfl
            · exact hall.out j h
            · exact e
          have hb := HF.out.2 k
          generalize xs.getD k ByteArray.empty = x at *
          generalize ys.getD k ByteArray.empty = y at *
          clear hall
          by_cases e : x = y
          · have HS := hs e
            subst e
            clear hs hb
            go_wp2
            go_quiet (fail)
            go_wp2
            go_roundw
            case rel => exact ⟨k + 1, _, by omega, by go_num, rfl, HS⟩
            case measure => simp [intOf]; omega
          · have HB : Hid (r = false) := hb e
            have e1 : (x.toList == y.toList) = false := str_ne e
            clear hs hb e
            go_wp2
            go_quiet (fail)
            go_wp2
            go_ret
            exact ⟨by rw [HB.out]; rfl, _, World.drewN_drewN _ _ _⟩
        · obtain rfl : k = n := by omega
          have HB : Hid (r = true) := HF.out.1 hall.out
          clear hlt hall
          go_wp2
          go_ret
          exact ⟨by rw [HB.out]; rfl, _, rfl⟩
  · have e : decide (xs = ys) = false := decide_eq_false fun h => hl (by rw [h])
    rw [e]
    have hne : ((xs.length : Int) != (ys.length : Int)) = true := by rw [bne_iff_ne]; omega
    have hne' : ((xs.length : Int) == (ys.length : Int)) = false := by rw [beq_eq_false_iff_ne]; omega
    generalize xs.length = n at *
    generalize ys.length = m at *
    clear e hl hx hy
    go_enter Try.func15, Try.ntmps15
    go_wp2
    go_ret
    exact ⟨rfl, 0, rfl⟩


theorem Strs.row {w : World} {v : Value} {xs : List ByteArray} (h : Strs w v xs) : StrRow w v xs := by
  rcases h with ⟨rfl, rfl⟩ | ⟨g, cap, rfl, h2, h3⟩
  · exact ⟨none, 0, rfl, fun i hi => absurd hi (by simp)⟩
  · exact ⟨_, _, rfl, fun i hi => ⟨g, 0, rfl, h3 i hi⟩⟩

theorem refStrings_any {w : World} {v u : Value} {xs ys : List ByteArray} (hx : Strs w v xs) (hy : Strs w u ys) (hlx : xs.length ≤ 100000) (hly : ys.length ≤ 100000) :
    Calls Try.prog 15 #[v, u] w fun e w' => e = .returned (.bool (decide (xs = ys))) ∧ ∃ q, w' = w.drewN q := refStrings_row hx.row hy.row hlx hly

set_option maxHeartbeats 800000 in
theorem refSeparate_any (a b : ByteArray) (hs : (a ++ b).size ≤ 4096) (w : World) :
    Calls Try.prog 7 #[.string a, .string b] w fun e w' => e = .returned (.bool (sepB a b)) ∧ Below w.heap.size w w' := by
  have h2 := fun w' => refWords_any (a ++ b) hs w'
  have hlen := wordsB_len (a ++ b) hs
  have hab : a.size + b.size ≤ 4096 := by rw [ByteArray.size_append] at hs; exact hs
  unfold RowOf at h2
  unfold sepB
  go_enter Try.func7, Try.ntmps7
  go_wp2_with fail
  (with_reducible refine (h2 _).mono ?_)
  rintro e w1 ⟨v, rfl, k1, k2⟩
  have hst := (Strs.of_row k1).below ((Below.refl w1.heap.size w1).alloc (Nat.le_refl _) (.cells #[.string a, .string b] 9))
  have h3 := refStrings_any hst (Strs.lit2 w1 a b) (by omega) (by simp)
  have hz := k2.size
  have HB := hidden (k2.alloc hz (.cells #[.string a, .string b] 9))
  clear h2 hst k1 k2 hz hlen
  go_wp2_with fail
  (with_reducible refine h3.mono ?_)
  rintro e w2 ⟨rfl, q, rfl⟩
  go_wp2_with fail
  go_ret
  exact ⟨rfl, below_drewN HB.out q⟩

/-- What the reference's Compact has written. -/
theorem cB_step (ws : List ByteArray) (k : Nat) (x : ByteArray) (hx : ws.getD k ByteArray.empty = x) (b : ByteArray) (hb : b = ⟨(cB ws k).toArray⟩) :
    (¬ (0 < k ∧ sepB (lastW ws k) x = true) → b ++ x = ⟨(cB ws (k + 1)).toArray⟩) ∧ ((0 < k ∧ sepB (lastW ws k) x = true) → b ++ (⟨#[32]⟩ : ByteArray) ++ x = ⟨(cB ws (k + 1)).toArray⟩) := by
  constructor
  · intro h
    apply ByteArray.ext; apply Array.ext'
    rw [cB, hx, if_neg h, hb]
    simp
  · intro h
    apply ByteArray.ext; apply Array.ext'
    rw [cB, hx, if_pos h, hb]
    simp

theorem ba_size (l : List UInt8) : (⟨l.toArray⟩ : ByteArray).size = l.length := by show l.toArray.size = _; simp

theorem wordsKeep {w3 w' w'' : World} {g i j : Nat} {x y : ByteArray} (h : w'.cell? ⟨g, i, none⟩ = some (.string x) ∧ w'.cell? ⟨g, j, none⟩ = some (.string y) ∧ g < w'.heap.size ∧ Hid (Below w3.heap.size w3 w')) (hb : Below w'.heap.size w' w'') :
    w''.cell? ⟨g, i, none⟩ = some (.string x) ∧ w''.cell? ⟨g, j, none⟩ = some (.string y) ∧ g < w''.heap.size ∧ Hid (Below w3.heap.size w3 w'') :=
  ⟨(hb.cell (p := ⟨g, i, none⟩) h.2.2.1).trans h.1, (hb.cell (p := ⟨g, j, none⟩) h.2.2.1).trans h.2.1, Nat.lt_of_lt_of_le h.2.2.1 hb.size, bt h.2.2.2.out hb⟩

set_option maxRecDepth 100000 in
set_option maxHeartbeats 3200000 in
theorem refCompact_any (s : ByteArray) (hs : s.size ≤ 500) (w : World) :
    Calls Try.prog 9 #[.string s] w fun e w' => e = .returned (.string (compactB s)) ∧ Below w.heap.size w w' := by
  have hws := fun w' => refWords_any s (by omega) w'
  have hlen := wordsB_len s (by omega)
  have hsz := wordsB_size s
  have hcl := fun k => cB_len hsz k
  have hcb : compactB s = ⟨(cB (wordsB s) (wordsB s).length).toArray⟩ := rfl
  rw [hcb]
  generalize wordsB s = ws at *
  have hgs := getD_size hsz
  have HSZ : Hid (∀ k, (ws.getD k ByteArray.empty).size ≤ 500) := fun k => Nat.le_trans (hgs k) hs
  have HCL : Hid (∀ k, k ≤ 10000 → (cB ws k).length ≤ 6000000) := fun k hk => Nat.le_trans (hcl k) (Nat.le_trans (Nat.mul_le_mul hk (by omega : s.size + 1 ≤ 501)) (by omega))
  unfold RowOf at hws
  clear hcb hcl hsz hgs
  go_enter Try.func9, Try.ntmps9
  go_wp2_with fail
  (with_reducible refine (hws _).mono ?_)
  rintro e w3 ⟨v, rfl, hr, hB3⟩
  obtain ⟨p, cap, rfl, hp⟩ : ∃ p cap, v = .slice p ws.length cap ∧ (0 < ws.length → ∃ g, p = some ⟨g, 0, none⟩ ∧ g < w3.heap.size ∧ Hid (∀ k, k < ws.length → w3.cell? ⟨g, k, none⟩ = some (.string (ws.getD k ByteArray.empty)))) := by
    rcases Strs.of_row hr with ⟨rfl, rfl⟩ | ⟨g, cap, rfl, h2, h3⟩
    · exact ⟨none, 0, rfl, fun h => absurd h (by simp)⟩
    · exact ⟨_, cap, rfl, fun _ => ⟨g, rfl, h2, fun k hk => by have := h3 k hk; rwa [Nat.zero_add] at this⟩⟩
  generalize hn : ws.length = n at *
  have HLN := hidden hn
  clear hn
  have HP := hidden hp
  have HB3 := hidden hB3
  clear hr hws hp hB3
  go_wp2_with fail
  go_loopw [4, 5] (fun sv i wr => ∃ (k : Nat) (b : ByteArray), k ≤ n ∧ b.size ≤ 6000000 ∧ i = .int .i64 k ∧ sv = .string b ∧ Hid (b = ⟨(cB ws k).toArray⟩ ∧ Below w3.heap.size w3 wr)) (fun _ i _ => n - (intOf i).toNat)
  case atStart => exact ⟨0, ⟨#[]⟩, Nat.zero_le _, Nat.zero_le _, rfl, rfl, rfl, Below.refl _ _⟩
  case round =>
    obtain ⟨k, b, hk, hbs, rfl, rfl, hh⟩ := hrel
    by_cases hlt : k < n
    · obtain ⟨g, rfl, hg, hc⟩ := HP.out (by omega)
      have hB := hh.out.2
      have hck := (hB.cell (p := ⟨g, k, none⟩) hg).trans (hc.out k hlt)
      have hst := cB_step ws k (ws.getD k ByteArray.empty) rfl b hh.out.1
      have hl1 := HCL.out (k + 1) (by omega)
      have hxs := HSZ.out k
      have hkn : (k : Int) < (n : Int) := by omega
      by_cases h0 : 0 < k
      · have hcp := (hB.cell (p := ⟨g, k - 1, none⟩) hg).trans (hc.out (k - 1) (by omega))
        have hlw : lastW ws k = ws.getD (k - 1) ByteArray.empty := by
          obtain ⟨j, rfl⟩ : ∃ j, k = j + 1 := ⟨k - 1, by omega⟩
          rfl
        have hys := HSZ.out (k - 1)
        rw [hlw] at hst
        have hse := fun w' => refSeparate_any (ws.getD (k - 1) ByteArray.empty) (ws.getD k ByteArray.empty) (by rw [ByteArray.size_append]; omega) w'
        generalize ws.getD k ByteArray.empty = x at *
        generalize ws.getD (k - 1) ByteArray.empty = y at *
        have d0 : decide ((0 : Int) < (k : Int)) = true := decide_eq_true (by omega)
        have d1 : decide (0 < k) = true := decide_eq_true h0
        have hwr : IntKind.i64.wrap ((k : Int) - 1) = ((k - 1 : Nat) : Int) := by rw [IntWalk.i64_in _ (by omega)]; omega
        have hk1 : ((k - 1 : Nat) : Int) < (n : Int) := by omega
        have hgr : g < wr.heap.size := Nat.lt_of_lt_of_le hg hB.size
        have hS : wr.cell? ⟨g, k - 1, none⟩ = some (.string y) ∧ wr.cell? ⟨g, k, none⟩ = some (.string x) ∧ g < wr.heap.size ∧ Hid (Below w3.heap.size w3 wr) := ⟨hcp, hck, hgr, hB⟩
        obtain ⟨c, hc⟩ : ∃ c, sepB y x = c := ⟨_, rfl⟩
        rw [hc] at hse hst
        clear hc hB hlw
        cases c with
        | true =>
          have HN := hidden (hst.2 ⟨h0, rfl⟩)
          clear hst h0
          go_wp2_with fail
          go_region_held3 (fun w' => w'.cell? ⟨g, k - 1, none⟩ = some (.string y) ∧ w'.cell? ⟨g, k, none⟩ = some (.string x) ∧ g < w'.heap.size ∧ Hid (Below w3.heap.size w3 w'))
            (first | assumption | (exact wordsKeep (by assumption) (by assumption)) | (exact wordsKeep hS ⟨rfl, rfl, rfl, Nat.le_refl _, fun _ _ => rfl⟩))
            (first | (go_at_call 7; (with_reducible refine (hse _).mono ?_); rintro e w5 ⟨rfl, hB5⟩))
          obtain ⟨z1, z2, z3, z4⟩ : w5.cell? ⟨g, k - 1, none⟩ = some (.string y) ∧ w5.cell? ⟨g, k, none⟩ = some (.string x) ∧ g < w5.heap.size ∧ Hid (Below w3.heap.size w3 w5) := by assumption
          clear hS hse hck hcp hB5 hwr hk1 d0 d1
          go_wp2_with fail
          go_roundw
          case rel => exact ⟨k + 1, b ++ (⟨#[32]⟩ : ByteArray) ++ x, by omega, by rw [HN.out, ba_size]; exact hl1, by go_num, rfl, HN.out, z4.out⟩
          case measure => simp [intOf]; omega
        | false =>
          have HN := hidden (hst.1 (fun h => by simpa using h.2))
          clear hst h0
          go_wp2_with fail
          go_region_held3 (fun w' => w'.cell? ⟨g, k - 1, none⟩ = some (.string y) ∧ w'.cell? ⟨g, k, none⟩ = some (.string x) ∧ g < w'.heap.size ∧ Hid (Below w3.heap.size w3 w'))
            (first | assumption | (exact wordsKeep (by assumption) (by assumption)) | (exact wordsKeep hS ⟨rfl, rfl, rfl, Nat.le_refl _, fun _ _ => rfl⟩))
            (first | (go_at_call 7; (with_reducible refine (hse _).mono ?_); rintro e w5 ⟨rfl, hB5⟩))
          obtain ⟨z1, z2, z3, z4⟩ : w5.cell? ⟨g, k - 1, none⟩ = some (.string y) ∧ w5.cell? ⟨g, k, none⟩ = some (.string x) ∧ g < w5.heap.size ∧ Hid (Below w3.heap.size w3 w5) := by assumption
          clear hS hse hck hcp hB5 hwr hk1 d0 d1
          go_wp2_with fail
          go_roundw
          case rel => exact ⟨k + 1, b ++ x, by omega, by rw [HN.out, ba_size]; exact hl1, by go_num, rfl, HN.out, z4.out⟩
          case measure => simp [intOf]; omega
      · obtain rfl : k = 0 := by omega
        have HN := hidden (hst.1 (fun h => h0 h.1))
        generalize ws.getD 0 ByteArray.empty = x at *
        have d0 : decide ((0 : Int) < ((0 : Nat) : Int)) = false := decide_eq_false (by omega)
        have HB := hidden hB
        clear hst h0 hB
        go_wp2_with fail
        go_quiet (fail)
        go_wp2_with fail
        go_roundw
        case rel => exact ⟨1, b ++ x, by omega, by rw [HN.out, ba_size]; exact hl1, by go_num, rfl, HN.out, below_drewN HB.out _⟩
        case measure => simp [intOf]; omega
    · obtain rfl : k = n := by omega
      clear hlt
      go_wp2_with fail
      go_ret
      exact ⟨by show Ending.returned (.string b) = _; rw [hh.out.1, HLN.out], HB3.out.trans (hh.out.2.mono HB3.out.size)⟩

end Go.Proofs.Ytdcpfpifecnfmaa
