import Derived.Test.YtbcolkkhigdmcaaDoorTj
namespace Go.Proofs.YtbcolkkhigdmcaaDoor
open Go.RowKit Go.Shelf Go.Lib

theorem info9 : (Tryd.prog.info? 9).map (fun i => (i.zero, i.size, i.bytes)) = some (some (.string ByteArray.empty), 1, 16) := by kernel_rfl

theorem nDigits_mono : ∀ (v u : Nat), u ≤ v → Lib.nDigits u ≤ Lib.nDigits v := by
  intro v
  induction v using Nat.strongRecOn with
  | ind v ih =>
    intro u h
    by_cases hv : v < 10
    · rw [Lib.nDigits_small hv, Lib.nDigits_small (by omega)]; exact Nat.le_refl _
    · rw [Lib.nDigits_big hv]
      by_cases hu : u < 10
      · rw [Lib.nDigits_small hu]; omega
      · rw [Lib.nDigits_big hu]; have := ih (v / 10) (by omega) (u / 10) (by omega); omega

theorem itoa_nat (n : Nat) : Lib.itoa n = Lib.decDigits n := by unfold Lib.itoa; rw [if_neg (by omega)]; rfl
theorem itoa_len (n : Nat) : (Lib.itoa n).length = Lib.nDigits n := by rw [itoa_nat, Lib.decDigits_length]
theorem nDigits_le : ∀ (n : Nat), Lib.nDigits n ≤ n + 1 := by
  intro n
  induction n using Nat.strongRecOn with
  | ind n ih =>
    by_cases h : n < 10
    · rw [Lib.nDigits_small h]; omega
    · rw [Lib.nDigits_big h]; have := ih (n / 10) (by omega); omega

theorem owns_below {w w' : World} {base e size : Nat} {v : Value} {n : Nat} {xs : List Value} (h : w.ownsRow base e size v n xs) (hb : Below w.heap.size w w') : w'.ownsRow base e size v n xs :=
  h.kept (row := none) ⟨hb.os, hb.tape, hb.output, hb.size, fun k hk _ => hb.block k hk⟩ (by cases v.ownBlock <;> simp)

theorem cell_two_new (w : World) (x y : Value) (t : TypeId) : ∀ j u, [x, y][j]? = some u → (w.alloc (.cells #[x, y] t)).cell? ((⟨w.heap.size, 0, none⟩ : Addr).add j) = some u := by
  intro j u hj
  match j, hj with
  | 0, hj => simp at hj; subst hj; simp [Addr.add]
  | 1, hj => simp at hj; subst hj; simp [Addr.add]

/-- The two strings of a line. -/
def excRow (l : List UInt8) (fs : List Nat) (a e digits line : Nat) : List (List UInt8) :=
  [marginL line digits ++ contentL l fs (line : Int),
    List.replicate (marginL line digits).length 32 ++ marksL ((a : Int) - (startN fs l.length line : Nat)) ((e : Int) - (startN fs l.length line : Nat)) (contentL l fs (line : Int)).length]

def excTo (l : List UInt8) (fs : List Nat) (a e digits first k : Nat) : List (List UInt8) := (List.range k).flatMap fun i => excRow l fs a e digits (first + i)

theorem excTo_succ (l : List UInt8) (fs : List Nat) (a e digits first k : Nat) : excTo l fs a e digits first (k + 1) = excTo l fs a e digits first k ++ excRow l fs a e digits (first + k) := by
  unfold excTo; rw [List.range_succ, List.flatMap_append]; simp

theorem excTo_len (l : List UInt8) (fs : List Nat) (a e digits first k : Nat) : (excTo l fs a e digits first k).length = 2 * k := by
  induction k with
  | zero => rfl
  | succ k ih => rw [excTo_succ, List.length_append, ih]; show _ + 2 = _; omega

/-- The excerpt of a span. -/
def excL (l : List UInt8) (fs : List Nat) (a e : Nat) : List (List UInt8) :=
  excTo l fs a e (Lib.itoa (lineN fs (max (a : Int) ((e : Int) - 1)) : Nat)).length (lineN fs a) (lineN fs (max (a : Int) ((e : Int) - 1)) + 1 - lineN fs a)

def strV (x : List UInt8) : Value := .string ⟨x.toArray⟩

theorem content_len (l : List UInt8) (fs : List Nat) (line : Int) : (contentL l fs line).length ≤ l.length := by
  unfold contentL
  split
  · split
    · unfold Lib.trimSuffix; split <;> simp <;> omega
    · simp; omega
  · simp

theorem margin_len (line digits : Nat) (h : (Lib.itoa line).length ≤ digits) : (marginL line digits).length = digits + 3 := by
  unfold marginL; simp; omega

theorem lineN_mono (fs : List Nat) {a b : Int} (h : a ≤ b) : lineN fs a ≤ lineN fs b := by
  unfold lineN
  apply Nat.add_le_add_left
  apply List.countP_mono_left
  intro x _ hx
  simp at hx ⊢; omega

/-- A slice of strings, its strings given as lists of bytes. -/
def ListRow (w : World) (v : Value) (xs : List (List UInt8)) : Prop := StrRow w v (xs.map fun x => ⟨x.toArray⟩)

theorem listRow_of_owns {w : World} {base e B m cap : Nat} {xs : List (List UInt8)} (h : w.ownsRow base e 1 (.slice (some ⟨B, 0, none⟩) m cap) m (xs.map strV)) : ListRow w (.slice (some ⟨B, 0, none⟩) m cap) xs := by
  have hl : xs.length = m := by have := h.1; simpa using this
  refine ⟨some ⟨B, 0, none⟩, cap, by simp [hl], fun i hi => ⟨B, 0, rfl, ?_⟩⟩
  rw [List.length_map] at hi
  rw [Nat.zero_add, h.cellAt i (by omega), List.getElem?_map, List.getElem?_eq_getElem hi, List.getD_eq_getElem?_getD, List.getElem?_map, List.getElem?_eq_getElem hi]
  rfl

theorem bt {w a b : World} (h : Below w.heap.size w a) (h2 : Below a.heap.size a b) : Below w.heap.size w b := h.trans (h2.mono h.size)
theorem bq (w : World) (q : Nat) : Below w.heap.size w (w.drewN q) := below_drewN (Below.refl _ _) q

set_option maxHeartbeats 1600000 in
theorem excerpt_any {w : World} {b : Nat} {s : ByteArray} {fs : List Nat} (h : Idx w b s fs) (ht : Tab w) (a e : Nat) (hae : a ≤ e) (hes : e ≤ s.size) :
    Calls Tryd.prog 21 #[.pointer (some ⟨b, 0, none⟩), .int .i64 a, .int .i64 e] w fun e' w' => ∃ v, e' = .returned v ∧ ListRow w' v (excL s.data.toList fs a e) ∧ Below w.heap.size w w' := by
  obtain ⟨i0, hi, hz0, hz1, hz2⟩ := info_parts info9
  have hsm := h.small
  have htx := h.text
  have hl1 := line_any h (a : Int)
  have hl2 : ∀ w', Below w.heap.size w w' → Calls Tryd.prog 27 #[.pointer (some ⟨b, 0, none⟩), .int .i64 (max (a : Int) ((e : Int) - 1))] w' fun e' w'' => e' = .returned (.int .i64 (lineN fs (max (a : Int) ((e : Int) - 1)) : Nat)) ∧ Below w'.heap.size w' w'' := fun w' hb => line_any (h.below hb) _
  have hb1 := lineN_le fs (max (a : Int) ((e : Int) - 1))
  have hfl := lineN_mono fs (show (a : Int) ≤ max (a : Int) ((e : Int) - 1) by omega)
  have hlen := h.len
  have hf1 := lineN_ge fs a
  have hit : ∀ w', Below w.heap.size w w' → Calls Tryd.prog 33 #[.int .i64 (lineN fs (max (a : Int) ((e : Int) - 1)) : Nat)] w' fun e' w'' => e' = .returned (.string ⟨(Lib.itoa (lineN fs (max (a : Int) ((e : Int) - 1)) : Nat)).toArray⟩) ∧ Below w'.heap.size w' w'' := fun w' hb => itoa_any _ (by omega) (ht.below hb)
  have hdl := itoa_len (lineN fs (max (a : Int) ((e : Int) - 1)))
  have hdm := nDigits_mono (lineN fs (max (a : Int) ((e : Int) - 1)))
  have hdx := nDigits_le (lineN fs (max (a : Int) ((e : Int) - 1)))
  unfold excL
  generalize Lib.itoa (lineN fs (max (a : Int) ((e : Int) - 1)) : Nat) = itl at *
  generalize lineN fs (max (a : Int) ((e : Int) - 1)) = last at *
  generalize lineN fs a = first at *
  have hdig : itl.length ≤ 1002 := by omega
  have HD : Hid (itl.length = Lib.nDigits last ∧ ∀ u, u ≤ last → Lib.nDigits u ≤ Lib.nDigits last) := ⟨hdl, hdm⟩
  clear hdl hdm hdx
  have HI : Hid (Idx w b s fs ∧ Tab w) := ⟨h, ht⟩
  clear h ht
  go_enter Tryd.func21, Tryd.ntmps21
  go_wp2_with (first
    | (go_at_call_of 27 ((.int .i64 (a : Int) : Value)); refine hl1.mono ?_; rintro e' w1 ⟨rfl, hB1⟩)
    | (go_at_call 27; refine (hl2 _ hB1).mono ?_; rintro e' w2 ⟨rfl, hB2⟩; have hB3 := hB1.trans (hB2.mono hB1.size))
    | (go_at_call 33; refine (hit _ hB3).mono ?_; rintro e' w3 ⟨rfl, hB4⟩; have hB5 := hB3.trans (hB4.mono hB3.size))
    | (at_make; refine wpList_make_own _ rfl _ _ 38 rfl w.heap.size 9 i0 (.string ByteArray.empty) 1 Tryd.underlying38 hi hz0 hz1 _ _ _ (2 * (last - first + 1)) rfl rfl ?b1 ?b2 ?b3 ?b4 ?_))
  case b1 => omega
  case b2 => rw [hz2]; omega
  case b3 => unfold maxLen; omega
  case b4 => exact hB5.size
  intro w4 hown4 hgrow4
  have hsz4 := owns_lt hown4
  have hB6 : Below w.heap.size w w4 := hB5.grown hgrow4 hB5.size (fun k h => by cases h)
  go_wp2
  obtain ⟨B, hBeq⟩ : ∃ B, B = w3.heap.size := ⟨_, rfl⟩
  rw [← hBeq] at hown4 hsz4 ⊢
  have hBw : w.heap.size ≤ B := by rw [hBeq]; exact hB5.size
  clear hBeq
  go_loopw [10, 11] (fun out j wr => ∃ k m : Nat, first ≤ k ∧ k ≤ last + 1 ∧ j = .int .i64 k ∧ out = .slice (some ⟨B, 0, none⟩) m (2 * (last - first + 1)) ∧ Hid (m = 2 * (k - first)) ∧ m ≤ 2 * (last - first + 1) ∧
      wr.ownsRow w.heap.size 9 1 (.slice (some ⟨B, 0, none⟩) m (2 * (last - first + 1))) m ((excTo s.data.toList fs a e itl.length first (k - first)).map strV) ∧ Below w.heap.size w wr ∧ B < wr.heap.size)
    (fun _ j _ => last + 1 - (intOf j).toNat)
  case atStart => exact ⟨first, 0, Nat.le_refl _, by omega, rfl, rfl, by show 0 = _; omega, Nat.zero_le _, by rw [Nat.sub_self]; exact hown4, hB6, hsz4⟩
  case round =>
    obtain ⟨k, m, hk1, hk2, rfl, rfl, hm, hmc, hown, hnx, hsz⟩ := hrel
    clear hl1 hl2 hit hown4 hgrow4 hsz4 hB1 hB2 hB3 hB4 hB5 hB6
    by_cases hlt : k < last + 1
    · have hle : (k : Int) ≤ (last : Int) := by omega
      have hm2 : m + 2 ≤ 2 * (last - first + 1) := by have := hm.out; omega
      have hIr := HI.out.1.below hnx
      have hTr := HI.out.2.below hnx
      have hcs := start_any hIr (k : Int) (by omega) (by omega)
      rw [Int.toNat_natCast] at hcs
      have hcc := content_any hIr (k : Int)
      have hcl := content_len s.data.toList fs (k : Int)
      rw [bytes_len] at hcl
      have hdk : (Lib.itoa k).length ≤ itl.length := by rw [itoa_len, HD.out.1]; exact HD.out.2 k (by omega)
      have hcm : ∀ w', Below wr.heap.size wr w' → Calls Tryd.prog 34 #[.int .i64 k, .int .i64 itl.length] w' fun e w'' => e = .returned (.string ⟨(marginL k itl.length).toArray⟩) ∧ Below w'.heap.size w' w'' := fun w' hb => margin_any k itl.length (by omega) hdk (by omega) (hTr.below hb)
      have hml := margin_len k itl.length hdk
      have hcr : ∀ w', Calls Tryd.prog 35 #[.string ⟨#[32]⟩, .int .i64 (marginL k itl.length).length] w' fun e w'' => e = .returned (.string ⟨(List.replicate (marginL k itl.length).length 32).toArray⟩) ∧ Below w'.heap.size w' w'' := fun w' => repeat_any 32 _ (by omega) w'
      have hst := hIr.startLe k
      have hck : ∀ w', Calls Tryd.prog 36 #[.int .i64 ((a : Int) - (startN fs s.size k : Nat)), .int .i64 ((e : Int) - (startN fs s.size k : Nat)), .int .i64 (contentL s.data.toList fs (k : Int)).length] w' fun e' w'' =>
          e' = .returned (.string ⟨(marksL ((a : Int) - (startN fs s.size k : Nat)) ((e : Int) - (startN fs s.size k : Nat)) (contentL s.data.toList fs (k : Int)).length).toArray⟩) ∧ Below w'.heap.size w' w'' := fun w' => marks_any _ _ _ (by omega) (by omega) (by omega) (by omega) (by omega)
      have HS : Hid (excTo s.data.toList fs a e itl.length first (k + 1 - first) = excTo s.data.toList fs a e itl.length first (k - first) ++
          [marginL k itl.length ++ contentL s.data.toList fs (k : Int), List.replicate (marginL k itl.length).length 32 ++ marksL ((a : Int) - (startN fs s.size k : Nat)) ((e : Int) - (startN fs s.size k : Nat)) (contentL s.data.toList fs (k : Int)).length]) := by
        show _ = _
        rw [show k + 1 - first = (k - first) + 1 by omega, excTo_succ, show first + (k - first) = k by omega]
        unfold excRow; rw [bytes_len]
      have hkl := marks_len ((a : Int) - (startN fs s.size k : Nat)) ((e : Int) - (startN fs s.size k : Nat)) (contentL s.data.toList fs (k : Int)).length (by omega) (by omega)
      have hml2 : (marginL k itl.length).length ≤ 1005 := by omega
      generalize hmk : marksL ((a : Int) - (startN fs s.size k : Nat)) ((e : Int) - (startN fs s.size k : Nat)) (contentL s.data.toList fs (k : Int)).length = mk at *
      generalize startN fs s.size k = st at *
      generalize contentL s.data.toList fs (k : Int) = ct at *
      generalize marginL k itl.length = mg at *
      clear hIr hTr hdk hmk hml
      go_wp2_with (first
        | (go_at_call 28; refine hcs.mono ?_; rintro e' w1 ⟨rfl, rfl⟩)
        | (go_at_call 18; refine hcc.mono ?_; rintro e' w1 ⟨rfl, q, rfl⟩)
        | (go_at_call 34; refine (hcm _ (below_drewN (Below.refl _ _) q)).mono ?_; rintro e' w2 ⟨rfl, hC1⟩)
        | (go_at_call 35; refine (hcr _).mono ?_; rintro e' w3 ⟨rfl, hC2⟩)
        | (go_at_call 36; refine (hck _).mono ?_; rintro e' w4 ⟨rfl, hC3⟩; have hO := owns_below (owns_below (owns_below (owns_below hown (below_drewN (Below.refl _ _) q)) hC1) (hC2)) hC3)
        | (at_builtin; refine wpList_append_fits _ rfl (.tmp 78) (.tmp 83) 38 rfl w.heap.size 9 i0 1 Tryd.underlying38 hi hz1 B m (2 * (last - first + 1)) _ rfl (hO.alloc _) ⟨w4.heap.size, 0, none⟩ 2 2 [.string (({ data := mg.toArray } : ByteArray) ++ { data := ct.toArray }), .string (({ data := Array.replicate mg.length 32 } : ByteArray) ++ { data := mk.toArray })] rfl rfl (cell_two_new _ _ _ _) (by intro u hu; simp at hu; rcases hu with rfl | rfl <;> rfl) (by omega) ?_; intro w5 hown5 hgrow5))
      have hA := bt (bt (bt (bt hnx (bq _ q)) hC1) hC2) hC3
      have hlt5 := owns_lt hown5
      have hz5 := hA.size
      clear hcs hcc hcm hcr hck hC1 hC2 hC3 hO hown
      rw [mk_app, rep_mk, mk_app] at hown5
      go_roundw
      case rel => exact ⟨k + 1, m + 2, by omega, by omega, by go_num, rfl, by show _ = _; have := hm.out; omega, by omega, by rw [HS.out, List.map_append]; exact hown5, (hA.alloc hz5 _).grown hgrow5 (by simp; omega) (fun k hk => by cases hk; exact hBw), hlt5⟩
      case measure => simp [intOf]; omega
    · obtain rfl : k = last + 1 := by omega
      clear hlt
      go_wp2
      go_ret
      exact ⟨_, rfl, listRow_of_owns hown, hnx⟩

/-- A span that the text does not have. -/
theorem excerpt_none {w : World} {b : Nat} {s : ByteArray} {fs : List Nat} (h : Idx w b s fs) (a e : Int) (hbad : a < 0 ∨ e < a ∨ (s.size : Int) < e) :
    Calls Tryd.prog 21 #[.pointer (some ⟨b, 0, none⟩), .int .i64 a, .int .i64 e] w fun e' w' => ∃ v, e' = .returned v ∧ ListRow w' v [] ∧ Below w.heap.size w w' := by
  have htx := h.text
  have hsm := h.small
  clear h
  have hnil : ListRow w (.slice none 0 0) [] := ⟨none, 0, rfl, fun i hi => by simp at hi⟩
  by_cases h1 : a < 0
  · clear hbad
    go_enter Tryd.func21, Tryd.ntmps21
    go_wp2
    go_ret
    exact ⟨_, rfl, hnil, Below.refl _ _⟩
  · by_cases h2 : e < a
    · clear hbad
      go_enter Tryd.func21, Tryd.ntmps21
      go_wp2
      go_ret
      exact ⟨_, rfl, hnil, Below.refl _ _⟩
    · have h3 : (s.size : Int) < e := by omega
      clear hbad
      go_enter Tryd.func21, Tryd.ntmps21
      go_wp2
      go_ret
      exact ⟨_, rfl, hnil, Below.refl _ _⟩

end Go.Proofs.YtbcolkkhigdmcaaDoor
