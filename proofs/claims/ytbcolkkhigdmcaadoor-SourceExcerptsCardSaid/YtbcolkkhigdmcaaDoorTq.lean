import Derived.Test.YtbcolkkhigdmcaaDoorTo
import Derived.Test.YtbcolkkhigdmcaaDoorTp
namespace Go.Proofs.YtbcolkkhigdmcaaDoor
open Go.RowKit Go.Shelf Go.Lib

theorem count_marks (mg : Nat) (a e st : Int) (n : Nat) : ((Lib.countByte (List.replicate mg 32 ++ marksL (a - st) (e - st) n) 94 : Nat) : Int) = max 1 (min e (st + n) - max a st) := by
  unfold Lib.countByte marksL
  rw [List.count_append, List.count_append, List.count_replicate, List.count_replicate, List.count_replicate]
  simp
  omega

theorem suffix_margin (line digits : Nat) (c : List UInt8) : Lib.hasSuffix (marginL line digits ++ c) ([32, 124, 32] ++ c) = true := by
  unfold Lib.hasSuffix marginL
  rw [List.isSuffixOf_iff_suffix]
  exact ⟨List.replicate (digits - (Lib.itoa line).length) 32 ++ Lib.itoa line, by simp [List.append_assoc]⟩

theorem margin_le (line digits : Nat) : (marginL line digits).length ≤ digits + line + 5 := by
  unfold marginL
  have h1 := itoa_len line
  have h2 := nDigits_le line
  simp only [List.length_append, List.length_replicate, List.length_cons, List.length_nil]; omega

theorem excTo_even (l : List UInt8) (fs : List Nat) (a e digits first m k : Nat) (h : k < m) : (excTo l fs a e digits first m)[2 * k]? = some (marginL (first + k) digits ++ contentL l fs ((first + k : Nat) : Int)) ∧
    (excTo l fs a e digits first m)[2 * k + 1]? = some (List.replicate (marginL (first + k) digits).length 32 ++ marksL ((a : Int) - (startN fs l.length (first + k) : Nat)) ((e : Int) - (startN fs l.length (first + k) : Nat)) (contentL l fs ((first + k : Nat) : Int)).length) := by
  induction m with
  | zero => omega
  | succ m ih =>
    have hl := excTo_len l fs a e digits first m
    rw [excTo_succ]
    by_cases hk : k < m
    · rw [List.getElem?_append_left (by omega), List.getElem?_append_left (by omega)]; exact ih hk
    · obtain rfl : k = m := by omega
      rw [List.getElem?_append_right (by omega), List.getElem?_append_right (by omega), hl, Nat.sub_self, show 2 * k + 1 - 2 * k = 1 by omega]
      exact ⟨rfl, rfl⟩

theorem listRow_call {P : Program} {f : FuncId} {args : Array Value} {w : World} {ex : List (List UInt8)} (h : Calls P f args w fun e w' => ∃ v, e = .returned v ∧ ListRow w' v ex ∧ Below w.heap.size w w') {n : Nat} (hn : ex.length = n) (h0 : 0 < n) :
    Calls P f args w fun e w' => ∃ B o cap, e = .returned (.slice (some ⟨B, o, none⟩) n cap) ∧ Hid (∀ i x, ex[i]? = some x → w'.cell? ⟨B, o + i, none⟩ = some (.string ⟨x.toArray⟩)) ∧ Below w.heap.size w w' := by
  refine h.mono fun e w' ⟨v, h1, ⟨p, cap, h2, h3⟩, h4⟩ => ?_
  rw [List.length_map] at h2 h3
  obtain ⟨B, o, rfl, _⟩ := h3 0 (by omega)
  refine ⟨B, o, cap, by rw [h1, h2, hn], fun i x hx => ?_, h4⟩
  obtain ⟨hi, hx2⟩ := List.getElem?_eq_some_iff.1 hx
  obtain ⟨B', o', e1, e2⟩ := h3 i hi
  cases e1
  rw [e2, List.getD_eq_getElem?_getD, List.getElem?_map, hx]
  rfl

theorem offN_line (l : List UInt8) (m : Nat) (hm : m ≤ (feedsOf l).length) : offN (feedsOf l) l.length ((m : Int) + 1) 1 = (((startN (feedsOf l) l.length (m + 1) : Nat) : Int), true) := by
  have h := start_le_end (feedsOf_sorted l) (feedsOf_lt l) (m + 1) (by omega) (by omega)
  unfold offN
  rw [show ((m : Int) + 1).toNat = m + 1 by omega, if_pos ⟨⟨by omega, by omega⟩, by omega, by omega⟩]
  congr 1; omega

set_option maxRecDepth 100000 in
set_option maxHeartbeats 1600000 in
theorem marks_walk (s : ByteArray) (a e : Int) (hs : s.size ≤ 9223372036854775807) {w : World} (ht : Tab w) :
    Calls Tryd.prog 9 #[.string s, .int .i64 a, .int .i64 e] w fun e' w' => e' = .returned (.bool true) ∧ Below w.heap.size w w' := by
  have haw := awake_any ht
  by_cases hl : (200 : Int) < (s.size : Int)
  · go_enter Tryd.func9, Tryd.ntmps9
    go_wp2_with (go_at_call 10; (with_reducible refine haw.mono ?_); rintro e w1 ⟨rfl, hB1⟩)
    go_ret
    exact ⟨rfl, hB1⟩
  · have hsm : s.size ≤ 1000 := by omega
    have hl' : (s.size : Int) ≤ 200 := by omega
    have hnew := fun w' => new_any s w' hsm
    clear hl hs
    by_cases hbad : a < 0 ∨ e < a ∨ (s.size : Int) < e
    · by_cases h1 : a < 0
      · clear hbad
        go_enter Tryd.func9, Tryd.ntmps9
        go_wp2_with (first
          | (go_at_call 10; (with_reducible refine haw.mono ?_); rintro e' w1 ⟨rfl, hB1⟩)
          | (go_at_call 11; (with_reducible refine (hnew _).mono ?_); rintro e' w2 ⟨b, rfl, hI0, hB2⟩; have hex := excerpt_none hI0 a e (Or.inl h1))
          | (go_at_call 21; (with_reducible refine hex.mono ?_); rintro e' w3 ⟨v, rfl, ⟨p, cap, rfl, _⟩, hB3⟩))
        go_ret
        exact ⟨rfl, bt (bt hB1 hB2) hB3⟩
      · by_cases h2 : e < a
        · clear hbad
          go_enter Tryd.func9, Tryd.ntmps9
          go_wp2_with (first
            | (go_at_call 10; (with_reducible refine haw.mono ?_); rintro e' w1 ⟨rfl, hB1⟩)
            | (go_at_call 11; (with_reducible refine (hnew _).mono ?_); rintro e' w2 ⟨b, rfl, hI0, hB2⟩; have hex := excerpt_none hI0 a e (Or.inr (Or.inl h2)))
            | (go_at_call 21; (with_reducible refine hex.mono ?_); rintro e' w3 ⟨v, rfl, ⟨p, cap, rfl, _⟩, hB3⟩))
          go_ret
          exact ⟨rfl, bt (bt hB1 hB2) hB3⟩
        · have h3 : (s.size : Int) < e := by omega
          clear hbad
          go_enter Tryd.func9, Tryd.ntmps9
          go_wp2_with (first
            | (go_at_call 10; (with_reducible refine haw.mono ?_); rintro e' w1 ⟨rfl, hB1⟩)
            | (go_at_call 11; (with_reducible refine (hnew _).mono ?_); rintro e' w2 ⟨b, rfl, hI0, hB2⟩; have hex := excerpt_none hI0 a e (Or.inr (Or.inr h3)))
            | (go_at_call 21; (with_reducible refine hex.mono ?_); rintro e' w3 ⟨v, rfl, ⟨p, cap, rfl, _⟩, hB3⟩))
          go_ret
          exact ⟨rfl, bt (bt hB1 hB2) hB3⟩
    · obtain ⟨x, rfl⟩ : ∃ x : Nat, a = x := ⟨a.toNat, by omega⟩
      obtain ⟨y, rfl⟩ : ∃ y : Nat, e = y := ⟨e.toNat, by omega⟩
      have hxy : x ≤ y := by omega
      have hys : y ≤ s.size := by omega
      clear hbad
      have hmax : max (x : Int) ((y : Int) - 1) = ((max x (y - 1) : Nat) : Int) := by omega
      have hpf := pos_nat s.data.toList x (by rw [bytes_len]; omega)
      have hpl := pos_nat s.data.toList (max x (y - 1)) (by rw [bytes_len]; omega)
      rw [bytes_len] at hpf hpl
      have hub := posU_bd s.data.toList (max x (y - 1))
      have hub1 := posU_bd s.data.toList x
      have hfl : posU s.data.toList x ≤ posU s.data.toList (max x (y - 1)) := lineN_mono _ (by omega)
      have hne := feedsOf_le s.data.toList
      rw [bytes_len] at hne
      have hexL : excL s.data.toList (feedsOf s.data.toList) x y = excTo s.data.toList (feedsOf s.data.toList) x y (Lib.itoa (posU s.data.toList (max x (y - 1)) : Nat)).length (posU s.data.toList x) (posU s.data.toList (max x (y - 1)) + 1 - posU s.data.toList x) := by
        unfold excL posU; rw [hmax]
      generalize hF : posU s.data.toList x = first at *
      generalize hLst : posU s.data.toList (max x (y - 1)) = last at *
      have hdig : (Lib.itoa (last : Nat)).length ≤ 1002 := by rw [itoa_len]; have := nDigits_le last; omega
      generalize (Lib.itoa (last : Nat)).length = digits at *
      have HR : Hid (∀ k, k < last + 1 - first → (excL s.data.toList (feedsOf s.data.toList) x y)[2 * k]? = some (marginL (first + k) digits ++ contentL s.data.toList (feedsOf s.data.toList) ((first + k : Nat) : Int)) ∧
          (excL s.data.toList (feedsOf s.data.toList) x y)[2 * k + 1]? = some (List.replicate (marginL (first + k) digits).length 32 ++ marksL ((x : Int) - (startN (feedsOf s.data.toList) s.size (first + k) : Nat)) ((y : Int) - (startN (feedsOf s.data.toList) s.size (first + k) : Nat)) (contentL s.data.toList (feedsOf s.data.toList) ((first + k : Nat) : Int)).length)) := fun k hk => by
        rw [hexL]
        have := excTo_even s.data.toList (feedsOf s.data.toList) x y digits first (last + 1 - first) k hk
        rwa [bytes_len] at this
      have hlen : (excL s.data.toList (feedsOf s.data.toList) x y).length = 2 * (last + 1 - first) := by rw [hexL, excTo_len]
      clear hexL hF hLst
      obtain ⟨d, rfl⟩ : ∃ d, last = first + d := ⟨last - first, by omega⟩
      rw [show first + d + 1 - first = d + 1 by omega] at hlen HR
      generalize hexe : excL s.data.toList (feedsOf s.data.toList) x y = ex at *
      have HE : Hid (excL s.data.toList (feedsOf s.data.toList) x y = ex) := hexe
      clear hexe
      have hcl := fun k => content_len s.data.toList (feedsOf s.data.toList) k
      rw [bytes_len] at hcl
      have HC : Hid (∀ k, (contentL s.data.toList (feedsOf s.data.toList) k).length ≤ s.size) := hcl
      have HO : Hid (∀ k, 1 ≤ k → k ≤ (feedsOf s.data.toList).length + 1 → offN (feedsOf s.data.toList) s.size (k : Nat) 1 = (((startN (feedsOf s.data.toList) s.size k : Nat) : Int), true)) := fun k h1 h2 => by
        have := offN_line s.data.toList (k - 1) (by omega)
        rw [bytes_len, show k - 1 + 1 = k by omega, show ((k - 1 : Nat) : Int) + 1 = (k : Int) by omega] at this
        exact this
      have hmx : max x (y - 1) ≤ s.size := by omega
      have z1 : decide ((x : Int) < 0) = false := decide_eq_false (by omega)
      have z2 : decide ((y : Int) < (x : Int)) = false := decide_eq_false (by omega)
      have z3 : decide ((s.size : Int) < (y : Int)) = false := decide_eq_false (by omega)
      have z5 : (2 * ((d : Int) + 1) != 2 * ((first : Int) + (d : Int) - (first : Int) + 1)) = false := by rw [bne_eq_false_iff_eq]; omega
      have z4 : decide (200 < (s.size : Int)) = false := decide_eq_false (by omega)
      clear hcl
      go_enter Tryd.func9, Tryd.ntmps9
      go_wp2_with (first
        | (go_at_call 10; (with_reducible refine haw.mono ?_); rintro e' w1 ⟨rfl, hB1⟩)
        | (go_at_call 11; (with_reducible refine (hnew _).mono ?_); rintro e' w2 ⟨b, rfl, hI0, hB2⟩))
      have hex1 := excerpt_any hI0 (ht.below (bt hB1 hB2)) x y hxy hys
      rw [HE.out] at hex1
      have hex2 := listRow_call hex1 hlen (by omega)
      clear hlen hex1
      go_wp2_with (first
        | (go_at_call 21; (with_reducible refine hex2.mono ?_); rintro e' w3 ⟨B, o, cap, rfl, hv, hB3⟩))
      have hp1 := position_any (hI0.below hB3) x
      have hp2 := fun w' hb => position_any ((hI0.below hB3).below (w' := w') hb) (max (x : Int) ((y : Int) - 1))
      rw [hpf] at hp1
      rw [hmax, hpl] at hp2
      go_wp2_with (first
        | (go_at_call 12; (with_reducible refine hp1.mono ?_); rintro e' w4 ⟨rfl, hB4⟩)
        | (go_at_call 12; (with_reducible refine (hp2 _ hB4).mono ?_); rintro e' w5 ⟨rfl, hB5⟩))
      have hB := bt (bt (bt (bt hB1 hB2) hB3) hB4) hB5
      have HI : Hid (Idx w5 b s (feedsOf s.data.toList)) := (hI0.below hB3).below (bt hB4 hB5)
      have HV : Hid (∀ i x, ex[i]? = some x → w5.cell? ⟨B, o + i, none⟩ = some (.string ⟨x.toArray⟩)) := fun i x hx => by
        have h1 := hv.out i x hx
        rw [(bt hB4 hB5).cell (p := ⟨B, o + i, none⟩) (World.block_lt_of_cell? _ _ h1)]; exact h1
      clear hB1 hB2 hB3 hB4 hB5 hI0 hv hp1 hp2 hex2 haw hnew hpf hpl
      go_loopw [13] (fun i wr => ∃ k : Nat, k ≤ d + 1 ∧ i = .int .i64 ((first : Int) + (k : Int)) ∧ Below w5.heap.size w5 wr) (fun i _ => first + d + 1 - (intOf i).toNat)
      case atStart => exact ⟨0, Nat.zero_le _, by simp, Below.refl _ _⟩
      case round =>
        obtain ⟨k, hk, rfl, hnx⟩ := hrel
        by_cases hlt : k < d + 1
        · have hkd : (k : Int) ≤ (d : Int) := by omega
          have hIr := HI.out.below hnx
          have ho := offset_any hIr ((first + k : Nat) : Int) 1 (by omega) (by omega)
          rw [HO.out (first + k) (by omega) (by omega)] at ho
          have hc := fun w' hb => content_any (hIr.below (w' := w') hb) ((first + k : Nat) : Int)
          have hcl := HC.out ((first + k : Nat) : Int)
          have hst := hIr.startLe (first + k)
          have hr := HR.out k (by omega)
          have hv1 := HV.out _ _ hr.1
          have hv2 := HV.out _ _ hr.2
          have hcm := count_marks (marginL (first + k) digits).length x y (startN (feedsOf s.data.toList) s.size (first + k) : Nat) (contentL s.data.toList (feedsOf s.data.toList) ((first + k : Nat) : Int)).length
          have hsf := suffix_margin (first + k) digits (contentL s.data.toList (feedsOf s.data.toList) ((first + k : Nat) : Int))
          have hhl0 := margin_le (first + k) digits
          clear hr
          generalize startN (feedsOf s.data.toList) s.size (first + k) = st at *
          generalize contentL s.data.toList (feedsOf s.data.toList) ((first + k : Nat) : Int) = cn at *
          generalize List.replicate (marginL (first + k) digits).length 32 ++ marksL ((x : Int) - (st : Nat)) ((y : Int) - (st : Nat)) cn.length = mkl at *
          have hhl : (marginL (first + k) digits ++ cn).length ≤ 100000 := by rw [List.length_append]; omega
          clear hhl0
          generalize marginL (first + k) digits ++ cn = hdl at *
          rw [show ((first + k : Nat) : Int) = (first : Int) + (k : Int) by omega] at ho hc
          have hblk := World.block_lt_of_cell? _ _ hv1
          have g1 : ∀ w', Below w5.heap.size w5 w' → w'.cell? ⟨B, o + 2 * k, none⟩ = some (.string ⟨hdl.toArray⟩) := fun w' hb => by rw [hb.cell (p := ⟨B, o + 2 * k, none⟩) hblk]; exact hv1
          have g2 : ∀ w', Below w5.heap.size w5 w' → w'.cell? ⟨B, o + (2 * k + 1), none⟩ = some (.string ⟨mkl.toArray⟩) := fun w' hb => by rw [hb.cell (p := ⟨B, o + (2 * k + 1), none⟩) hblk]; exact hv2
          have hcnt : ∀ w', Calls Tryd.prog 25 #[.string ⟨mkl.toArray⟩, .string ⟨#[94]⟩] w' fun e w'' => e = .returned (.int .i64 (max 1 (min (y : Int) ((st : Int) + (cn.length : Int)) - max (x : Int) (st : Int)))) ∧ w'' = w' := fun w' => by
            have := Tryd.strings_Count_one ⟨mkl.toArray⟩ 94 w'
            rw [show ((Lib.countByte (ByteArray.mk mkl.toArray).data.toList 94 : Nat) : Int) = _ from hcm] at this
            exact this
          have hsuf : ∀ w', Calls Tryd.prog 26 #[.string ⟨hdl.toArray⟩, .string (({ data := #[32, 124, 32] } : ByteArray) ++ { data := cn.toArray })] w' fun e w'' => e = .returned (.bool true) ∧ w'' = w' := fun w' => by
            have := Tryd.strings_HasSuffix ⟨hdl.toArray⟩ (({ data := #[32, 124, 32] } : ByteArray) ++ { data := cn.toArray }) w' (by show hdl.length ≤ _; omega)
            rw [Joins.data_append] at this
            rw [show Lib.hasSuffix (ByteArray.mk hdl.toArray).data.toList ((ByteArray.mk #[32, 124, 32]).data.toList ++ (ByteArray.mk cn.toArray).data.toList) = true from hsf] at this
            exact this
          clear hcm hsf hv1 hv2 hblk hIr
          go_wp2_with (first
            | (go_at_call 14; (with_reducible refine ho.mono ?_); rintro e' w6 ⟨rfl, rfl⟩)
            | (go_at_call 18; (with_reducible refine (hc _ (Below.refl _ _)).mono ?_); rintro e' w6 ⟨rfl, q, hq⟩; have hB6 : Below wr.heap.size wr w6 := by rw [hq]; exact bq _ q
               clear hq))
          have hB7 := bt hnx hB6
          have hc2 := fun q => hc (w6.drewN q) (bt hB6 (bq _ q))
          have k1 := g1 _ hB7
          have k2 := g2 _ hB7
          clear hc g1 g2 ho
          have q1 : IntKind.i64.wrap ((first : Int) + (k : Int) - (first : Int)) = k := by rw [IntWalk.i64_in _ (by omega)]; omega
          have q2 : IntKind.i64.wrap (2 * (k : Int)) = 2 * k := IntWalk.i64_in _ (by omega)
          have q3 : IntKind.i64.wrap (2 * (k : Int) + 1) = 2 * k + 1 := IntWalk.i64_in _ (by omega)
          have q4 : (0 : Int) ≤ 2 * (k : Int) + 1 := by omega
          have q5 : (2 * (k : Int) + 1) < 2 * ((d : Int) + 1) := by omega
          have q6 : (2 * (k : Int)) < 2 * ((d : Int) + 1) := by omega
          have q7 : (2 * (k : Int) + 1).toNat = 2 * k + 1 := by omega
          have q8 : (2 * (k : Int)).toNat = 2 * k := by omega
          have q9 : (0 : Int) ≤ 2 * (k : Int) := by omega
          go_quiet ((first | (go_at_call 25; exact Calls.quiet_of_same (hcnt _)) | (go_at_call 26; exact Calls.quiet_of_same (hsuf _)) | (go_at_call 18; exact Calls.quiet_of (hc2 _))))
          go_wp2
          go_roundw
          case rel => exact ⟨k + 1, by omega, by go_num, bt hnx (bt hB6 (bq _ _))⟩
          case measure => simp [intOf]; omega
        · obtain rfl : k = d + 1 := by omega
          clear hlt
          go_wp2
          go_ret
          exact ⟨rfl, hB.trans (hnx.mono hB.size)⟩

end Go.Proofs.YtbcolkkhigdmcaaDoor
