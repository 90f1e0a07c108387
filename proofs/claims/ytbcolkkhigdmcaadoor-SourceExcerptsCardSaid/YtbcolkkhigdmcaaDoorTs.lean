import Derived.Test.YtbcolkkhigdmcaaDoorTr
namespace Go.Proofs.YtbcolkkhigdmcaaDoor
open Go.RowKit Go.Shelf Go.Lib

theorem marks_some (st ee a e : Nat) (h1 : st ≤ ee) (h : max st a < min ee e) :
    marksL ((a : Int) - (st : Nat)) ((e : Int) - (st : Nat)) (ee - st) = List.replicate (min ee a - st) 32 ++ List.replicate (min ee e - max st a) 94 := by
  unfold marksL
  congr 2 <;> omega

theorem marks_none (st ee a e : Nat) (h1 : st ≤ ee) (h : ¬ max st a < min ee e) :
    marksL ((a : Int) - (st : Nat)) ((e : Int) - (st : Nat)) (ee - st) = List.replicate (a - st) 32 ++ [94] := by
  unfold marksL
  rw [show (max (min ((e : Int) - (st : Nat)) ((ee - st : Nat) : Int) - max ((a : Int) - (st : Nat)) 0) 1).toNat = 1 by omega, show (max ((a : Int) - (st : Nat)) 0).toNat = a - st by omega]
  rfl

theorem later_line (l : List UInt8) (a k : Nat) (h1 : lineN (feedsOf l) a < k) (h2 : k ≤ (feedsOf l).length + 1) : a < startN (feedsOf l) l.length k := by
  have h3 := lineN_ge (feedsOf l) a
  unfold startN endN
  rw [if_neg (by omega), show k - 1 - 1 = k - 2 from rfl, List.getD_eq_getElem?_getD, List.getElem?_eq_getElem (by omega)]
  have h4 := (not_congr (sorted_lt_iff (feedsOf_sorted l) a (k - 2) (by omega))).2 (by unfold lineN at h1; omega)
  rw [List.getD_eq_getElem?_getD, List.getElem?_eq_getElem (by omega)] at h4
  simp only [Option.getD_some] at h4 ⊢
  generalize (feedsOf l)[k - 2] = z at *
  omega

theorem startN_line (l : List UInt8) (a : Nat) : posV l a = a - startN (feedsOf l) l.length (posU l a) + 1 := rfl

theorem head_eq (n : Nat) (dk c : List UInt8) : ((({ data := Array.replicate n 32 } : ByteArray) ++ { data := dk.toArray } ++ { data := #[32, 124, 32] }) ++ { data := c.toArray }) = ⟨((List.replicate n 32 ++ dk ++ [32, 124, 32]) ++ c).toArray⟩ := by
  rw [rep_mk, mk_app (List.replicate n 32) dk, mk_app (List.replicate n 32 ++ dk) [32, 124, 32], mk_app (List.replicate n 32 ++ dk ++ [32, 124, 32]) c]

theorem row_of_owns {w : World} {base e m : Nat} {v : Value} {xs : List (List UInt8)} (h : w.ownsRow base e 1 v m (xs.map strV)) : True ∧ ListRow w v xs := by
  refine ⟨trivial, ?_⟩
  have hl : xs.length = m := by have := h.1; simpa using this
  obtain ⟨hz, ⟨rfl, h0⟩ | ⟨g, cap, cur, rfl, h1, h2, h3, h4, h5, h6⟩⟩ := h
  · obtain rfl : xs = [] := List.eq_nil_of_length_eq_zero (by omega)
    exact ⟨none, 0, rfl, fun i hi => by simp at hi⟩
  · exact listRow_of_owns (base := base) (e := e) ⟨hz, Or.inr ⟨g, cap, cur, rfl, h1, h2, h3, h4, h5, h6⟩⟩

theorem heap_new (w : World) (o : Obj) : (w.alloc o).heap[w.heap.size]? = some o := by
  show (w.heap.push o)[w.heap.size]? = _
  rw [Array.getElem?_push, if_pos rfl]

/-- The marks as the reference's inner loop has gathered them in front of offset j. -/
def marksTo (hl st a e j : Nat) : List UInt8 := List.replicate hl 32 ++ (List.replicate (min j a - st) 32 ++ List.replicate (min j e - max st a) 94)

theorem marksTo_hit (hl st a e j : Nat) (h1 : st ≤ j) (h2 : a ≤ j) (h3 : j < e) : marksTo hl st a e (j + 1) = marksTo hl st a e j ++ [94] := by
  unfold marksTo
  rw [show min (j + 1) a - st = min j a - st by omega, show min (j + 1) e - max st a = (min j e - max st a) + 1 by omega, List.replicate_succ', List.append_assoc, List.append_assoc]
theorem marksTo_front (hl st a e j : Nat) (h1 : st ≤ j) (h2 : j < a) : marksTo hl st a e (j + 1) = marksTo hl st a e j ++ [32] := by
  unfold marksTo
  rw [show min (j + 1) a - st = (min j a - st) + 1 by omega, show min (j + 1) e - max st a = 0 by omega, show min j e - max st a = 0 by omega, List.replicate_succ', List.replicate_zero, List.append_nil, List.append_nil, List.append_assoc]
theorem marksTo_over (hl st a e j : Nat) (h1 : st ≤ j) (h2 : a ≤ j) (h3 : e ≤ j) : marksTo hl st a e (j + 1) = marksTo hl st a e j := by
  unfold marksTo
  rw [show min (j + 1) a - st = min j a - st by omega, show min (j + 1) e - max st a = min j e - max st a by omega]
theorem marksTo_start (hl st a e : Nat) : marksTo hl st a e st = List.replicate hl 32 := by
  unfold marksTo
  rw [show min st a - st = 0 by omega, show min st e - max st a = 0 by omega]; simp
theorem marksTo_len (hl st a e j : Nat) (h : hl ≤ 5000) (hj : j ≤ 1000) : (marksTo hl st a e j).length ≤ 10000 := by
  unfold marksTo; simp only [List.length_append, List.length_replicate]; omega

set_option maxHeartbeats 3200000 in
set_option maxRecDepth 100000 in
theorem refExcerpt_any (s : ByteArray) (a e : Nat) (hae : a ≤ e) (hes : e ≤ s.size) (hsm : s.size ≤ 1000) (w : World) :
    Calls Tryd.prog 22 #[.string s, .int .i64 a, .int .i64 e] w fun e' w' => ∃ v, e' = .returned v ∧ ListRow w' v (excL s.data.toList (feedsOf s.data.toList) a e) ∧ Below w.heap.size w w' := by
  obtain ⟨i0, hi, hz0, hz1, hz2⟩ := info_parts info9
  have hbl := bytes_len s
  have hp1 := fun w' => refPosition_any s (a : Int) w' hsm
  have hp2 := fun w' => refPosition_any s (max (a : Int) ((e : Int) - 1)) w' hsm
  have hmax : max (a : Int) ((e : Int) - 1) = ((max a (e - 1) : Nat) : Int) := by omega
  have hpf := pos_nat s.data.toList a (by omega)
  have hpl := pos_nat s.data.toList (max a (e - 1)) (by omega)
  rw [hbl] at hpf hpl
  have hvb := posV_bd s.data.toList a
  rw [hpf] at hp1
  rw [hmax, hpl, ← hmax] at hp2
  have hub := posU_bd s.data.toList (max a (e - 1))
  have hub1 := posU_bd s.data.toList a
  have hfl : posU s.data.toList a ≤ posU s.data.toList (max a (e - 1)) := lineN_mono _ (by omega)
  have hne := feedsOf_le s.data.toList
  rw [hbl] at hne
  have hexL : excL s.data.toList (feedsOf s.data.toList) a e = excTo s.data.toList (feedsOf s.data.toList) a e (Lib.decDigits (posU s.data.toList (max a (e - 1)))).length (posU s.data.toList a) (posU s.data.toList (max a (e - 1)) + 1 - posU s.data.toList a) := by
    unfold excL posU; rw [hmax, itoa_nat]
  have hdec := fun w' => decimal_any 6 (posU s.data.toList (max a (e - 1))) (by show _ < 1000000; omega) (by omega) w'
  have hdl := Lib.decDigits_length (posU s.data.toList (max a (e - 1)))
  have hdm := nDigits_mono (posU s.data.toList (max a (e - 1)))
  have hdx := nDigits_le (posU s.data.toList (max a (e - 1)))
  have hcol := startN_line s.data.toList a
  have hlater : ∀ k, posU s.data.toList a < k → k ≤ (feedsOf s.data.toList).length + 1 → a < startN (feedsOf s.data.toList) s.data.toList.length k := fun k h1 h2 => later_line _ _ _ h1 h2
  have HE : Hid (excL s.data.toList (feedsOf s.data.toList) a e = excTo s.data.toList (feedsOf s.data.toList) a e (Lib.decDigits (posU s.data.toList (max a (e - 1)))).length (posU s.data.toList a) (posU s.data.toList (max a (e - 1)) + 1 - posU s.data.toList a)) := hexL
  clear hexL hpf hpl hmax
  have z1 : decide ((a : Int) < 0) = false := decide_eq_false (by omega)
  have z2 : decide ((e : Int) < (a : Int)) = false := decide_eq_false (by omega)
  have z3 : decide ((s.size : Int) < (e : Int)) = false := decide_eq_false (by omega)
  generalize posU s.data.toList a = first at *
  generalize posU s.data.toList (max a (e - 1)) = last at *
  generalize posV s.data.toList a = col at *
  generalize hD : Lib.decDigits last = dl at *
  have HC : Hid ((col = a - startN (feedsOf s.data.toList) s.data.toList.length first + 1) ∧ (∀ k, first < k → k ≤ (feedsOf s.data.toList).length + 1 → a < startN (feedsOf s.data.toList) s.data.toList.length k) ∧ (dl.length = Lib.nDigits last ∧ ∀ u, u ≤ last → Lib.nDigits u ≤ Lib.nDigits last)) := ⟨hcol, hlater, hdl, hdm⟩
  have hdig : dl.length ≤ 1002 := by omega
  clear hcol hlater hdl hdm hdx hD hbl
  go_enter Tryd.func22, Tryd.ntmps22
  go_wp2_with (first
    | (go_at_call 13; (with_reducible refine (hp1 _).mono ?_); rintro e' w1 ⟨rfl, rfl⟩)
    | (go_at_call 13; (with_reducible refine (hp2 _).mono ?_); rintro e' w1 ⟨rfl, rfl⟩)
    | (go_at_call 37; (with_reducible refine (hdec _).mono ?_); rintro e' w1 ⟨rfl, hB1⟩))
  obtain ⟨w2, hw2⟩ : ∃ w2, w2 = w1.alloc (.cells #[] 9) := ⟨_, rfl⟩
  have hB2 : Below w.heap.size w w2 := by rw [hw2]; exact hB1.alloc hB1.size _
  have hown0 : w2.ownsRow w.heap.size 9 1 (.slice (some ⟨w1.heap.size, 0, none⟩) 0 0) 0 [] :=
    ⟨rfl, Or.inr ⟨w1.heap.size, 0, #[], rfl, hB1.size, by rw [hw2]; exact heap_new _ _, Nat.le_refl _, Nat.zero_le _, rfl, rfl⟩⟩
  rw [← hw2]
  clear hw2 hp1 hp2 hdec
  go_loopw [12, 13] (fun out j wr => ∃ k m : Nat, first ≤ k ∧ k ≤ last + 1 ∧ j = .int .i64 k ∧ Hid (m = 2 * (k - first)) ∧ m ≤ 2 * (last + 1) ∧ wr.ownsRow w.heap.size 9 1 out m ((excTo s.data.toList (feedsOf s.data.toList) a e dl.length first (k - first)).map strV) ∧ Below w.heap.size w wr)
    (fun _ j _ => last + 1 - (intOf j).toNat)
  case atStart => exact ⟨first, 0, Nat.le_refl _, by omega, rfl, by show 0 = _; omega, Nat.zero_le _, by rw [Nat.sub_self]; exact hown0, hB2⟩
  case round =>
    obtain ⟨k, m, hk1, hk2, rfl, hm, hmc, hown, hnx⟩ := hrel
    clear hown0 hB1 hB2
    have hwr := hnx.size
    by_cases hlt : k < last + 1
    · have hle : (k : Int) ≤ (last : Int) := by omega
      have hbl := bytes_len s
      have hkl : k ≤ (feedsOf s.data.toList).length + 1 := by omega
      have hoff := offN_line s.data.toList (k - 1) (by omega)
      rw [show k - 1 + 1 = k by omega, show ((k - 1 : Nat) : Int) + 1 = (k : Int) by omega] at hoff
      have hse := start_le_end (feedsOf_sorted s.data.toList) (feedsOf_lt s.data.toList) k (by omega) hkl
      have hel := end_le_len s.data.toList k
      have hpl := line_plain s.data.toList (k - 1)
      have hle2 := line_end s.data.toList (k - 1)
      have hct := content_ref s.data.toList (k - 1) (by omega)
      rw [show k - 1 + 1 = k by omega] at hpl hle2 hct
      rw [show ((k - 1 : Nat) : Int) + 1 = (k : Int) by omega] at hct
      rw [hbl] at hoff hse hel hpl hle2 hct
      have hof := fun w' => refOffset_any s (k : Int) 1 w' hsm
      rw [hoff] at hof
      have hE := fun w' => refEnd_any s (startN (feedsOf s.data.toList) s.size k) (endN (feedsOf s.data.toList) s.size k) w' hsm hse hel (fun i h1 h2 => hpl i (by omega) h1 h2)
        (by by_cases h : k - 1 < (feedsOf s.data.toList).length
            · exact Or.inr (hle2.1 h).2
            · exact Or.inl (hle2.2 (by omega)))
      have hr1 : startN (feedsOf s.data.toList) s.size k ≤ refEnd s.data.toList (startN (feedsOf s.data.toList) s.size k) (endN (feedsOf s.data.toList) s.size k) := by unfold refEnd; split <;> omega
      have hr2 : refEnd s.data.toList (startN (feedsOf s.data.toList) s.size k) (endN (feedsOf s.data.toList) s.size k) ≤ s.size := by unfold refEnd; split <;> omega
      have hsf : k = first → col = a - startN (feedsOf s.data.toList) s.size k + 1 := fun h => by rw [h]; have := HC.out.1; rwa [hbl] at this
      have hsl : first < k → a < startN (feedsOf s.data.toList) s.size k := fun h => by have := HC.out.2.1 k h hkl; rwa [hbl] at this
      have hdk : (Lib.decDigits k).length ≤ dl.length := by rw [Lib.decDigits_length, HC.out.2.2.1]; exact HC.out.2.2.2 k (by omega)
      have hdc := fun w' => decimal_any 6 k (by show _ < 1000000; omega) (by omega) w'
      have hS := excTo_succ s.data.toList (feedsOf s.data.toList) a e dl.length first (k - first)
      rw [show (k - first) + 1 = k + 1 - first by omega, show first + (k - first) = k by omega] at hS
      unfold excRow at hS
      rw [hct, hbl] at hS
      have hmg : marginL k dl.length = List.replicate (dl.length - (Lib.decDigits k).length) 32 ++ Lib.decDigits k ++ [32, 124, 32] := by unfold marginL; rw [itoa_nat]
      have hml := margin_len k dl.length (by rw [itoa_nat]; exact hdk)
      have hlc : ((s.data.toList.drop (startN (feedsOf s.data.toList) s.size k)).take (refEnd s.data.toList (startN (feedsOf s.data.toList) s.size k) (endN (feedsOf s.data.toList) s.size k) - startN (feedsOf s.data.toList) s.size k)).length = refEnd s.data.toList (startN (feedsOf s.data.toList) s.size k) (endN (feedsOf s.data.toList) s.size k) - startN (feedsOf s.data.toList) s.size k := by
        rw [List.length_take, List.length_drop]; omega
      rw [hlc, hml] at hS
      have HM : Hid (marginL k dl.length = List.replicate (dl.length - (Lib.decDigits k).length) 32 ++ Lib.decDigits k ++ [32, 124, 32]) := hmg
      clear hmg hct hpl hle2 hoff hse hel hlc
      generalize refEnd s.data.toList (startN (feedsOf s.data.toList) s.size k) (endN (feedsOf s.data.toList) s.size k) = ee at *
      generalize startN (feedsOf s.data.toList) s.size k = st at *
      generalize Lib.decDigits k = dk at *
      have HS : Hid (excTo s.data.toList (feedsOf s.data.toList) a e dl.length first (k + 1 - first) = excTo s.data.toList (feedsOf s.data.toList) a e dl.length first (k - first) ++
          [marginL k dl.length ++ (s.data.toList.drop st).take (ee - st), List.replicate (dl.length + 3) 32 ++ marksL ((a : Int) - (st : Nat)) ((e : Int) - (st : Nat)) (ee - st)]) := hS
      clear hS
      have HR1 : Hid (strV (marginL k dl.length ++ (s.data.toList.drop st).take (ee - st)) = .string ((({ data := Array.replicate (dl.length - dk.length) 32 } : ByteArray) ++ { data := dk.toArray } ++ { data := #[32, 124, 32] }) ++ s.extract st ee)) := by
        show _ = _
        rw [extract_list, head_eq, HM.out]; rfl
      have HF : Hid ((k = first → col = a - st + 1) ∧ (first < k → a < st)) := ⟨hsf, hsl⟩
      clear hsf hsl
      go_wp2_with (first
        | (go_at_call 15; (with_reducible refine (hof _).mono ?_); rintro e' w3 ⟨rfl, rfl⟩)
        | (go_at_call 37; (with_reducible refine (hdc _).mono ?_); rintro e' w3 ⟨rfl, hB3⟩)
        | (go_at_call 38; (with_reducible refine (blanks_any _ (by omega) _).mono ?_); rintro e' w4 ⟨rfl, rfl⟩))
      have hA := bt hnx hB3
      have hO := owns_below hown hB3
      go_loop [18, 19, 20] (fun mk so j => ∃ (q : Nat) (b : ByteArray) (g : Bool), st ≤ q ∧ q ≤ ee ∧ b.size ≤ 20000 ∧ j = .int .i64 q ∧ mk = .string b ∧ so = .bool g ∧ Hid (g = decide (max st a < min q e)) ∧ Hid (b = ⟨(marksTo (dl.length + 3) st a e q).toArray⟩)) (fun _ _ j => ee - (intOf j).toNat)
      case atStart => exact ⟨st, _, false, Nat.le_refl _, hr1, by rw [rep_mk, size_mk]; simp; omega, rfl, rfl, rfl, by show _ = _; exact (decide_eq_false (by omega)).symm, by show _ = _; rw [marksTo_start, rep_mk, show ((dl.length : Int) + 3).toNat = dl.length + 3 by omega]⟩
      case round =>
        obtain ⟨q, b, g, hq1, hq2, hbs, rfl, rfl, rfl, hg, hb⟩ := hrel
        by_cases hlt2 : q < ee
        · have hqe : (q : Int) < (ee : Int) := by omega
          have hlen := marksTo_len (dl.length + 3) st a e (q + 1) (by omega) (by omega)
          by_cases c1 : a ≤ q
          · have c1' : (a : Int) ≤ (q : Int) := by omega
            by_cases c2 : q < e
            · have c2' : (q : Int) < (e : Int) := by omega
              have HB : Hid (marksTo (dl.length + 3) st a e (q + 1) = marksTo (dl.length + 3) st a e q ++ [94]) := marksTo_hit _ _ _ _ _ hq1 c1 c2
              go_wp2_with (go_at_call 32; (with_reducible refine (hE _).mono ?_); rintro e' w6 ⟨rfl, rfl⟩)
              go_round
              case rel => exact ⟨q + 1, _, true, by omega, by omega, by rw [hb.out, mk_app _ [94], ← HB.out, size_mk]; omega, by go_num, rfl, rfl, by show _ = _; exact (decide_eq_true (by omega)).symm, by show _ = _; rw [hb.out, mk_app _ [94], HB.out]⟩
              case measure => simp [intOf]; omega
            · have c2' : (e : Int) ≤ (q : Int) := by omega
              have HB : Hid (marksTo (dl.length + 3) st a e (q + 1) = marksTo (dl.length + 3) st a e q) := marksTo_over _ _ _ _ _ hq1 c1 (by omega)
              go_wp2_with (go_at_call 32; (with_reducible refine (hE _).mono ?_); rintro e' w6 ⟨rfl, rfl⟩)
              go_round
              case rel => exact ⟨q + 1, b, g, by omega, by omega, hbs, by go_num, rfl, rfl, by show _ = _; rw [hg.out]; congr 1; simp; omega, by show _ = _; rw [HB.out]; exact hb.out⟩
              case measure => simp [intOf]; omega
          · have c1' : (q : Int) < (a : Int) := by omega
            have HB : Hid (marksTo (dl.length + 3) st a e (q + 1) = marksTo (dl.length + 3) st a e q ++ [32]) := marksTo_front _ _ _ _ _ hq1 (by omega)
            go_wp2_with (go_at_call 32; (with_reducible refine (hE _).mono ?_); rintro e' w6 ⟨rfl, rfl⟩)
            go_round
            case rel => exact ⟨q + 1, _, g, by omega, by omega, by rw [hb.out, mk_app _ [32], ← HB.out, size_mk]; omega, by go_num, rfl, rfl, by show _ = _; rw [hg.out]; congr 1; simp; omega, by show _ = _; rw [hb.out, mk_app _ [32], HB.out]⟩
            case measure => simp [intOf]; omega
        · obtain rfl : q = ee := by omega
          have hxs : (s.extract st q).size = q - st := by rw [extract_list, size_mk, List.length_take, List.length_drop]; have := bytes_len s; omega
          clear hlt2
          cases g with
          | true =>
            have HR2 : Hid (strV (List.replicate (dl.length + 3) 32 ++ marksL ((a : Int) - (st : Nat)) ((e : Int) - (st : Nat)) (q - st)) = .string b) := by
              show _ = _
              rw [marks_some st q a e hr1 (of_decide_eq_true hg.out.symm), hb.out]; rfl
            clear hg hb
            go_wp2_with (first
              | (go_at_call 32; (with_reducible refine (hE _).mono ?_); rintro e' w6 ⟨rfl, rfl⟩)
              | (at_builtin; refine wpList_append_own _ rfl (.tmp 117) (.tmp 127) 38 rfl w.heap.size 9 i0 (.string ByteArray.empty) 1 16 Tryd.underlying38 hi hz0 hz1 hz2 rfl (by decide) _ _ _ rfl (hO.alloc _) ⟨w3.heap.size, 0, none⟩ 2 2 [.string ((({ data := Array.replicate (dl.length - dk.length) 32 } : ByteArray) ++ ({ data := dk.toArray } : ByteArray) ++ ({ data := #[32, 124, 32] } : ByteArray)) ++ s.extract st q), .string b] rfl rfl (cell_two_new _ _ _ _) (by intro u hu; simp at hu; rcases hu with rfl | rfl <;> rfl) (by unfold maxLen; omega) (by omega) (by simp; have := hA.size; omega) ?_; intro v' w5 hown5 hgrow5 _))
            go_roundw
            case rel => exact ⟨k + 1, m + 2, by omega, by omega, by go_num, by show _ = _; have := hm.out; omega, by have := hm.out; omega, by rw [HS.out, List.map_append, List.map_cons, List.map_cons, List.map_nil, HR1.out, HR2.out]; exact hown5, (hA.alloc hA.size _).grown hgrow5 (by simp; have := hA.size; omega) (fun k h => own_ge hO h)⟩
            case measure => simp [intOf]; omega
          | false =>
            have hno : ¬ max st a < min q e := of_decide_eq_false hg.out.symm
            by_cases hkf : k = first
            · have hkf' : ((k : Int) == (first : Int)) = true := by rw [hkf]; simp
              have hcol := HF.out.1 hkf
              have HR2 : Hid (strV (List.replicate (dl.length + 3) 32 ++ marksL ((a : Int) - (st : Nat)) ((e : Int) - (st : Nat)) (q - st)) = .string (({ data := Array.replicate (dl.length + 2 + col) 32 } : ByteArray) ++ { data := #[94] })) := by
                show _ = _
                have hrp : List.replicate (dl.length + 2 + col) (32 : UInt8) = List.replicate (dl.length + 3) 32 ++ List.replicate (a - st) 32 := by rw [List.replicate_append_replicate]; congr 1; omega
                rw [marks_none st q a e hr1 hno, rep_mk, hrp, mk_app _ [94], List.append_assoc]; rfl
              clear hg hb hno hcol hkf
              go_wp2_with (first
                | (go_at_call 38; (with_reducible refine (blanks_any _ (by omega) _).mono ?_); rintro e' w4 ⟨rfl, rfl⟩)
                | (go_at_call 32; (with_reducible refine (hE _).mono ?_); rintro e' w6 ⟨rfl, rfl⟩)
                | (at_builtin; refine wpList_append_own _ rfl (.tmp 117) (.tmp 127) 38 rfl w.heap.size 9 i0 (.string ByteArray.empty) 1 16 Tryd.underlying38 hi hz0 hz1 hz2 rfl (by decide) _ _ _ rfl (hO.alloc _) ⟨w3.heap.size, 0, none⟩ 2 2 [.string ((({ data := Array.replicate (dl.length - dk.length) 32 } : ByteArray) ++ ({ data := dk.toArray } : ByteArray) ++ ({ data := #[32, 124, 32] } : ByteArray)) ++ s.extract st q), .string (({ data := Array.replicate (dl.length + 2 + col) 32 } : ByteArray) ++ ({ data := #[94] } : ByteArray))] rfl rfl (cell_two_new _ _ _ _) (by intro u hu; simp at hu; rcases hu with rfl | rfl <;> rfl) (by unfold maxLen; omega) (by omega) (by simp; have := hA.size; omega) ?_; intro v' w5 hown5 hgrow5 _))
              go_roundw
              case rel => exact ⟨k + 1, m + 2, by omega, by omega, by go_num, by show _ = _; have := hm.out; omega, by have := hm.out; omega, by rw [HS.out, List.map_append, List.map_cons, List.map_cons, List.map_nil, HR1.out, HR2.out]; exact hown5, (hA.alloc hA.size _).grown hgrow5 (by simp; have := hA.size; omega) (fun k h => own_ge hO h)⟩
              case measure => simp [intOf]; omega
            · have hkf' : ((k : Int) == (first : Int)) = false := by rw [beq_eq_false_iff_ne]; omega
              have hst := HF.out.2 (by omega)
              have HR2 : Hid (strV (List.replicate (dl.length + 3) 32 ++ marksL ((a : Int) - (st : Nat)) ((e : Int) - (st : Nat)) (q - st)) = .string (({ data := Array.replicate ((dl.length : Int) + 3).toNat 32 } : ByteArray) ++ { data := #[94] })) := by
                show _ = _
                rw [marks_none st q a e hr1 hno, rep_mk, mk_app _ [94], show ((dl.length : Int) + 3).toNat = dl.length + 3 by omega, show a - st = 0 by omega]; rfl
              clear hg hb hno hst hkf
              go_wp2_with (first
                | (go_at_call 38; (with_reducible refine (blanks_any _ (by omega) _).mono ?_); rintro e' w4 ⟨rfl, rfl⟩)
                | (go_at_call 32; (with_reducible refine (hE _).mono ?_); rintro e' w6 ⟨rfl, rfl⟩)
                | (at_builtin; refine wpList_append_own _ rfl (.tmp 117) (.tmp 127) 38 rfl w.heap.size 9 i0 (.string ByteArray.empty) 1 16 Tryd.underlying38 hi hz0 hz1 hz2 rfl (by decide) _ _ _ rfl (hO.alloc _) ⟨w3.heap.size, 0, none⟩ 2 2 [.string ((({ data := Array.replicate (dl.length - dk.length) 32 } : ByteArray) ++ ({ data := dk.toArray } : ByteArray) ++ ({ data := #[32, 124, 32] } : ByteArray)) ++ s.extract st q), .string (({ data := Array.replicate ((dl.length : Int) + 3).toNat 32 } : ByteArray) ++ ({ data := #[94] } : ByteArray))] rfl rfl (cell_two_new _ _ _ _) (by intro u hu; simp at hu; rcases hu with rfl | rfl <;> rfl) (by unfold maxLen; omega) (by omega) (by simp; have := hA.size; omega) ?_; intro v' w5 hown5 hgrow5 _))
              go_roundw
              case rel => exact ⟨k + 1, m + 2, by omega, by omega, by go_num, by show _ = _; have := hm.out; omega, by have := hm.out; omega, by rw [HS.out, List.map_append, List.map_cons, List.map_cons, List.map_nil, HR1.out, HR2.out]; exact hown5, (hA.alloc hA.size _).grown hgrow5 (by simp; have := hA.size; omega) (fun k h => own_ge hO h)⟩
              case measure => simp [intOf]; omega
    · obtain rfl : k = last + 1 := by omega
      clear hlt
      obtain ⟨hml2, hrow⟩ := row_of_owns hown
      go_wp2
      go_ret
      exact ⟨_, rfl, by rw [HE.out]; exact hrow, hnx⟩

end Go.Proofs.YtbcolkkhigdmcaaDoor
