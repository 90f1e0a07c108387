import Derived.Test.YtbcolkkhigdmcaaDoorTn
namespace Go.Proofs.YtbcolkkhigdmcaaDoor
open Go.RowKit Go.Shelf Go.Lib

def contsTo (l : List UInt8) (k : Nat) : List (List UInt8) := (List.range k).map fun i : Nat => contentL l (feedsOf l) ((i : Int) + 1)
theorem contsTo_succ (l : List UInt8) (k : Nat) : contsTo l (k + 1) = contsTo l k ++ [contentL l (feedsOf l) ((k : Int) + 1)] := by
  unfold contsTo; rw [List.range_succ, List.map_append]; rfl
theorem contsTo_len (l : List UInt8) (k : Nat) : (contsTo l k).length = k := by unfold contsTo; simp

theorem content_plain (l : List UInt8) (h13 : ∀ i, l.getD i 0 ≠ 13) (m : Nat) (hm : m ≤ (feedsOf l).length) :
    contentL l (feedsOf l) ((m : Int) + 1) = (l.drop (startN (feedsOf l) l.length (m + 1))).take (endN (feedsOf l) l.length (m + 1) - startN (feedsOf l) l.length (m + 1)) := by
  rw [content_ref l m hm]
  unfold refEnd
  rw [if_neg fun h => h13 _ h.2.2]

theorem join_snoc (xs : List (List UInt8)) (y sep : List UInt8) (h : xs ≠ []) : Lib.join (xs ++ [y]) sep = Lib.join xs sep ++ (sep ++ y) := by
  cases xs with
  | nil => exact absurd rfl h
  | cons x r => rw [List.cons_append, Lib.join_cons, Lib.join_cons]; unfold Lib.joinTail; simp [List.append_assoc]

theorem joined (l : List UInt8) (h13 : ∀ i, l.getD i 0 ≠ 13) (m : Nat) (hm : m ≤ (feedsOf l).length) : Lib.join (contsTo l (m + 1)) [10] = l.take (endN (feedsOf l) l.length (m + 1)) := by
  induction m with
  | zero =>
    rw [contsTo_succ, content_plain l h13 0 hm, show contsTo l 0 = [] from rfl, List.nil_append, Lib.join_one]
    rfl
  | succ m ih =>
    rw [contsTo_succ, join_snoc _ _ _ (by intro e; have := contsTo_len l (m + 1); rw [e] at this; simp at this), ih (by omega), content_plain l h13 (m + 1) hm]
    have h1 := (line_end l m).1 (by omega)
    have h2 : startN (feedsOf l) l.length (m + 1 + 1) = endN (feedsOf l) l.length (m + 1) + 1 := by unfold startN; rw [if_neg (by omega)]; rfl
    have h3 := start_le_end (feedsOf_sorted l) (feedsOf_lt l) (m + 1 + 1) (by omega) (by omega)
    rw [h2] at h3 ⊢
    generalize endN (feedsOf l) l.length (m + 1) = e1 at *
    generalize endN (feedsOf l) l.length (m + 1 + 1) = e2 at *
    have hd : l.drop e1 = 10 :: l.drop (e1 + 1) := by
      rw [List.drop_eq_getElem_cons h1.1]
      congr 1
      have := h1.2
      rwa [List.getD_eq_getElem?_getD, List.getElem?_eq_getElem h1.1] at this
    rw [show e2 = e1 + (1 + (e2 - (e1 + 1))) by omega, List.take_add, hd, show e1 + (1 + (e2 - (e1 + 1))) - (e1 + 1) = e2 - (e1 + 1) by omega, Nat.add_comm 1, List.take_succ_cons]
    rfl

theorem own_ge {w : World} {base e size n : Nat} {v : Value} {xs : List Value} (h : w.ownsRow base e size v n xs) {k : Nat} (hk : v.ownBlock = some k) : base ≤ k := by
  obtain ⟨_, ⟨rfl, _⟩ | ⟨g, _, _, rfl, hg, _⟩⟩ := h
  · cases hk
  · cases hk; exact hg

theorem join_any {w : World} {base e m : Nat} {v : Value} {xs : List (List UInt8)} (h : w.ownsRow base e 1 v m (xs.map strV)) (hm : 1 ≤ m) (hm2 : m ≤ 100000) (c : UInt8) (hl : (Lib.join xs [c]).length ≤ 100000) :
    Calls Tryd.prog 24 #[v, .string ⟨#[c]⟩] w fun e w' => e = .returned (.string ⟨(Lib.join xs [c]).toArray⟩) ∧ Below w.heap.size w w' := by
  have hlen : xs.length = m := by have := h.1; simpa using this
  have h0 := h
  obtain ⟨_, ⟨_, h0⟩ | ⟨g, cap, cur, rfl, hg, hb, hmc, hcap, _⟩⟩ := h
  · omega
  · have hxs : (xs.map fun x => (ByteArray.mk x.toArray)).map (·.data.toList) = xs := by rw [List.map_map]; exact (List.map_congr_left (fun a _ => rfl)).trans (List.map_id xs)
    have hj := Tryd.strings_Join g 0 cap (xs.map fun x => ⟨x.toArray⟩) ⟨#[c]⟩ w
      (fun j x hx => by
        rw [List.getElem?_map] at hx
        obtain ⟨y, hy, rfl⟩ := Option.map_eq_some_iff.1 hx
        obtain ⟨hj, rfl⟩ := List.getElem?_eq_some_iff.1 hy
        rw [Nat.zero_add, h0.cellAt j (by omega), List.getElem?_map, hy]; rfl)
      (Array.getElem?_eq_some_iff.1 hb).1 (by simp; omega) (by simp; omega) (by rw [hxs]; show (Lib.join xs [c]).length ≤ _; omega)
    rw [hxs, List.length_map, hlen] at hj
    exact hj

set_option maxHeartbeats 1600000 in
theorem joins_walk (s : ByteArray) (line : Int) (hs : s.size ≤ 9223372036854775807) {w : World} (ht : Tab w) :
    Calls Tryd.prog 8 #[.string s, .int .i64 line] w fun e w' => e = .returned (.bool true) ∧ Below w.heap.size w w' := by
  have haw := awake_any ht
  have hcr := fun w' => same (Tryd.strings_Contains_one s 13 w')
  by_cases hl : (200 : Int) < (s.size : Int)
  · go_enter Tryd.func8, Tryd.ntmps8
    go_wp2_with (go_at_call 10; (with_reducible refine haw.mono ?_); rintro e w1 ⟨rfl, hB1⟩)
    go_ret
    exact ⟨rfl, hB1⟩
  · have hsm : s.size ≤ 1000 := by omega
    have hl' : (s.size : Int) ≤ 200 := by omega
    clear hl hs
    by_cases h13 : 0 ≤ Lib.indexByte s.data.toList 13
    · rw [decide_eq_true h13] at hcr
      clear h13
      go_enter Tryd.func8, Tryd.ntmps8
      go_wp2_with (first | (go_at_call 10; (with_reducible refine haw.mono ?_); rintro e w1 ⟨rfl, hB1⟩) | (go_at_call 23; (with_reducible refine (hcr _).mono ?_); rintro e w2 ⟨rfl, rfl⟩))
      go_ret
      exact ⟨rfl, hB1⟩
    · rw [decide_eq_false h13] at hcr
      obtain ⟨i0, hi, hz0, hz1, hz2⟩ := info_parts info9
      have hnew := fun w' => new_any s w' hsm
      have hno : ∀ i, s.data.toList.getD i 0 ≠ 13 := fun i e => by
        have h1 : Lib.indexByte s.data.toList 13 = -1 := by have := Lib.indexByte_ge s.data.toList 13; omega
        have h2 := Lib.indexByte_none h1 i
        rw [List.getD_eq_getElem?_getD] at e
        cases h3 : s.data.toList[i]? with
        | none => rw [h3] at e; simp at e
        | some x => rw [h3] at e h2; simp at e; subst e; exact h2 rfl
      have hj := joined s.data.toList hno (feedsOf s.data.toList).length (Nat.le_refl _)
      rw [(line_end s.data.toList (feedsOf s.data.toList).length).2 (Nat.le_refl _), List.take_length] at hj
      have hfl := feedsOf_le s.data.toList
      rw [bytes_len] at hfl
      have HJ : Hid (Lib.join (contsTo s.data.toList ((feedsOf s.data.toList).length + 1)) [10] = s.data.toList) := hj
      have hbad : ¬ (1 ≤ line ∧ line ≤ (feedsOf s.data.toList).length + 1) → contentL s.data.toList (feedsOf s.data.toList) line = [] := fun h => by unfold contentL; rw [if_neg h]
      have HBAD : Hid (¬ (1 ≤ line ∧ line ≤ (feedsOf s.data.toList).length + 1) → contentL s.data.toList (feedsOf s.data.toList) line = []) := hbad
      clear hj hno h13 hbad
      go_enter Tryd.func8, Tryd.ntmps8
      go_wp2_with (first
        | (go_at_call 10; (with_reducible refine haw.mono ?_); rintro e w1 ⟨rfl, hB1⟩)
        | (go_at_call 23; (with_reducible refine (hcr _).mono ?_); rintro e w2 ⟨rfl, rfl⟩)
        | (go_at_call 11; (with_reducible refine (hnew _).mono ?_); rintro e w2 ⟨b, rfl, hI0, hB2⟩; have hli := lines_any hI0)
        | (go_at_call 16; (with_reducible refine hli.mono ?_); rintro e w3 ⟨rfl, rfl⟩))
      have hB := bt hB1 hB2
      have HI : Hid (Idx w2 b s (feedsOf s.data.toList)) := hI0
      clear hI0 hli hB1 hB2 haw hnew hcr
      generalize hn : (feedsOf s.data.toList).length = n at *
      have HN : Hid ((feedsOf s.data.toList).length = n) := hn
      clear hn
      go_loopw [6, 32] (fun out i wr => ∃ k : Nat, k ≤ n + 1 ∧ i = .int .i64 k ∧ wr.ownsRow w2.heap.size 9 1 out k ((contsTo s.data.toList k).map strV) ∧ Below w2.heap.size w2 wr) (fun _ i _ => n + 1 - (intOf i).toNat)
      case atStart => exact ⟨0, Nat.zero_le _, rfl, ⟨rfl, Or.inl ⟨rfl, rfl⟩⟩, Below.refl _ _⟩
      case round =>
        obtain ⟨k, hk, rfl, hown, hnx⟩ := hrel
        have hwz : w.heap.size ≤ w2.heap.size := hB.size
        have hwr := hnx.size
        by_cases hlt : k < n + 1
        · have hc := content_any (HI.out.below hnx) ((k : Int) + 1)
          have hcl := content_len s.data.toList (feedsOf s.data.toList) ((k : Int) + 1)
          rw [bytes_len] at hcl
          have HS : Hid (contsTo s.data.toList (k + 1) = contsTo s.data.toList k ++ [contentL s.data.toList (feedsOf s.data.toList) ((k : Int) + 1)]) := contsTo_succ _ _
          generalize contentL s.data.toList (feedsOf s.data.toList) ((k : Int) + 1) = ct at *
          go_wp2_with (first
            | (go_at_call 18; (with_reducible refine hc.mono ?_); rintro e w3 ⟨rfl, q, hq⟩; have hB3 : Below wr.heap.size wr w3 := by rw [hq]; exact bq _ q
               clear hq; have hO := owns_below hown hB3; have hz3 := hB3.size)
            | (at_builtin; refine wpList_append_own _ rfl (.tmp 35) (.tmp 40) 38 rfl w2.heap.size 9 i0 (.string ByteArray.empty) 1 16 Tryd.underlying38 hi hz0 hz1 hz2 rfl (by decide) _ _ _ rfl (hO.alloc _) ⟨w3.heap.size, 0, none⟩ 1 1 [.string ⟨ct.toArray⟩] rfl rfl (cell_one_new _ _ _) (by intro u hu; simp at hu; subst hu; rfl) (by unfold maxLen; omega) (by omega) (by simp; omega) ?_; intro v' w5 hown5 hgrow5 _))
          go_roundw
          case rel => exact ⟨k + 1, by omega, by go_num, by rw [HS.out, List.map_append]; exact hown5, ((bt hnx hB3).alloc (by omega) _).grown hgrow5 (by simp; omega) (fun k h => own_ge hO h)⟩
          case measure => simp [intOf]; omega
        · obtain rfl : k = n + 1 := by omega
          clear hlt
          have hlen : (Lib.join (contsTo s.data.toList (n + 1)) [10]).length ≤ 100000 := by rw [HJ.out, bytes_len]; omega
          have hj := join_any hown (by omega) (by omega) 10 hlen
          rw [HJ.out, Lib.mk_data] at hj
          have hli := fun w' hb => lines_any (HI.out.below (hnx.trans (hb : Below w2.heap.size wr w')))
          rw [HN.out] at hli
          have hco := fun w' hb => content_any (HI.out.below (hnx.trans (hb : Below w2.heap.size wr w'))) line
          clear hlen hown
          by_cases h1 : 1 ≤ line
          · by_cases h2 : line ≤ (n : Int) + 1
            · clear hco
              go_wp2_with (first
                | (go_at_call 24; (with_reducible refine hj.mono ?_); rintro e w3 ⟨rfl, hB3⟩)
                | (go_at_call 16; (with_reducible refine (hli _ (hB3.mono hwr)).mono ?_); rintro e w4 ⟨rfl, rfl⟩))
              go_ret
              exact ⟨rfl, hB.trans ((bt hnx hB3).mono hB.size)⟩
            · rw [HBAD.out (fun h => h2 h.2)] at hco
              have h2' : (n : Int) + 1 < line := by omega
              clear h2
              go_wp2_with (first
                | (go_at_call 24; (with_reducible refine hj.mono ?_); rintro e w3 ⟨rfl, hB3⟩)
                | (go_at_call 16; (with_reducible refine (hli _ (hB3.mono hwr)).mono ?_); rintro e w4 ⟨rfl, rfl⟩)
                | (go_at_call 18; (with_reducible refine (hco _ (hB3.mono hwr)).mono ?_); rintro e w4 ⟨rfl, q, rfl⟩))
              go_ret
              exact ⟨rfl, hB.trans ((bt (bt hnx hB3) (bq _ q)).mono hB.size)⟩
          · rw [HBAD.out (fun h => h1 h.1)] at hco
            have h1' : line < 1 := by omega
            clear h1
            go_wp2_with (first
              | (go_at_call 24; (with_reducible refine hj.mono ?_); rintro e w3 ⟨rfl, hB3⟩)
              | (go_at_call 18; (with_reducible refine (hco _ (hB3.mono hwr)).mono ?_); rintro e w4 ⟨rfl, q, rfl⟩))
            go_ret
            exact ⟨rfl, hB.trans ((bt (bt hnx hB3) (bq _ q)).mono hB.size)⟩

end Go.Proofs.YtbcolkkhigdmcaaDoor
