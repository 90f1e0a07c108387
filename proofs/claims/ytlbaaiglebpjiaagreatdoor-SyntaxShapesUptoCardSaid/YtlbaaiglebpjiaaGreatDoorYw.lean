/-
  The reference: Texts.
-/
import Derived.Test.YtlbaaiglebpjiaaGreatDoorYv
import Derived.Test.YtlbaaiglebpjiaaGreatDoorYl
namespace Go.Proofs.YtlbaaiglebpjiaaGreatDoor
open Go.RowKit Go.Shelf Go.Lib

theorem txts_app (k : Int) (a b : List Tree) : txts k (a ++ b) = txts k a ++ txts k b := by unfold txts; rw [List.filter_append, List.map_append]

theorem ownsB {w w' : World} {base e size n : Nat} {v : Value} {xs : List Value} (h : w.ownsRow base e size v n xs) (hb : Below w.heap.size w w') : w'.ownsRow base e size v n xs := by
  refine ⟨h.1, ?_⟩
  rcases h.2 with h | ⟨g, cap, cur, h1, h2, h3, h4⟩
  · exact .inl h
  · exact .inr ⟨g, cap, cur, h1, h2, (hb.block g (Array.getElem?_eq_some_iff.1 h3).1).trans h3, h4⟩

theorem rowCells {w : World} {base e size n g c : Nat} {xs : List Value} (h : w.ownsRow base e size (.slice (some ⟨g, 0, none⟩) n c) n xs) : ∀ j u, xs[j]? = some u → w.cell? ((⟨g, 0, none⟩ : Addr).add j) = some u := h.cells (g := g) rfl

theorem strs_one (xs : List ByteArray) : ∀ u ∈ xs.map Value.string, u.oneCell' = true := by
  intro u hu
  obtain ⟨s, _, rfl⟩ := List.mem_map.1 hu
  rfl

theorem rowForm {w' : World} {base e size n : Nat} {v : Value} {xs : List Value} (h : w'.ownsRow base e size v n xs) (hv : v ≠ .slice none 0 0) :
    ∃ g c, v = .slice (some ⟨g, 0, none⟩) n c ∧ base ≤ g := by
  rcases h.2 with ⟨h1, _⟩ | ⟨g, c, cur, rfl, hb, _⟩
  · exact absurd h1 hv
  · exact ⟨g, c, rfl, hb⟩

set_option maxRecDepth 100000 in
set_option maxHeartbeats 12800000 in
theorem refTexts_any (kd : Int) (t : Tree) : ∀ (kv : Value) (w : World), KidsV w kv t.kids → t.count ≤ 4194304 →
    Calls Tryz.prog 35 #[nodeV t kv, .int .i64 kd] w fun e w' => ∃ g c, e = .returned (.slice (some ⟨g, 0, none⟩) (txts kd t.nodes).length c) ∧ Hid (w'.ownsRow (w.heap.size + 1) 9 1 (.slice (some ⟨g, 0, none⟩) (txts kd t.nodes).length c) (txts kd t.nodes).length ((txts kd t.nodes).map Value.string) ∧ Below w.heap.size w w') := by
  refine Tree.induct (P := fun t => ∀ (kv : Value) (w : World), KidsV w kv t.kids → t.count ≤ 4194304 →
    Calls Tryz.prog 35 #[nodeV t kv, .int .i64 kd] w fun e w' => ∃ g c, e = .returned (.slice (some ⟨g, 0, none⟩) (txts kd t.nodes).length c) ∧ Hid (w'.ownsRow (w.heap.size + 1) 9 1 (.slice (some ⟨g, 0, none⟩) (txts kd t.nodes).length c) (txts kd t.nodes).length ((txts kd t.nodes).map Value.string) ∧ Below w.heap.size w w')) (fun t ih => ?_) t
  intro kv w hk hct
  obtain ⟨i0, hi, hz0, hz1, hz2⟩ := info_parts infoStr
  obtain ⟨p, cap, g, o, rfl, hpp, hat⟩ := hk.open
  have HAT := hidden hat
  have HPP := hidden hpp
  have HC := hidden (Tree.count_eq t)
  have HCT := hidden hct
  have hlb : t.kids.length < 4194304 := by have := Tree.length_le_countL t.kids; have := Tree.count_eq t; omega
  clear hk hat hpp hct
  have hal : ∀ o, Below w.heap.size w (w.alloc o) := fun o => (Below.refl _ _).alloc (Nat.le_refl _) _
  have hal2 : ∀ o o', Below w.heap.size w ((w.alloc o).alloc o') := fun o o' => (hal o).alloc (by simp) _
  have htk : txts kd (t :: Tree.nodesL (t.kids.take 0)) = txts kd [t] := by rw [List.take_zero, Tree.nodesL]
  simp only [nodeV]
  by_cases hkk : t.kind = kd
  · have d1 : (t.kind == kd) = true := by rw [hkk]; simp
    have hone : txts kd [t] = [t.text] := by have := txts_yes (s := []) hkk; rw [List.nil_append] at this; rw [this]; rfl
    have HS := hidden (htk.trans hone)
    have hown0 : ((w.alloc (.cells #[.int .i64 t.kind, .string t.text, .int .i64 t.at_, .int .i64 t.end_, .slice p t.kids.length cap] 24)).alloc (.cells #[] 9)).ownsRow (w.heap.size + 1) 9 1 (.slice (some ⟨w.heap.size + 1, 0, none⟩) 0 0) 0 [] :=
      ⟨rfl, Or.inr ⟨w.heap.size + 1, 0, #[], rfl, by omega, by simpa using World.alloc_heap_new (w.alloc (.cells #[.int .i64 t.kind, .string t.text, .int .i64 t.at_, .int .i64 t.end_, .slice p t.kids.length cap] 24)) (.cells #[] 9), Nat.le_refl _, Nat.zero_le _, rfl, rfl⟩⟩
    clear hkk htk hone
    go_enter Tryz.func35, Tryz.ntmps35
    go_wp2_with (first | (at_builtin; refine wpList_append_own _ rfl (.tmp 12) (.tmp 15) 43 rfl (w.heap.size + 1) 9 i0 (.string ByteArray.empty) 1 16 Tryz.underlying43 hi hz0 hz1 hz2 rfl (by decide) _ _ _ rfl (hown0.alloc _) ⟨w.heap.size + 2, 0, none⟩ 1 1 [.string t.text] rfl rfl (by intro j u h; rcases j with _ | j <;> simp at h; subst h; simp [go_sem, Addr.add]) (by intro u hu; rw [List.mem_singleton.1 hu]; rfl) (by unfold maxLen; omega) (by omega) (by first | (simp; done) | (simp; omega)) ?_; intro v' w5 hown5 hgrow5 hnn; obtain ⟨g7, c7, rfl, hg7⟩ := rowForm hown5 (fun e => by have := (hnn.1 e).1; cases this)))
    have hb5 : Below w.heap.size w w5 := ((hal2 _ _).alloc (by first | (simp; done) | (simp; omega)) _).grown hgrow5 (by first | (simp; done) | (simp; omega)) (fun k h => by have := row_block hown0 k h; omega)
    have hbx : w5.cell? ⟨w.heap.size, 4, none⟩ = some (.slice p t.kids.length cap) := by
      refine (World.cell?_of_block (a := ⟨w.heap.size, 4, none⟩) (hgrow5.block w.heap.size (by simp; omega) (fun e => ?_))).trans ?_
      · have := row_block hown0 _ e.symm
        omega
      · simp [go_sem]
    have hz5 : w.heap.size + 1 ≤ w5.heap.size := by have h := hgrow5.size; simp at h; omega
    have hst : ∃ k g5 c5 : Nat, k ≤ t.kids.length ∧ Value.int .i64 0 = .int .i64 k ∧ Value.slice (some ⟨g7, 0, none⟩) 1 c7 = .slice (some ⟨g5, 0, none⟩) (txts kd (t :: Tree.nodesL (t.kids.take k))).length c5 ∧ Hid (w5.ownsRow (w.heap.size + 1) 9 1 (.slice (some ⟨g5, 0, none⟩) (txts kd (t :: Tree.nodesL (t.kids.take k))).length c5) (txts kd (t :: Tree.nodesL (t.kids.take k))).length ((txts kd (t :: Tree.nodesL (t.kids.take k))).map Value.string) ∧ w5.cell? ⟨w.heap.size, 4, none⟩ = some (.slice p t.kids.length cap) ∧ w.heap.size + 1 ≤ w5.heap.size ∧ Below w.heap.size w w5) :=
      ⟨0, g7, c7, Nat.zero_le _, rfl, by rw [HS.out]; rfl, by rw [HS.out]; exact ⟨hown5, hbx, hz5, hb5⟩⟩
    clear hown5 hgrow5 hnn hown0 hb5 hbx hz5 hg7 hal hal2 d1
    go_loopw [5, 6] (fun ov i wr => ∃ k g5 c5 : Nat, k ≤ t.kids.length ∧ i = .int .i64 k ∧ ov = .slice (some ⟨g5, 0, none⟩) (txts kd (t :: Tree.nodesL (t.kids.take k))).length c5 ∧ Hid (wr.ownsRow (w.heap.size + 1) 9 1 (.slice (some ⟨g5, 0, none⟩) (txts kd (t :: Tree.nodesL (t.kids.take k))).length c5) (txts kd (t :: Tree.nodesL (t.kids.take k))).length ((txts kd (t :: Tree.nodesL (t.kids.take k))).map Value.string) ∧ wr.cell? ⟨w.heap.size, 4, none⟩ = some (.slice p t.kids.length cap) ∧ w.heap.size + 1 ≤ wr.heap.size ∧ Below w.heap.size w wr)) (fun _ i _ => t.kids.length - (intOf i).toNat)
    case atStart => exact hst
    case round =>
      obtain ⟨k, g5, c5, hk, rfl, rfl, hh⟩ := hrel
      obtain ⟨hown, hb4', hz, hB⟩ := hh.out
      clear hh
      have hsl : (txts kd (t :: Tree.nodesL (t.kids.take k))).length ≤ 4194304 := by
        have h1 := txts_len kd (t :: Tree.nodesL (t.kids.take k)); have h2 := Tree.countL_take_le t.kids k; have h3 := HC.out; have h4 := HCT.out
        have h5 : (Tree.nodesL (t.kids.take k)).length = Tree.countL (t.kids.take k) := rfl
        rw [List.length_cons] at h1; omega
      by_cases hlt : k < t.kids.length
      · obtain ⟨x, hx⟩ : ∃ x, t.kids[k]? = some x := ⟨_, List.getElem?_eq_getElem hlt⟩
        obtain ⟨rfl, hg⟩ := HPP.out (fun h => by rw [h] at hlt; exact absurd hlt (Nat.not_lt_zero _))
        obtain ⟨kv', hn, hkv⟩ := HAT.out k x hx
        obtain ⟨p2, cap2, _, _, rfl, _, _⟩ := hkv.open
        obtain ⟨c0, c1, c2, c3, c4⟩ := hn.of_block (hB.block g hg)
        have hltz : (k : Int) < (t.kids.length : Int) := by omega
        have hcx : x.count ≤ 4194304 := by have := Tree.count_kid hx; have := HC.out; have := HCT.out; omega
        have hrec := ih x (List.mem_of_getElem? hx) _ wr (hkv.later hB) hcx
        simp only [nodeV] at hrec
        have HT : Hid (txts kd (t :: Tree.nodesL (t.kids.take (k + 1))) = txts kd (t :: Tree.nodesL (t.kids.take k)) ++ txts kd x.nodes) := by show _ = _; rw [Tree.nodesL_take hx, ← List.cons_append, txts_app]
        have hxl : (txts kd x.nodes).length ≤ 4194304 := Nat.le_trans (txts_len _ _) hcx
        generalize txts kd (t :: Tree.nodesL (t.kids.take k)) = s1 at *
        generalize txts kd x.nodes = sx at *
        have HOWN := hidden hown
        have HB := hidden hB
        have HB4 := hidden hb4'
        clear hn hkv hx ih hB hcx hown
        go_wp2_with (first | (go_at_call 35; (with_reducible refine hrec.mono ?_); rintro e w3 ⟨g6, c6, rfl, hh3⟩; have hown3 := ownsB HOWN.out hh3.out.2; have hcl := rowCells hh3.out.1; have hz3 := hh3.out.2.size; clear hb4') | (at_builtin; refine wpList_append_own _ rfl (.tmp 24) (.tmp 31) 43 rfl (w.heap.size + 1) 9 i0 (.string ByteArray.empty) 1 16 Tryz.underlying43 hi hz0 hz1 hz2 rfl (by decide) _ _ _ rfl hown3 ⟨g6, 0, none⟩ sx.length c6 (sx.map Value.string) rfl (by simp) hcl (strs_one _) (by unfold maxLen; omega) (by omega) (by omega) ?_; intro v' w5 hown5 hgrow5 hnn; obtain ⟨g7, c7, rfl, hg7⟩ := rowForm hown5 (fun e => by have := (hnn.1 e).1; cases this)))
        have HGR := hidden hgrow5
        clear hgrow5 hg7 hnn
        go_roundw
        case rel =>
          refine ⟨k + 1, g7, c7, by omega, by go_num, by rw [HT.out, List.length_append], ?_⟩
          rw [HT.out, List.length_append, List.map_append]
          have hb5 : Below w.heap.size w w5 := (bt HB.out hh3.out.2).grown HGR.out (by omega) (fun k h => by have := row_block HOWN.out k h; omega)
          refine ⟨hown5, ?_, by have := HGR.out.size; omega, hb5⟩
          refine (World.cell?_of_block (a := ⟨w.heap.size, 4, none⟩) (HGR.out.block w.heap.size (by omega) (fun e => ?_))).trans (cell_later HB4.out hh3.out.2)
          have := row_block HOWN.out _ e.symm
          omega
        case measure => simp [intOf]; omega
      · obtain rfl : k = t.kids.length := by omega
        rw [List.take_length, ← Tree.nodes_eq] at hown ⊢
        have HF := hidden hown
        have HB := hidden hB
        clear hown hB
        go_wp2_with fail
        go_ret
        exact ⟨g5, c5, rfl, HF.out, HB.out⟩
  · have d1 : (t.kind == kd) = false := by simp [hkk]
    have hone : txts kd [t] = [] := by have := txts_no (s := []) hkk; rw [List.nil_append] at this; rw [this]; rfl
    have HS := hidden (htk.trans hone)
    have hown0 : ((w.alloc (.cells #[.int .i64 t.kind, .string t.text, .int .i64 t.at_, .int .i64 t.end_, .slice p t.kids.length cap] 24)).alloc (.cells #[] 9)).ownsRow (w.heap.size + 1) 9 1 (.slice (some ⟨w.heap.size + 1, 0, none⟩) 0 0) 0 [] :=
      ⟨rfl, Or.inr ⟨w.heap.size + 1, 0, #[], rfl, by omega, by simpa using World.alloc_heap_new (w.alloc (.cells #[.int .i64 t.kind, .string t.text, .int .i64 t.at_, .int .i64 t.end_, .slice p t.kids.length cap] 24)) (.cells #[] 9), Nat.le_refl _, Nat.zero_le _, rfl, rfl⟩⟩
    clear hkk htk hone
    go_enter Tryz.func35, Tryz.ntmps35
    go_wp2_with fail
    obtain ⟨w5, hw5⟩ : ∃ w5, w5 = (w.alloc (.cells #[.int .i64 t.kind, .string t.text, .int .i64 t.at_, .int .i64 t.end_, .slice p t.kids.length cap] 24)).alloc (.cells #[] 9) := ⟨_, rfl⟩
    have hst : ∃ k g5 c5 : Nat, k ≤ t.kids.length ∧ Value.int .i64 0 = .int .i64 k ∧ Value.slice (some ⟨w.heap.size + 1, 0, none⟩) 0 0 = .slice (some ⟨g5, 0, none⟩) (txts kd (t :: Tree.nodesL (t.kids.take k))).length c5 ∧ Hid (w5.ownsRow (w.heap.size + 1) 9 1 (.slice (some ⟨g5, 0, none⟩) (txts kd (t :: Tree.nodesL (t.kids.take k))).length c5) (txts kd (t :: Tree.nodesL (t.kids.take k))).length ((txts kd (t :: Tree.nodesL (t.kids.take k))).map Value.string) ∧ w5.cell? ⟨w.heap.size, 4, none⟩ = some (.slice p t.kids.length cap) ∧ w.heap.size + 1 ≤ w5.heap.size ∧ Below w.heap.size w w5) :=
      ⟨0, w.heap.size + 1, 0, Nat.zero_le _, rfl, by rw [HS.out]; rfl, by rw [HS.out, hw5]; exact ⟨hown0, by simp [go_sem], by simp, hal2 _ _⟩⟩
    rw [← hw5]
    clear hw5 hown0 hal hal2 d1
    go_loopw [5, 6] (fun ov i wr => ∃ k g5 c5 : Nat, k ≤ t.kids.length ∧ i = .int .i64 k ∧ ov = .slice (some ⟨g5, 0, none⟩) (txts kd (t :: Tree.nodesL (t.kids.take k))).length c5 ∧ Hid (wr.ownsRow (w.heap.size + 1) 9 1 (.slice (some ⟨g5, 0, none⟩) (txts kd (t :: Tree.nodesL (t.kids.take k))).length c5) (txts kd (t :: Tree.nodesL (t.kids.take k))).length ((txts kd (t :: Tree.nodesL (t.kids.take k))).map Value.string) ∧ wr.cell? ⟨w.heap.size, 4, none⟩ = some (.slice p t.kids.length cap) ∧ w.heap.size + 1 ≤ wr.heap.size ∧ Below w.heap.size w wr)) (fun _ i _ => t.kids.length - (intOf i).toNat)
    case atStart => exact hst
    case round =>
      obtain ⟨k, g5, c5, hk, rfl, rfl, hh⟩ := hrel
      obtain ⟨hown, hb4', hz, hB⟩ := hh.out
      clear hh
      have hsl : (txts kd (t :: Tree.nodesL (t.kids.take k))).length ≤ 4194304 := by
        have h1 := txts_len kd (t :: Tree.nodesL (t.kids.take k)); have h2 := Tree.countL_take_le t.kids k; have h3 := HC.out; have h4 := HCT.out
        have h5 : (Tree.nodesL (t.kids.take k)).length = Tree.countL (t.kids.take k) := rfl
        rw [List.length_cons] at h1; omega
      by_cases hlt : k < t.kids.length
      · obtain ⟨x, hx⟩ : ∃ x, t.kids[k]? = some x := ⟨_, List.getElem?_eq_getElem hlt⟩
        obtain ⟨rfl, hg⟩ := HPP.out (fun h => by rw [h] at hlt; exact absurd hlt (Nat.not_lt_zero _))
        obtain ⟨kv', hn, hkv⟩ := HAT.out k x hx
        obtain ⟨p2, cap2, _, _, rfl, _, _⟩ := hkv.open
        obtain ⟨c0, c1, c2, c3, c4⟩ := hn.of_block (hB.block g hg)
        have hltz : (k : Int) < (t.kids.length : Int) := by omega
        have hcx : x.count ≤ 4194304 := by have := Tree.count_kid hx; have := HC.out; have := HCT.out; omega
        have hrec := ih x (List.mem_of_getElem? hx) _ wr (hkv.later hB) hcx
        simp only [nodeV] at hrec
        have HT : Hid (txts kd (t :: Tree.nodesL (t.kids.take (k + 1))) = txts kd (t :: Tree.nodesL (t.kids.take k)) ++ txts kd x.nodes) := by show _ = _; rw [Tree.nodesL_take hx, ← List.cons_append, txts_app]
        have hxl : (txts kd x.nodes).length ≤ 4194304 := Nat.le_trans (txts_len _ _) hcx
        generalize txts kd (t :: Tree.nodesL (t.kids.take k)) = s1 at *
        generalize txts kd x.nodes = sx at *
        have HOWN := hidden hown
        have HB := hidden hB
        have HB4 := hidden hb4'
        clear hn hkv hx ih hB hcx hown
        go_wp2_with (first | (go_at_call 35; (with_reducible refine hrec.mono ?_); rintro e w3 ⟨g6, c6, rfl, hh3⟩; have hown3 := ownsB HOWN.out hh3.out.2; have hcl := rowCells hh3.out.1; have hz3 := hh3.out.2.size; clear hb4') | (at_builtin; refine wpList_append_own _ rfl (.tmp 24) (.tmp 31) 43 rfl (w.heap.size + 1) 9 i0 (.string ByteArray.empty) 1 16 Tryz.underlying43 hi hz0 hz1 hz2 rfl (by decide) _ _ _ rfl hown3 ⟨g6, 0, none⟩ sx.length c6 (sx.map Value.string) rfl (by simp) hcl (strs_one _) (by unfold maxLen; omega) (by omega) (by omega) ?_; intro v' w5 hown5 hgrow5 hnn; obtain ⟨g7, c7, rfl, hg7⟩ := rowForm hown5 (fun e => by have := (hnn.1 e).1; cases this)))
        have HGR := hidden hgrow5
        clear hgrow5 hg7 hnn
        go_roundw
        case rel =>
          refine ⟨k + 1, g7, c7, by omega, by go_num, by rw [HT.out, List.length_append], ?_⟩
          rw [HT.out, List.length_append, List.map_append]
          have hb5 : Below w.heap.size w w5 := (bt HB.out hh3.out.2).grown HGR.out (by omega) (fun k h => by have := row_block HOWN.out k h; omega)
          refine ⟨hown5, ?_, by have := HGR.out.size; omega, hb5⟩
          refine (World.cell?_of_block (a := ⟨w.heap.size, 4, none⟩) (HGR.out.block w.heap.size (by omega) (fun e => ?_))).trans (cell_later HB4.out hh3.out.2)
          have := row_block HOWN.out _ e.symm
          omega
        case measure => simp [intOf]; omega
      · obtain rfl : k = t.kids.length := by omega
        rw [List.take_length, ← Tree.nodes_eq] at hown ⊢
        have HF := hidden hown
        have HB := hidden hB
        clear hown hB
        go_wp2_with fail
        go_ret
        exact ⟨g5, c5, rfl, HF.out, HB.out⟩

end Go.Proofs.YtlbaaiglebpjiaaGreatDoor
