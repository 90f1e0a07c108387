import Derived.Test.YtdcpfpifecnfmaaDoorSe
/-
  LexerSpaces: the walk.
-/
namespace Go.Proofs.YtdcpfpifecnfmaaDoor
open Go.RowKit Go.Shelf Go.Lib

set_option maxRecDepth 100000 in
set_option maxHeartbeats 3200000 in
theorem spaces_many (s : ByteArray) (hs : s.size ≤ 9223372036854775807) (v : Value) (len : Nat) (hv : ∃ p cap, v = .slice p len cap) (h : 200 < s.size ∨ 60 < (wordsB s).length) (w : World) :
    Calls Tryd.prog 5 #[.string s, v] w fun e w' => e = .returned (.bool true) ∧ Below w.heap.size w w' := by
  obtain ⟨p, cap, rfl⟩ := hv
  have haw := awake_any w
  by_cases h1 : 4096 < s.size
  · have h3 := fun w' => words_large s h1 hs w'
    have d1 : (200 : Int) < (s.size : Int) := by omega
    clear h h1
    go_enter Tryd.func5, Tryd.ntmps5
    go_wp2_with fail
    (with_reducible refine haw.mono ?_)
    rintro e w1 ⟨rfl, hB1⟩
    have HB1 := hidden hB1
    clear haw hB1
    go_wp2_with fail
    (with_reducible refine (h3 _).mono ?_)
    rintro e w2 ⟨rfl, rfl⟩
    clear h3
    go_wp2_with fail
    go_ret
    exact ⟨rfl, HB1.out⟩
  · have h3 := fun w' => words_any s (by omega) w'
    have hlw := wordsB_len s (by omega)
    unfold RowOf at h3
    generalize wordsB s = ws at *
    by_cases h2 : 200 < s.size
    · have d1 : (200 : Int) < (s.size : Int) := by omega
      clear h h1 h2
      go_enter Tryd.func5, Tryd.ntmps5
      go_wp2_with fail
      (with_reducible refine haw.mono ?_)
      rintro e w1 ⟨rfl, hB1⟩
      have HB1 := hidden hB1
      clear haw hB1
      go_wp2_with fail
      (with_reducible refine (h3 _).mono ?_)
      rintro e w2 ⟨v2, rfl, hr2, hB2⟩
      have HB2 := hidden (bt HB1.out hB2)
      clear h3 hr2 hB2 HB1
      go_wp2_with fail
      go_ret
      exact ⟨rfl, HB2.out⟩
    · have d1 : ¬ ((200 : Int) < (s.size : Int)) := by omega
      have d2 : (60 : Int) < (ws.length : Int) := by
        rcases h with h | h
        · exact absurd h h2
        · omega
      clear h h1 h2
      go_enter Tryd.func5, Tryd.ntmps5
      go_wp2_with fail
      (with_reducible refine haw.mono ?_)
      rintro e w1 ⟨rfl, hB1⟩
      have HB1 := hidden hB1
      clear haw hB1
      go_wp2_with fail
      (with_reducible refine (h3 _).mono ?_)
      rintro e w2 ⟨v2, rfl, hr2, hB2⟩
      have HB2 := hidden (bt HB1.out hB2)
      obtain ⟨p2, c2, rfl⟩ : ∃ p2 c2, v2 = .slice p2 ws.length c2 := by
        rcases Strs.of_row hr2 with ⟨rfl, rfl⟩ | ⟨g, cap, rfl, _⟩
        · exact ⟨_, _, rfl⟩
        · exact ⟨_, _, rfl⟩
      clear h3 hr2 hB2 HB1
      go_wp2_with fail
      go_ret
      exact ⟨rfl, HB2.out⟩

set_option maxRecDepth 100000 in
set_option maxHeartbeats 6400000 in
theorem spaces_few (s : ByteArray) (hs : s.size ≤ 200) (hn : (wordsB s).length ≤ 60) (v : Value) (len : Nat) {w : World} (hv : BytesArg w v len) (hlen : len ≤ 9223372036854775807) (hA : AsciiAt w) :
    Calls Tryd.prog 5 #[.string s, v] w fun e w' => e = .returned (.bool true) ∧ Below w.heap.size w w' := by
  have haw := awake_any w
  obtain ⟨p, cap, rfl, hby⟩ := hv
  have HBY := hidden hby
  have h3 := fun w' => words_any s (by omega) w'
  have hsz := wordsB_size s
  have hgs := fun k => getD_size hsz k
  have hread := fun b h => SpacedTo.reads (s := s) (b := b) h
  have hnext := fun (b g : ByteArray) (k : Nat) (h : SpacedTo s k b) (hg : g.data.toList ∈ gaps) (hk : k < (wordsB s).length) => SpacedTo.next h hg hk
  have hbs := fun (b : ByteArray) (k : Nat) (h : SpacedTo s k b) => h.size
  have hst := SpacedTo.start s
  have htl := toksK_len s (by omega)
  have hsc2 := fun w' (h : Below w.heap.size w w') => scan_any s (by omega) w' (hA.keep h)
  have hscx := fun (x : ByteArray) (hx : x.size ≤ 4096) w' (h : Below w.heap.size w w') => scan_any x hx w' (hA.keep h)
  clear hA
  have hwdx := fun (x : ByteArray) (hx : x.size ≤ 4096) w' => words_any x hx w'
  have d1 : ¬ ((200 : Int) < (s.size : Int)) := by omega
  have d2 : ¬ ((60 : Int) < ((wordsB s).length : Int)) := by omega
  have HR := hidden hread
  have HX := hidden hnext
  have HS := hidden hbs
  have HSC := hidden hscx
  have HWD := hidden hwdx
  have HGS : Hid (∀ k, ((wordsB s).getD k ByteArray.empty).size ≤ 200) := fun k => Nat.le_trans (hgs k) hs
  unfold RowOf at h3
  unfold ToksOf at hsc2
  clear hread hnext hbs hscx hwdx hby hsz hgs
  go_enter Tryd.func5, Tryd.ntmps5
  go_wp2_with fail
  (with_reducible refine haw.mono ?_)
  rintro e w1 ⟨rfl, hB1⟩
  have HB1 := hidden hB1
  clear haw hB1
  go_wp2_with fail
  (with_reducible refine (h3 _).mono ?_)
  rintro e w2 ⟨v2, rfl, hr2, hB2⟩
  have HB2 := hidden (bt HB1.out hB2)
  have hs2 := Strs.of_row hr2
  obtain ⟨p2, c2, rfl, hp2⟩ : ∃ p2 c2, v2 = .slice p2 (wordsB s).length c2 ∧ (0 < (wordsB s).length → ∃ g, p2 = some ⟨g, 0, none⟩ ∧ g < w2.heap.size ∧ Hid (∀ k, k < (wordsB s).length → w2.cell? ⟨g, k, none⟩ = some (.string ((wordsB s).getD k ByteArray.empty)))) := by
    rcases hs2 with ⟨rfl, h0⟩ | ⟨g, cap, rfl, h2, h3⟩
    · exact ⟨none, 0, by rw [h0]; rfl, fun h => absurd h (by rw [h0]; simp)⟩
    · exact ⟨_, cap, rfl, fun _ => ⟨g, rfl, h2, fun k hk => by have := h3 k hk; rwa [Nat.zero_add] at this⟩⟩
  have HP := hidden hp2
  have HS2 := hidden (Strs.of_row hr2)
  clear h3 hr2 hB2 HB1 hs2 hp2
  go_wp2_with fail
  have hB3 : Below w2.heap.size w2 (w2.alloc (.cells (gapsB.map Value.string).toArray 9)) := (Below.refl _ _).alloc (Nat.le_refl _) _
  have hgl := Strs.lit w2 gapsB
  have hz3 : w2.heap.size < (w2.alloc (.cells (gapsB.map Value.string).toArray 9)).heap.size := by simp
  change Code.wp _ _ _ _ (w2.alloc (.cells (gapsB.map Value.string).toArray 9))
  generalize w2.alloc (.cells (gapsB.map Value.string).toArray 9) = w3 at *
  have HG : Hid (∀ j, j < 5 → w3.cell? ⟨w2.heap.size, j, none⟩ = some (.string (gapsB.getD j ByteArray.empty))) := by
    rcases hgl with ⟨h, _⟩ | ⟨g, cap, h, _, hc⟩
    · cases h
    · have hgw : g = w2.heap.size := by injection h with h1; injection h1 with h1; injection h1 with h1; exact h1.symm
      subst hgw
      exact fun j hj => by have := hc j hj; rwa [Nat.zero_add] at this
  have HB3 := hidden hB3
  clear hgl hB3
  obtain ⟨n, hnl⟩ : ∃ n, (wordsB s).length = n := ⟨_, rfl⟩
  rw [hnl] at HP hn d2
  have HNL := hidden hnl
  have HST := hidden hst
  clear hst
  go_loopw [7, 30] (fun sv i wr => ∃ (k : Nat) (b : ByteArray), k ≤ n ∧ b.size ≤ 740 ∧ i = .int .i64 k ∧ sv = .string b ∧ Hid (SpacedTo s k b ∧ Below w3.heap.size w3 wr)) (fun _ i _ => n - (intOf i).toNat)
  case atStart => exact ⟨0, ⟨#[]⟩, Nat.zero_le _, Nat.zero_le _, rfl, rfl, HST.out, Below.refl _ _⟩
  case round =>
    obtain ⟨k, b, hk, hb, rfl, rfl, hh⟩ := hrel
    by_cases hlt : k < n
    · obtain ⟨g, rfl, hg, hc⟩ := HP.out (by omega)
      have hB := hh.out.2
      have hz23 : w2.heap.size ≤ w3.heap.size := by omega
      have hword := (hB.cell (p := ⟨g, k, none⟩) (by show g < _; omega)).trans ((HB3.out.cell (p := ⟨g, k, none⟩) hg).trans (hc.out k hlt))
      have hxs := HGS.out k
      have hkn : (k : Int) < (n : Int) := by omega
      have hnx := fun (g : ByteArray) (hgg : g.data.toList ∈ gaps) => HX.out b g k hh.out.1 hgg (by rw [HNL.out]; exact hlt)
      obtain ⟨x, hx⟩ : ∃ x, (wordsB s).getD k ByteArray.empty = x := ⟨_, rfl⟩
      rw [hx] at hword hxs
      simp only [hx] at hnx
      clear hx hc
      by_cases hkl : k < len
      · obtain ⟨bb, o, c, rfl, hbb, hc255, hbyte⟩ := HBY.out k hkl
        have hwb := (hB.cell (p := ⟨bb, o + k, none⟩) (by have := HB2.out.size; show bb < _; omega)).trans ((HB3.out.cell (p := ⟨bb, o + k, none⟩) (by have := HB2.out.size; show bb < _; omega)).trans ((HB2.out.cell (p := ⟨bb, o + k, none⟩) hbb).trans hbyte))
        have hgc := (hB.cell (p := ⟨w2.heap.size, c % 5, none⟩) hz3).trans (HG.out (c % 5) (Nat.mod_lt _ (by decide)))
        obtain ⟨gm, gs⟩ := gapsB_get (c % 5) (Nat.mod_lt _ (by decide))
        have hn2 := hnx _ gm
        generalize gapsB.getD (c % 5) ByteArray.empty = gg at *
        have hnat : ((c : Int) % 5).toNat = c % 5 := by omega
        have h5a : (0 : Int) ≤ (c : Int) % 5 := by omega
        have h5b : (c : Int) % 5 < 5 := by omega
        have hkl' : (k : Int) < (len : Int) := by omega
        have HN := hidden hn2
        clear hnx hbyte hn2 gm
        go_wp2_with fail
        go_roundw
        case rel => exact ⟨k + 1, b ++ (gg ++ x), by omega, by have := HS.out _ _ HN.out; omega, by go_num, rfl, HN.out, hB⟩
        case measure => simp [intOf]; omega
      · have hgc := (hB.cell (p := ⟨w2.heap.size, 0, none⟩) hz3).trans (HG.out 0 (by decide))
        obtain ⟨gm, gs⟩ := gapsB_get 0 (by decide)
        have hn2 := hnx _ gm
        generalize gapsB.getD 0 ByteArray.empty = gg at *
        have hkl' : ¬ ((k : Int) < (len : Int)) := by omega
        have HN := hidden hn2
        clear hnx hn2 gm
        go_wp2_with fail
        go_roundw
        case rel => exact ⟨k + 1, b ++ (gg ++ x), by omega, by have := HS.out _ _ HN.out; omega, by go_num, rfl, HN.out, hB⟩
        case measure => simp [intOf]; omega
    · obtain rfl : k = n := by omega
      obtain ⟨r1, r2⟩ := HR.out b (by rw [HNL.out]; exact hh.out.1)
      have hws := fun w' => HWD.out b (by omega) w'
      have hsx := fun w' (h : Below w.heap.size w w') => HSC.out (b ++ ⟨#[35, 32, 101, 110, 100]⟩) (by rw [ByteArray.size_append]; show b.size + 5 ≤ _; omega) w' h
      rw [r1] at hws
      unfold RowOf at hws
      unfold ToksOf at hsx
      have hB3a := HB3.out.trans (hh.out.2.mono (by have := HB3.out.size; omega))
      have HS3 := hidden (HS2.out.below hB3a)
      have HB4 := hidden (bt HB2.out hB3a)
      have hne1 := toksK_ne s
      have hne2 := toksK_ne (b ++ ⟨#[35, 32, 101, 110, 100]⟩)
      have htl2 := toksK_len (b ++ ⟨#[35, 32, 101, 110, 100]⟩) (by rw [ByteArray.size_append]; show b.size + 5 ≤ _; omega)
      have HK := hidden r2
      have hwl : (wordsB s).length ≤ 60 := by rw [HNL.out]; omega
      generalize toksK (b ++ ⟨#[35, 32, 101, 110, 100]⟩) = ts at *
      generalize toksK s = us at *
      clear hlt r1 r2 hh
      go_wp2_with fail
      (with_reducible refine (hsx _ HB4.out).mono ?_)
      rintro e w4 ⟨v4, rfl, hr4, hB4⟩
      have HT4 := hidden (tokRow_of hr4 hne2)
      have HS4 := hidden (HS3.out.below hB4)
      have HB5 := hidden (bt HB4.out hB4)
      clear hsx hr4 hB4 HB4 HS3
      go_wp2_with fail
      (with_reducible refine (hsc2 _ HB5.out).mono ?_)
      rintro e w5 ⟨v5, rfl, hr5, hB5⟩
      have HT5 := hidden (tokRow_of hr5 hne1)
      have HT5a := hidden (HT4.out.below hB5)
      have HS5 := hidden (HS4.out.below hB5)
      have HB6 := hidden (bt HB5.out hB5)
      clear hsc2 hr5 hB5 HB5 HS4 HT4
      go_wp2_with fail
      (with_reducible refine (hws _).mono ?_)
      rintro e w6 ⟨v6, rfl, hr6, hB6⟩
      have hs6 := Strs.of_row hr6
      have hs5 := HS5.out.below hB6
      have he := equal_any hs6 hs5 (by omega) (by omega)
      rw [decide_eq_true rfl, HNL.out] at he
      have HT6 := hidden (And.intro (HT5a.out.below hB6) (HT5.out.below hB6))
      have HB7 := hidden (bt HB6.out hB6)
      clear hws hr6 hB6 HB6 HS5 HT5 HT5a hs6 hs5
      go_wp2_with fail
      (with_reducible refine he.mono ?_)
      rintro e w7 ⟨rfl, q, rfl⟩
      have hbq := below_drewN (Below.refl w6.heap.size w6) q
      have hef := equalFunc_any (HT6.out.1.below hbq) (HT6.out.2.below hbq) HK.out (by omega)
      have HB8 := hidden (bt HB7.out hbq)
      clear he HB7 HT6 hbq
      go_wp2_with fail
      (with_reducible refine hef.mono ?_)
      rintro e w8 ⟨rfl, hB8⟩
      have HB9 := hidden (bt HB8.out hB8)
      clear hef hB8 HB8
      go_wp2_with fail
      go_ret
      exact ⟨rfl, HB9.out⟩

theorem spaces_walk (s : ByteArray) (hs : s.size ≤ 9223372036854775807) (v : Value) (len : Nat) {w : World} (hv : BytesArg w v len) (hlen : len ≤ 9223372036854775807) (hA : AsciiAt w) :
    Calls Tryd.prog 5 #[.string s, v] w fun e w' => e = .returned (.bool true) ∧ Below w.heap.size w w' := by
  by_cases h : 200 < s.size ∨ 60 < (wordsB s).length
  · obtain ⟨p, cap, h1, _⟩ := hv
    exact spaces_many s hs v len ⟨p, cap, h1⟩ h w
  · exact spaces_few s (by omega) (by omega) v len hv hlen hA

end Go.Proofs.YtdcpfpifecnfmaaDoor
