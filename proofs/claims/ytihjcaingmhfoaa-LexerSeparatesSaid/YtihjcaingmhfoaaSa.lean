import Derived.Test.YtihjcaingmhfoaaPc
import Derived.Test.YtihjcaingmhfoaaMp
import Derived.Deep.RegionHeld3
/-
  A slice that reads as tokens; LexerLongest.
-/
namespace Go.Proofs.Ytihjcaingmhfoaa
open Go.RowKit Go.Shelf Go.Lib

/-- A token lies at a place. -/
structure TokAt (w : World) (g o : Nat) (t : Tok) : Prop where
  c0 : w.cell? ⟨g, o, none⟩ = some (.int .i64 t.kind)
  c1 : w.cell? ⟨g, o + 1, none⟩ = some (.int .i64 t.from_)
  c2 : w.cell? ⟨g, o + 2, none⟩ = some (.int .i64 t.at_)
  c3 : w.cell? ⟨g, o + 3, none⟩ = some (.int .i64 t.end_)

theorem TokAt.below {w w' : World} {g o B : Nat} {t : Tok} (h : TokAt w g o t) (hb : Below B w w') (hg : g < B) : TokAt w' g o t :=
  ⟨(hb.cell (p := ⟨g, o, none⟩) hg).trans h.c0, (hb.cell (p := ⟨g, o + 1, none⟩) hg).trans h.c1, (hb.cell (p := ⟨g, o + 2, none⟩) hg).trans h.c2, (hb.cell (p := ⟨g, o + 3, none⟩) hg).trans h.c3⟩

/-- A slice value that holds tokens (at least one). -/
def TokRow (w : World) (v : Value) (ts : List Tok) : Prop :=
  ∃ g cap, v = .slice (some ⟨g, 0, none⟩) ts.length cap ∧ g < w.heap.size ∧ ∀ i t, ts[i]? = some t → TokAt w g (i * 4) t

theorem toksC_get : ∀ (ts : List Tok) (i : Nat) (t : Tok) (j : Nat), ts[i]? = some t → j < 4 → (toksC ts)[i * 4 + j]? = (tokC t)[j]?
  | [], i, t, j, h, _ => by simp at h
  | x :: ts, 0, t, j, h, hj => by
    simp at h; subst h
    show ((tokC x) ++ toksC ts)[0 * 4 + j]? = _
    rw [Nat.zero_mul, Nat.zero_add, List.getElem?_append_left (by simpa [tokC] using hj)]
  | x :: ts, i + 1, t, j, h, hj => by
    have ih := toksC_get ts i t j (by simpa using h) hj
    show ((tokC x) ++ toksC ts)[(i + 1) * 4 + j]? = _
    rw [List.getElem?_append_right (by simp [tokC]; omega), ← ih]
    congr 1
    simp [tokC]; omega

theorem tokRow_of {w : World} {b : Nat} {e : TypeId} {v : Value} {ts : List Tok} (h : w.ownsRow b e 4 v ts.length (toksC ts)) (h0 : ts ≠ []) : TokRow w v ts := by
  have hc := fun g hg => h.cells (g := g) hg
  rcases h.2 with ⟨_, h1⟩ | ⟨g, cap, cur, rfl, h2, h3, _⟩
  · exact absurd (List.length_eq_zero_iff.1 h1) h0
  · refine ⟨g, cap, rfl, (Array.getElem?_eq_some_iff.1 h3).1, fun i t ht => ?_⟩
    have hh := fun j hj u hu => hc g rfl (i * 4 + j) u ((toksC_get ts i t j ht hj).trans hu)
    have e : ∀ n, ((⟨g, 0, none⟩ : Addr).add n) = ⟨g, n, none⟩ := fun n => by simp [Addr.add]; omega
    simp only [e] at hh
    exact ⟨hh 0 (by omega) _ rfl, hh 1 (by omega) _ rfl, hh 2 (by omega) _ rfl, hh 3 (by omega) _ rfl⟩

theorem TokRow.below {w w' : World} {v : Value} {ts : List Tok} (h : TokRow w v ts) (hb : Below w.heap.size w w') : TokRow w' v ts := by
  obtain ⟨g, cap, h1, h2, h3⟩ := h
  exact ⟨g, cap, h1, Nat.lt_of_lt_of_le h2 hb.size, fun i t ht => (h3 i t ht).below hb h2⟩

theorem toksK_ne (s : ByteArray) : toksK s ≠ [] := by
  unfold toksK toks
  rw [toksF]
  simp

theorem toksK_get (s : ByteArray) (i : Nat) (h : i < (toksK s).length) : ∃ t ∈ toks s.data.toList, (toksK s)[i]? = some (kwT s t) := by
  unfold toksK at h ⊢
  rw [List.length_map] at h
  exact ⟨_, List.getElem_mem h, by rw [List.getElem?_map, List.getElem?_eq_getElem h]; rfl⟩

theorem longKeep {A w' w'' : World} {X : Nat} {a b c : Int} (h : w'.cell? ⟨X, 0, none⟩ = some (.int .i64 a) ∧ w'.cell? ⟨X, 2, none⟩ = some (.int .i64 b) ∧ w'.cell? ⟨X, 3, none⟩ = some (.int .i64 c) ∧ X < w'.heap.size ∧ Hid (Below A.heap.size A w')) (hb : Below w'.heap.size w' w'') :
    w''.cell? ⟨X, 0, none⟩ = some (.int .i64 a) ∧ w''.cell? ⟨X, 2, none⟩ = some (.int .i64 b) ∧ w''.cell? ⟨X, 3, none⟩ = some (.int .i64 c) ∧ X < w''.heap.size ∧ Hid (Below A.heap.size A w'') :=
  ⟨(hb.cell (p := ⟨X, 0, none⟩) h.2.2.2.1).trans h.1, (hb.cell (p := ⟨X, 2, none⟩) h.2.2.2.1).trans h.2.1, (hb.cell (p := ⟨X, 3, none⟩) h.2.2.2.1).trans h.2.2.1, Nat.lt_of_lt_of_le h.2.2.2.1 hb.size, bt h.2.2.2.2.out hb⟩

set_option maxRecDepth 100000 in
set_option maxHeartbeats 3200000 in
theorem longest_walk (s : ByteArray) (hs : s.size ≤ 9223372036854775807) (w : World) :
    Calls Try.prog 8 #[.string s] w fun e w' => e = .returned (.bool true) ∧ Below w.heap.size w w' := by
  have haw := awake_any w
  by_cases hl : (200 : Int) < (s.size : Int)
  · go_enter Try.func8, Try.ntmps8
    go_wp2_with fail
    (with_reducible refine haw.mono ?_)
    rintro e w1 ⟨rfl, hB1⟩
    have HB1 := hidden hB1
    clear haw hB1
    go_wp2_with fail
    go_ret
    exact ⟨rfl, HB1.out⟩
  · have hsm : s.size ≤ 200 := by omega
    have hsc := fun w' => scan_any s (by omega) w'
    have hki := fun (x : ByteArray) (hx : x.size ≤ 1000) w' => kind_any x hx w'
    have HK := hidden hki
    clear hki
    go_enter Try.func8, Try.ntmps8
    go_wp2_with fail
    (with_reducible refine haw.mono ?_)
    rintro e w1 ⟨rfl, hB1⟩
    have HB1 := hidden hB1
    clear haw hB1
    go_wp2_with fail
    (with_reducible refine (hsc _).mono ?_)
    rintro e w2 ⟨v, rfl, hr, hB2⟩
    obtain ⟨g, cap, rfl, hg, hat⟩ := tokRow_of hr (toksK_ne s)
    have HB2 := hidden (bt HB1.out hB2)
    have HA := hidden hat
    have hlen := toksK_len s (by omega)
    have hget := toksK_get s
    generalize hn : (toksK s).length = n at *
    have HG := hidden hget
    clear hr hB2 hat hsc hn hget HB1
    go_wp2_with fail
    go_loopw [20] (fun i wr => ∃ k : Nat, k ≤ n ∧ i = .int .i64 k ∧ Hid (Below w2.heap.size w2 wr)) (fun i _ => n - (intOf i).toNat)
    case atStart => exact ⟨0, Nat.zero_le _, rfl, Below.refl _ _⟩
    case round =>
      obtain ⟨k, hk, rfl, hb⟩ := hrel
      by_cases hlt : k < n
      · obtain ⟨t, ht, he⟩ := HG.out k hlt
        have hp := fun h0 => tok_parts s.data.toList t ht h0
        have hm := toks_mem s.data.toList t ht
        have hk1 := fun h0 => kind_tok s t ht h0
        have hk2 := kind_longer s t ht
        rw [bytes_len] at hm
        obtain ⟨m1, m2, m3⟩ := hm
        have ha := (HA.out k _ he).below hb.out hg
        have x0 := ha.c0
        have x1 := ha.c1
        have x2 := ha.c2
        have x3 := ha.c3
        have hz := hb.out.size
        have q1 : (kwT s t).at_ = t.at_ := by unfold kwT; split <;> rfl
        have q2 : (kwT s t).end_ = t.end_ := by unfold kwT; split <;> rfl
        have q3 : (kwT s t).from_ = t.from_ := by unfold kwT; split <;> rfl
        have q0 : (t.kind = 0 → (kwT s t).kind = 0) ∧ (t.kind ≠ 0 → (kwT s t).kind ≠ 0) ∧ (t.kind = 5 → (kwT s t).kind = 5) ∧ (t.kind ≠ 5 → (kwT s t).kind ≠ 5) := by
          unfold kwT
          split
          · rename_i h; refine ⟨fun h' => ?_, fun _ => by simp, fun h' => ?_, fun _ => by simp⟩ <;> omega
          · exact ⟨id, id, id, id⟩
        rw [q1] at x2
        rw [q2] at x3
        rw [q3] at x1
        unfold wordOf at hk1
        generalize (kwT s t).kind = kd at *
        obtain ⟨i1, i2, i3, i4⟩ := q0
        clear ha he q1 q2 q3 ht
        by_cases h0 : t.kind = 0
        · have hkd := i1 h0
          have b0 : ((kd : Int) == 0) = true := by rw [hkd]; rfl
          clear hk1 hk2 i1 i2 i3 i4 h0 hkd hp
          go_wp2_with fail
          go_roundw
          case rel => exact ⟨k + 1, by omega, by go_num, hb.out.alloc hz _⟩
          case measure => simp [intOf]; omega
        · have hkd := i2 h0
          have b0 : ((kd : Int) == 0) = false := by rw [beq_eq_false_iff_ne]; omega
          have hp := hp h0
          have h12 : t.at_ < t.end_ := hp.1
          have hk1 := hk1 h0
          have HN : Hid (t.kind ≠ 5 → t.end_ < s.size → kindW (s.extract t.at_ (t.end_ + 1)) = 0) := hk2 h0
          have HI5 := hidden (And.intro i3 i4)
          have hka := fun w' => HK.out (s.extract t.at_ t.end_) (by rw [ByteArray.size_extract]; omega) w'
          rw [hk1] at hka
          clear hk1 hk2 i1 i2 i3 i4 h0 hkd hp
          have c1 : decide ((s.size : Int) < (t.end_ : Int)) = false := decide_eq_false (by omega)
          have c2 : decide ((t.end_ : Int) < (t.at_ : Int)) = false := decide_eq_false (by omega)
          have hbd := hidden (hb.out.alloc hz (.cells #[.int .i64 kd, .int .i64 t.from_, .int .i64 t.at_, .int .i64 t.end_] 36))
          have z1 : (wr.alloc (.cells #[.int .i64 kd, .int .i64 t.from_, .int .i64 t.at_, .int .i64 t.end_] 36)).cell? ⟨wr.heap.size, 0, none⟩ = some (.int .i64 kd) ∧ (wr.alloc (.cells #[.int .i64 kd, .int .i64 t.from_, .int .i64 t.at_, .int .i64 t.end_] 36)).cell? ⟨wr.heap.size, 2, none⟩ = some (.int .i64 t.at_) ∧
            (wr.alloc (.cells #[.int .i64 kd, .int .i64 t.from_, .int .i64 t.at_, .int .i64 t.end_] 36)).cell? ⟨wr.heap.size, 3, none⟩ = some (.int .i64 t.end_) ∧ wr.heap.size < (wr.alloc (.cells #[.int .i64 kd, .int .i64 t.from_, .int .i64 t.at_, .int .i64 t.end_] 36)).heap.size ∧ Hid (Below w2.heap.size w2 (wr.alloc (.cells #[.int .i64 kd, .int .i64 t.from_, .int .i64 t.at_, .int .i64 t.end_] 36))) :=
            ⟨by simp, by simp, by simp, by simp, hbd.out⟩
          go_wp2_with fail
          generalize (wr.alloc (.cells #[.int .i64 kd, .int .i64 t.from_, .int .i64 t.at_, .int .i64 t.end_] 36)) = A at *
          go_region_held3 (fun w' => w'.cell? ⟨wr.heap.size, 0, none⟩ = some (.int .i64 kd) ∧ w'.cell? ⟨wr.heap.size, 2, none⟩ = some (.int .i64 t.at_) ∧ w'.cell? ⟨wr.heap.size, 3, none⟩ = some (.int .i64 t.end_) ∧ wr.heap.size < w'.heap.size ∧ Hid (Below w2.heap.size w2 w'))
            (first | assumption | (exact longKeep (by assumption) (by assumption)) | (exact longKeep z1 ⟨rfl, rfl, rfl, Nat.le_refl _, fun _ _ => rfl⟩))
            (first | (go_at_call 23; (with_reducible refine (hka _).mono ?_); rintro e w4 ⟨rfl, hB4⟩))
          obtain ⟨z4, z5, z6, z7, z8⟩ : w4.cell? ⟨wr.heap.size, 0, none⟩ = some (.int .i64 kd) ∧ w4.cell? ⟨wr.heap.size, 2, none⟩ = some (.int .i64 t.at_) ∧ w4.cell? ⟨wr.heap.size, 3, none⟩ = some (.int .i64 t.end_) ∧ wr.heap.size < w4.heap.size ∧ Hid (Below w2.heap.size w2 w4) := by assumption
          clear z1 hbd hka hB4 x0 x1 x2 x3
          by_cases h5 : t.kind = 5
          · have h5' := HI5.out.1 h5
            have d1 : ((kd : Int) == 5) = true := by rw [h5']; rfl
            clear h5 h5'
            by_cases he : t.end_ = s.size
            · have d2 : ((t.end_ : Int) == (s.size : Int)) = true := by rw [he]; simp
              clear he
              go_wp2_with fail
              go_roundw
              case rel => exact ⟨k + 1, by omega, by go_num, z8⟩
              case measure => simp [intOf]; omega
            · have d2 : ((t.end_ : Int) == (s.size : Int)) = false := by rw [beq_eq_false_iff_ne]; omega
              clear he
              go_wp2_with fail
              go_roundw
              case rel => exact ⟨k + 1, by omega, by go_num, z8⟩
              case measure => simp [intOf]; omega
          · have h5' := HI5.out.2 h5
            have d1 : ((kd : Int) == 5) = false := by rw [beq_eq_false_iff_ne]; omega
            by_cases he : t.end_ = s.size
            · have d2 : ((t.end_ : Int) == (s.size : Int)) = true := by rw [he]; simp
              clear he h5 h5'
              go_wp2_with fail
              go_roundw
              case rel => exact ⟨k + 1, by omega, by go_num, z8⟩
              case measure => simp [intOf]; omega
            · have d2 : ((t.end_ : Int) == (s.size : Int)) = false := by rw [beq_eq_false_iff_ne]; omega
              have hlt2 : t.end_ < s.size := by omega
              have hk2 := HN.out h5 hlt2
              have hka2 := HK.out (s.extract t.at_ (t.end_ + 1)) (by rw [ByteArray.size_extract]; omega) w4
              rw [hk2] at hka2
              have hnat : ((t.end_ : Int) + 1).toNat = t.end_ + 1 := by omega
              clear he h5 h5' hk2
              go_wp2_with fail
              (with_reducible refine hka2.mono ?_)
              rintro e w5 ⟨rfl, hB5⟩
              have HB5 := hidden (bt z8.out hB5)
              clear hka2 hB5
              go_wp2_with fail
              go_roundw
              case rel => exact ⟨k + 1, by omega, by go_num, HB5⟩
              case measure => simp [intOf]; omega
      · obtain rfl : k = n := by omega
        clear hlt
        go_wp2_with fail
        go_ret
        exact ⟨rfl, HB2.out.trans (hb.out.mono HB2.out.size)⟩

end Go.Proofs.Ytihjcaingmhfoaa
