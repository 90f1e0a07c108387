import Derived.Test.YtdcpfpifecnfmaaDoorLg
namespace Go.Proofs.YtdcpfpifecnfmaaDoor
open Go.RowKit Go.Shelf Go.Lib
attribute [local go_sem] Oper.semAt_some

theorem Scan4.first {lo S b : Nat} {s : ByteArray} {w3 : World} (h1 : lo ≤ S) (h2 : S < w3.heap.size) (ix : IdxIn lo S w3 b s)
    (c0 : w3.cell? ⟨S, 0, none⟩ = some (.string s)) (c1 : w3.cell? ⟨S, 1, none⟩ = some (.pointer (some ⟨b, 0, none⟩))) (t : Tok) :
    Scan4 lo (w3.heap.size + 1) S w3.heap.size b s t (w3.alloc (.cells #[.int .i64 t.kind, .int .i64 t.from_, .int .i64 t.at_, .int .i64 t.end_] 33)) := by
  have hm : Mid lo (S + 1) w3 (w3.alloc (.cells #[.int .i64 t.kind, .int .i64 t.from_, .int .i64 t.at_, .int .i64 t.end_] 33)) := Mid.of_below ((Below.refl w3.heap.size w3).alloc (Nat.le_refl _) _) (by omega)
  refine ⟨h1, h2, Nat.lt_succ_self _, by simp, ix.mid ⟨hm.size, fun k a c => hm.block k a (by omega)⟩, (hm.cell (p := ⟨S, 0, none⟩) h1 (by show S < _; omega)).trans c0, (hm.cell (p := ⟨S, 1, none⟩) h1 (by show S < _; omega)).trans c1, ?_, ?_, ?_, ?_, ?_, ?_, ?_, ?_⟩
  all_goals simp

set_option maxRecDepth 100000 in
set_option maxHeartbeats 1600000 in
theorem split1_any (s : ByteArray) (hs : s.size ≤ 4096) {w : World} {B : Nat} (hB : w.cell? ⟨B, 0, none⟩ = some (.string s)) (hlt : B < w.heap.size) :
    SeqT 0 Tryd.prog 67 #[.pointer (some ⟨B, 0, none⟩)] tokV (toks s.data.toList) w := by
  intro l J Jx W hW hJ hJx h0 hY
  have hc : W.cell? ⟨B, 0, none⟩ = some (.string s) := (hW.cell (p := ⟨B, 0, none⟩) hlt).trans hB
  have hn := newScanner_any s W hs
  have HJ := hidden hJ
  have HJx := hidden hJx
  have H0 := hidden h0
  have HY := hidden hY
  clear hJ hJx h0 hY hW hB hlt
  show Calls Tryd.prog 67 #[.func (.yield l) #[] #[], .pointer (some ⟨B, 0, none⟩)] W _
  refine (callsIn_wide (n := 9)).1 ?_
  refine callsIn_of_wp Tryd.func67 rfl trivial ?_ rfl
  simp only [Tryd.ntmps67, List.size_toArray, List.length_cons, List.length_nil, Nat.reduceAdd, Nat.reduceSub, Array.replicate_succ, Array.replicate_zero, List.push_toArray, List.append_toArray, List.nil_append, List.cons_append]
  gi_wp2_with fail
  refine ⟨trivial, ?_⟩
  (with_reducible refine (callsIn_wide.2 hn).mono ?_)
  rintro e w1 ⟨b, rfl, hI, hB1, hF⟩
  have HI := hidden (IdxIn.of hI hF)
  have HB1 := hidden hB1
  clear hI hF hB1
  gi_wp2_with fail
  obtain ⟨W2, hW2⟩ : ∃ W2, W2 = w1.alloc (.cells #[.string s, .pointer (some ⟨b, 0, none⟩)] 59) := ⟨_, rfl⟩
  rw [← hW2]
  obtain ⟨S, hS⟩ : ∃ S, S = w1.heap.size := ⟨_, rfl⟩
  have hmd : Mid W.heap.size S w1 W2 := by rw [hW2, hS]; exact Mid.of_below ((Below.refl w1.heap.size w1).alloc (Nat.le_refl _) _) (Nat.le_refl _)
  have hix2 : IdxIn W.heap.size S W2 b s := by rw [hS] at hmd ⊢; exact HI.out.mid hmd
  have hB2 : Below W.heap.size W W2 := by rw [hW2]; exact HB1.out.alloc HB1.out.size _
  have hz2 : W2.heap.size = S + 1 := by rw [hW2, hS]; simp
  have c20 : W2.cell? ⟨S, 0, none⟩ = some (.string s) := by rw [hW2, hS]; simp
  have c21 : W2.cell? ⟨S, 1, none⟩ = some (.pointer (some ⟨b, 0, none⟩)) := by rw [hW2, hS]; simp
  have hSlo : W.heap.size ≤ S := by rw [hS]; exact HB1.out.size
  rw [← hS]
  clear HI HB1 hmd hW2 hS
  have hnx := fun (w' : World) (h' : Idx w' b s (feedsOf s.data.toList)) (k : Nat) (hk : k ≤ s.size) => next_any h' k hk
  have HN := hidden hnx
  have hn0 : Calls Tryd.prog 31 #[scanV s b, .int .i64 0] W2 fun e w' => e = .returned (tokV (nextT s.data.toList 0)) ∧ Below W2.heap.size W2 w' := hnx W2 hix2.idx 0 (Nat.zero_le _)
  refine ⟨trivial, ?_⟩
  (with_reducible refine (callsIn_wide.2 hn0).mono ?_)
  obtain ⟨t, ht⟩ : ∃ t, nextT s.data.toList 0 = t := ⟨_, rfl⟩
  rw [ht]
  rintro e w3 ⟨rfl, hB3⟩
  have hs3 : S < w3.heap.size := by have := hB3.size; omega
  have hsc := Scan4.first hSlo hs3 (hix2.mid (Mid.of_below hB3 (by omega))) ((hB3.cell (p := ⟨S, 0, none⟩) (by show S < _; omega)).trans c20) ((hB3.cell (p := ⟨S, 1, none⟩) (by show S < _; omega)).trans c21) t
  have HB4 : Hid (Below W.heap.size W (w3.alloc (.cells #[.int .i64 t.kind, .int .i64 t.from_, .int .i64 t.at_, .int .i64 t.end_] 33))) := (bt hB2 hB3).alloc (by have := hB2.size; have := hB3.size; omega) _
  have HSC := hidden hsc
  have HT := hidden ht
  clear hsc hB2 hB3 hix2 hnx hn0 hz2 c20 c21 ht
  dsimp only [tokV]
  gi_wp2_with fail
  obtain ⟨T, hT⟩ : ∃ T, T = w3.heap.size := ⟨_, rfl⟩
  rw [← hT] at HSC ⊢
  have HJ4 : Hid (J (T + 1) [] (w3.alloc (.cells #[.int .i64 t.kind, .int .i64 t.from_, .int .i64 t.at_, .int .i64 t.end_] 33))) := by
    have h := H0.out _ HB4.out
    rw [World.size_alloc, ← hT] at h
    exact h
  have HL : Hid (s.data.toList.length = s.size) := bytes_len s
  clear hT HB4 H0 hc hn hs3 hSlo
  gi_loopw [] (fun wr => ∃ (pre : List Tok) (k f : Nat) (t : Tok), Hid (toks s.data.toList = pre ++ toksF (f + 1) s.data.toList k ∧ nextT s.data.toList k = t ∧ k ≤ s.size ∧ s.size ≤ k + f) ∧
    Hid (Scan4 W.heap.size (T + 1) S T b s t wr) ∧ Hid (J (T + 1) pre wr)) (fun wr => s.size - (intOf ((wr.cell? ⟨T, 1, none⟩).getD undef)).toNat)
  case atStart => exact ⟨[], 0, s.size, t, ⟨by unfold toks; rw [HL.out]; rfl, HT.out, Nat.zero_le _, by omega⟩, HSC, HJ4⟩
  case round =>
    clear HSC HJ4 HT
    obtain ⟨pre, k, f, t, hk, hsc, hj⟩ := hrel
    obtain ⟨hk1, hk2, hk3, hk4⟩ := hk.out
    have hf := nextT_facts s.data.toList k (by rw [HL.out]; exact hk3)
    rw [hk2, HL.out] at hf
    obtain ⟨f1, f2, f3, f4, f5, f6⟩ := hf
    have hpre : (pre ++ [t]) <+: toks s.data.toList := by rw [hk1, toksF, hk2]; exact ⟨_, by rw [List.append_assoc]; rfl⟩
    obtain ⟨fn, tmps, assign, body, hy, hR⟩ := HY.out (T + 1) pre t wr hj.out (by have := hsc.out.h1; have := hsc.out.h2; omega) hsc.out.h4 hpre
    have t0 := hsc.out.t0
    have t1 := hsc.out.t1
    have t2 := hsc.out.t2
    have t3 := hsc.out.t3
    dsimp only [tokV] at hy
    have HP := hidden hpre
    have HT1 := hidden hsc.out.t1
    by_cases h0 : t.kind = 0
    · have hb : ((t.kind : Int) != 0) = false := by rw [h0]; rfl
      have HE : Hid (toks s.data.toList = pre ++ [t]) := by unfold Hid; rw [hk1, toksF, hk2, if_pos h0]
      clear hk1 hk2 hk3 hk4 f1 f2 f3 f4 f5 f6 hpre h0 hk
      gi_wp2_with fail
      refine (round_any _ hR).mono ?_
      rintro e w5 (⟨rfl, hJ5, hm5, _⟩ | ⟨rfl, hJx5, hm5, _⟩)
      · have hsc5 := hsc.out.mid hm5
        have t50 := hsc5.t0
        have HS5 := hidden hsc5
        have HJ5 := hidden hJ5
        clear hsc5 hJ5 hm5 t0 t1 t2 t3 hy hR hsc hj
        gi_wp2_with fail
        go_end0
        refine ⟨⟨_, rfl⟩, T + 1, by have := HS5.out.h1; have := HS5.out.h2; omega, HS5.out.h4, .inl (by rw [HE.out]; exact HJ5.out)⟩
      · have hsc5 := hsc.out.mid hm5
        have HS5 := hidden hsc5
        have HJ5 := hidden hJx5
        clear hsc5 hJx5 hm5 t0 t1 t2 t3 hy hR hsc hj
        gi_wp2_with fail
        go_end0
        refine ⟨⟨_, rfl⟩, T + 1, by have := HS5.out.h1; have := HS5.out.h2; omega, HS5.out.h4, .inr ⟨pre ++ [t], HP.out, HJ5.out⟩⟩
    · have hb : ((t.kind : Int) != 0) = true := by rw [bne_iff_ne]; omega
      have HE : Hid (toks s.data.toList = (pre ++ [t]) ++ toksF f s.data.toList t.end_) := by unfold Hid; rw [hk1, toksF, hk2, if_neg h0, List.append_assoc]; rfl
      have HF := hidden (And.intro f1 (And.intro f2 (And.intro f3 (And.intro f4 (And.intro (f6 h0) hk4)))))
      clear hk1 hk2 hk3 hk4 f1 f2 f3 f4 f5 f6 hpre h0 hk
      gi_wp2_with fail
      refine (round_any _ hR).mono ?_
      rintro e w5 (⟨rfl, hJ5, hm5, _⟩ | ⟨rfl, hJx5, hm5, _⟩)
      · have hsc5 := hsc.out.mid hm5
        have hnx := HN.out w5 hsc5.ix.idx t.end_ HF.out.2.2.2.1
        have t50 := hsc5.t0
        have t53 := hsc5.t3
        have c50 := hsc5.c0
        have c51 := hsc5.c1
        have HS5 := hidden hsc5
        have HJ5 := hidden hJ5
        have HNX := hidden hnx
        clear hsc5 hJ5 hm5 t0 t1 t2 t3 hy hR hsc hj hnx
        gi_wp2_with fail
        refine ⟨trivial, ?_⟩
        (with_reducible refine (callsIn_wide.2 HNX.out).mono ?_)
        obtain ⟨t', ht'⟩ : ∃ t', nextT s.data.toList t.end_ = t' := ⟨_, rfl⟩
        rw [ht']
        rintro e w6 ⟨rfl, hB6⟩
        have hsc6 := HS5.out.mid (Mid.of_below hB6 HS5.out.h4)
        have q0 := hsc6.t0
        have q1 := hsc6.t1
        have q2 := hsc6.t2
        have q3 := hsc6.t3
        have y0 := hsc6.y0
        have y1 := hsc6.y1
        have y2 := hsc6.y2
        have y3 := hsc6.y3
        have HS6 := hidden hsc6
        have HT' := hidden ht'
        have HJ6 : Hid (J (T + 1) (pre ++ [t]) (putTok w6 T t')) := HJ.out _ _ _ _ HJ5.out ((Turn.of_below hB6).trans (hsc6.turn t'))
        clear hsc6 ht' hB6 HJ5 HNX t50 t53 c50 c51
        dsimp only [tokV]
        gi_wp2_with fail
        go_roundw
        case rel =>
          obtain ⟨e1, e2, e3, e4, e5, e6⟩ := HF.out
          obtain ⟨f', rfl⟩ : ∃ f', f = f' + 1 := ⟨f - 1, by omega⟩
          exact ⟨pre ++ [t], t.end_, f', t', ⟨HE.out, HT'.out, e4, by omega⟩, HS6.out.put t', HJ6⟩
        case measure =>
          obtain ⟨e1, e2, e3, e4, e5, e6⟩ := HF.out
          have g1 := (HS6.out.put t').t1
          have g2 : t'.from_ = t.end_ := by rw [← HT'.out]; rfl
          rw [g1, HT1.out, g2]
          simp only [intOf, Option.getD_some, Int.toNat_natCast]
          omega
      · have hsc5 := hsc.out.mid hm5
        have HS5 := hidden hsc5
        have HJ5 := hidden hJx5
        clear hsc5 hJx5 hm5 t0 t1 t2 t3 hy hR hsc hj
        gi_wp2_with fail
        go_end0
        refine ⟨⟨_, rfl⟩, T + 1, by have := HS5.out.h1; have := HS5.out.h2; omega, HS5.out.h4, .inr ⟨pre ++ [t], HP.out, HJ5.out⟩⟩

theorem split_any (s : ByteArray) (w : World) :
    Calls Tryd.prog 45 #[.string s] w fun e w' => e = .returned (.func (.func 67) #[] #[.pointer (some ⟨w.heap.size, 0, none⟩)]) ∧ w' = w.alloc (.cells #[.string s] 9) := by
  go_enter Tryd.func45, Tryd.ntmps45
  go_wp2_with fail
  go_ret
  exact ⟨rfl, rfl⟩

end Go.Proofs.YtdcpfpifecnfmaaDoor
