import Derived.Test.YtdcpfpifecnfmaaGreatDoorLp
/-
  Kind, of a word whose first token is no name.
-/
namespace Go.Proofs.YtdcpfpifecnfmaaGreatDoor
open Go.RowKit Go.Shelf Go.Lib

/-- The kind of a word, with names for keywords. -/
def kindN (s : ByteArray) : Nat := if (nextT s.data.toList 0).at_ = 0 ∧ (nextT s.data.toList 0).end_ = s.size then (nextT s.data.toList 0).kind else 0

set_option maxRecDepth 100000 in
set_option maxHeartbeats 1600000 in
theorem kind_plain (s : ByteArray) (hs : s.size ≤ 4096) (hk : kindN s ≠ 1) (w : World) :
    Calls Tryz.prog 7 #[.string s] w fun e w' => e = .returned (.int .i64 (kindN s : Nat)) ∧ Below w.heap.size w w' := by
  have hn := newScanner_any s w hs
  unfold kindN at hk ⊢
  obtain ⟨t, ht⟩ : ∃ t, nextT s.data.toList 0 = t := ⟨_, rfl⟩
  rw [ht] at hk ⊢
  obtain ⟨r, hr⟩ : ∃ r, (if t.at_ = 0 ∧ t.end_ = s.size then t.kind else 0) = r := ⟨_, rfl⟩
  rw [hr] at hk ⊢
  have HT := hidden ht
  have HK := hidden hk
  have HR := hidden hr
  clear ht hk hr
  go_enter Tryz.func7, Tryz.ntmps7
  go_wp2_with fail
  (with_reducible refine hn.mono ?_)
  rintro e w1 ⟨b, rfl, hI, hB1, _⟩
  have hn0 : Calls Tryz.prog 17 #[scanV s b, .int .i64 0] w1 fun e w' => e = .returned (tokV (nextT s.data.toList 0)) ∧ Below w1.heap.size w1 w' := next_any hI 0 (Nat.zero_le _)
  rw [HT.out] at hn0
  have HB1 := hidden hB1
  clear hI hB1 hn
  go_wp2_with fail
  (with_reducible refine hn0.mono ?_)
  rintro e w2 ⟨rfl, hB2⟩
  have HB : Hid (Below w.heap.size w (w2.alloc (.cells #[.int .i64 t.kind, .int .i64 t.from_, .int .i64 t.at_, .int .i64 t.end_] 37))) := (bt HB1.out hB2).alloc (by have := HB1.out.size; have := hB2.size; omega) _
  clear hB2 hn0 HB1
  dsimp only [tokV]
  by_cases h1 : t.at_ = 0
  · by_cases h2 : t.end_ = s.size
    · have b1 : ((t.at_ : Int) != 0) = false := by rw [h1]; rfl
      have b2 : ((t.end_ : Int) != (s.size : Int)) = false := by rw [h2]; simp
      have hk1 : t.kind ≠ 1 := by have := HK.out; rwa [HR.out.symm.trans (if_pos ⟨h1, h2⟩)] at this
      have b3 : ((t.kind : Int) == 1) = false := by rw [beq_eq_false_iff_ne]; omega
      have HV : Hid (r = t.kind) := HR.out.symm.trans (if_pos ⟨h1, h2⟩)
      clear h1 h2 hk1
      go_wp2_with fail
      go_ret
      exact ⟨by rw [HV.out]; rfl, HB.out⟩
    · have b1 : ((t.at_ : Int) != 0) = false := by rw [h1]; rfl
      have b2 : ((t.end_ : Int) != (s.size : Int)) = true := by rw [bne_iff_ne]; omega
      have HV : Hid (r = 0) := HR.out.symm.trans <| if_neg (fun h => h2 h.2)
      clear h1 h2
      go_wp2_with fail
      go_ret
      exact ⟨by rw [HV.out]; rfl, HB.out⟩
  · have b1 : ((t.at_ : Int) != 0) = true := by rw [bne_iff_ne]; omega
    have HV : Hid (r = 0) := HR.out.symm.trans <| if_neg (fun h => h1 h.1)
    clear h1
    go_wp2_with fail
    go_ret
    exact ⟨by rw [HV.out]; rfl, HB.out⟩

end Go.Proofs.YtdcpfpifecnfmaaGreatDoor
