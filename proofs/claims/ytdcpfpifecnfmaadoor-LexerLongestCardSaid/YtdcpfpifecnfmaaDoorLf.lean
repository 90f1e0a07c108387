import Derived.Test.YtdcpfpifecnfmaaDoorLe
namespace Go.Proofs.YtdcpfpifecnfmaaDoor
open Go.RowKit Go.Shelf Go.Lib

/-- A token: kind, from, at, end. -/
structure Tok where
  kind : Nat
  from_ : Nat
  at_ : Nat
  end_ : Nat
abbrev tokV (t : Tok) : Value := .agg #[.int .i64 t.kind, .int .i64 t.from_, .int .i64 t.at_, .int .i64 t.end_]

/-- The token behind an offset. -/
def nextT (l : List UInt8) (k : Nat) : Tok := ⟨(tokF (l.drop (skipTo l k))).1, k, skipTo l k, skipTo l k + (tokF (l.drop (skipTo l k))).2⟩

set_option maxHeartbeats 800000 in
theorem next_any {w : World} {b : Nat} {s : ByteArray} (h : Idx w b s (feedsOf s.data.toList)) (k : Nat) (hk : k ≤ s.size) :
    Calls Tryd.prog 31 #[scanV s b, .int .i64 k] w fun e w' => e = .returned (tokV (nextT s.data.toList k)) ∧ Below w.heap.size w w' := by
  have hbl := bytes_len s
  have hsk := skipTo_le s.data.toList k (by rw [hbl]; exact hk)
  rw [hbl] at hsk
  have h1 := fun w' hb => skip_any (h.below (w' := w') hb) k hk
  have h2 := fun w' hb => token_any (h.below (w' := w') hb) (skipTo s.data.toList k) hsk
  unfold tokV nextT
  dsimp only
  generalize skipTo s.data.toList k = at_ at *
  generalize (tokF (s.data.toList.drop at_)).1 = kd at *
  generalize (tokF (s.data.toList.drop at_)).2 = n at *
  clear h hbl
  obtain ⟨W0, hW0⟩ : ∃ W0, W0 = (w.alloc (.cells #[.string s, .pointer (some ⟨b, 0, none⟩)] 59)).alloc (.cells #[.int .i64 0, .int .i64 0, .int .i64 0, .int .i64 0] 33) := ⟨_, rfl⟩
  have hB0 : Below w.heap.size w W0 := by rw [hW0]; exact ((Below.refl _ _).alloc (Nat.le_refl _) _).alloc (by simp) _
  have hz : w.heap.size + 1 < W0.heap.size := by rw [hW0]; simp
  have c0 : W0.cell? ⟨w.heap.size, 0, none⟩ = some (.string s) := by rw [hW0]; simp
  have c1 : W0.cell? ⟨w.heap.size, 1, none⟩ = some (.pointer (some ⟨b, 0, none⟩)) := by rw [hW0]; simp
  have z0 : W0.cell? ⟨w.heap.size + 1, 0, none⟩ = some (.int .i64 0) := by rw [hW0]; simp
  have z1 : W0.cell? ⟨w.heap.size + 1, 1, none⟩ = some (.int .i64 0) := by rw [hW0]; simp
  have z2 : W0.cell? ⟨w.heap.size + 1, 2, none⟩ = some (.int .i64 0) := by rw [hW0]; simp
  have z3 : W0.cell? ⟨w.heap.size + 1, 3, none⟩ = some (.int .i64 0) := by rw [hW0]; simp
  have y0 : W0.frozen? ⟨w.heap.size + 1, 0, none⟩ = false := by rw [hW0]; simp
  have y1 : W0.frozen? ⟨w.heap.size + 1, 1, none⟩ = false := by rw [hW0]; simp
  have y2 : W0.frozen? ⟨w.heap.size + 1, 2, none⟩ = false := by rw [hW0]; simp
  have y3 : W0.frozen? ⟨w.heap.size + 1, 3, none⟩ = false := by rw [hW0]; simp
  have HW : Hid (W0 = (w.alloc (.cells #[.string s, .pointer (some ⟨b, 0, none⟩)] 59)).alloc (.cells #[.int .i64 0, .int .i64 0, .int .i64 0, .int .i64 0] 33)) := hW0
  clear hW0
  go_enter Tryd.func31, Tryd.ntmps31
  go_wp2_with fail
  rw [← HW.out]
  (with_reducible refine (h1 _ hB0).mono ?_)
  rintro e w1 ⟨rfl, hB1⟩
  have g0 : w1.cell? ⟨w.heap.size, 0, none⟩ = some (.string s) := (hB1.cell (p := ⟨w.heap.size, 0, none⟩) (by show w.heap.size < _; omega)).trans c0
  have g1 : w1.cell? ⟨w.heap.size, 1, none⟩ = some (.pointer (some ⟨b, 0, none⟩)) := (hB1.cell (p := ⟨w.heap.size, 1, none⟩) (by show w.heap.size < _; omega)).trans c1
  have hB2 := bt hB0 hB1
  go_wp2_with fail
  (with_reducible refine (h2 _ hB2).mono ?_)
  rintro e w2 ⟨rfl, hB3⟩
  have hB4 := bt hB2 hB3
  have hB5 := bt hB1 hB3
  have k0 : w2.cell? ⟨w.heap.size + 1, 0, none⟩ = some (.int .i64 0) := (hB5.cell (p := ⟨w.heap.size + 1, 0, none⟩) hz).trans z0
  have k1 : w2.cell? ⟨w.heap.size + 1, 1, none⟩ = some (.int .i64 0) := (hB5.cell (p := ⟨w.heap.size + 1, 1, none⟩) hz).trans z1
  have k2 : w2.cell? ⟨w.heap.size + 1, 2, none⟩ = some (.int .i64 0) := (hB5.cell (p := ⟨w.heap.size + 1, 2, none⟩) hz).trans z2
  have k3 : w2.cell? ⟨w.heap.size + 1, 3, none⟩ = some (.int .i64 0) := (hB5.cell (p := ⟨w.heap.size + 1, 3, none⟩) hz).trans z3
  have f0 : w2.frozen? ⟨w.heap.size + 1, 0, none⟩ = false := (hB5.frozen (p := ⟨w.heap.size + 1, 0, none⟩) hz).trans y0
  have f1 : w2.frozen? ⟨w.heap.size + 1, 1, none⟩ = false := (hB5.frozen (p := ⟨w.heap.size + 1, 1, none⟩) hz).trans y1
  have f2 : w2.frozen? ⟨w.heap.size + 1, 2, none⟩ = false := (hB5.frozen (p := ⟨w.heap.size + 1, 2, none⟩) hz).trans y2
  have f3 : w2.frozen? ⟨w.heap.size + 1, 3, none⟩ = false := (hB5.frozen (p := ⟨w.heap.size + 1, 3, none⟩) hz).trans y3
  have hz2 : w.heap.size + 1 < w2.heap.size := by have := hB5.size; omega
  go_wp2_with fail
  refine bodyPost_ret (v := .agg #[.int .i64 kd, .int .i64 k, .int .i64 at_, .int .i64 ((at_ : Int) + n)]) (by simp [results, Tryd.results31, go_sem, k0, k1, k2, k3]) rfl ⟨by simp, ?_⟩
  exact (((hB4.setCell (p := ⟨w.heap.size + 1, 0, none⟩) (by simp) _).setCell (p := ⟨w.heap.size + 1, 1, none⟩) (by simp) _).setCell (p := ⟨w.heap.size + 1, 2, none⟩) (by simp) _).setCell (p := ⟨w.heap.size + 1, 3, none⟩) (by simp) _

set_option maxHeartbeats 400000 in
theorem newScanner_any (s : ByteArray) (w : World) (hs : s.size ≤ 4096) :
    Calls Tryd.prog 30 #[.string s] w fun e w' => ∃ b, e = .returned (scanV s b) ∧ Idx w' b s (feedsOf s.data.toList) ∧ Below w.heap.size w w' ∧ IdxFrom w.heap.size w' b := by
  have hn := fun w' => new_full s w' hs
  go_enter Tryd.func30, Tryd.ntmps30
  go_wp2_with fail
  (with_reducible refine (hn _).mono ?_)
  rintro e w1 ⟨b, rfl, hI, hB1, hF⟩
  have hz : w.heap.size < (w.alloc (.cells #[.string ⟨#[]⟩, .pointer none] 59)).heap.size := by simp
  have k0 : w1.cell? ⟨w.heap.size, 0, none⟩ = some (.string ⟨#[]⟩) := (hB1.cell (p := ⟨w.heap.size, 0, none⟩) hz).trans (by simp)
  have k1 : w1.cell? ⟨w.heap.size, 1, none⟩ = some (.pointer none) := (hB1.cell (p := ⟨w.heap.size, 1, none⟩) hz).trans (by simp)
  have f0 : w1.frozen? ⟨w.heap.size, 0, none⟩ = false := (hB1.frozen (p := ⟨w.heap.size, 0, none⟩) hz).trans (by simp)
  have f1 : w1.frozen? ⟨w.heap.size, 1, none⟩ = false := (hB1.frozen (p := ⟨w.heap.size, 1, none⟩) hz).trans (by simp)
  go_wp2_with fail
  have hA : Below w.heap.size w (w.alloc (.cells #[.string ⟨#[]⟩, .pointer none] 59)) := (Below.refl _ _).alloc (Nat.le_refl _) _
  have hB := bt hA hB1
  refine bodyPost_ret (v := scanV s b) (by simp [results, Tryd.results30, go_sem, k0, k1]) rfl ⟨b, rfl, ?_, ?_, ?_⟩
  · obtain ⟨i1, i2⟩ := hI.setCell hF (p := ⟨w.heap.size, 0, none⟩) hz (.string s)
    exact (i1.setCell i2 (p := ⟨w.heap.size, 1, none⟩) hz _).1
  rotate_left
  · obtain ⟨i1, i2⟩ := hI.setCell hF (p := ⟨w.heap.size, 0, none⟩) hz (.string s)
    obtain ⟨j1, j2⟩ := (i1.setCell i2 (p := ⟨w.heap.size, 1, none⟩) hz (.pointer (some ⟨b, 0, none⟩))).2
    rw [World.size_alloc] at j1 j2
    exact ⟨by omega, fun bf o n cap hc => by have := j2 bf o n cap hc; omega⟩
  · exact ((hB.setCell (p := ⟨w.heap.size, 0, none⟩) (by simp) _).setCell (p := ⟨w.heap.size, 1, none⟩) (by simp) _)

end Go.Proofs.YtdcpfpifecnfmaaDoor
