import Derived.Test.YtfmoophjdgejeaaGreatDoorCc
/-
  The next tuple.
-/
namespace Go.Proofs.YtfmoophjdgejeaaGreatDoor
open Go.RowKit Go.Shelf

/-- A row of numbers in a block of one's own. -/
def TupAt (w : World) (T : Nat) (l : List Nat) : Prop :=
  (∀ (i x : Nat), l[i]? = some x → w.cell? ⟨T, i, none⟩ = some (.int .i64 (x : Int))) ∧ ∀ i, i < l.length → w.frozen? ⟨T, i, none⟩ = false

theorem TupAt.of_block {w w' : World} {T : Nat} {l : List Nat} (h : TupAt w T l) (hb : w'.heap[T]? = w.heap[T]?) : TupAt w' T l :=
  ⟨fun i x hx => (World.cell?_of_block (a := ⟨T, i, none⟩) hb).trans (h.1 i x hx), fun i hi => (World.frozen?_of_block (a := ⟨T, i, none⟩) hb).trans (h.2 i hi)⟩

theorem TupAt.put {w : World} {T x : Nat} {a z : List Nat} (h : TupAt w T (a ++ x :: z)) (y : Nat) : TupAt (w.setCell ⟨T, a.length, none⟩ (.int .i64 (y : Int))) T (a ++ y :: z) := by
  have hx : w.cell? ⟨T, a.length, none⟩ = some (.int .i64 (x : Int)) := h.1 a.length x (by simp)
  refine ⟨fun i u hu => ?_, fun i hi => ?_⟩
  · by_cases hi : i = a.length
    · subst hi
      rw [World.cell?_setCell_same _ _ _ hx]
      simp at hu
      rw [hu]
    · rw [World.cell?_setCell_other _ _ _ _ (fun e => hi (by injection e with _ e2 _; exact e2.symm))]
      refine h.1 i u ?_
      rw [← hu]
      rcases Nat.lt_or_ge i a.length with h1 | h1
      · rw [List.getElem?_append_left h1, List.getElem?_append_left h1]
      · rw [List.getElem?_append_right h1, List.getElem?_append_right h1]
        obtain ⟨d, hd⟩ : ∃ d, i - a.length = d + 1 := ⟨i - a.length - 1, by omega⟩
        rw [hd]; rfl
  · have := h.2 i (by simpa using hi)
    simpa [go_sem] using this

/-- Only one block was written over. -/
structure OnlyAt (T : Nat) (w w' : World) : Prop where
  os : w'.os = w.os
  tape : w'.tape = w.tape
  output : w'.output = w.output
  size : w'.heap.size = w.heap.size
  block : ∀ k, k ≠ T → w'.heap[k]? = w.heap[k]?

theorem OnlyAt.refl (T : Nat) (w : World) : OnlyAt T w w := ⟨rfl, rfl, rfl, rfl, fun _ _ => rfl⟩
theorem OnlyAt.drewN {T : Nat} {a b : World} (h : OnlyAt T a b) (q : Nat) : OnlyAt T a (b.drewN q) := ⟨h.os, h.tape, h.output, h.size, h.block⟩
theorem OnlyAt.set {T : Nat} {a b : World} (h : OnlyAt T a b) (i : Nat) (v : Value) : OnlyAt T a (b.setCell ⟨T, i, none⟩ v) :=
  ⟨h.os, h.tape, h.output, by simp [h.size], fun k hk => (Below.heap_setCell _ _ _ _ hk).trans (h.block k hk)⟩
theorem OnlyAt.below {T B : Nat} {a b : World} (h : OnlyAt T a b) (hT : B ≤ T) : Below B a b := ⟨h.os, h.tape, h.output, Nat.le_of_eq h.size.symm, fun k hk => h.block k (by omega)⟩
theorem OnlyAt.turn {T lo H : Nat} {a b : World} (h : OnlyAt T a b) (h1 : lo ≤ T) (h2 : T < H) : Turn lo H a b := ⟨h.os, h.tape, h.output, Nat.le_of_eq h.size.symm, fun k _ hk => h.block k (by omega)⟩

theorem in_len : ∀ {ss l : List Nat}, InL ss l → l.length = ss.length
  | [], [], _ => rfl
  | [], _ :: _, h => h.elim
  | _ :: _, [], h => h.elim
  | _ :: _, _ :: _, h => by rw [List.length_cons, List.length_cons, in_len h.2]

theorem in_at : ∀ {ss l : List Nat} {k x n : Nat}, InL ss l → l[k]? = some x → ss[k]? = some n → x < n
  | [], [], _, _, _, _, h, _ => by simp at h
  | [], _ :: _, _, _, _, h, _, _ => h.elim
  | _ :: _, [], _, _, _, h, _, _ => h.elim
  | _ :: _, _ :: _, 0, _, _, h, h1, h2 => by simp at h1 h2; subst h1; subst h2; exact h.1
  | _ :: _, _ :: _, k + 1, _, _, h, h1, h2 => in_at (k := k) h.2 (by simpa using h1) (by simpa using h2)

set_option maxRecDepth 100000 in
set_option maxHeartbeats 3200000 in
theorem advance_any (ss l : List Nat) (T C : Nat) (p : Option Addr) (g o cap : Nat) (w : World) (hT : TupAt w T l) (hin : InL ss l) (h6 : ∀ n ∈ ss, n ≤ 6) (hl : l.length ≤ 1000)
    (hp : ss ≠ [] → p = some ⟨g, o, none⟩ ∧ g ≠ T) (hc : ∀ i z, (natL ss)[i]? = some z → w.cell? ⟨g, o + i, none⟩ = some (.int .i64 z)) :
    Calls Tryz.prog 62 #[.slice (some ⟨T, 0, none⟩) l.length C, .slice p ss.length cap] w fun e w' => e = .returned (.bool (advL l ss).2) ∧ TupAt w' T (advL l ss).1 ∧ OnlyAt T w w' := by
  have hlen := in_len hin
  have HL := hidden hlen
  have HT := hidden hT
  have HI := hidden hin
  have HP := hidden hp
  have HC := hidden hc
  have H6 := hidden h6
  clear hT hin hp hc h6 hlen
  go_enter Tryz.func62, Tryz.ntmps62
  go_wp2_with fail
  go_loopw [5] (fun i wr => ∃ j : Nat, j ≤ l.length ∧ i = .int .i64 ((j : Int) - 1) ∧ ∃ z : List Nat, Hid (TupAt wr T (l.take j ++ z) ∧ z.length = l.length - j ∧ advL (l.drop j) (ss.drop j) = (z, false) ∧ OnlyAt T w wr)) (fun i _ => (intOf i + 1).toNat)
  case atStart =>
    refine ⟨l.length, Nat.le_refl _, rfl, [], ?_⟩
    refine ⟨by rw [List.take_length, List.append_nil]; exact HT.out, by simp, ?_, OnlyAt.refl _ _⟩
    rw [List.drop_length, List.drop_eq_nil_of_le (by have := HL.out; omega)]
    simp [advL]
  case round =>
    obtain ⟨j, hj, hi, z, hh⟩ := hrel
    rcases Nat.eq_zero_or_pos j with rfl | hpos
    · have e0 : ((0 : Nat) : Int) - 1 = -1 := rfl
      rw [e0] at hi
      subst hi
      go_wp2_with fail
      go_ret
      obtain ⟨h1, h2, h3, h4⟩ := hh.out
      rw [List.drop_zero, List.drop_zero] at h3
      rw [List.take_zero, List.nil_append] at h1
      rw [h3]
      exact ⟨rfl, h1, h4⟩
    · obtain ⟨k, rfl⟩ : ∃ k, j = k + 1 := ⟨j - 1, by omega⟩
      have e1 : ((k + 1 : Nat) : Int) - 1 = (k : Int) := by omega
      rw [e1] at hi
      subst hi
      obtain ⟨h1, h2, h3, h4⟩ := hh.out
      have hz : l[k]? = some l[k] := List.getElem?_eq_getElem (by omega)
      generalize l[k] = x at hz
      have hks : k < ss.length := by have := HL.out; omega
      have hy : ss[k]? = some ss[k] := List.getElem?_eq_getElem hks
      have hn6 : ss[k] ≤ 6 := H6.out _ (List.getElem_mem hks)
      generalize ss[k] = n at hy hn6
      have hxn := in_at HI.out hz hy
      rw [take_step hz, List.append_assoc] at h1
      have hkl : (l.take k).length = k := by rw [List.length_take]; omega
      have hT1 := h1.put (x + 1)
      have hT0 := hT1.put 0
      rw [hkl] at hT1 hT0
      obtain ⟨rfl, hgT⟩ := HP.out (fun h => by rw [h] at hks; exact absurd hks (Nat.not_lt_zero _))
      have hgT2 : T ≠ g := fun h => hgT h.symm
      have c0 : wr.cell? ⟨T, k, none⟩ = some (.int .i64 (x : Int)) := by
        have := h1.1 k x (by rw [List.getElem?_append_right (by omega), hkl]; simp)
        exact this
      have y0 : wr.frozen? ⟨T, k, none⟩ = false := h1.2 k (by simp; omega)
      have cn : wr.cell? ⟨g, o + k, none⟩ = some (.int .i64 (n : Int)) := (World.cell?_of_block (a := ⟨g, o + k, none⟩) (h4.block g hgT)).trans (HC.out k _ (natL_get hy))
      have hkl2 : (k : Int) < (l.length : Int) := by omega
      have hks2 : (k : Int) < (ss.length : Int) := by omega
      have hk0 : ¬ ((k : Int) < 0) := by omega
      have hk1 : (0 : Int) ≤ (k : Int) := by omega
      have HD := hidden h3
      have HT1 := hidden hT1
      have HT0 := hidden hT0
      have HO := hidden h4
      have HZ := hidden hz
      have HY := hidden hy
      have HZL := hidden h2
      have HKL := hidden hkl
      clear h1 h2 h3 h4 hh hz hy hT1 hT0 hkl
      obtain ⟨W1, hW1⟩ : ∃ W1, W1 = wr.setCell ⟨T, k, none⟩ (.int .i64 ((x : Int) + 1)) := ⟨_, rfl⟩
      have c1 : W1.cell? ⟨T, k, none⟩ = some (.int .i64 ((x : Int) + 1)) := by rw [hW1]; exact World.cell?_setCell_same _ _ _ c0
      have cn1 : W1.cell? ⟨g, o + k, none⟩ = some (.int .i64 (n : Int)) := by rw [hW1, World.cell?_setCell_other _ _ _ _ (fun e => hgT2 (congrArg Addr.block e))]; exact cn
      have y1 : W1.frozen? ⟨T, k, none⟩ = false := by rw [hW1]; simpa [go_sem] using y0
      have HO1 : Hid (OnlyAt T w W1) := by rw [hW1]; exact HO.out.set _ _
      have HT2 : Hid (∀ v, W1.setCell ⟨T, k, none⟩ v = (wr.setCell ⟨T, k, none⟩ (.int .i64 ((x + 1 : Nat) : Int))).setCell ⟨T, k, none⟩ v) := fun v => by rw [hW1]; rfl
      have HT3 : Hid (W1 = wr.setCell ⟨T, k, none⟩ (.int .i64 ((x + 1 : Nat) : Int))) := hW1
      go_wp2_with fail
      rw [← hW1]
      clear hW1 c0 y0 cn
      have hmx : Tryz.prog.follows .mixedOrders = true := by kernel_rfl
      by_cases hlt : x + 1 < n
      · have hltz : ((x : Int) + 1) < (n : Int) := by omega
        have HLT := hidden hlt
        clear hlt
        go_quiet (fail)
        go_wp2_with fail
        go_ret
        have ha : advL (l.drop k) (ss.drop k) = ((x + 1) :: z, true) := by
          rw [drop_step HZ.out, drop_step HY.out, advL, HD.out]
          simp [HLT.out]
        have hf := adv_front (l.take k) (ss.take k) (l.drop k) (ss.drop k) (by rw [List.length_take, List.length_take]; have := HL.out; omega) (by rw [ha])
        rw [List.take_append_drop, List.take_append_drop, ha] at hf
        rw [hf]
        refine ⟨rfl, ?_, HO1.out.drewN _⟩
        have := HT1.out
        rw [← HT3.out] at this
        exact this.of_block rfl
      · have hltz : ¬ ((x : Int) + 1) < (n : Int) := by omega
        have HLT := hidden hlt
        clear hlt
        go_quiet (fail)
        go_wp2_with fail
        go_roundw
        case rel =>
          refine ⟨k, by omega, rfl, 0 :: z, ?_⟩
          refine ⟨?_, by rw [List.length_cons, HZL.out]; omega, ?_, (HO1.out.set _ _).drewN _⟩
          · have := HT0.out
            rw [← HT2.out] at this
            exact this.of_block rfl
          · rw [drop_step HZ.out, drop_step HY.out, advL, HD.out]
            simp [HLT.out]
        case measure => simp [intOf]

end Go.Proofs.YtfmoophjdgejeaaGreatDoor
