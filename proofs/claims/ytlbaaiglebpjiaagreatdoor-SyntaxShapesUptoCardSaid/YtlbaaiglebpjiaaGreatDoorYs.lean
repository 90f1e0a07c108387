/-
  The reference: Equal, Exact.
-/
import Derived.Test.YtlbaaiglebpjiaaGreatDoorJf
import Derived.Test.YtlbaaiglebpjiaaGreatDoorYj
namespace Go.Proofs.YtlbaaiglebpjiaaGreatDoor
open Go.RowKit Go.Shelf Go.Lib

/-- Two lists of kids, two nodes, what was there. -/
theorem eqKeep2 {w w' w0 : World} {V Q A P G O : Nat} {x y : Tree} {kx ky ka kb : Value}
    (h : w.cell? ⟨V, 4, none⟩ = some ka ∧ w.cell? ⟨Q, 4, none⟩ = some kb ∧ w.cell? ⟨A, P, none⟩ = some (.int .i64 x.kind) ∧ w.cell? ⟨A, P + 1, none⟩ = some (.string x.text) ∧ w.cell? ⟨A, P + 2, none⟩ = some (.int .i64 x.at_) ∧ w.cell? ⟨A, P + 3, none⟩ = some (.int .i64 x.end_) ∧ w.cell? ⟨A, P + 4, none⟩ = some kx ∧ w.cell? ⟨G, O, none⟩ = some (.int .i64 y.kind) ∧ w.cell? ⟨G, O + 1, none⟩ = some (.string y.text) ∧ w.cell? ⟨G, O + 2, none⟩ = some (.int .i64 y.at_) ∧ w.cell? ⟨G, O + 3, none⟩ = some (.int .i64 y.end_) ∧ w.cell? ⟨G, O + 4, none⟩ = some ky ∧ Hid (Below w0.heap.size w0 w))
    (hb : Below w.heap.size w w') :
    w'.cell? ⟨V, 4, none⟩ = some ka ∧ w'.cell? ⟨Q, 4, none⟩ = some kb ∧ w'.cell? ⟨A, P, none⟩ = some (.int .i64 x.kind) ∧ w'.cell? ⟨A, P + 1, none⟩ = some (.string x.text) ∧ w'.cell? ⟨A, P + 2, none⟩ = some (.int .i64 x.at_) ∧ w'.cell? ⟨A, P + 3, none⟩ = some (.int .i64 x.end_) ∧ w'.cell? ⟨A, P + 4, none⟩ = some kx ∧ w'.cell? ⟨G, O, none⟩ = some (.int .i64 y.kind) ∧ w'.cell? ⟨G, O + 1, none⟩ = some (.string y.text) ∧ w'.cell? ⟨G, O + 2, none⟩ = some (.int .i64 y.at_) ∧ w'.cell? ⟨G, O + 3, none⟩ = some (.int .i64 y.end_) ∧ w'.cell? ⟨G, O + 4, none⟩ = some ky ∧ Hid (Below w0.heap.size w0 w') := by
  obtain ⟨b0, b1, a0, a1, a2, a3, a4, a6, a7, a8, a9, a10, a11⟩ := h
  exact ⟨cell_later b0 hb, cell_later b1 hb, cell_later a0 hb, cell_later a1 hb, cell_later a2 hb, cell_later a3 hb, cell_later a4 hb, cell_later a6 hb, cell_later a7 hb, cell_later a8 hb, cell_later a9 hb, cell_later a10 hb, bt a11.out hb⟩

set_option maxRecDepth 100000 in
set_option maxHeartbeats 12800000 in
theorem refEqual_tree (a : Tree) : ∀ (b : Tree) (ka kb : Value) (w : World), KidsV w ka a.kids → KidsV w kb b.kids → a.count ≤ 4194304 →
    Calls Tryz.prog 30 #[nodeV a ka, nodeV b kb] w fun e w' => e = .returned (.bool (a.eqv b)) ∧ Below w.heap.size w w' := by
  refine Tree.induct (P := fun a => ∀ (b : Tree) (ka kb : Value) (w : World), KidsV w ka a.kids → KidsV w kb b.kids → a.count ≤ 4194304 →
    Calls Tryz.prog 30 #[nodeV a ka, nodeV b kb] w fun e w' => e = .returned (.bool (a.eqv b)) ∧ Below w.heap.size w w') (fun a ih => ?_) a
  intro b ka kb w hka hkb hct
  have hcl := Tree.count_eq a
  have hla := Tree.length_le_countL a.kids
  obtain ⟨ap, acap, ag, ao, rfl, hap, haa⟩ := hka.open
  obtain ⟨bp, bcap, bg, bo, rfl, hbp, hba⟩ := hkb.open
  have HAP := hidden hap
  have HAA := hidden haa
  have HBP := hidden hbp
  have HBA := hidden hba
  have HCL : Hid (Tree.countL a.kids < 4194304) := by show _ < _; omega
  have hlb : a.kids.length < 4194304 := by omega
  simp only [nodeV]
  rw [eqv_eq]
  clear hka hkb hap haa hbp hba hcl hla hct
  have hend : ∀ o1 o2, Below w.heap.size w ((w.alloc o1).alloc o2) := fun o1 o2 => ((Below.refl _ _).alloc (Nat.le_refl _) _).alloc (by simp) _
  by_cases hk : a.kind = b.kind
  · have d1 : (a.kind != b.kind) = false := by rw [hk]; simp
    by_cases ht : a.text = b.text
    · have d2 : (a.text.toList == b.text.toList) = true := by rw [ht]; simp
      by_cases hl : a.kids.length = b.kids.length
      · have d3 : ((a.kids.length : Int) != (b.kids.length : Int)) = false := by rw [hl]; simp
        rw [show (a.kind == b.kind) = true by simp [hk], decide_eq_true ht, Bool.true_and, Bool.true_and]
        obtain ⟨r, hr⟩ : ∃ r, Tree.eqvL a.kids b.kids = r := ⟨_, rfl⟩
        rw [hr]
        have HR := hidden hr
        have HL := hidden hl
        clear hr hl hk ht
        go_enter Tryz.func30, Tryz.ntmps30
        go_wp2_with fail
        obtain ⟨w2, hw2⟩ : ∃ w2, w2 = (w.alloc (.cells #[.int .i64 a.kind, .string a.text, .int .i64 a.at_, .int .i64 a.end_, .slice ap a.kids.length acap] 24)).alloc (.cells #[.int .i64 b.kind, .string b.text, .int .i64 b.at_, .int .i64 b.end_, .slice bp b.kids.length bcap] 24) := ⟨_, rfl⟩
        have hB2 : Below w.heap.size w w2 := by rw [hw2]; exact hend _ _
        have hbb : w2.cell? ⟨w.heap.size + 1, 4, none⟩ = some (.slice bp b.kids.length bcap) := by rw [hw2]; simp [go_sem]
        have hba : w2.cell? ⟨w.heap.size, 4, none⟩ = some (.slice ap a.kids.length acap) := by rw [hw2]; simp [go_sem]
        rw [← hw2]
        clear hw2 hend d1 d2 d3
        go_loopw [5] (fun i wr => ∃ k : Nat, k ≤ a.kids.length ∧ i = .int .i64 k ∧ Hid (Tree.eqvL (a.kids.drop k) (b.kids.drop k) = r ∧ Below w2.heap.size w2 wr)) (fun i _ => a.kids.length - (intOf i).toNat)
        case atStart => exact ⟨0, Nat.zero_le _, rfl, by rw [List.drop_zero, List.drop_zero]; exact HR.out, Below.refl _ _⟩
        case round =>
          obtain ⟨k, hk, rfl, hh⟩ := hrel
          have hB := bt hB2 hh.out.2
          have ca := cell_later hba hh.out.2
          by_cases hlt : k < a.kids.length
          · obtain ⟨x, hx⟩ : ∃ x, a.kids[k]? = some x := ⟨_, List.getElem?_eq_getElem hlt⟩
            obtain ⟨y, hy⟩ : ∃ y, b.kids[k]? = some y := ⟨_, List.getElem?_eq_getElem (by have := HL.out; omega)⟩
            obtain ⟨rfl, hag⟩ := HAP.out (fun h => by rw [h] at hlt; exact absurd hlt (Nat.not_lt_zero _))
            obtain ⟨rfl, hbg⟩ := HBP.out (fun h => by rw [h] at hy; simp at hy)
            obtain ⟨kx, hnx, hkx⟩ := HAA.out k x hx
            obtain ⟨ky, hny, hky⟩ := HBA.out k y hy
            obtain ⟨xp, xc, _, _, rfl, _, _⟩ := hkx.open
            obtain ⟨yp, yc, _, _, rfl, _, _⟩ := hky.open
            obtain ⟨c0, c1, c2, c3, c4⟩ := hnx.of_block (hB.block ag hag)
            obtain ⟨d0, d1, d2, d3, d4⟩ := hny.of_block (hB.block bg hbg)
            have hltz : (k : Int) < (a.kids.length : Int) := by omega
            have hltz2 : (k : Int) < (b.kids.length : Int) := by have := HL.out; omega
            have hev := hh.out.1
            rw [drop_step hx, drop_step hy, eqvL_cons] at hev
            have hrec := fun W' (hb : Below w.heap.size w W') => ih x (List.mem_of_getElem? hx) y _ _ W' (hkx.later hb) (hky.later hb) (by have := Tree.count_kid hx; have := HCL.out; omega)
            simp only [nodeV] at hrec
            obtain ⟨e, he⟩ : ∃ e, x.eqv y = e := ⟨_, rfl⟩
            rw [he] at hev hrec
            have HEV := hidden hev
            have hS : wr.cell? ⟨w.heap.size, 4, none⟩ = some (.slice (some ⟨ag, ao, none⟩) a.kids.length acap) ∧ wr.cell? ⟨w.heap.size + 1, 4, none⟩ = some (.slice (some ⟨bg, bo, none⟩) b.kids.length bcap) ∧ wr.cell? ⟨ag, ao + k * 5, none⟩ = some (.int .i64 x.kind) ∧ wr.cell? ⟨ag, ao + k * 5 + 1, none⟩ = some (.string x.text) ∧ wr.cell? ⟨ag, ao + k * 5 + 2, none⟩ = some (.int .i64 x.at_) ∧ wr.cell? ⟨ag, ao + k * 5 + 3, none⟩ = some (.int .i64 x.end_) ∧ wr.cell? ⟨ag, ao + k * 5 + 4, none⟩ = some (.slice xp x.kids.length xc) ∧ wr.cell? ⟨bg, bo + k * 5, none⟩ = some (.int .i64 y.kind) ∧ wr.cell? ⟨bg, bo + k * 5 + 1, none⟩ = some (.string y.text) ∧ wr.cell? ⟨bg, bo + k * 5 + 2, none⟩ = some (.int .i64 y.at_) ∧ wr.cell? ⟨bg, bo + k * 5 + 3, none⟩ = some (.int .i64 y.end_) ∧ wr.cell? ⟨bg, bo + k * 5 + 4, none⟩ = some (.slice yp y.kids.length yc) ∧ Hid (Below w.heap.size w wr) :=
              ⟨ca, cell_later hbb hh.out.2, c0, c1, c2, c3, c4, d0, d1, d2, d3, d4, hB⟩
            have HB2 : Hid (Below w2.heap.size w2 wr) := hh.out.2
            have HB0 := hidden hB2
            have HBx : Hid (Below w.heap.size w wr) := hB
            clear hnx hny hkx hky hev he hB hh ih hx hy d0 d1 d2 d3 d4 hB2 hbb hba c0 c1 c2 c3 c4
            go_wp2_with fail
            clear ca
            go_region_held3 (fun w' => w'.cell? ⟨w.heap.size, 4, none⟩ = some (.slice (some ⟨ag, ao, none⟩) a.kids.length acap) ∧ w'.cell? ⟨w.heap.size + 1, 4, none⟩ = some (.slice (some ⟨bg, bo, none⟩) b.kids.length bcap) ∧ w'.cell? ⟨ag, ao + k * 5, none⟩ = some (.int .i64 x.kind) ∧ w'.cell? ⟨ag, ao + k * 5 + 1, none⟩ = some (.string x.text) ∧ w'.cell? ⟨ag, ao + k * 5 + 2, none⟩ = some (.int .i64 x.at_) ∧ w'.cell? ⟨ag, ao + k * 5 + 3, none⟩ = some (.int .i64 x.end_) ∧ w'.cell? ⟨ag, ao + k * 5 + 4, none⟩ = some (.slice xp x.kids.length xc) ∧ w'.cell? ⟨bg, bo + k * 5, none⟩ = some (.int .i64 y.kind) ∧ w'.cell? ⟨bg, bo + k * 5 + 1, none⟩ = some (.string y.text) ∧ w'.cell? ⟨bg, bo + k * 5 + 2, none⟩ = some (.int .i64 y.at_) ∧ w'.cell? ⟨bg, bo + k * 5 + 3, none⟩ = some (.int .i64 y.end_) ∧ w'.cell? ⟨bg, bo + k * 5 + 4, none⟩ = some (.slice yp y.kids.length yc) ∧ Hid (Below w.heap.size w w'))
              (first | assumption | (exact eqKeep2 (by assumption) (by assumption)) | (exact eqKeep2 hS ⟨rfl, rfl, rfl, Nat.le_refl _, fun _ _ => rfl⟩))
              (first | (go_at_call 30; (with_reducible refine (hrec _ (by first | exact HBx.out | exact HBx.out.drew | exact below_drewN HBx.out _)).mono ?_); rintro e w5 ⟨rfl, hB5⟩))
            have HB6 : Hid (Below w2.heap.size w2 w5) := bt HB2.out.drew hB5
            clear hS hrec hB5
            cases e with
            | false =>
              go_wp2_with fail
              go_ret
              exact ⟨by have h := HEV.out; rw [Bool.false_and] at h; rw [← h]; rfl, bt HB0.out HB6.out⟩
            | true =>
              go_wp2_with fail
              go_roundw
              case rel => exact ⟨k + 1, by omega, by go_num, by have h := HEV.out; rw [Bool.true_and] at h; exact h, HB6.out⟩
              case measure => simp [intOf]; omega
          · obtain rfl : k = a.kids.length := by omega
            have hev := hh.out.1
            rw [List.drop_length, HL.out, List.drop_length, eqvL_nil] at hev
            have HEV := hidden hev
            have HB7 := hidden hB
            clear hev hB hh
            go_wp2_with fail
            go_ret
            exact ⟨by rw [← HEV.out]; rfl, HB7.out⟩
      · have d3 : ((a.kids.length : Int) != (b.kids.length : Int)) = true := by rw [bne_iff_ne]; omega
        rw [eqvL_len hl, Bool.and_false]
        clear hl hk ht
        go_enter Tryz.func30, Tryz.ntmps30
        go_wp2_with fail
        go_ret
        exact ⟨rfl, hend _ _⟩
    · have d2 : (a.text.toList == b.text.toList) = false := str_neq ht
      rw [decide_eq_false ht, Bool.and_false, Bool.false_and]
      clear hk ht
      go_enter Tryz.func30, Tryz.ntmps30
      go_wp2_with fail
      go_ret
      exact ⟨rfl, hend _ _⟩
  · have d1 : (a.kind != b.kind) = true := by rw [bne_iff_ne]; exact hk
    rw [show (a.kind == b.kind) = false by simp [hk], Bool.false_and, Bool.false_and]
    clear hk
    go_enter Tryz.func30, Tryz.ntmps30
    go_wp2_with fail
    go_ret
    exact ⟨rfl, hend _ _⟩

end Go.Proofs.YtlbaaiglebpjiaaGreatDoor
