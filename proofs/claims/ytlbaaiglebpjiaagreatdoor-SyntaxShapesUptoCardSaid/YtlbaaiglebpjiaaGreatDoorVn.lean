/-
  The reference: shaped, Program, Expression. By gen_vn.py.
-/
import Derived.Test.YtlbaaiglebpjiaaGreatDoorVh
import Derived.Test.YtlbaaiglebpjiaaGreatDoorVi
import Derived.Test.YtlbaaiglebpjiaaGreatDoorVj
import Derived.Test.YtlbaaiglebpjiaaGreatDoorVk
import Derived.Test.YtlbaaiglebpjiaaGreatDoorVm
import Derived.Deep.RegionHeld3
namespace Go.Proofs.YtlbaaiglebpjiaaGreatDoor
open Go.RowKit Go.Shelf Go.Lib

theorem TextsOk.self {t : Tree} (h : TextsOk t) : t.text.size ≤ 4096 := h t (by rw [Tree.nodes_eq]; exact List.mem_cons_self)
theorem TextsOk.kid {t x : Tree} (h : TextsOk t) (hx : x ∈ t.kids) : TextsOk x := fun y hy => h y (nodes_kid hx y hy)

theorem refKids_any (t : Tree) (p : Option Addr) (cap : Nat) (h : Bool) (w : World) (hk : KidsV w (.slice p t.kids.length cap) t.kids) (hkl : t.kids.length ≤ 4194304) :
    Calls Tryz.prog 71 #[nodeV t (.slice p t.kids.length cap), .bool h] w fun e w' => e = .returned (.bool (refKids h t.kind t.kids)) ∧ Below w.heap.size w w' := by
  by_cases n1 : t.kind = 1
  · rw [n1]; exact refKids_1 t p cap h w hk hkl n1
  by_cases n16 : t.kind = 16
  · rw [n16]; exact refKids_16 t p cap h w hk hkl n16
  by_cases n35 : t.kind = 35
  · rw [n35]; exact refKids_35 t p cap h w hk hkl n35
  by_cases n36 : t.kind = 36
  · rw [n36]; exact refKids_36 t p cap h w hk hkl n36
  by_cases n37 : t.kind = 37
  · rw [n37]; exact refKids_37 t p cap h w hk hkl n37
  by_cases n38 : t.kind = 38
  · rw [n38]; exact refKids_38 t p cap h w hk hkl n38
  by_cases n2 : t.kind = 2
  · rw [n2]; exact refKids_2 t p cap h w hk hkl n2
  by_cases n25 : t.kind = 25
  · rw [n25]; exact refKids_25 t p cap h w hk hkl n25
  by_cases n3 : t.kind = 3
  · rw [n3]; exact refKids_3 t p cap h w hk hkl n3
  by_cases n4 : t.kind = 4
  · rw [n4]; exact refKids_4 t p cap h w hk hkl n4
  by_cases n5 : t.kind = 5
  · rw [n5]; exact refKids_5 t p cap h w hk hkl n5
  by_cases n6 : t.kind = 6
  · rw [n6]; exact refKids_6 t p cap h w hk hkl n6
  by_cases n7 : t.kind = 7
  · rw [n7]; exact refKids_7 t p cap h w hk hkl n7
  by_cases n8 : t.kind = 8
  · rw [n8]; exact refKids_8 t p cap h w hk hkl n8
  by_cases n9 : t.kind = 9
  · rw [n9]; exact refKids_9 t p cap h w hk hkl n9
  by_cases n10 : t.kind = 10
  · rw [n10]; exact refKids_10 t p cap h w hk hkl n10
  by_cases n11 : t.kind = 11
  · rw [n11]; exact refKids_11 t p cap h w hk hkl n11
  by_cases n12 : t.kind = 12
  · rw [n12]; exact refKids_12 t p cap h w hk hkl n12
  by_cases n13 : t.kind = 13
  · rw [n13]; exact refKids_13 t p cap h w hk hkl n13
  by_cases n14 : t.kind = 14
  · rw [n14]; exact refKids_14 t p cap h w hk hkl n14
  by_cases n15 : t.kind = 15
  · rw [n15]; exact refKids_15 t p cap h w hk hkl n15
  by_cases n17 : t.kind = 17
  · rw [n17]; exact refKids_17 t p cap h w hk hkl n17
  by_cases n18 : t.kind = 18
  · rw [n18]; exact refKids_18 t p cap h w hk hkl n18
  by_cases n19 : t.kind = 19
  · rw [n19]; cases h with
    | true => exact refKids_191 t p cap w hk hkl n19
    | false => exact refKids_190 t p cap w hk hkl n19
  by_cases n20 : t.kind = 20
  · rw [n20]; exact refKids_20 t p cap h w hk hkl n20
  by_cases n21 : t.kind = 21
  · rw [n21]; exact refKids_21 t p cap h w hk hkl n21
  by_cases n22 : t.kind = 22
  · rw [n22]; exact refKids_22 t p cap h w hk hkl n22
  by_cases n23 : t.kind = 23
  · rw [n23]; exact refKids_23 t p cap h w hk hkl n23
  by_cases n24 : t.kind = 24
  · rw [n24]; exact refKids_24 t p cap h w hk hkl n24
  by_cases n26 : t.kind = 26
  · rw [n26]; exact refKids_26 t p cap h w hk hkl n26
  by_cases n39 : t.kind = 39
  · rw [n39]; exact refKids_39 t p cap h w hk hkl n39
  by_cases n27 : t.kind = 27
  · rw [n27]; exact refKids_27 t p cap h w hk hkl n27
  by_cases n28 : t.kind = 28
  · rw [n28]; exact refKids_28 t p cap h w hk hkl n28
  by_cases n29 : t.kind = 29
  · rw [n29]; exact refKids_29 t p cap h w hk hkl n29
  by_cases n31 : t.kind = 31
  · rw [n31]; exact refKids_31 t p cap h w hk hkl n31
  by_cases n32 : t.kind = 32
  · rw [n32]; exact refKids_32 t p cap h w hk hkl n32
  by_cases n30 : t.kind = 30
  · rw [n30]; exact refKids_30 t p cap h w hk hkl n30
  by_cases n33 : t.kind = 33
  · rw [n33]; exact refKids_33 t p cap h w hk hkl n33
  by_cases n34 : t.kind = 34
  · rw [n34]; exact refKids_34 t p cap h w hk hkl n34
  by_cases n40 : t.kind = 40
  · rw [n40]; exact refKids_40 t p cap h w hk hkl n40
  · rw [show refKids h t.kind t.kids = false by simp [refKids, n1, n16, n35, n36, n37, n38, n2, n25, n3, n4, n5, n6, n7, n8, n9, n10, n11, n12, n13, n14, n15, n17, n18, n19, n20, n21, n22, n23, n24, n26, n39, n27, n28, n29, n31, n32, n30, n33, n34, n40]]
    exact refKids_none t p cap h w (beq_eq_false_iff_ne.2 n1) (beq_eq_false_iff_ne.2 n16) (beq_eq_false_iff_ne.2 n35) (beq_eq_false_iff_ne.2 n36) (beq_eq_false_iff_ne.2 n37) (beq_eq_false_iff_ne.2 n38) (beq_eq_false_iff_ne.2 n2) (beq_eq_false_iff_ne.2 n25) (beq_eq_false_iff_ne.2 n3) (beq_eq_false_iff_ne.2 n4) (beq_eq_false_iff_ne.2 n5) (beq_eq_false_iff_ne.2 n6) (beq_eq_false_iff_ne.2 n7) (beq_eq_false_iff_ne.2 n8) (beq_eq_false_iff_ne.2 n9) (beq_eq_false_iff_ne.2 n10) (beq_eq_false_iff_ne.2 n11) (beq_eq_false_iff_ne.2 n12) (beq_eq_false_iff_ne.2 n13) (beq_eq_false_iff_ne.2 n14) (beq_eq_false_iff_ne.2 n15) (beq_eq_false_iff_ne.2 n17) (beq_eq_false_iff_ne.2 n18) (beq_eq_false_iff_ne.2 n19) (beq_eq_false_iff_ne.2 n20) (beq_eq_false_iff_ne.2 n21) (beq_eq_false_iff_ne.2 n22) (beq_eq_false_iff_ne.2 n23) (beq_eq_false_iff_ne.2 n24) (beq_eq_false_iff_ne.2 n26) (beq_eq_false_iff_ne.2 n39) (beq_eq_false_iff_ne.2 n27) (beq_eq_false_iff_ne.2 n28) (beq_eq_false_iff_ne.2 n29) (beq_eq_false_iff_ne.2 n31) (beq_eq_false_iff_ne.2 n32) (beq_eq_false_iff_ne.2 n30) (beq_eq_false_iff_ne.2 n33) (beq_eq_false_iff_ne.2 n34) (beq_eq_false_iff_ne.2 n40)

theorem refText_any (t : Tree) (p : Option Addr) (cap : Nat) (w : World) (ht : t.text.size ≤ 4096) :
    Calls Tryz.prog 70 #[nodeV t (.slice p t.kids.length cap)] w fun e w' => e = .returned (.bool (refText t.kind t.text)) ∧ Below w.heap.size w w' := by
  by_cases n3 : t.kind = 3
  · rw [n3]; exact refText_3 t p cap w ht n3
  by_cases n4 : t.kind = 4
  · rw [n4]; exact refText_4 t p cap w ht n4
  by_cases n5 : t.kind = 5
  · rw [n5]; exact refText_5 t p cap w ht n5
  by_cases n6 : t.kind = 6
  · rw [n6]; exact refText_6 t p cap w ht n6
  by_cases n7 : t.kind = 7
  · rw [n7]; exact refText_7 t p cap w ht n7
  by_cases n8 : t.kind = 8
  · rw [n8]; exact refText_8 t p cap w ht n8
  by_cases n9 : t.kind = 9
  · rw [n9]; exact refText_9 t p cap w ht n9
  by_cases n11 : t.kind = 11
  · rw [n11]; exact refText_11 t p cap w ht n11
  by_cases n13 : t.kind = 13
  · rw [n13]; exact refText_13 t p cap w ht n13
  by_cases n14 : t.kind = 14
  · rw [n14]; exact refText_14 t p cap w ht n14
  by_cases n15 : t.kind = 15
  · rw [n15]; exact refText_15 t p cap w ht n15
  by_cases n16 : t.kind = 16
  · rw [n16]; exact refText_16 t p cap w ht n16
  by_cases n22 : t.kind = 22
  · rw [n22]; exact refText_22 t p cap w ht n22
  by_cases n24 : t.kind = 24
  · rw [n24]; exact refText_24 t p cap w ht n24
  by_cases n35 : t.kind = 35
  · rw [n35]; exact refText_35 t p cap w ht n35
  by_cases n36 : t.kind = 36
  · rw [n36]; exact refText_36 t p cap w ht n36
  by_cases n37 : t.kind = 37
  · rw [n37]; exact refText_37 t p cap w ht n37
  by_cases n19 : t.kind = 19
  · rw [n19]; exact refText_19 t p cap w n19
  by_cases n21 : t.kind = 21
  · rw [n21]; exact refText_21 t p cap w n21
  by_cases n39 : t.kind = 39
  · rw [n39]; exact refText_39 t p cap w n39
  by_cases n40 : t.kind = 40
  · rw [n40]; exact refText_40 t p cap w n40
  by_cases n38 : t.kind = 38
  · rw [n38]; exact refText_38 t p cap w n38
  · rw [show refText t.kind t.text = decide (t.text = ⟨#[]⟩) by simp [refText, n3, n4, n5, n6, n7, n8, n9, n11, n13, n14, n15, n16, n22, n24, n35, n36, n37, n19, n21, n39, n40, n38]]
    exact refText_none t p cap w (beq_eq_false_iff_ne.2 n3) (beq_eq_false_iff_ne.2 n4) (beq_eq_false_iff_ne.2 n5) (beq_eq_false_iff_ne.2 n6) (beq_eq_false_iff_ne.2 n7) (beq_eq_false_iff_ne.2 n8) (beq_eq_false_iff_ne.2 n9) (beq_eq_false_iff_ne.2 n11) (beq_eq_false_iff_ne.2 n13) (beq_eq_false_iff_ne.2 n14) (beq_eq_false_iff_ne.2 n15) (beq_eq_false_iff_ne.2 n16) (beq_eq_false_iff_ne.2 n22) (beq_eq_false_iff_ne.2 n24) (beq_eq_false_iff_ne.2 n35) (beq_eq_false_iff_ne.2 n36) (beq_eq_false_iff_ne.2 n37) (beq_eq_false_iff_ne.2 n19) (beq_eq_false_iff_ne.2 n21) (beq_eq_false_iff_ne.2 n39) (beq_eq_false_iff_ne.2 n40) (beq_eq_false_iff_ne.2 n38)

/-- A node's kind, its kids, a kid, what was there. -/
theorem shKeep {w w' w0 : World} {V A P : Nat} {K : Int} {x : Tree} {kx ka : Value}
    (h : w.cell? ⟨V, 0, none⟩ = some (.int .i64 K) ∧ w.cell? ⟨V, 4, none⟩ = some ka ∧ w.cell? ⟨A, P, none⟩ = some (.int .i64 x.kind) ∧ w.cell? ⟨A, P + 1, none⟩ = some (.string x.text) ∧ w.cell? ⟨A, P + 2, none⟩ = some (.int .i64 x.at_) ∧ w.cell? ⟨A, P + 3, none⟩ = some (.int .i64 x.end_) ∧ w.cell? ⟨A, P + 4, none⟩ = some kx ∧ Hid (Below w0.heap.size w0 w))
    (hb : Below w.heap.size w w') :
    w'.cell? ⟨V, 0, none⟩ = some (.int .i64 K) ∧ w'.cell? ⟨V, 4, none⟩ = some ka ∧ w'.cell? ⟨A, P, none⟩ = some (.int .i64 x.kind) ∧ w'.cell? ⟨A, P + 1, none⟩ = some (.string x.text) ∧ w'.cell? ⟨A, P + 2, none⟩ = some (.int .i64 x.at_) ∧ w'.cell? ⟨A, P + 3, none⟩ = some (.int .i64 x.end_) ∧ w'.cell? ⟨A, P + 4, none⟩ = some kx ∧ Hid (Below w0.heap.size w0 w') := by
  obtain ⟨b0, b1, a0, a1, a2, a3, a4, a11⟩ := h
  exact ⟨cell_later b0 hb, cell_later b1 hb, cell_later a0 hb, cell_later a1 hb, cell_later a2 hb, cell_later a3 hb, cell_later a4 hb, bt a11.out hb⟩

set_option maxRecDepth 100000 in
set_option maxHeartbeats 12800000 in
theorem refShaped_tree : ∀ (n : Nat) (t : Tree) (h : Bool) (kv : Value) (w : World), t.levels ≤ n → KidsV w kv t.kids → t.count ≤ 4194304 → TextsOk t →
    Calls Tryz.prog 50 #[nodeV t kv, .bool h] w fun e w' => e = .returned (.bool (shapedN n h t)) ∧ Below w.heap.size w w'
  | 0, t, _, _, _, hl, _, _, _ => by rw [Tree.levels_eq] at hl; omega
  | n + 1, t, h, kv, w, hl, hkv, hct, htx => by
    have hcl := Tree.count_eq t
    have hla := Tree.length_le_countL t.kids
    obtain ⟨p, cap, g, o, rfl, hp, ha⟩ := hkv.open
    have hlen : t.kids.length ≤ 4194304 := by omega
    have hT := fun w2 => refText_any t p cap w2 (htx.self)
    have hK := fun w2 (hb : Below w.heap.size w w2) => refKids_any t p cap h w2 (hkv.later hb) hlen
    have ih := fun x (hx : x ∈ t.kids) (h : Bool) kv w (hk : KidsV w kv x.kids) (hc : x.count ≤ 4194304) => refShaped_tree n x h kv w (by have := levels_kid hx; omega) hk hc (htx.kid hx)
    have HP := hidden hp
    have HA := hidden ha
    have HCL : Hid (Tree.countL t.kids < 4194304) := by show _ < _; omega
    have hlb : t.kids.length < 4194304 := by omega
    rw [shapedN]
    simp only [nodeV] at hT hK ⊢
    obtain ⟨bT, hbT⟩ : ∃ b, refText t.kind t.text = b := ⟨_, rfl⟩
    obtain ⟨bK, hbK⟩ : ∃ b, refKids h t.kind t.kids = b := ⟨_, rfl⟩
    rw [hbT, hbK]
    simp only [hbT] at hT
    simp only [hbK] at hK
    have hend : ∀ o1, Below w.heap.size w (w.alloc o1) := fun o1 => (Below.refl _ _).alloc (Nat.le_refl _) _
    clear hkv hp ha hcl hla hct htx hl hbT hbK
    cases bT with
    | false =>
      clear hK ih
      go_enter Tryz.func50, Tryz.ntmps50
      go_wp2_with (go_at_call 70; (with_reducible refine (hT _).mono ?_); rintro e w3 ⟨rfl, hb3⟩)
      go_ret
      exact ⟨rfl, bt (hend _) hb3⟩
    | true =>
      cases bK with
      | false =>
        clear ih
        go_enter Tryz.func50, Tryz.ntmps50
        go_wp2_with fail
        (with_reducible refine (hT _).mono ?_)
        rintro e w3 ⟨rfl, hb3⟩
        have HB3 := hidden (bt (hend (.cells #[.int .i64 t.kind, .string t.text, .int .i64 t.at_, .int .i64 t.end_, .slice p t.kids.length cap] 24)) hb3)
        have c0 := cell_later (w := w.alloc (.cells #[.int .i64 t.kind, .string t.text, .int .i64 t.at_, .int .i64 t.end_, .slice p t.kids.length cap] 24)) (b := w.heap.size) (o := 0) (v := .int .i64 t.kind) (by simp [go_sem]) hb3
        have c1 := cell_later (w := w.alloc (.cells #[.int .i64 t.kind, .string t.text, .int .i64 t.at_, .int .i64 t.end_, .slice p t.kids.length cap] 24)) (b := w.heap.size) (o := 1) (v := .string t.text) (by simp [go_sem]) hb3
        have c2 := cell_later (w := w.alloc (.cells #[.int .i64 t.kind, .string t.text, .int .i64 t.at_, .int .i64 t.end_, .slice p t.kids.length cap] 24)) (b := w.heap.size) (o := 2) (v := .int .i64 t.at_) (by simp [go_sem]) hb3
        have c3 := cell_later (w := w.alloc (.cells #[.int .i64 t.kind, .string t.text, .int .i64 t.at_, .int .i64 t.end_, .slice p t.kids.length cap] 24)) (b := w.heap.size) (o := 3) (v := .int .i64 t.end_) (by simp [go_sem]) hb3
        have c4 := cell_later (w := w.alloc (.cells #[.int .i64 t.kind, .string t.text, .int .i64 t.at_, .int .i64 t.end_, .slice p t.kids.length cap] 24)) (b := w.heap.size) (o := 4) (v := .slice p t.kids.length cap) (by simp [go_sem]) hb3
        clear hb3 hT hend
        go_wp2_with fail
        (with_reducible refine (hK _ HB3.out).mono ?_)
        rintro e w4 ⟨rfl, hb4⟩
        have HB4 := hidden (bt HB3.out hb4)
        clear hb4 hK c0 c1 c2 c3 c4
        go_wp2_with fail
        go_ret
        exact ⟨rfl, HB4.out⟩
      | true =>
        rw [Bool.true_and, Bool.true_and]
        obtain ⟨r, hr⟩ : ∃ r, t.kids.all (shapedN n (t.kind == 27)) = r := ⟨_, rfl⟩
        rw [hr]
        have HR := hidden hr
        clear hr
        go_enter Tryz.func50, Tryz.ntmps50
        go_wp2_with fail
        (with_reducible refine (hT _).mono ?_)
        rintro e w3 ⟨rfl, hb3⟩
        have HB3 := hidden (bt (hend (.cells #[.int .i64 t.kind, .string t.text, .int .i64 t.at_, .int .i64 t.end_, .slice p t.kids.length cap] 24)) hb3)
        have c0 := cell_later (w := w.alloc (.cells #[.int .i64 t.kind, .string t.text, .int .i64 t.at_, .int .i64 t.end_, .slice p t.kids.length cap] 24)) (b := w.heap.size) (o := 0) (v := .int .i64 t.kind) (by simp [go_sem]) hb3
        have c1 := cell_later (w := w.alloc (.cells #[.int .i64 t.kind, .string t.text, .int .i64 t.at_, .int .i64 t.end_, .slice p t.kids.length cap] 24)) (b := w.heap.size) (o := 1) (v := .string t.text) (by simp [go_sem]) hb3
        have c2 := cell_later (w := w.alloc (.cells #[.int .i64 t.kind, .string t.text, .int .i64 t.at_, .int .i64 t.end_, .slice p t.kids.length cap] 24)) (b := w.heap.size) (o := 2) (v := .int .i64 t.at_) (by simp [go_sem]) hb3
        have c3 := cell_later (w := w.alloc (.cells #[.int .i64 t.kind, .string t.text, .int .i64 t.at_, .int .i64 t.end_, .slice p t.kids.length cap] 24)) (b := w.heap.size) (o := 3) (v := .int .i64 t.end_) (by simp [go_sem]) hb3
        have c4 := cell_later (w := w.alloc (.cells #[.int .i64 t.kind, .string t.text, .int .i64 t.at_, .int .i64 t.end_, .slice p t.kids.length cap] 24)) (b := w.heap.size) (o := 4) (v := .slice p t.kids.length cap) (by simp [go_sem]) hb3
        clear hb3 hT hend
        go_wp2_with fail
        (with_reducible refine (hK _ HB3.out).mono ?_)
        rintro e w4 ⟨rfl, hb4⟩
        have hB4 := bt HB3.out hb4
        have hba := cell_later c4 hb4
        have hb0 := cell_later c0 hb4
        clear hb4 hK c0 c1 c2 c3 c4
        go_wp2_with fail
        go_loopw [5] (fun i wr => ∃ k : Nat, k ≤ t.kids.length ∧ i = .int .i64 k ∧ Hid ((t.kids.drop k).all (shapedN n (t.kind == 27)) = r ∧ Below w4.heap.size w4 wr)) (fun i _ => t.kids.length - (intOf i).toNat)
        case atStart => exact ⟨0, Nat.zero_le _, rfl, by rw [List.drop_zero]; exact HR.out, Below.refl _ _⟩
        case round =>
          obtain ⟨k, hk, rfl, hh⟩ := hrel
          have hB := bt hB4 hh.out.2
          have ca := cell_later hba hh.out.2
          by_cases hlt : k < t.kids.length
          · obtain ⟨x, hx⟩ : ∃ x, t.kids[k]? = some x := ⟨_, List.getElem?_eq_getElem hlt⟩
            obtain ⟨rfl, hag⟩ := HP.out (fun h => by rw [h] at hlt; exact absurd hlt (Nat.not_lt_zero _))
            obtain ⟨kx, hnx, hkx⟩ := HA.out k x hx
            obtain ⟨xp, xc, _, _, rfl, _, _⟩ := hkx.open
            obtain ⟨c0, c1, c2, c3, c4⟩ := hnx.of_block (hB.block g hag)
            have hltz : (k : Int) < (t.kids.length : Int) := by omega
            have hev := hh.out.1
            rw [drop_step hx, List.all_cons] at hev
            obtain ⟨bH, hbH⟩ : ∃ b, (t.kind == 27) = b := ⟨_, rfl⟩
            have hrec := fun W' (hb : Below w.heap.size w W') => ih x (List.mem_of_getElem? hx) (t.kind == 27) _ W' (hkx.later hb) (by have := Tree.count_kid hx; have := HCL.out; omega)
            simp only [nodeV] at hrec
            obtain ⟨e, he⟩ : ∃ e, shapedN n (t.kind == 27) x = e := ⟨_, rfl⟩
            rw [he] at hev hrec
            have HEV := hidden hev
            have hS : wr.cell? ⟨w.heap.size, 0, none⟩ = some (.int .i64 t.kind) ∧ wr.cell? ⟨w.heap.size, 4, none⟩ = some (.slice (some ⟨g, o, none⟩) t.kids.length cap) ∧ wr.cell? ⟨g, o + k * 5, none⟩ = some (.int .i64 x.kind) ∧ wr.cell? ⟨g, o + k * 5 + 1, none⟩ = some (.string x.text) ∧ wr.cell? ⟨g, o + k * 5 + 2, none⟩ = some (.int .i64 x.at_) ∧ wr.cell? ⟨g, o + k * 5 + 3, none⟩ = some (.int .i64 x.end_) ∧ wr.cell? ⟨g, o + k * 5 + 4, none⟩ = some (.slice xp x.kids.length xc) ∧ Hid (Below w.heap.size w wr) :=
              ⟨cell_later hb0 hh.out.2, ca, c0, c1, c2, c3, c4, hB⟩
            have HB2 : Hid (Below w4.heap.size w4 wr) := hh.out.2
            have HB0 := hidden hB4
            have HBx : Hid (Below w.heap.size w wr) := hB
            clear hnx hkx hev he hB hh ih hx hB4 c0 c1 c2 c3 c4 hba hb0 hbH bH
            go_wp2_with fail
            clear ca
            go_region_held3 (fun w' => w'.cell? ⟨w.heap.size, 0, none⟩ = some (.int .i64 t.kind) ∧ w'.cell? ⟨w.heap.size, 4, none⟩ = some (.slice (some ⟨g, o, none⟩) t.kids.length cap) ∧ w'.cell? ⟨g, o + k * 5, none⟩ = some (.int .i64 x.kind) ∧ w'.cell? ⟨g, o + k * 5 + 1, none⟩ = some (.string x.text) ∧ w'.cell? ⟨g, o + k * 5 + 2, none⟩ = some (.int .i64 x.at_) ∧ w'.cell? ⟨g, o + k * 5 + 3, none⟩ = some (.int .i64 x.end_) ∧ w'.cell? ⟨g, o + k * 5 + 4, none⟩ = some (.slice xp x.kids.length xc) ∧ Hid (Below w.heap.size w w'))
              (first | assumption | (exact shKeep (by assumption) (by assumption)) | (exact shKeep hS ⟨rfl, rfl, rfl, Nat.le_refl _, fun _ _ => rfl⟩))
              (first | (go_at_call 50; (with_reducible refine (hrec _ (by first | exact HBx.out | exact HBx.out.drew | exact below_drewN HBx.out _)).mono ?_); rintro e w5 ⟨rfl, hB5⟩))
            have HB6 : Hid (Below w4.heap.size w4 w5) := bt HB2.out.drew hB5
            clear hS hrec hB5
            cases e with
            | false =>
              go_wp2_with fail
              go_ret
              exact ⟨by have h := HEV.out; rw [Bool.false_and] at h; rw [← h]; rfl, bt HB0.out HB6.out⟩
            | true =>
              go_wp2_with fail
              go_roundw
              case rel => exact ⟨k + 1, by omega, by go_num, by have h := HEV.out; rw [Bool.true_and] at h; exact h, HB6.out⟩
              case measure => simp [intOf]; omega
          · obtain rfl : k = t.kids.length := by omega
            have hev := hh.out.1
            rw [List.drop_length, List.all_nil] at hev
            have HEV := hidden hev
            have HB7 := hidden hB
            clear hev hB hh
            go_wp2_with fail
            go_ret
            exact ⟨by rw [← HEV.out]; rfl, HB7.out⟩


set_option maxRecDepth 100000 in
set_option maxHeartbeats 6400000 in
theorem refPrograms_tree (t : Tree) (kv : Value) (w : World) (hk : KidsV w kv t.kids) (hct : t.count ≤ 4194304) (htx : TextsOk t) :
    Calls Tryz.prog 14 #[nodeV t kv] w fun e w' => e = .returned (.bool (refProgB t)) ∧ Below w.heap.size w w' := by
  have hS := fun w2 (hb : Below w.heap.size w w2) => refShaped_tree t.levels t false kv w2 (Nat.le_refl _) (hk.later hb) hct htx
  have hend : ∀ o1, Below w.heap.size w (w.alloc o1) := fun o1 => (Below.refl _ _).alloc (Nat.le_refl _) _
  obtain ⟨p, cap, g, o, rfl, _, _⟩ := hk.open
  unfold refProgB
  obtain ⟨b, hb⟩ : ∃ b, (t.kind == 2) = b := ⟨_, rfl⟩
  obtain ⟨c, hc⟩ : ∃ c, shapedN t.levels false t = c := ⟨_, rfl⟩
  rw [hc]
  simp only [hc] at hS
  simp only [nodeV] at hS ⊢
  clear hk hct htx hc
  cases b with
  | false =>
    rw [hb]
    clear hS
    go_enter Tryz.func14, Tryz.ntmps14
    go_wp2_with fail
    go_ret
    exact ⟨rfl, hend _⟩
  | true =>
    rw [hb, Bool.true_and]
    go_enter Tryz.func14, Tryz.ntmps14
    go_wp2_with (go_at_call 50; (with_reducible refine (hS _ (hend _)).mono ?_); rintro e w3 ⟨rfl, hb3⟩)
    go_ret
    exact ⟨rfl, bt (hend _) hb3⟩


set_option maxRecDepth 100000 in
set_option maxHeartbeats 6400000 in
theorem refExpressions_tree (t : Tree) (kv : Value) (w : World) (hk : KidsV w kv t.kids) (hct : t.count ≤ 4194304) (htx : TextsOk t) :
    Calls Tryz.prog 16 #[nodeV t kv] w fun e w' => e = .returned (.bool (refExprB t)) ∧ Below w.heap.size w w' := by
  have hS := fun w2 (hb : Below w.heap.size w w2) => refShaped_tree t.levels t false kv w2 (Nat.le_refl _) (hk.later hb) hct htx
  have hE := fun w2 => refIsExpression_any t.kind w2
  have hend : ∀ o1, Below w.heap.size w (w.alloc o1) := fun o1 => (Below.refl _ _).alloc (Nat.le_refl _) _
  obtain ⟨p, cap, g, o, rfl, _, _⟩ := hk.open
  unfold refExprB
  obtain ⟨b, hb⟩ : ∃ b, kExprB t.kind = b := ⟨_, rfl⟩
  obtain ⟨c, hc⟩ : ∃ c, shapedN t.levels false t = c := ⟨_, rfl⟩
  rw [hc]
  simp only [hc] at hS
  simp only [nodeV] at hS ⊢
  clear hk hct htx hc
  simp only [hb] at hE
  cases b with
  | false =>
    rw [hb]
    clear hS
    go_enter Tryz.func16, Tryz.ntmps16
    go_wp2_with (go_at_call 53; (with_reducible refine (hE _).mono ?_); rintro e w3 ⟨rfl, rfl⟩)
    go_ret
    exact ⟨rfl, hend _⟩
  | true =>
    rw [hb, Bool.true_and]
    go_enter Tryz.func16, Tryz.ntmps16
    go_wp2_with (first | (go_at_call 53; (with_reducible refine (hE _).mono ?_); rintro e w3 ⟨rfl, rfl⟩) | (go_at_call 50; (with_reducible refine (hS _ (hend _)).mono ?_); rintro e w4 ⟨rfl, hb3⟩))
    go_ret
    exact ⟨rfl, bt (hend _) hb3⟩

end Go.Proofs.YtlbaaiglebpjiaaGreatDoor
