/-
  The walk of SyntaxInverse.
-/
import Derived.Test.YtlbaaiglebpjiaaGreatDoorKa
import Derived.Test.YtlbaaiglebpjiaaGreatDoorAw
import Derived.Test.YtlbaaiglebpjiaaGreatDoorYs
import Derived.Deep.RegionHeld3
namespace Go.Proofs.YtlbaaiglebpjiaaGreatDoor
open Go.RowKit Go.Shelf Go.Lib

def LastOk (t : Tree) (wr : World) (lv : Value) (k : Nat) : Prop := 0 < k → ∃ q, t.pathOf (k - 1) = some q ∧ IntsV wr lv (Tree.ints q)

theorem path_len (t : Tree) : ∀ {n : Nat} {q : List Nat}, t.pathOf n = some q → q.length ≤ t.count := by
  refine Tree.induct (P := fun t => ∀ {n : Nat} {q : List Nat}, t.pathOf n = some q → q.length ≤ t.count) (fun t ih => ?_) t
  intro n q h
  cases n with
  | zero => rw [pathOf_zero] at h; cases h; exact Nat.zero_le _
  | succ n =>
    rw [pathOf_succ] at h
    obtain ⟨j, x, q', n', h1, rfl, h3, h4, rfl⟩ := Tree.pathL_some h
    have := ih x (List.mem_of_getElem? h1) h3
    have := Tree.count_kid h1
    rw [List.length_cons, Tree.count_eq]; omega

set_option maxRecDepth 100000 in
set_option maxHeartbeats 12800000 in
theorem inverse_walk (t : Tree) (kv : Value) (W : World) (hk : KidsV W kv t.kids) (hct : t.count ≤ 1048576) (hmax : MaxAt W) :
    Calls Tryz.prog 7 #[nodeV t kv] W fun e w' => e = .returned (.bool true) ∧ Below W.heap.size W w' := by
  have haw := fun w (h : Below W.heap.size W w) => awake_any w (hmax.keep h)
  have hsm : ∀ w, KidsV w kv t.kids → Calls Tryz.prog 12 #[nodeV t kv, .int .i64 100] w fun e w' => e = .returned (.bool (smallB 100 t)) ∧ Below w.heap.size w w' := fun w h => refSmall_any 100 (by decide) t kv w h (by omega)
  have hcn := fun w (h : KidsV w kv t.kids) => count_any t kv w h (by omega)
  have hpt := fun (n : Nat) (hn : n ≤ 9223372036854775807) w (h : KidsV w kv t.kids) => path_any t kv n hn w h (by omega)
  have hnu := fun (q : List Nat) (hq : q.length ≤ 4611686018427387904) pv w (h : KidsV w kv t.kids) (hp : IntsV w pv (Tree.ints q)) => number_tree t kv (Tree.ints q) pv w h hp (by rw [Tree.ints_len]; exact hq) (by omega)
  have hge := fun (q : List Nat) (hq : q.length ≤ 4611686018427387904) pv w (h : KidsV w kv t.kids) (hp : IntsV w pv (Tree.ints q)) => get_any t kv (Tree.ints q) pv w h hp (by rw [Tree.ints_len]; exact hq) _ rfl
  obtain ⟨p, cap, g, o, rfl, _, _⟩ := hk.open
  simp only [nodeV] at hsm hcn hpt hnu hge ⊢
  have HK := hidden hk
  have HCT := hidden hct
  clear hk
  have hbA := below_alloc W (.cells #[.int .i64 t.kind, .string t.text, .int .i64 t.at_, .int .i64 t.end_, .slice p t.kids.length cap] 24)
  have hbox := boxAlloc W t (.slice p t.kids.length cap)
  have HBA := hidden hbA
  have HBOX := hidden hbox
  clear hbA hbox
  go_enter Tryz.func7, Tryz.ntmps7
  go_wp2_with fail
  (with_reducible refine (haw _ HBA.out).mono ?_)
  rintro e w1 ⟨rfl, hb1⟩
  have HB1 := hidden (bt HBA.out hb1)
  have HX1 := hidden (HBOX.out.later hb1)
  obtain ⟨n0, n1, n2, n3, n4⟩ := HX1.out.cells0
  clear haw hb1 HBA HBOX
  have hsm1 := hsm w1 (HK.out.later HB1.out)
  obtain ⟨sb, hsb⟩ : ∃ sb, smallB 100 t = sb := ⟨_, rfl⟩
  rw [hsb] at hsm1
  have HSB := hidden hsb
  clear hsm hsb
  cases sb with
  | false =>
    go_wp2_with fail
    (with_reducible refine hsm1.mono ?_)
    rintro e w2 ⟨rfl, hb2⟩
    have HB2 := hidden (bt HB1.out hb2)
    clear hsm1 hcn hpt hnu hge hb2 n0 n1 n2 n3 n4
    go_wp2_with fail
    go_ret
    exact ⟨rfl, HB2.out⟩
  | true =>
    go_wp2_with fail
    (with_reducible refine hsm1.mono ?_)
    rintro e w2 ⟨rfl, hb2⟩
    have HB2 := hidden (bt HB1.out hb2)
    have HX2 := hidden (HX1.out.later hb2)
    clear hsm1 hb2 n0 n1 n2 n3 n4
    obtain ⟨n0, n1, n2, n3, n4⟩ := HX2.out.cells0
    have hcn2 := hcn w2 (HK.out.later HB2.out)
    go_wp2_with fail
    (with_reducible refine hcn2.mono ?_)
    rintro e w3 ⟨rfl, hb3⟩
    have HB3 := hidden (bt HB2.out hb3)
    have HX3 := hidden (HX2.out.later hb3)
    clear hcn2 hb3 n0 n1 n2 n3 n4 HX1 HX2 HB1 HB2
    go_wp2_with fail
    go_loopw [3, 20] (fun lv i wr => ∃ k : Nat, k ≤ t.count ∧ i = .int .i64 k ∧ Hid (Below W.heap.size W wr ∧ NodeAt wr W.heap.size 0 t (.slice p t.kids.length cap) ∧ LastOk t wr lv k)) (fun _ i _ => t.count - (intOf i).toNat)
    case atStart => exact ⟨0, Nat.zero_le _, rfl, HB3.out, HX3.out, fun h => absurd h (Nat.lt_irrefl 0)⟩
    case round =>
      obtain ⟨k, hk, rfl, hh⟩ := hrel
      clear HB3 HX3
      obtain ⟨hB, hX, hL⟩ := hh.out
      obtain ⟨n0, n1, n2, n3, n4⟩ := hX.cells0
      have HB := hidden hB
      have HX := hidden hX
      have HL := hidden hL
      clear hh hB hX hL
      by_cases hlt : k < t.count
      · have hltz : (k : Int) < (t.count : Int) := by omega
        have hpt1 := hpt k (by omega) wr (HK.out.later HB.out)
        clear hcn hpt
        go_wp2_with fail
        (with_reducible refine hpt1.mono ?_)
        rintro e w4 ⟨hb4, (⟨q, v, _, hq, rfl, hown⟩ | ⟨h, _⟩)⟩
        rotate_left
        · exact absurd hlt (by omega)
        have hql := path_len t hq
        have hiv := IntsV.of_row hown
        obtain ⟨⟨y, hy⟩, hnum⟩ := Tree.pathOf_get t hq
        have HB4 := hidden (bt HB.out hb4)
        have HX4 := hidden (HX.out.later hb4)
        have hnu4 := hnu q (by omega) v w4 (HK.out.later HB4.out) hiv
        rw [hy, hnum] at hnu4
        have HIV := hidden hiv
        have HQ := hidden hq
        have HY := hidden hy
        have HB44 := hidden hb4
        clear hnu hpt1 hb4 n0 n1 n2 n3 n4 hown hiv hq hnum hy
        obtain ⟨n0, n1, n2, n3, n4⟩ := HX4.out.cells0
        obtain ⟨vp, vcap, _, _, rfl, _, _⟩ := HIV.out
        go_wp2_with fail
        (with_reducible refine hnu4.mono ?_)
        rintro e w5 ⟨(⟨y', _, rfl⟩ | ⟨h, _⟩), hb5⟩
        rotate_left
        · cases h
        have HB5 := hidden (bt HB4.out hb5)
        have HX5 := hidden (HX4.out.later hb5)
        have HIV5 := hidden (HIV.out.later hb5)
        have hge5 := hge q (by omega) _ w5 (HK.out.later HB5.out) HIV5.out
        rw [HY.out] at hge5
        have HB55 := hidden (bt HB44.out hb5)
        clear hnu4 hge hb5 n0 n1 n2 n3 n4
        obtain ⟨n0, n1, n2, n3, n4⟩ := HX5.out.cells0
        go_wp2_with fail
        (with_reducible refine hge5.mono ?_)
        rintro e w6 ⟨x, p6, c6, rfl, hx1, hx2, hx3, hb6⟩
        clear hx1 hx2 hx3
        have hb67 := below_alloc w6 (.cells #[.int .i64 x.kind, .string x.text, .int .i64 x.at_, .int .i64 x.end_, .slice p6 x.kids.length c6] 24)
        have HB6 := hidden (bt (bt HB5.out hb6) hb67)
        have HX6 := hidden ((HX5.out.later hb6).later hb67)
        have HIV6 := hidden ((HIV5.out.later hb6).later hb67)
        have HB66 := hidden (bt (bt HB55.out hb6) hb67)
        clear hge5 hb6 hb67 n0 n1 n2 n3 n4
        by_cases hk0 : k = 0
        · have hq0 : q = [] := by
            have := HQ.out
            rw [hk0, pathOf_zero] at this
            exact (Option.some.inj this).symm
          have hl0 : (Tree.ints q).length = 0 := by rw [hq0]; rfl
          have HLQ := hidden (show LastOk t _ _ (k + 1) from fun _ => ⟨q, by rw [Nat.add_sub_cancel]; exact HQ.out, HIV6.out⟩)
          subst hk0
          rw [hl0] at HLQ ⊢
          clear hl0 hq0
          go_wp2_with fail
          go_roundw
          case rel => exact ⟨0 + 1, by omega, by go_num, HB6.out, HX6.out, HLQ.out⟩
          case measure =>
            have e0 : (intOf (Value.int .i64 0)).toNat = 0 := rfl
            have e1 : (intOf (Value.int .i64 1)).toNat = 1 := rfl
            simp
            omega
        · obtain ⟨q', hq', hiv'⟩ := HL.out (by omega)
          have hql' := path_len t hq'
          have hlx := Tree.pathOf_lex t (n := k - 1) (m := k) (by omega) hq' HQ.out
          have hcm := compare_lt (hiv'.later HB66.out) HIV6.out hlx (by omega) (by omega)
          have HLQ := hidden (show LastOk t _ _ (k + 1) from fun _ => ⟨q, by rw [Nat.add_sub_cancel]; exact HQ.out, HIV6.out⟩)
          have hkz : ((k : Int) == 0) = false := by simp; omega
          have hkp : (0 : Int) < (k : Int) := by omega
          clear hlx hq' hiv'
          go_wp2_with fail
          (with_reducible refine hcm.mono ?_)
          rintro e w7 ⟨rfl, rfl⟩
          clear hcm
          go_wp2_with fail
          go_roundw
          case rel => exact ⟨k + 1, by omega, by go_num, HB6.out, HX6.out, HLQ.out⟩
          case measure => simp [intOf]; omega
      · obtain rfl : k = t.count := by omega
        have hcn1 := fun w (h : Below wr.heap.size wr w) => hcn w (HK.out.later (bt HB.out h))
        have hpt1 := fun w (h : Below wr.heap.size wr w) => hpt t.count (by omega) w (HK.out.later (bt HB.out h))
        have hlt' : ¬ ((t.count : Int) < (t.count : Int)) := by omega
        clear hcn hpt hnu hge
        go_wp2_with fail
        go_region_held3 (fun w' => w'.cell? ⟨W.heap.size, 0, none⟩ = some (.int .i64 t.kind) ∧ w'.cell? ⟨W.heap.size, 1, none⟩ = some (.string t.text) ∧ w'.cell? ⟨W.heap.size, 2, none⟩ = some (.int .i64 t.at_) ∧ w'.cell? ⟨W.heap.size, 3, none⟩ = some (.int .i64 t.end_) ∧ w'.cell? ⟨W.heap.size, 4, none⟩ = some (.slice p t.kids.length cap) ∧ Hid (Below wr.heap.size wr w'))
          (first | (with_reducible assumption) | (exact boxHeld HX.out (Below.refl wr.heap.size wr) (by first | (with_reducible exact (Below.refl _ _).drew) | (with_reducible exact HBK.out))))
          (first | (go_at_call 23; (with_reducible refine (hcn1 _ (by first | (with_reducible exact (Below.refl _ _).drew) | (with_reducible exact HBK.out))).mono ?_); rintro e wk ⟨rfl, hbk⟩; have HBK : Hid (Below wr.heap.size wr wk) := (by first | exact bt (Below.refl _ _).drew hbk | exact bt HBK.out hbk)) | (go_at_call 19; (with_reducible refine (hpt1 _ (by first | (with_reducible exact (Below.refl _ _).drew) | (with_reducible exact HBK.out))).mono ?_); rintro e wl ⟨hbl, (⟨_, _, h, _⟩ | ⟨_, rfl⟩)⟩; (exact absurd h (Nat.lt_irrefl _)); have HBK2 := HBK; have HBK : Hid (Below wr.heap.size wr wl) := bt HBK2.out hbl))
        have HF := hidden (bt HB.out HBK.out)
        clear hcn1 hpt1
        go_wp2_with fail
        go_ret
        exact ⟨rfl, HF.out⟩

end Go.Proofs.YtlbaaiglebpjiaaGreatDoor
