/-
  What the closures of the shapes answer: many, of, either, word, bound.
-/
import Derived.Test.YtlbaaiglebpjiaaGreatDoorZe
namespace Go.Proofs.YtlbaaiglebpjiaaGreatDoor
open Go.RowKit Go.Shelf Go.Lib

set_option maxRecDepth 100000 in
set_option maxHeartbeats 6400000 in
theorem many_asks {w0 : World} {m : Nat} {rec_ : Sh → Tree → Bool} {p : TextP} {n : Nat} {sx : Sh} {v : Value} (hv : ShV w0 m v (.inr (.many p n sx))) (hps : p.small) (t : Tree) (hlb : t.kids.length ≤ 4194304) (kv : Value) (hk : KidsV w0 kv t.kids) (hs : t.text.size ≤ 4096)
    (hrec : ∀ vx, ShV w0 m vx (.inl sx) → ∀ x ∈ t.kids, ∀ kx, KidsV w0 kx x.kids → Asks w0 vx x kx (rec_ sx x)) : Asks w0 v t kv ((Entry.many p n sx).sem rec_ t) := by
  cases hv with
  | many _ _ _ b1 b2 b3 tv xv h1 ht h2 h3 hxv =>
  obtain ⟨tg, tlb, rfl, eT, hT⟩ := text_asks' ht hps t.text hs
  obtain ⟨xg, xlb, rfl⟩ := hxv.form
  refine ⟨_, _, rfl, enters_of Tryz.func99 (by kernel_rfl) rfl, fun W hB => ?_⟩
  show Calls Tryz.prog 99 #[nodeV t kv, .pointer (some ⟨b1, 0, none⟩), .pointer (some ⟨b2, 0, none⟩), .pointer (some ⟨b3, 0, none⟩)] W _
  have hon := CellsOn.of_below hB
  have q1 := hon.cell _ _ h1
  have q2 := hon.cell _ _ h2
  have q3 := hon.cell _ _ h3
  have z1 := World.block_lt_of_cell? W _ q1
  have z2 := World.block_lt_of_cell? W _ q2
  have z3 := World.block_lt_of_cell? W _ q3
  have z1' : b1 < W.heap.size := z1
  have z2' : b2 < W.heap.size := z2
  have z3' : b3 < W.heap.size := z3
  have y1 : b1 ≠ W.heap.size := Nat.ne_of_lt z1
  have y2 : b2 ≠ W.heap.size := Nat.ne_of_lt z2
  have y3 : b3 ≠ W.heap.size := Nat.ne_of_lt z3
  have hTc := fun W' (hb : Below W.heap.size W W') => hT W' (bt hB hb)
  obtain ⟨kp, kcap, kg, ko, rfl, hkp, hka⟩ := hk.open
  have HKP := hidden hkp
  have HKA := hidden hka
  have HX := hidden hxv
  have HREC := hidden hrec
  have HB := hidden hB
  unfold Entry.sem
  simp only [nodeV]
  clear h1 h2 h3 ht hxv hkp hka hk hrec hT hon hB
  obtain ⟨ct, hct⟩ : ∃ c, p.sem t.text = c := ⟨_, rfl⟩
  rw [hct] at hTc ⊢
  clear hct
  cases ct with
  | false =>
    rw [Bool.false_and, Bool.false_and]
    go_enter Tryz.func99, Tryz.ntmps99
    go_wp2_with (go_at_fn tg; (with_reducible refine (hTc _ ((Below.refl _ _).alloc (Nat.le_refl _) _)).mono ?_); rintro e w1 ⟨rfl, hb1⟩)
    go_ret
    exact ⟨rfl, ((Below.refl _ _).alloc (Nat.le_refl _) _).trans (hb1.mono (by simp))⟩
  | true =>
    rw [Bool.true_and]
    have hW1 : ∀ o, Below W.heap.size W (W.alloc o) := fun o => (Below.refl _ _).alloc (Nat.le_refl _) _
    by_cases hlen : n ≤ t.kids.length
    · have hne : ¬ ((t.kids.length : Int) < (n : Int)) := by omega
      have hdec : decide (t.kids.length < n) = false := decide_eq_false (by omega)
      rw [decide_eq_true hlen, Bool.true_and]
      obtain ⟨r, hr⟩ : ∃ r, (t.kids.all (rec_ sx)) = r := ⟨_, rfl⟩
      rw [hr]
      have HR := hidden hr
      clear hr hlen
      go_enter Tryz.func99, Tryz.ntmps99
      go_wp2_with (go_at_fn tg; (with_reducible refine (hTc _ (hW1 _)).mono ?_); rintro e w1 ⟨rfl, hb1⟩; have n4 : w1.cell? ⟨W.heap.size, 4, none⟩ = some (.slice kp t.kids.length kcap) := (hb1.cell (p := ⟨W.heap.size, 4, none⟩) (by simp)).trans (by simp [go_sem]); have p2 : w1.cell? ⟨b2, 0, none⟩ = some (.int .i64 n) := (((hW1 _).trans (hb1.mono (by simp))).cell (p := ⟨b2, 0, none⟩) z2).trans q2; have p3 : w1.cell? ⟨b3, 0, none⟩ = some (.func (.func xg) #[] xlb) := (((hW1 _).trans (hb1.mono (by simp))).cell (p := ⟨b3, 0, none⟩) z3).trans q3; have HB1 := hidden ((hW1 _).trans (hb1.mono (B' := W.heap.size) (by simp))); have hs1 : W.heap.size < w1.heap.size := (by have := hb1.size; simp at this; omega); clear hb1)
      have z4' : b3 < w1.heap.size := by omega
      clear hTc hW1 q1 q2 q3
      go_loopw [23] (fun i wr => ∃ k : Nat, k ≤ t.kids.length ∧ i = .int .i64 k ∧ Hid (((t.kids.drop k).all (rec_ sx)) = r ∧ Below w1.heap.size w1 wr)) (fun i _ => t.kids.length - (intOf i).toNat)
      case atStart => exact ⟨0, Nat.zero_le _, rfl, by rw [List.drop_zero]; exact HR.out, Below.refl _ _⟩
      case round =>
        obtain ⟨k, hk, rfl, hh⟩ := hrel
        have hbw := hh.out.2
        have p3' := (hbw.cell (p := ⟨b3, 0, none⟩) z4').trans p3
        by_cases hlt : k < t.kids.length
        · have hx : t.kids[k]? = some t.kids[k] := List.getElem?_eq_getElem hlt
          generalize t.kids[k] = x at hx
          have hall := hh.out.1
          rw [drop_step hx, List.all_cons] at hall
          have hBw0 : Below w0.heap.size w0 wr := bt HB.out (bt HB1.out hbw)
          obtain ⟨rfl, hkg⟩ := HKP.out (fun h => by rw [h] at hx; simp at hx)
          obtain ⟨kx, hnx, hkx⟩ := HKA.out k x hx
          obtain ⟨p2, cap2, _, _, rfl, _, _⟩ := hkx.open
          have z5' : b3 < wr.heap.size := by have := hbw.size; omega
          have y5 : b3 ≠ wr.heap.size := by omega
          obtain ⟨vg, vlb, hvf, eV, hV⟩ := HREC.out _ HX.out x (List.mem_of_getElem? hx) _ hkx
          obtain ⟨rfl, rfl⟩ : xg = vg ∧ xlb = vlb := by simpa using hvf
          obtain ⟨c0, c1, c2, c3, c4⟩ := hnx.of_block (hBw0.block kg hkg)
          have hltz : (k : Int) < (t.kids.length : Int) := by omega
          have hVc := fun W' (hb : Below wr.heap.size wr W') => hV W' (bt hBw0 hb)
          obtain ⟨b, hb⟩ : ∃ b, rec_ sx x = b := ⟨_, rfl⟩
          rw [hb] at hVc hall
          simp only [nodeV] at hVc
          have HALL := hidden hall
          have HBW := hidden hbw
          clear hvf hnx hkx hV hall hx hb hBw0 hbw hh
          have hst : ∀ W', Below wr.heap.size wr W' → W'.cell? ⟨b3, 0, none⟩ = some (.func (.func xg) #[] xlb) := fun W' hb => (hb.cell (p := ⟨b3, 0, none⟩) (by have := HBW.out.size; show b3 < _; omega)).trans p3'
          cases b with
          | false =>
            go_wp2_with (go_at_fn xg; (with_reducible refine (hVc _ (by repeat (first | exact Below.refl _ _ | refine Below.setCell ?_ (by first | exact Nat.le_refl _ | (simp; done) | (simp; omega)) _ | refine Below.alloc ?_ (by first | exact Nat.le_refl _ | (simp; done) | (simp; omega)) _))).mono ?_); rintro e w3 ⟨rfl, hb3⟩)
            go_ret
            exact ⟨by have h := HALL.out; rw [Bool.false_and] at h; rw [← h]; rfl, bt HB1.out (bt HBW.out (Below.trans (by repeat (first | exact Below.refl _ _ | refine Below.setCell ?_ (by first | exact Nat.le_refl _ | (simp; done) | (simp; omega)) _ | refine Below.alloc ?_ (by first | exact Nat.le_refl _ | (simp; done) | (simp; omega)) _)) (hb3.mono (by simp))))⟩
          | true =>
            go_wp2_with (go_at_fn xg; (with_reducible refine (hVc _ (by repeat (first | exact Below.refl _ _ | refine Below.setCell ?_ (by first | exact Nat.le_refl _ | (simp; done) | (simp; omega)) _ | refine Below.alloc ?_ (by first | exact Nat.le_refl _ | (simp; done) | (simp; omega)) _))).mono ?_); rintro e w3 ⟨rfl, hb3⟩)
            go_roundw
            case rel => exact ⟨k + 1, by omega, by go_num, by rw [← HALL.out, Bool.true_and], bt HBW.out (Below.trans (by repeat (first | exact Below.refl _ _ | refine Below.setCell ?_ (by first | exact Nat.le_refl _ | (simp; done) | (simp; omega)) _ | refine Below.alloc ?_ (by first | exact Nat.le_refl _ | (simp; done) | (simp; omega)) _)) (hb3.mono (by simp)))⟩
            case measure => simp [intOf]; omega
        · obtain rfl : k = t.kids.length := by omega
          have hall := hh.out.1
          rw [List.drop_length] at hall
          have HALL := hidden hall
          clear hall
          go_wp2_with fail
          go_ret
          exact ⟨by rw [← HALL.out]; rfl, bt HB1.out hbw⟩
    · have hne : ((t.kids.length : Int) < (n : Int)) := by omega
      rw [decide_eq_false hlen, Bool.false_and]
      clear hlen
      go_enter Tryz.func99, Tryz.ntmps99
      go_wp2_with (go_at_fn tg; (with_reducible refine (hTc _ (hW1 _)).mono ?_); rintro e w1 ⟨rfl, hb1⟩; have n4 : w1.cell? ⟨W.heap.size, 4, none⟩ = some (.slice kp t.kids.length kcap) := (hb1.cell (p := ⟨W.heap.size, 4, none⟩) (by simp)).trans (by simp [go_sem]); have p2 : w1.cell? ⟨b2, 0, none⟩ = some (.int .i64 n) := (((hW1 _).trans (hb1.mono (by simp))).cell (p := ⟨b2, 0, none⟩) z2).trans q2)
      go_ret
      exact ⟨rfl, (hW1 _).trans (hb1.mono (by simp))⟩

/-- Lists in the shapes are short. -/
def Entry.small : Entry → Prop
  | .parts p l => p.small ∧ l.length ≤ 20000
  | .many p n _ => p.small ∧ n ≤ 20000
def Sh.small : Sh → Prop
  | .of ks => ks.length ≤ 20000
  | .either a b => a.small ∧ b.small
  | .word ws => ws.length ≤ 20000
  | .bound x => x.small

/-- The shapes of an entry. -/
def Entry.kids : Entry → List Sh
  | .parts _ l => l
  | .many _ _ x => [x]

theorem entry_asks {w0 : World} {m : Nat} {rec_ : Sh → Tree → Bool} {en : Entry} {v : Value} (hv : ShV w0 m v (.inr en)) (hsm : en.small) (t : Tree) (hlb : t.kids.length ≤ 4194304) (kv : Value) (hk : KidsV w0 kv t.kids) (hs : t.text.size ≤ 4096)
    (hrec : ∀ vx s, ShV w0 m vx (.inl s) → s ∈ en.kids → ∀ x ∈ t.kids, ∀ kx, KidsV w0 kx x.kids → Asks w0 vx x kx (rec_ s x)) : Asks w0 v t kv (en.sem rec_ t) := by
  cases en with
  | parts p l => exact parts_asks hv hsm.1 hsm.2 t kv hk hs hrec
  | many p n x => exact many_asks hv hsm.1 t hlb kv hk hs (fun vx h1 => hrec vx x h1 (List.mem_singleton_self x))

set_option maxRecDepth 100000 in
set_option maxHeartbeats 3200000 in
theorem of_asks {w0 : World} {m : Nat} {l : List (Int × Entry)} (hM : MapOk w0 m l) {rec_ : Sh → Tree → Bool} {ks : List Int} {v : Value} (hv : ShV w0 m v (.inl (.of ks))) (hks : ks.length ≤ 20000) (hwf : (Sh.of ks).wf (tabOf l) = true) (t : Tree) (kv : Value) (hk : KidsV w0 kv t.kids)
    (hent : ∀ en vx, tabOf l t.kind = some en → ShV w0 m vx (.inr en) → Asks w0 vx t kv (en.sem rec_ t)) : Asks w0 v t kv ((Sh.of ks).sem1 (tabOf l) rec_ t) := by
  cases hv with
  | of _ b1 b2 u h1 hu h2 =>
  refine ⟨_, _, rfl, enters_of Tryz.func68 (by kernel_rfl) rfl, fun W hB => ?_⟩
  show Calls Tryz.prog 68 #[nodeV t kv, .pointer (some ⟨b1, 0, none⟩), .pointer (some ⟨b2, 0, none⟩)] W _
  have hon := CellsOn.of_below hB
  have q1 := hon.cell _ _ h1
  have q2 := hon.cell _ _ h2
  have z1 : b1 < W.heap.size := World.block_lt_of_cell? W _ q1
  have z2 : b2 < W.heap.size := World.block_lt_of_cell? W _ q2
  have y1 : b1 ≠ W.heap.size := Nat.ne_of_lt z1
  have y2 : b2 ≠ W.heap.size := Nat.ne_of_lt z2
  have hcon := fun o => contains_int ((hu.later hB).later ((Below.refl W.heap.size W).alloc (Nat.le_refl _) o)) hks t.kind
  obtain ⟨p, cap, g, o, rfl, _, _⟩ := hu
  obtain ⟨kp, kcap, kg, ko, rfl, _, _⟩ := hk.open
  have HB := hidden hB
  unfold Sh.sem1
  simp only [nodeV]
  cases hc : ks.contains t.kind with
  | false =>
    simp only [hc] at hcon
    rw [Bool.false_and]
    clear hM hwf hk hent hon hc h1 h2 hB
    go_enter Tryz.func68, Tryz.ntmps68
    go_wp2_with (go_at_call 69; (with_reducible refine (hcon _).mono ?_); rintro e w1 ⟨rfl, rfl⟩)
    go_ret
    exact ⟨rfl, (Below.refl _ _).alloc (Nat.le_refl _) _⟩
  | true =>
    simp only [hc] at hcon
    rw [Bool.true_and]
    have hmem : t.kind ∈ ks := by simpa using hc
    have hsome : (tabOf l t.kind).isSome = true := by
      unfold Sh.wf at hwf
      exact List.all_eq_true.1 hwf _ hmem
    obtain ⟨en, hen⟩ := Option.isSome_iff_exists.1 hsome
    obtain ⟨vx, hvx, hlk⟩ := hM.lookup_later hen
    obtain ⟨xg, xlb, rfl, eX, hX⟩ := hent en vx hen hvx
    have hlk2 := fun o => hlk _ (hB.alloc hB.size o)
    have hXc := fun o => hX _ (hB.alloc hB.size o)
    simp only [nodeV] at hXc
    rw [hen]
    simp only
    generalize en.sem rec_ t = r at *
    clear hM hwf hk hent hon hc h1 h2 hB hlk hX hvx hen hsome hmem
    go_enter Tryz.func68, Tryz.ntmps68
    go_wp2_with (first | (go_at_call 69; (with_reducible refine (hcon _).mono ?_); rintro e w1 ⟨rfl, rfl⟩; have lk := hlk2 (.cells #[.int .i64 t.kind, .string t.text, .int .i64 t.at_, .int .i64 t.end_, .slice kp t.kids.length kcap] 24)) | (go_at_fn xg; (with_reducible refine (hXc _).mono ?_); rintro e w3 ⟨rfl, hb3⟩))
    go_ret
    exact ⟨rfl, ((Below.refl _ _).alloc (Nat.le_refl _) _).trans (hb3.mono (by simp))⟩

set_option maxRecDepth 100000 in
set_option maxHeartbeats 3200000 in
theorem either_asks {w0 : World} {m : Nat} {a b : Sh} {v : Value} (hv : ShV w0 m v (.inl (.either a b))) (t : Tree) (kv : Value) (hk : KidsV w0 kv t.kids) {ra rb : Bool}
    (ha : ∀ va, ShV w0 m va (.inl a) → Asks w0 va t kv ra) (hb : ∀ vb, ShV w0 m vb (.inl b) → Asks w0 vb t kv rb) : Asks w0 v t kv (ra || rb) := by
  cases hv with
  | either _ _ va vb b1 b2 h1 h2 hva hvb =>
  obtain ⟨ag, alb, rfl, eA, hA⟩ := ha va hva
  obtain ⟨bg, blb, rfl, eB, hB'⟩ := hb vb hvb
  refine ⟨_, _, rfl, enters_of Tryz.func102 (by kernel_rfl) rfl, fun W hB => ?_⟩
  show Calls Tryz.prog 102 #[nodeV t kv, .pointer (some ⟨b1, 0, none⟩), .pointer (some ⟨b2, 0, none⟩)] W _
  have hon := CellsOn.of_below hB
  have q1 := hon.cell _ _ h1
  have q2 := hon.cell _ _ h2
  have z2 : b2 < W.heap.size := World.block_lt_of_cell? W _ q2
  have z1 : b1 < W.heap.size := World.block_lt_of_cell? W _ q1
  have y1 : b1 ≠ W.heap.size := Nat.ne_of_lt z1
  have y2 : b2 ≠ W.heap.size := Nat.ne_of_lt z2
  obtain ⟨kp, kcap, kg, ko, rfl, _, _⟩ := hk.open
  have hAc := fun o => hA _ (hB.alloc hB.size o)
  simp only [nodeV] at hAc ⊢
  cases ra with
  | true =>
    rw [Bool.true_or]
    clear hk h1 h2 hva hvb hA hB' hB hon ha hb
    go_enter Tryz.func102, Tryz.ntmps102
    go_wp2_with (go_at_fn ag; (with_reducible refine (hAc _).mono ?_); rintro e w3 ⟨rfl, hb3⟩)
    go_ret
    exact ⟨rfl, ((Below.refl _ _).alloc (Nat.le_refl _) _).trans (hb3.mono (by simp))⟩
  | false =>
    rw [Bool.false_or]
    have hBc := fun o w3 (h3 : Below (W.alloc o).heap.size (W.alloc o) w3) => hB' w3 (bt (hB.alloc hB.size o) h3)
    simp only [nodeV] at hBc
    clear hk h1 h2 hva hvb hA hB' hB hon ha hb
    go_enter Tryz.func102, Tryz.ntmps102
    go_wp2_with (first | (go_at_fn ag; (with_reducible refine (hAc _).mono ?_); rintro e w3 ⟨rfl, hb3⟩; have c2 : w3.cell? ⟨b2, 0, none⟩ = some (.func (.func bg) #[] blb) := (hb3.cell (p := ⟨b2, 0, none⟩) (by simp; omega)).trans (by simp [go_sem, q2, z2]); have hBd := hBc _ _ hb3; have n0 := fun j => hb3.cell (p := ⟨W.heap.size, j, none⟩) (by simp)) | (go_at_fn bg; (with_reducible refine hBd.mono ?_); rintro e w4 ⟨rfl, hb4⟩))
    go_ret
    exact ⟨rfl, ((Below.refl _ _).alloc (Nat.le_refl _) _).trans ((bt hb3 hb4).mono (by simp))⟩

set_option maxRecDepth 100000 in
set_option maxHeartbeats 3200000 in
theorem word_asks {w0 : World} {m : Nat} {ws : List ByteArray} {v : Value} (hv : ShV w0 m v (.inl (.word ws))) (t : Tree) (kv : Value) (hk : KidsV w0 kv t.kids) {r : Bool}
    (ha : ∀ va, ShV w0 m va (.inr (.parts (.oneOf ws) [])) → Asks w0 va t kv r) : Asks w0 v t kv ((t.kind == 38) && r) := by
  cases hv with
  | word _ b u h1 hu =>
  obtain ⟨ag, alb, rfl, eA, hA⟩ := ha u hu
  refine ⟨_, _, rfl, enters_of Tryz.func101 (by kernel_rfl) rfl, fun W hB => ?_⟩
  show Calls Tryz.prog 101 #[nodeV t kv, .pointer (some ⟨b, 0, none⟩)] W _
  have q1 := (CellsOn.of_below hB).cell _ _ h1
  have z1 : b < W.heap.size := World.block_lt_of_cell? W _ q1
  have y1 : b ≠ W.heap.size := Nat.ne_of_lt z1
  obtain ⟨kp, kcap, kg, ko, rfl, _, _⟩ := hk.open
  have hAc := fun o => hA _ (hB.alloc hB.size o)
  simp only [nodeV] at hAc ⊢
  cases hkd : (t.kind == 38) with
  | false =>
    rw [Bool.false_and]
    clear hk h1 hu hA hB ha hAc
    go_enter Tryz.func101, Tryz.ntmps101
    go_wp2_with fail
    go_ret
    exact ⟨rfl, (Below.refl _ _).alloc (Nat.le_refl _) _⟩
  | true =>
    rw [Bool.true_and]
    clear hk h1 hu hA hB ha
    go_enter Tryz.func101, Tryz.ntmps101
    go_wp2_with (go_at_fn ag; (with_reducible refine (hAc _).mono ?_); rintro e w3 ⟨rfl, hb3⟩)
    go_ret
    exact ⟨rfl, ((Below.refl _ _).alloc (Nat.le_refl _) _).trans (hb3.mono (by simp))⟩

set_option maxRecDepth 100000 in
set_option maxHeartbeats 3200000 in
theorem bound_asks {w0 : World} {m : Nat} {x : Sh} {v : Value} (hv : ShV w0 m v (.inl (.bound x))) (t : Tree) (kv : Value) (hk : KidsV w0 kv t.kids) {r : Bool}
    (ha : ∀ va, ShV w0 m va (.inr (.parts (.oneOf boundWs) [x])) → Asks w0 va t kv r) : Asks w0 v t kv ((t.kind == 19) && r) := by
  cases hv with
  | bound _ b u h1 hu =>
  obtain ⟨ag, alb, rfl, eA, hA⟩ := ha u hu
  refine ⟨_, _, rfl, enters_of Tryz.func103 (by kernel_rfl) rfl, fun W hB => ?_⟩
  show Calls Tryz.prog 103 #[nodeV t kv, .pointer (some ⟨b, 0, none⟩)] W _
  have q1 := (CellsOn.of_below hB).cell _ _ h1
  have z1 : b < W.heap.size := World.block_lt_of_cell? W _ q1
  have y1 : b ≠ W.heap.size := Nat.ne_of_lt z1
  obtain ⟨kp, kcap, kg, ko, rfl, _, _⟩ := hk.open
  have hAc := fun o => hA _ (hB.alloc hB.size o)
  simp only [nodeV] at hAc ⊢
  cases hkd : (t.kind == 19) with
  | false =>
    rw [Bool.false_and]
    clear hk h1 hu hA hB ha hAc
    go_enter Tryz.func103, Tryz.ntmps103
    go_wp2_with fail
    go_ret
    exact ⟨rfl, (Below.refl _ _).alloc (Nat.le_refl _) _⟩
  | true =>
    rw [Bool.true_and]
    clear hk h1 hu hA hB ha
    go_enter Tryz.func103, Tryz.ntmps103
    go_wp2_with (go_at_fn ag; (with_reducible refine (hAc _).mono ?_); rintro e w3 ⟨rfl, hb3⟩)
    go_ret
    exact ⟨rfl, ((Below.refl _ _).alloc (Nat.le_refl _) _).trans (hb3.mono (by simp))⟩

/-- All texts of a tree are short. -/
def TextsOk (t : Tree) : Prop := ∀ x ∈ t.nodes, x.text.size ≤ 4096

theorem nodes_kid {t x : Tree} (hx : x ∈ t.kids) : ∀ y ∈ x.nodes, y ∈ t.nodes := by
  intro y hy
  rw [Tree.nodes_eq]
  refine List.mem_cons_of_mem _ ?_
  generalize t.kids = ts at hx
  induction ts with
  | nil => cases hx
  | cons a ts ih =>
    rw [Tree.nodesL]
    rcases List.mem_cons.1 hx with rfl | hx
    · exact List.mem_append_left _ hy
    · exact List.mem_append_right _ (ih hx)

theorem levels_kid {t x : Tree} (hx : x ∈ t.kids) : x.levels < t.levels := by
  rw [Tree.levels_eq t]
  generalize t.kids = ts at hx
  induction ts with
  | nil => cases hx
  | cons a ts ih =>
    rw [Tree.levelsL]
    rcases List.mem_cons.1 hx with rfl | hx
    · omega
    · have := ih hx; omega

/-- What the table must bear. -/
structure TabOk (l : List (Int × Entry)) : Prop where
  wf : ∀ k en, tabOf l k = some en → en.small ∧ ∀ s ∈ en.kids, s.small ∧ s.wf (tabOf l) = true

/-- A function value of the shapes answers what the shape says. -/
theorem sh_asks {w0 : World} {m : Nat} {l : List (Int × Entry)} (hM : MapOk w0 m l) (hT : TabOk l) : ∀ (n : Nat) (t : Tree), t.levels ≤ n → t.count ≤ 4194304 → TextsOk t → ∀ kv, KidsV w0 kv t.kids →
    ∀ (s : Sh) (v : Value), ShV w0 m v (.inl s) → s.small → s.wf (tabOf l) = true → Asks w0 v t kv (s.sem (tabOf l) n t)
  | 0, t, hl, _, _, _, _, _, _, _, _, _ => by rw [Tree.levels_eq] at hl; omega
  | n + 1, t, hl, hct, htx, kv, hk, s, v, hv, hsm, hwf => by
    have hcl : Tree.countL t.kids < 4194304 := by have := Tree.count_eq t; omega
    have hlb : t.kids.length ≤ 4194304 := by have := Tree.length_le_countL t.kids; omega
    have hts : t.text.size ≤ 4096 := htx t (by rw [Tree.nodes_eq]; exact List.mem_cons_self)
    have hrec : ∀ (en : Entry), en.small → (∀ s ∈ en.kids, s.small ∧ s.wf (tabOf l) = true) → ∀ vx, ShV w0 m vx (.inr en) → Asks w0 vx t kv (en.sem (Sh.sem (tabOf l) n) t) := by
      intro en h1 h2 vx hvx
      refine entry_asks hvx h1 t hlb kv hk hts (fun v' s' hv' hs' x hx kx hkx => ?_)
      obtain ⟨h3, h4⟩ := h2 s' hs'
      exact sh_asks hM hT n x (by have := levels_kid hx; omega) (by obtain ⟨i, hi⟩ := List.getElem?_of_mem hx; have := Tree.count_kid hi; omega) (fun y hy => htx y (nodes_kid hx y hy)) kx hkx s' v' hv' h3 h4
    rw [Sh.sem]
    revert v
    induction s with
    | of ks =>
      intro v hv
      refine of_asks hM hv hsm hwf t kv hk (fun en vx hen hvx => ?_)
      obtain ⟨h1, h2⟩ := hT.wf _ en hen
      exact hrec en h1 h2 vx hvx
    | either a b iha ihb =>
      intro v hv
      simp only [Sh.wf, Bool.and_eq_true] at hwf
      rw [Sh.sem1]
      exact either_asks hv t kv hk (fun va hva => iha hsm.1 hwf.1 va hva) (fun vb hvb => ihb hsm.2 hwf.2 vb hvb)
    | word ws =>
      intro v hv
      rw [Sh.sem1]
      exact word_asks hv t kv hk (fun va hva => hrec _ (show Entry.small (.parts (.oneOf ws) []) from And.intro hsm (Nat.zero_le _)) (fun s h => by cases h) va hva)
    | bound x ih =>
      intro v hv
      rw [Sh.sem1]
      refine bound_asks hv t kv hk (fun va hva => hrec _ (show Entry.small (.parts (.oneOf boundWs) [x]) from And.intro (show boundWs.length ≤ 20000 by decide) (show 1 ≤ 20000 by decide)) (fun s h => ?_) va hva)
      have : s = x := by simpa [Entry.kids] using h
      subst this
      exact ⟨hsm, hwf⟩

end Go.Proofs.YtlbaaiglebpjiaaGreatDoor
