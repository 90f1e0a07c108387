/-
  What the closures of the shapes answer.
-/
import Derived.Test.YtlbaaiglebpjiaaGreatDoorZb
import Derived.Lib.SlicesS
namespace Go.Proofs.YtlbaaiglebpjiaaGreatDoor
open Go.RowKit Go.Shelf Go.Lib

theorem containsS_any (xs : List ByteArray) (s : ByteArray) : Lib.containsS xs s = xs.any fun x => decide (x = s) := by
  rw [Bool.eq_iff_iff, Lib.containsS_iff, List.any_eq_true]
  constructor
  · intro h; exact ⟨s, h, decide_eq_true rfl⟩
  · rintro ⟨x, h1, h2⟩; rw [← of_decide_eq_true h2]; exact h1

theorem contains_str {w : World} {v : Value} {xs : List ByteArray} (h : Strs w v xs) (hx : xs.length ≤ 20000) (s : ByteArray) :
    Calls Tryz.prog 98 #[v, .string s] w fun e w' => e = .returned (.bool (xs.any fun x => decide (x = s))) ∧ w' = w := by
  rcases h with ⟨rfl, rfl⟩ | ⟨g, cap, rfl, _, hc⟩
  · exact Tryz.slices_Contains_string_empty none 0 s w
  · refine (Tryz.slices_Contains_string g 0 xs.length cap xs s w (Nat.le_refl _) (by omega) hc).mono ?_
    rintro e w' ⟨h1, h2⟩
    rw [List.take_length, containsS_any] at h1
    exact ⟨h1, h2⟩

theorem contains_int {w : World} {v : Value} {xs : List Int} (h : IntsV w v xs) (hx : xs.length ≤ 20000) (z : Int) :
    Calls Tryz.prog 69 #[v, .int .i64 z] w fun e w' => e = .returned (.bool (xs.contains z)) ∧ w' = w := by
  obtain ⟨p, cap, g, o, rfl, h1, h2⟩ := h
  cases xs with
  | nil => exact Tryz.slices_Contains_int_empty p cap z w
  | cons x xs =>
    obtain ⟨rfl, _⟩ := h1 (by simp)
    refine (Tryz.slices_Contains_int g o (x :: xs).length cap (x :: xs) z w (Nat.le_refl _) (by omega) (fun j hj => ?_)).mono ?_
    · rw [List.getD_eq_getElem?_getD, List.getElem?_eq_getElem hj]
      exact h2 j _ (List.getElem?_eq_getElem hj)
    · rintro e w' ⟨h3, h4⟩
      rw [List.take_length] at h3
      exact ⟨h3, h4⟩

/-- A function value answers this about a text. -/
def AsksT (w0 : World) (v : Value) (s : ByteArray) (b : Bool) : Prop :=
  ∃ g lb, v = .func (.func g) #[] lb ∧ (∀ args w, (callFunc g args).run Tryz.prog w = .ok (.enter g args) w) ∧ ∀ W, Below w0.heap.size w0 W → Calls Tryz.prog g (#[.string s] ++ lb) W fun e W' => e = .returned (.bool b) ∧ Below W.heap.size W W'

/-- A function value answers this about a node. -/
def Asks (w0 : World) (v : Value) (t : Tree) (kv : Value) (b : Bool) : Prop :=
  ∃ g lb, v = .func (.func g) #[] lb ∧ (∀ args w, (callFunc g args).run Tryz.prog w = .ok (.enter g args) w) ∧ ∀ W, Below w0.heap.size w0 W → Calls Tryz.prog g (#[nodeV t kv] ++ lb) W fun e W' => e = .returned (.bool b) ∧ Below W.heap.size W W'

set_option maxHeartbeats 800000 in
theorem text_asks {w0 : World} {v : Value} {p : TextP} (h : TextV w0 v p) (hp : ∀ ws, p = .oneOf ws → ws.length ≤ 20000) (s : ByteArray) (hs : s.size ≤ 4096) : AsksT w0 v s (p.sem s) := by
  cases p with
  | name => exact ⟨_, _, h.1, enters_of Tryz.func77 (by kernel_rfl) rfl, fun W hb => name_any s hs W (h.2.keep hb)⟩
  | number => exact ⟨_, _, h.1, enters_of Tryz.func81 (by kernel_rfl) rfl, fun W hb => isNumber_any s hs W (h.2.keep hb)⟩
  | integer => exact ⟨_, _, h.1, enters_of Tryz.func82 (by kernel_rfl) rfl, fun W hb => isInteger_any s hs W (h.2.keep hb)⟩
  | oneOf ws =>
    obtain ⟨b, u, rfl, h1, h2⟩ := h
    refine ⟨_, _, rfl, enters_of Tryz.func97 (by kernel_rfl) rfl, fun W hB => ?_⟩
    have hc := contains_str (h2.below hB) (hp ws rfl) s
    have hcell := (CellsOn.of_below hB).cell _ _ h1
    show Calls Tryz.prog 97 #[.string s, .pointer (some ⟨b, 0, none⟩)] W fun e W' => e = .returned (.bool (ws.any fun x => decide (x = s))) ∧ Below W.heap.size W W'
    generalize (ws.any fun x => decide (x = s)) = r at *
    clear h1 h2 hB hp
    go_enter Tryz.func97, Tryz.ntmps97
    go_wp2_with fail
    (with_reducible refine hc.mono ?_)
    rintro e w1 ⟨rfl, rfl⟩
    clear hc
    go_wp2_with fail
    go_ret
    exact ⟨rfl, Below.refl _ _⟩

/-- Lists of words are short. -/
def TextP.small : TextP → Prop
  | .oneOf ws => ws.length ≤ 20000
  | _ => True

theorem text_asks' {w0 : World} {v : Value} {p : TextP} (h : TextV w0 v p) (hp : p.small) (s : ByteArray) (hs : s.size ≤ 4096) : AsksT w0 v s (p.sem s) :=
  text_asks h (fun ws e => by subst e; exact hp) s hs

theorem zip_step {α β : Type} {a : List α} {b : List β} {k : Nat} {x : α} {y : β} (ha : a[k]? = some x) (hb : b[k]? = some y) : (a.drop k).zip (b.drop k) = (x, y) :: (a.drop (k + 1)).zip (b.drop (k + 1)) := by
  rw [drop_step ha, drop_step hb]; rfl

set_option maxRecDepth 100000 in
set_option maxHeartbeats 6400000 in
theorem parts_asks {w0 : World} {m : Nat} {rec_ : Sh → Tree → Bool} {p : TextP} {l : List Sh} {v : Value} (hv : ShV w0 m v (.inr (.parts p l))) (hps : p.small) (hl9 : l.length ≤ 20000) (t : Tree) (kv : Value) (hk : KidsV w0 kv t.kids) (hs : t.text.size ≤ 4096)
    (hrec : ∀ vx s, ShV w0 m vx (.inl s) → s ∈ l → ∀ x ∈ t.kids, ∀ kx, KidsV w0 kx x.kids → Asks w0 vx x kx (rec_ s x)) : Asks w0 v t kv ((Entry.parts p l).sem rec_ t) := by
  cases hv with
  | parts _ _ b1 b2 tv sp cap g o vs h1 ht h2 hp hc hsh =>
  obtain ⟨tg, tlb, rfl, eT, hT⟩ := text_asks' ht hps t.text hs
  refine ⟨_, _, rfl, enters_of Tryz.func96 (by kernel_rfl) rfl, fun W hB => ?_⟩
  show Calls Tryz.prog 96 #[nodeV t kv, .pointer (some ⟨b1, 0, none⟩), .pointer (some ⟨b2, 0, none⟩)] W _
  have hon := CellsOn.of_below hB
  have q1 := hon.cell _ _ h1
  have q2 := hon.cell _ _ h2
  have z1 := World.block_lt_of_cell? W _ q1
  have z2 := World.block_lt_of_cell? W _ q2
  have z1' : b1 < W.heap.size := z1
  have z2' : b2 < W.heap.size := z2
  have y1 : b1 ≠ W.heap.size := Nat.ne_of_lt z1
  have y2 : b2 ≠ W.heap.size := Nat.ne_of_lt z2
  have hTc := fun W' (hb : Below W.heap.size W W') => hT W' (bt hB hb)
  obtain ⟨kp, kcap, kg, ko, rfl, hkp, hka⟩ := hk.open
  have HKP := hidden hkp
  have HKA := hidden hka
  have HP := hidden hp
  have HC := hidden hc
  have HSH := hidden hsh
  have HREC := hidden hrec
  have HB := hidden hB
  unfold Entry.sem
  simp only [nodeV]
  clear h1 h2 ht hp hc hsh hkp hka hk hrec hT hon hB
  obtain ⟨ct, hct⟩ : ∃ c, p.sem t.text = c := ⟨_, rfl⟩
  rw [hct] at hTc ⊢
  clear hct
  cases ct with
  | false =>
    rw [Bool.false_and, Bool.false_and]
    go_enter Tryz.func96, Tryz.ntmps96
    go_wp2_with (go_at_fn tg; go_loud (with_reducible refine (hTc _ ((Below.refl _ _).alloc (Nat.le_refl _) _)).mono ?_); rintro e w1 ⟨rfl, hb1⟩)
    go_ret
    exact ⟨rfl, ((Below.refl _ _).alloc (Nat.le_refl _) _).trans (hb1.mono (by simp))⟩
  | true =>
    rw [Bool.true_and]
    have hW1 : ∀ o, Below W.heap.size W (W.alloc o) := fun o => (Below.refl _ _).alloc (Nat.le_refl _) _
    by_cases hlen : t.kids.length = l.length
    · have hne : ((t.kids.length : Int) != (l.length : Int)) = false := by rw [hlen]; simp
      rw [decide_eq_true hlen, Bool.true_and]
      obtain ⟨r, hr⟩ : ∃ r, ((l.zip t.kids).all fun x => rec_ x.1 x.2) = r := ⟨_, rfl⟩
      rw [hr]
      have HR := hidden hr
      have HLEN := hidden hlen
      clear hr hlen
      go_enter Tryz.func96, Tryz.ntmps96
      go_wp2_with (go_at_fn tg; go_loud (with_reducible refine (hTc _ (hW1 _)).mono ?_); rintro e w1 ⟨rfl, hb1⟩; have n4 : w1.cell? ⟨W.heap.size, 4, none⟩ = some (.slice kp t.kids.length kcap) := (hb1.cell (p := ⟨W.heap.size, 4, none⟩) (by simp)).trans (by simp [go_sem]); have p1 : w1.cell? ⟨b1, 0, none⟩ = some (.func (.func tg) #[] tlb) := (((hW1 _).trans (hb1.mono (by simp))).cell (p := ⟨b1, 0, none⟩) z1).trans q1; have p2 : w1.cell? ⟨b2, 0, none⟩ = some (.slice sp l.length cap) := (((hW1 _).trans (hb1.mono (by simp))).cell (p := ⟨b2, 0, none⟩) z2).trans q2; have HB1 := hidden ((hW1 _).trans (hb1.mono (B' := W.heap.size) (by simp))); have hs1 : W.heap.size < w1.heap.size := (by have := hb1.size; simp at this; omega); clear hb1)
      clear hTc hW1 q1 q2
      go_loopw [22] (fun i wr => ∃ k : Nat, k ≤ l.length ∧ i = .int .i64 k ∧ Hid ((((l.drop k).zip (t.kids.drop k)).all fun x => rec_ x.1 x.2) = r ∧ Below w1.heap.size w1 wr)) (fun i _ => l.length - (intOf i).toNat)
      case atStart => exact ⟨0, Nat.zero_le _, rfl, by rw [List.drop_zero, List.drop_zero]; exact HR.out, Below.refl _ _⟩
      case round =>
        obtain ⟨k, hk, rfl, hh⟩ := hrel
        have hbw := hh.out.2
        have n4' := (hbw.cell (p := ⟨W.heap.size, 4, none⟩) hs1).trans n4
        by_cases hlt : k < l.length
        · obtain ⟨x, hx⟩ : ∃ x, t.kids[k]? = some x := ⟨_, List.getElem?_eq_getElem (by have := HLEN.out; omega)⟩
          have hsx : l[k]? = some l[k] := List.getElem?_eq_getElem hlt
          generalize l[k] = s at hsx
          have hall := hh.out.1
          rw [zip_step hsx hx, List.all_cons] at hall
          have hBw0 : Below w0.heap.size w0 wr := bt HB.out (bt HB1.out hbw)
          obtain ⟨rfl, hg⟩ := HP.out (fun h => by rw [h] at hlt; exact absurd hlt (Nat.not_lt_zero _))
          obtain ⟨rfl, hkg⟩ := HKP.out (fun h => by rw [h] at hx; simp at hx)
          obtain ⟨kx, hnx, hkx⟩ := HKA.out k x hx
          have hvk := HC.out k s hsx
          obtain ⟨vg, vlb, hvf, eV, hV⟩ := HREC.out (vs k) s (HSH.out k s hsx) (List.mem_of_getElem? hsx) x (List.mem_of_getElem? hx) kx hkx
          rw [hvf] at hvk
          have d0 : wr.cell? ⟨g, o + k, none⟩ = some (.func (.func vg) #[] vlb) := (hBw0.cell (p := ⟨g, o + k, none⟩) hg).trans hvk
          obtain ⟨c0, c1, c2, c3, c4⟩ := hnx.of_block (hBw0.block kg hkg)
          have hltz : (k : Int) < (l.length : Int) := by omega
          have hltz2 : (k : Int) < (t.kids.length : Int) := by have := HLEN.out; omega
          have hVc := hV wr hBw0
          obtain ⟨b, hb⟩ : ∃ b, rec_ s x = b := ⟨_, rfl⟩
          rw [hb] at hVc hall
          simp only [nodeV] at hVc
          have HALL := hidden hall
          have HBW := hidden hbw
          clear hvf hvk hnx hkx hV hall hx hsx hb hBw0 hbw hh
          cases b with
          | false =>
            go_wp2_with (go_at_fn vg; (with_reducible refine hVc.mono ?_); rintro e w3 ⟨rfl, hb3⟩)
            go_ret
            exact ⟨by have h := HALL.out; rw [Bool.false_and] at h; rw [← h]; rfl, bt HB1.out (bt HBW.out hb3)⟩
          | true =>
            go_wp2_with (go_at_fn vg; (with_reducible refine hVc.mono ?_); rintro e w3 ⟨rfl, hb3⟩)
            go_roundw
            case rel => exact ⟨k + 1, by omega, by go_num, by rw [← HALL.out, Bool.true_and], bt HBW.out hb3⟩
            case measure => simp [intOf]; omega
        · obtain rfl : k = l.length := by omega
          have hall := hh.out.1
          rw [List.drop_length] at hall
          have HALL := hidden hall
          clear hall
          go_wp2_with fail
          go_ret
          exact ⟨by rw [← HALL.out]; rfl, bt HB1.out hbw⟩
    · have hne : ((t.kids.length : Int) != (l.length : Int)) = true := by rw [bne_iff_ne]; omega
      rw [decide_eq_false hlen, Bool.false_and]
      clear hlen
      go_enter Tryz.func96, Tryz.ntmps96
      go_wp2_with (go_at_fn tg; go_loud (with_reducible refine (hTc _ (hW1 _)).mono ?_); rintro e w1 ⟨rfl, hb1⟩; have n4 : w1.cell? ⟨W.heap.size, 4, none⟩ = some (.slice kp t.kids.length kcap) := (hb1.cell (p := ⟨W.heap.size, 4, none⟩) (by simp)).trans (by simp [go_sem]); have p2 : w1.cell? ⟨b2, 0, none⟩ = some (.slice sp l.length cap) := (((hW1 _).trans (hb1.mono (by simp))).cell (p := ⟨b2, 0, none⟩) z2).trans q2)
      go_ret
      exact ⟨rfl, (hW1 _).trans (hb1.mono (by simp))⟩

end Go.Proofs.YtlbaaiglebpjiaaGreatDoor
