import Derived.Test.YtfmoophjdgejeaaGreatDoorCr
/-
  Format; Sizes.
-/
namespace Go.Proofs.YtfmoophjdgejeaaGreatDoor
open Go.RowKit Go.Shelf
attribute [local go_sem] Oper.semAt_some

def fmtOf (ss : List Int) (ts : List Tab) (isS : Bool) (c : Int) : ByteArray := match cellAt (cellsOf ss ts isS) c with
  | some x => match ts[x.1]? with
    | some t => fmtS t.name x.2
    | none => ⟨#[]⟩
  | none => ⟨#[]⟩

theorem TupAt.ints {w : World} {T C : Nat} {l : List Nat} (h : TupAt w T l) (hT : T < w.heap.size) : IntsV w (.slice (some ⟨T, 0, none⟩) l.length C) (natL l) := by
  refine ⟨some ⟨T, 0, none⟩, C, T, 0, by rw [natL_len], fun _ => ⟨rfl, hT⟩, fun i z hz => ?_⟩
  unfold natL at hz
  rw [List.getElem?_map] at hz
  obtain ⟨x, hx, rfl⟩ := Option.map_eq_some_iff.1 hz
  rw [Nat.zero_add]
  exact h.1 i x hx

theorem InL.le : ∀ {ss t : List Nat} {m : Nat}, InL ss t → (∀ n ∈ ss, n ≤ m) → ∀ x ∈ t, x ≤ m
  | [], [], _, _, _, x, hx => by simp at hx
  | n :: ns, y :: t, m, h, hm, x, hx => by
    rcases List.mem_cons.1 hx with rfl | hx
    · have h1 := h.1
      have h2 := hm n (by simp)
      omega
    · exact InL.le h.2 (fun k hk => hm k (List.mem_cons_of_mem _ hk)) x hx
  | [], _ :: _, _, h, _, _, _ => h.elim
  | _ :: _, [], _, h, _, _, _ => h.elim

theorem cellAt_mem {L : List (Nat × List Nat)} {c : Int} {x : Nat × List Nat} (h : cellAt L c = some x) : x ∈ L := by
  unfold cellAt at h
  split at h
  · exact List.mem_of_getElem? h
  · cases h

theorem cellsOf_parts {ss : List Int} {ts : List Tab} {isS : Bool} {x : Nat × List Nat} (h : x ∈ cellsOf ss ts isS) : ∃ t, ts[x.1]? = some t ∧ strictB t.kind = isS ∧ x.2.length ≤ 3 ∧ (∀ n ∈ x.2, n ≤ 6) ∧ InL (lensL ss t.cols) x.2 ∧ x.2 ∈ tups (lensL ss t.cols) ∧ validB ss ts = true := by
  unfold cellsOf at h
  split at h
  · rename_i hv
    obtain ⟨_, t, h1, h2, h3⟩ := cellsFrom_mem h
    rw [Nat.sub_zero] at h1
    obtain ⟨v1, v2, v3, v4⟩ := valid_parts hv
    obtain ⟨hc1, hc2, _⟩ := v3 t (List.mem_of_getElem? h1)
    have hlp := lens_pos v1 hc1
    have h4 := h3
    unfold tups at h4
    obtain ⟨k, _, hk⟩ := List.mem_map.1 h4
    have hin := tup_in (fun n hn => (hlp n hn).1) k
    rw [hk] at hin
    refine ⟨t, h1, h2, ?_, hin.le (fun n hn => (hlp n hn).2), hin, h3, hv⟩
    rw [← hk, tup_len, lens_len]; exact hc2
  · cases h

set_option maxRecDepth 100000 in
set_option maxHeartbeats 3200000 in
theorem format_any (ss : List Int) (ts : List Tab) (isS : Bool) (c : Int) (sv tv : Value) (w : World) (hs : IntsV w sv ss) (ht : TabsV w tv ts) (hl : ss.length ≤ 4611686018427387904) (hlt : ts.length ≤ 4611686018427387903)
    (hsm : ∀ t ∈ ts, t.name.size ≤ 4096 ∧ t.cols.length ≤ 4611686018427387904) (hm : MaxAt w) :
    Calls Tryz.prog 24 #[sv, tv, .bool isS, .int .i64 c] w fun e w' => e = .returned (.string (fmtOf ss ts isS c)) ∧ Below w.heap.size w w' := by
  have htu := tuple_any ss ts isS c sv tv w hs ht hl hlt hsm hm
  obtain ⟨p, cap, g, o, rfl, _, _⟩ := hs
  obtain ⟨q, tcap, tg, to, ks, rfl, hqp, hat⟩ := ht
  obtain ⟨r, hr⟩ : ∃ r, fmtOf ss ts isS c = r := ⟨_, rfl⟩
  rw [hr]
  unfold fmtOf at hr
  have HR := hidden hr
  have HQP := hidden hqp
  have HAT := hidden hat
  have HSM := hidden hsm
  clear hr hqp hat hsm hm hl
  go_enter Tryz.func24, Tryz.ntmps24
  go_wp2_with fail
  (with_reducible refine htu.mono ?_)
  rintro e w2 ⟨hB2, (⟨x, T, C, hx, rfl, hT1, hT2, hT3⟩ | ⟨hx, rfl⟩)⟩
  · have hr := HR.out
    rw [hx] at hr
    obtain ⟨t, h1, h2, h3, h4, _⟩ := cellsOf_parts (cellAt_mem hx)
    simp only [h1] at hr
    subst hr
    have hxl := (List.getElem?_eq_some_iff.1 h1).1
    obtain ⟨rfl, hg⟩ := HQP.out (fun h => by rw [h] at hxl; exact absurd hxl (Nat.not_lt_zero _))
    have hta := (HAT.out x.1 t h1).1.of_block (hB2.block tg hg)
    have d0 := hta.c0
    have hcf := callFormat_any t.name x.2 _ w2 (TupAt.ints (C := C) hT3 hT2) h3 h4 (HSM.out t (List.mem_of_getElem? h1)).1
    have hxz : (x.1 : Int) < (ts.length : Int) := by omega
    have hx0 : (0 : Int) ≤ (x.1 : Int) := by omega
    have HB2 := hidden hB2
    clear hta hB2 hT3 h1 h2 h3 h4 hx htu
    go_wp2_with fail
    (with_reducible refine hcf.mono ?_)
    rintro e w3 ⟨rfl, hB3⟩
    have HB3 := hidden (HB2.out.trans (hB3.mono HB2.out.size))
    clear hB3 d0 hcf
    go_wp2_with fail
    go_ret
    exact ⟨rfl, HB3.out⟩
  · have hr := HR.out
    rw [hx] at hr
    simp only [] at hr
    subst hr
    have HB2 := hidden hB2
    clear hB2 htu hx
    go_wp2_with fail
    go_ret
    exact ⟨rfl, HB2.out⟩

/-- A slice that reads as sorts. -/
def SortsV (w : World) (v : Value) (l : List (ByteArray × Int)) : Prop :=
  ∃ p cap g o, v = .slice p l.length cap ∧ (l ≠ [] → p = some ⟨g, o, none⟩ ∧ g < w.heap.size) ∧ ∀ (i : Nat) x, l[i]? = some x → w.cell? ⟨g, o + i * 2, none⟩ = some (.string x.1) ∧ w.cell? ⟨g, o + i * 2 + 1, none⟩ = some (.int .i64 x.2)

def sizesC (l : List (ByteArray × Int)) : List Value := l.map fun x => .int .i64 x.2

set_option maxRecDepth 100000 in
set_option maxHeartbeats 3200000 in
theorem sizes_any (l : List (ByteArray × Int)) (v : Value) (w : World) (h : SortsV w v l) (hl : l.length ≤ 1000000) :
    Calls Tryz.prog 11 #[v] w fun e w' => ∃ v', e = .returned v' ∧ w'.ownsRow w.heap.size 3 1 v' l.length (sizesC l) ∧ Below w.heap.size w w' := by
  obtain ⟨p, cap, g, o, rfl, hp, hc⟩ := h
  obtain ⟨i0, hi, hz0, hz1, hz2⟩ := info_parts infoI
  have HP := hidden hp
  have HC := hidden hc
  have HL := hidden hl
  clear hp hc hl
  go_enter Tryz.func11, Tryz.ntmps11
  go_wp2_with fail
  go_loopw [3, 8] (fun out i wr => ∃ k : Nat, k ≤ l.length ∧ i = .int .i64 k ∧ wr.ownsRow w.heap.size 3 1 out k (sizesC (l.take k)) ∧ Below w.heap.size w wr) (fun _ i _ => l.length - (intOf i).toNat)
  case atStart => exact ⟨0, Nat.zero_le _, rfl, ⟨rfl, Or.inl ⟨rfl, rfl⟩⟩, Below.refl _ _⟩
  case round =>
    obtain ⟨k, hk, rfl, hown, hnx⟩ := hrel
    have hwr := hnx.size
    have hl3 := HL.out
    by_cases hlt : k < l.length
    · have hx : l[k]? = some l[k] := List.getElem?_eq_getElem hlt
      generalize l[k] = x at hx
      obtain ⟨rfl, hg⟩ := HP.out (fun h => by rw [h] at hlt; exact absurd hlt (Nat.not_lt_zero _))
      have c0 : wr.cell? ⟨g, o + k * 2, none⟩ = some (.string x.1) := (hnx.cell (p := ⟨g, o + k * 2, none⟩) hg).trans (HC.out k x hx).1
      have c1 : wr.cell? ⟨g, o + k * 2 + 1, none⟩ = some (.int .i64 x.2) := (hnx.cell (p := ⟨g, o + k * 2 + 1, none⟩) hg).trans (HC.out k x hx).2
      have hltz : (k : Int) < (l.length : Int) := by omega
      have HT : Hid (sizesC (l.take (k + 1)) = sizesC (l.take k) ++ [.int .i64 x.2]) := by
        show _ = _
        unfold sizesC
        rw [take_step hx]; simp
      have HCN : Hid (∀ j u, [Value.int .i64 x.2][j]? = some u → ((wr.alloc (.cells #[.string x.1, .int .i64 x.2] 59)).alloc (.cells #[.int .i64 x.2] 3)).cell? ((⟨wr.heap.size + 1, 0, none⟩ : Addr).add j) = some u) := by
        have h := cell_one_new (wr.alloc (.cells #[.string x.1, .int .i64 x.2] 59)) (.int .i64 x.2) 3
        rw [World.size_alloc] at h
        exact h
      clear hx
      go_wp2_with (at_builtin; refine wpList_append_own _ rfl (.tmp 12) (.tmp 15) 23 rfl w.heap.size 3 i0 (.int .i64 0) 1 8 Tryz.underlying23 hi hz0 hz1 hz2 rfl (by decide) _ _ _ rfl ((hown.alloc _).alloc _) ⟨wr.heap.size + 1, 0, none⟩ 1 1 [.int .i64 x.2] rfl rfl HCN.out (by intro u hu; simp at hu; subst hu; rfl) (by unfold maxLen; omega) (by omega) (by simp; omega) ?_; intro v' w5 hown5 hgrow5 _)
      go_roundw
      case rel => exact ⟨k + 1, hlt, rfl, by rw [HT.out]; exact hown5, ((hnx.alloc (by omega) _).alloc (by simp; omega) _).grown hgrow5 (by simp; omega) (row_block hown)⟩
      case measure => simp [intOf]; omega
    · obtain rfl : k = l.length := by omega
      have hltz : ¬ (l.length : Int) < (l.length : Int) := by omega
      rw [List.take_length] at hown
      have HN := hidden hnx
      have HO := hidden hown
      clear hown hnx hlt
      go_wp2_with fail
      go_ret
      exact ⟨_, rfl, HO.out, HN.out⟩

end Go.Proofs.YtfmoophjdgejeaaGreatDoor
