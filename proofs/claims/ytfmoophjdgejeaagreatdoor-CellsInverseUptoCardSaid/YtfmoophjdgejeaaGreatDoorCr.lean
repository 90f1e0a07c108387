import Derived.Test.YtfmoophjdgejeaaGreatDoorCq
import Derived.Lib.ItoaNum
import Derived.Lib.Join
/-
  The text of a cell.
-/
namespace Go.Proofs.YtfmoophjdgejeaaGreatDoor
open Go.RowKit Go.Shelf
attribute [local go_sem] Oper.semAt_some

/-- A number's text. -/
def decS (n : Nat) : ByteArray := ⟨(Lib.decDigits n).toArray⟩
def decC (l : List Nat) : List Value := l.map fun n => .string (decS n)
/-- The text of a call. -/
def joinS (l : List Nat) : ByteArray := ⟨(Lib.join (l.map Lib.decDigits) [44, 32]).toArray⟩
def fmtS (name : ByteArray) (l : List Nat) : ByteArray := name ++ ⟨#[40]⟩ ++ joinS l ++ ⟨#[41]⟩

theorem dec_one {n : Nat} (h : n ≤ 6) : Lib.decDigits n = [UInt8.ofNat (48 + n)] := Lib.decDigits_one (by omega)

theorem join_short {l : List Nat} (hl : l.length ≤ 3) (h6 : ∀ n ∈ l, n ≤ 6) : (Lib.join (l.map Lib.decDigits) [44, 32]).length ≤ 7 := by
  match l, hl, h6 with
  | [], _, _ => simp [Lib.join_nil]
  | [a], _, h6 =>
    have h1 := dec_one (h6 a (by simp))
    simp [Lib.join_cons, Lib.joinTail, h1]
  | [a, b], _, h6 =>
    have h1 := dec_one (h6 a (by simp))
    have h2 := dec_one (h6 b (by simp))
    simp [Lib.join_cons, Lib.joinTail, h1, h2]
  | [a, b, c], _, h6 =>
    have h1 := dec_one (h6 a (by simp))
    have h2 := dec_one (h6 b (by simp))
    have h3 := dec_one (h6 c (by simp))
    simp [Lib.join_cons, Lib.joinTail, h1, h2, h3]
  | _ :: _ :: _ :: _ :: _, h, _ => simp at h

theorem infoSt : (Tryz.prog.info? 9).map (fun i => (i.zero, i.size, i.bytes)) = some (some (.string ByteArray.empty), 1, 16) := by kernel_rfl

theorem joinS_any {w : World} {base e : Nat} {v : Value} {l : List Nat} (h : w.ownsRow base e 1 v l.length (decC l)) (hl : l.length ≤ 3) (h6 : ∀ n ∈ l, n ≤ 6) :
    Calls Tryz.prog 25 #[v, .string ⟨#[44, 32]⟩] w fun e w' => e = .returned (.string (joinS l)) ∧ Below w.heap.size w w' := by
  have h0 := h
  obtain ⟨_, ⟨rfl, h1⟩ | ⟨g, cap, cur, rfl, hg, hb, hmc, hcap, _⟩⟩ := h
  · obtain rfl := List.length_eq_zero_iff.1 h1
    exact (Tryz.strings_Join_none none 0 ⟨#[44, 32]⟩ w).mono (by rintro e w' ⟨rfl, rfl⟩; exact ⟨rfl, Below.refl _ _⟩)
  · have hxs : (l.map decS).map (·.data.toList) = l.map Lib.decDigits := by rw [List.map_map]; exact List.map_congr_left (fun a _ => rfl)
    have hj := Tryz.strings_Join g 0 cap (l.map decS) ⟨#[44, 32]⟩ w
      (fun j x hx => by
        rw [List.getElem?_map] at hx
        obtain ⟨y, hy, rfl⟩ := Option.map_eq_some_iff.1 hx
        obtain ⟨hj, rfl⟩ := List.getElem?_eq_some_iff.1 hy
        rw [Nat.zero_add, h0.cellAt j (by omega)]
        unfold decC
        rw [List.getElem?_map, hy]; rfl)
      (Array.getElem?_eq_some_iff.1 hb).1 (by simp; omega) (by simp; omega) (by rw [hxs]; have := join_short hl h6; show (Lib.join (l.map Lib.decDigits) [44, 32]).length ≤ _; omega)
    rw [hxs, List.length_map] at hj
    exact hj

set_option maxRecDepth 100000 in
set_option maxHeartbeats 3200000 in
theorem callFormat_any (name : ByteArray) (l : List Nat) (lv : Value) (w : World) (hlv : IntsV w lv (natL l)) (hl : l.length ≤ 3) (h6 : ∀ n ∈ l, n ≤ 6) (hn : name.size ≤ 4096) :
    Calls Tryz.prog 47 #[.string name, lv] w fun e w' => e = .returned (.string (fmtS name l)) ∧ Below w.heap.size w w' := by
  obtain ⟨p, cap, g, o, rfl, hp, hc⟩ := hlv
  rw [natL_len]
  obtain ⟨i0, hi, hz0, hz1, hz2⟩ := info_parts infoSt
  have HP := hidden hp
  have HC := hidden hc
  have HL := hidden hl
  have H6 := hidden h6
  have hit := fun i hi w' => Tryz.strconv_Itoa_small i hi w'
  have HIT := hidden hit
  have HJ := fun (w' : World) (base e : Nat) (v : Value) (h : w'.ownsRow base e 1 v l.length (decC l)) => joinS_any h hl h6
  have HJO := hidden HJ
  have hjs : (joinS l).size ≤ 7 := join_short hl h6
  have hsz1 : (name ++ ⟨#[40]⟩ : ByteArray).size = name.size + 1 := by rw [ByteArray.size_append]; rfl
  clear hp hc hl h6 hit HJ
  go_enter Tryz.func47, Tryz.ntmps47
  go_wp2_with fail
  go_loopw [5, 10] (fun out i wr => ∃ k : Nat, k ≤ l.length ∧ i = .int .i64 k ∧ wr.ownsRow w.heap.size 9 1 out k (decC (l.take k)) ∧ Below w.heap.size w wr) (fun _ i _ => l.length - (intOf i).toNat)
  case atStart => exact ⟨0, Nat.zero_le _, rfl, ⟨rfl, Or.inl ⟨rfl, rfl⟩⟩, Below.refl _ _⟩
  case round =>
    obtain ⟨k, hk, rfl, hown, hnx⟩ := hrel
    have hwr := hnx.size
    have hl3 := HL.out
    by_cases hlt : k < l.length
    · have hx : l[k]? = some l[k] := List.getElem?_eq_getElem hlt
      have hx6 := H6.out _ (List.getElem_mem hlt)
      generalize l[k] = x at hx hx6
      obtain ⟨rfl, hg⟩ := HP.out (fun h => by rw [← List.length_eq_zero_iff, natL_len] at h; omega)
      have ci : wr.cell? ⟨g, o + k, none⟩ = some (.int .i64 (x : Int)) := (hnx.cell (p := ⟨g, o + k, none⟩) hg).trans (HC.out k _ (natL_get hx))
      have hltz : (k : Int) < (l.length : Int) := by omega
      have hit := HIT.out x (by omega) wr
      have HT : Hid (decC (l.take (k + 1)) = decC (l.take k) ++ [.string (decS x)]) := by
        show _ = _
        unfold decC
        rw [take_step hx]; simp
      clear hx
      go_wp2_with (first | (go_at_call 64; (with_reducible refine hit.mono ?_); rintro e w1 ⟨rfl, rfl⟩) | (at_builtin; refine wpList_append_own _ rfl (.tmp 14) (.tmp 17) 47 rfl w.heap.size 9 i0 (.string ByteArray.empty) 1 16 Tryz.underlying47 hi hz0 hz1 hz2 rfl (by decide) _ _ _ rfl (hown.alloc _) ⟨_, 0, none⟩ 1 1 [.string (decS x)] rfl rfl (cell_one_new _ _ _) (by intro u hu; simp at hu; subst hu; rfl) (by unfold maxLen; omega) (by omega) (by simp; omega) ?_; intro v' w5 hown5 hgrow5 _))
      go_roundw
      case rel => exact ⟨k + 1, hlt, rfl, by rw [HT.out]; exact hown5, (hnx.alloc (by omega) _).grown hgrow5 (by simp; omega) (row_block hown)⟩
      case measure => simp [intOf]; omega
    · obtain rfl : k = l.length := by omega
      have hltz : ¬ (l.length : Int) < (l.length : Int) := by omega
      rw [List.take_length] at hown
      have hjo := HJO.out wr _ _ _ hown
      have HN := hidden hnx
      clear hown hnx hlt
      go_wp2_with (first | (go_at_call 25; (with_reducible refine hjo.mono ?_); rintro e w6 ⟨rfl, hb6⟩))
      go_ret
      exact ⟨rfl, HN.out.trans (hb6.mono HN.out.size)⟩

end Go.Proofs.YtfmoophjdgejeaaGreatDoor
