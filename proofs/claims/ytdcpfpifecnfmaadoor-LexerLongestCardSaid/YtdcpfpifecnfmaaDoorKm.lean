import Derived.Test.YtdcpfpifecnfmaaDoorMk
import Derived.Test.YtdcpfpifecnfmaaDoorLr
import Derived.Test.YtdcpfpifecnfmaaDoorKx
import Derived.StringKeys
import Derived.Lib.AppendIntMem
/-
  The map of keywords, made of the words of a text; the table of the library's white space is what its initialiser lays.
-/
namespace Go.Proofs.YtdcpfpifecnfmaaDoor
open Go.RowKit Go.Shelf Go.Lib
open Go.Maps (Keyed IsMap)

/-- The library's table of white space, in this world and behind whatever writes no old block. -/
def AsciiAt (w : World) : Prop := Lib.TabBelow Tryd.prog w.heap.size w "strings.asciiSpace" .u8 Lib.asciiSpaceTab
theorem AsciiAt.keep {w w' : World} (h : AsciiAt w) (hb : Below w.heap.size w w') : AsciiAt w' := fun w'' hb2 => h w'' (bt hb hb2)

def kwFold (ks : List (List UInt8)) : DataW Unit := ks.foldl (fun d k => d.put (.string k) (.lit (.bool true))) (.map [])
def kwMap : DataW Unit := kwFold kwords

theorem kw_fold (l : List UInt8) (z : DataW Unit) : ∀ (ks : List (List UInt8)) (D : DataW Unit), IsMap D →
    (ks.foldl (fun d k => d.put (.string k) (.lit (.bool true))) D).atKey (.string l) z = if l ∈ ks then .lit (.bool true) else D.atKey (.string l) z
  | [], D, _ => by simp
  | k :: ks, D, hD => by
    rw [List.foldl_cons, kw_fold l z ks _ (hD.put _ _)]
    by_cases h1 : l ∈ ks
    · rw [if_pos h1, if_pos (List.mem_cons_of_mem _ h1)]
    · rw [if_neg h1]
      by_cases h2 : l = k
      · subst h2
        rw [if_pos List.mem_cons_self]
        exact Maps.atKey_put_same hD (by simp [WideAt.IsKeyLit]) _ _
      · rw [if_neg (by simp [h1, h2])]
        exact Maps.atKey_put_other (fun e => h2 (by cases e; rfl)) _ _

theorem kw_at (l : List UInt8) : kwMap.atKey (.string l) (.lit (.bool false)) = .lit (.bool (decide (l ∈ kwords))) := by
  unfold kwMap kwFold
  rw [kw_fold l _ kwords _ Maps.isMap_empty]
  by_cases h : l ∈ kwords
  · rw [if_pos h, decide_eq_true h]
  · rw [if_neg h, decide_eq_false h]
    rfl

theorem kwFold_take {k : Nat} {l : List UInt8} (h : kwords[k]? = some l) : kwFold (kwords.take (k + 1)) = (kwFold (kwords.take k)).put (.string l) (.lit (.bool true)) := by
  unfold kwFold
  rw [List.take_add_one, h, Option.toList_some, List.foldl_append]
  rfl

theorem kw_fields : Lib.fields kwList.data.toList = kwords := by kernel_rfl
theorem kw_ascii : (kwList.data.toList.all fun b => decide (b.toNat < 128)) = true := by kernel_rfl
theorem kw_short : (kwords.all fun l => decide (l.length ≤ 100)) = true := by kernel_rfl

set_option maxRecDepth 100000 in
set_option maxHeartbeats 3200000 in
theorem keywords_any (w : World) (hA : AsciiAt w) :
    Calls Tryd.prog 44 #[] w fun e w' => e = .returned (.map (some w.heap.size)) ∧ w'.ownsMap Tryd.prog 9 (plainElem (H := Unit) Tryd.prog 4) w.heap.size 35 kwMap ∧ Below w.heap.size w w' := by
  have b0 : Below w.heap.size w (w.alloc (.map #[] 0)) := (Below.refl _ _).alloc (Nat.le_refl _) _
  have o0 : (w.alloc (.map #[] 0)).ownsMap Tryd.prog 9 (plainElem (H := Unit) Tryd.prog 4) w.heap.size 0 (.map []) := World.ownsMap_made w _ _ _
  have hf := Tryd.strings_Fields kwList (w.alloc (.map #[] 0)) kwList_size (fun j b hb => of_decide_eq_true (List.all_eq_true.1 kw_ascii b (List.mem_of_getElem? hb))) (hA _ b0)
  rw [kw_fields, World.size_alloc] at hf
  have hmm := @run_makeMap Tryd.prog
  obtain ⟨cs, hcs⟩ : ∃ cs, cs = (kwords.map fun l => Value.string ⟨l.toArray⟩).toArray := ⟨_, rfl⟩
  rw [← hcs] at hf
  obtain ⟨w1, hw1⟩ : ∃ w1, w1 = (w.alloc (.map #[] 0)).alloc (.cells cs 9) := ⟨_, rfl⟩
  rw [← hw1] at hf
  have hr0 : ∀ (k : Nat) l, kwords[k]? = some l → w1.cell? ⟨w.heap.size + 1, k, none⟩ = some (.string ⟨l.toArray⟩) := fun k l hl => by
    rw [hw1, show w.heap.size + 1 = (w.alloc (.map #[] 0)).heap.size by simp, World.cell?_alloc_new, hcs, List.getElem?_toArray, List.getElem?_map, hl]; rfl
  have b1 : Below w.heap.size w w1 := by rw [hw1]; exact b0.alloc (by simp) _
  have o1 : w1.ownsMap Tryd.prog 9 (plainElem (H := Unit) Tryd.prog 4) w.heap.size 0 (.map []) := by
    obtain ⟨es, clock, hb, r⟩ := o0
    exact ⟨es, clock, by rw [hw1, (Below.heap_alloc (w.alloc (.map #[] 0)) _ w.heap.size (by simp))]; exact hb, r⟩
  have hz1 : w1.heap.size = w.heap.size + 2 := by rw [hw1]; simp
  have HK0 : Hid (w1.ownsMap Tryd.prog 9 (plainElem (H := Unit) Tryd.prog 4) w.heap.size 0 (kwFold (kwords.take 0)) ∧ Below w.heap.size w w1 ∧ w.heap.size + 2 ≤ w1.heap.size ∧ ∀ (k : Nat) l, kwords[k]? = some l → w1.cell? ⟨w.heap.size + 1, k, none⟩ = some (.string ⟨l.toArray⟩)) := ⟨o1, b1, by omega, hr0⟩
  have hkl : kwords.length = 35 := by rfl
  rw [hkl] at hf
  clear hr0 b1 o1 hz1 hcs hA b0 o0
  go_enter Tryd.func44, Tryd.ntmps44
  go_wp2_with fail
  refine Calls.mono (show Calls _ _ _ _ _ from hf) ?_
  rintro e w' ⟨rfl, rfl⟩
  clear hf hmm hw1
  go_wp2_with fail
  go_loopw [7] (fun i wr => ∃ k : Nat, k ≤ 35 ∧ i = .int .i64 k ∧ Hid (wr.ownsMap Tryd.prog 9 (plainElem (H := Unit) Tryd.prog 4) w.heap.size k (kwFold (kwords.take k)) ∧ Below w.heap.size w wr ∧ w.heap.size + 2 ≤ wr.heap.size ∧ ∀ (k : Nat) l, kwords[k]? = some l → wr.cell? ⟨w.heap.size + 1, k, none⟩ = some (.string ⟨l.toArray⟩))) (fun i _ => 35 - (intOf i).toNat)
  case atStart => exact ⟨0, Nat.zero_le _, rfl, HK0⟩
  case round =>
    obtain ⟨k, hk, rfl, hh⟩ := hrel
    by_cases hlt : k < 35
    · have hltz : (k : Int) < 35 := by omega
      obtain ⟨l, hl⟩ : ∃ l, kwords[k]? = some l := ⟨_, List.getElem?_eq_getElem (by rw [hkl]; exact hlt)⟩
      have ck := hh.out.2.2.2 k l hl
      have hls : (⟨l.toArray⟩ : ByteArray).size ≤ 100 := by
        have := of_decide_eq_true (List.all_eq_true.1 kw_short l (List.mem_of_getElem? hl))
        show l.toArray.size ≤ 100
        simpa using this
      obtain ⟨w2, hup, ho, hg⟩ := hh.out.1.update (t := 78) (Maps.string_keyed Tryd.underlying9) Tryd.underlying78 (by unfold maxLen; omega) (Go.WideMaps.keyOf_string_mk Tryd.underlying9 (s := ⟨l.toArray⟩) (by unfold maxLen; omega)) (plainElem_bool Tryd.underlying4 true)
      have HN : Hid (w2.ownsMap Tryd.prog 9 (plainElem (H := Unit) Tryd.prog 4) w.heap.size (k + 1) (kwFold (kwords.take (k + 1))) ∧ Below w.heap.size w w2 ∧ w.heap.size + 2 ≤ w2.heap.size ∧ ∀ (k : Nat) l, kwords[k]? = some l → w2.cell? ⟨w.heap.size + 1, k, none⟩ = some (.string ⟨l.toArray⟩)) := by
        refine ⟨?_, hh.out.2.1.grown hg hh.out.2.1.size (fun k e => by cases e; exact Nat.le_refl _), Nat.le_trans hh.out.2.2.1 hg.size, fun j l' hj => ?_⟩
        · rw [kwFold_take hl]; exact ho
        · rw [World.cell?_of_block (a := ⟨w.heap.size + 1, j, none⟩) (hg.block (w.heap.size + 1) (by have := hh.out.2.2.1; omega) (by simp))]
          exact hh.out.2.2.2 j l' hj
      clear hh hl hls ho hg HK0
      go_wp2_with fail
      go_roundw
      case rel => exact ⟨k + 1, by omega, by go_num, HN⟩
      case measure => simp [intOf]; omega
    · obtain rfl : k = 35 := by omega
      clear HK0
      go_wp2_with fail
      go_ret
      refine ⟨rfl, ?_, hh.out.2.1⟩
      have h := hh.out.1
      rw [show kwords.take 35 = kwords from by rfl] at h
      exact h

end Go.Proofs.YtdcpfpifecnfmaaDoor
