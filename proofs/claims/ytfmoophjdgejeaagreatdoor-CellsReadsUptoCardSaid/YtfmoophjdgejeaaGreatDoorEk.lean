import Derived.Test.YtfmoophjdgejeaaGreatDoorEj
import Derived.Maps.Own
import Derived.Maps.OwnOps
import Derived.StringKeys
/-
  The texts of cells are read as the cells, and no two cells have the same; a map of texts.
-/
namespace Go.Proofs.YtfmoophjdgejeaaGreatDoor
open Go.RowKit Go.Shelf Go.Lib
open Go.Maps (Keyed)

theorem name_word {s : ByteArray} (h : kindW s = 1) : IsWord 1 s.data.toList := by
  have hN : kindN s = 1 := by
    unfold kindW at h
    split at h
    · cases h
    · exact h
  unfold kindN at hN
  split at hN
  · rename_i hc
    have h1 : skipF false s.data.toList = 0 := by
      have h2 : (nextT s.data.toList 0).at_ = 0 + skipF false (s.data.toList.drop 0) := rfl
      rw [hc.1, List.drop_zero] at h2; omega
    have h3 : (nextT s.data.toList 0).kind = (tokF (s.data.toList.drop (nextT s.data.toList 0).at_)).1 := rfl
    have h4 : (nextT s.data.toList 0).end_ = (nextT s.data.toList 0).at_ + (tokF (s.data.toList.drop (nextT s.data.toList 0).at_)).2 := rfl
    rw [hc.1, List.drop_zero] at h3 h4
    rw [hN] at h3
    rw [hc.2] at h4
    refine ⟨fun h0 => ?_, h1, ?_⟩
    · rw [h0] at h3; cases h3
    · refine Prod.ext h3.symm ?_
      show (tokF s.data.toList).2 = s.data.toList.length
      rw [bytes_len]; omega
  · cases hN

theorem goV_names {ss : List Int} {ts : List Tab} : ∀ (r : List Tab) (i a b : Nat), goV ss ts r i a b = true → ∀ (j : Nat) (t : Tab), r[j]? = some t → nameOkB ts (i + j) t = true
  | [], _, _, _, _, j, t, ht => by simp at ht
  | u :: r, i, a, b, h, j, t, ht => by
    simp only [goV, Bool.and_eq_true] at h
    obtain ⟨_, h3, _, h6⟩ := h
    cases j with
    | zero =>
      obtain rfl : u = t := by simpa using ht
      exact h3
    | succ j =>
      have := goV_names r (i + 1) _ _ h6 j t (by simpa using ht)
      rw [show i + (j + 1) = i + 1 + j by omega]; exact this

theorem valid_name {ss : List Int} {ts : List Tab} (h : validB ss ts = true) {i : Nat} {t : Tab} (ht : ts[i]? = some t) : tableN ts t.name = (i : Int) ∧ t.name.size ≤ 16 ∧ kindW t.name = 1 := by
  simp only [validB, Bool.and_eq_true, decide_eq_true_eq] at h
  have g := goV_names ts 0 0 0 h.2.2.2 i t ht
  rw [Nat.zero_add] at g
  unfold nameOkB nameB at g
  simp only [Bool.and_eq_true, decide_eq_true_eq] at g
  exact ⟨g.1, g.2.1, g.2.2⟩

/-- What a text with a cell's words is read as. -/
theorem parse_words {ss : List Int} {ts : List Tab} {isS : Bool} (h : validB ss ts = true) {c : Nat} {x : Nat × List Nat} (hx : (cellsOf ss ts isS)[c]? = some x) {t : Tab} (ht : ts[x.1]? = some t) {s : ByteArray} (hs : wordsB s = (callK t.name.data.toList x.2).map ba) :
    parseS ss ts s = ((x.1 : Int), (c : Int), 0) := by
  obtain ⟨u, hu, _, _, h6, _⟩ := cellsOf_parts (List.mem_of_getElem? hx)
  obtain ⟨hn1, _, hn3⟩ := valid_name h ht
  unfold parseS
  rw [if_pos h, hs, call_words hn3 h6]
  simp only []
  rw [hn1, if_pos (by omega), cell_of_at h hx]
  simp

/-- The text of a cell, and what it is. -/
theorem fmt_is {ss : List Int} {ts : List Tab} {isS : Bool} (h : validB ss ts = true) {c : Nat} {x : Nat × List Nat} (hx : (cellsOf ss ts isS)[c]? = some x) :
    ∃ t, ts[x.1]? = some t ∧ strictB t.kind = isS ∧ fmtOf ss ts isS (c : Int) = fmtS t.name x.2 ∧ wordsB (fmtS t.name x.2) = (callK t.name.data.toList x.2).map ba ∧ (fmtS t.name x.2).size ≤ 100 ∧
      (∀ g ∈ gapsC, ∀ s : ByteArray, s.data.toList = Lib.join ((callK t.name.data.toList x.2).map (·.2)) g → wordsB s = (callK t.name.data.toList x.2).map ba ∧ s.size ≤ 200) ∧ fmtS t.name x.2 ≠ ⟨#[]⟩ := by
  obtain ⟨t, ht, hk, hl3, h6, _⟩ := cellsOf_parts (List.mem_of_getElem? hx)
  obtain ⟨_, hn2, hn3⟩ := valid_name h ht
  have hw := name_word hn3
  have hsz : (fmtS t.name x.2).size = t.name.size + (Lib.join (x.2.map Lib.decDigits) [44, 32]).length + 2 := by
    rw [← bytes_len, ← spaced_fmt]
    have e : (fmtS t.name x.2).data.toList = t.name.data.toList ++ 40 :: (Lib.join (x.2.map Lib.decDigits) [44, 32] ++ [41]) := by
      unfold fmtS joinS
      simp only [ByteArray.data_append, Array.toList_append]
      simp
    rw [spaced_fmt, e]
    simp only [List.length_append, List.length_cons, List.length_nil, bytes_len]
    omega
  have hjs := join_short hl3 h6
  refine ⟨t, ht, hk, ?_, words_fmt hw h6, by omega, fun g hg s hs => ⟨words_join hg hw h6 hs, ?_⟩, fun e => ?_⟩
  · unfold fmtOf
    rw [cellAt_nat, hx]
    simp only []
    rw [ht]
  · have hgl : g.length ≤ 4 := by
      simp only [gapsC, List.mem_cons, List.not_mem_nil, or_false] at hg
      rcases hg with rfl | rfl | rfl | rfl <;> decide
    have hd : ∀ n ∈ x.2, (Lib.decDigits n).length = 1 := fun n hn => by rw [dec_one (h6 n hn)]; rfl
    rw [← bytes_len, hs]
    have hnl : t.name.data.toList.length ≤ 16 := by rw [bytes_len]; exact hn2
    unfold callK
    match hx2 : x.2, hl3, hd with
    | [], _, _ => simp [argsK, Lib.join_cons, Lib.joinTail]; omega
    | [a], _, hd =>
      have h1 := hd a (by simp)
      simp [argsK, tailK, Lib.join_cons, Lib.joinTail, h1]; omega
    | [a, b], _, hd =>
      have h1 := hd a (by simp)
      have h2 := hd b (by simp)
      simp [argsK, tailK, Lib.join_cons, Lib.joinTail, h1, h2]; omega
    | [a, b, c], _, hd =>
      have h1 := hd a (by simp)
      have h2 := hd b (by simp)
      have h3 := hd c (by simp)
      simp [argsK, tailK, Lib.join_cons, Lib.joinTail, h1, h2, h3]; omega
    | _ :: _ :: _ :: _ :: _, h, _ => simp at h
  · rw [e] at hsz
    have : (⟨#[]⟩ : ByteArray).size = 0 := rfl
    omega

/-- No two cells have the same text. -/
theorem fmt_inj {ss : List Int} {ts : List Tab} (h : validB ss ts = true) {S S' : Bool} {c c' : Nat} (hc : c < (cellsOf ss ts S).length) (hc' : c' < (cellsOf ss ts S').length) (he : fmtOf ss ts S (c : Int) = fmtOf ss ts S' (c' : Int)) : S = S' ∧ c = c' := by
  have hx := List.getElem?_eq_getElem hc
  have hx' := List.getElem?_eq_getElem hc'
  obtain ⟨t, ht, hk, h1, h2, _⟩ := fmt_is h hx
  obtain ⟨t', ht', hk', h1', h2', _⟩ := fmt_is h hx'
  have p1 := parse_words h hx ht h2
  have p2 := parse_words h hx' ht' h2'
  rw [← h1, he, h1', p2] at p1
  obtain ⟨e1, e2⟩ := Prod.mk.inj p1
  obtain ⟨e2, _⟩ := Prod.mk.inj e2
  have e3 : ((cellsOf ss ts S')[c']).1 = ((cellsOf ss ts S)[c]).1 := by omega
  rw [e3, ht] at ht'
  obtain rfl := Option.some.inj ht'
  exact ⟨hk.symm.trans hk', by omega⟩

def seenB (T : List ByteArray) (s : ByteArray) : Bool := T.any fun z => decide (z = s)
theorem seen_no {T : List ByteArray} {s : ByteArray} (h : s ∉ T) : seenB T s = false := by
  cases he : seenB T s with
  | false => rfl
  | true =>
    obtain ⟨z, hz, e⟩ := List.any_eq_true.1 he
    exact absurd (of_decide_eq_true e ▸ hz) h

/-- A map of the texts that have been seen. -/
def SeenM (w : World) (b n : Nat) (T : List ByteArray) : Prop :=
  ∃ D, w.ownsMap Tryz.prog 9 (plainElem (H := Unit) Tryz.prog 4) b n D ∧ ∀ s : ByteArray, D.atKey (.string s.data.toList) (.lit (.bool false)) = .lit (.bool (seenB T s))

theorem SeenM.made (w : World) : SeenM (w.alloc (.map #[] 0)) w.heap.size 0 [] := ⟨_, World.ownsMap_made w _ _ _, fun _ => rfl⟩
theorem SeenM.lt {w : World} {b n : Nat} {T : List ByteArray} (h : SeenM w b n T) : b < w.heap.size := by
  obtain ⟨D, h, _⟩ := h; exact h.lt
theorem SeenM.later {w w' : World} {b n : Nat} {T : List ByteArray} (h : SeenM w b n T) (hb : Below w.heap.size w w') : SeenM w' b n T := by
  obtain ⟨D, h, h1⟩ := h
  exact ⟨D, h.kept (row := none) ⟨hb.os, hb.tape, hb.output, hb.size, fun k hk _ => hb.block k hk⟩ (by simp), h1⟩

theorem bool_inv {H : Type} {P : Program} {e : TypeId} (he : P.underlying e = some .bool) {v : Value} {y : DataW H × List MemPlace} (h : plainElem P e v = some y) : ∃ c, v = .bool c ∧ y = (.lit (.bool c), []) := by
  cases v <;> simp [plainElem, he] at h
  exact ⟨_, rfl, h.symm⟩

theorem lookup_bool {H : Type} {P : Program} {w : World} {k t e : TypeId} {b n : Nat} {D : DataW H} (h : w.ownsMap P k (plainElem P e) b n D) (K : Keyed P k) (ht : P.underlying t = some (.map k e)) (he : P.underlying e = some .bool)
    (hz : (zeroValue e).run P w = .ok (.bool false) w) {key : Value} {kl : Lit} (hkey : keyOf P k key = some kl) :
    ∃ c, (Instr.lookup t (.map (some b)) key false).run P w = .ok (.bool c) w ∧ D.atKey kl (.lit (.bool false)) = .lit (.bool c) := by
  obtain ⟨v, ps, hrun, hv⟩ := h.lookup K ht hz (plainElem_bool he false) hkey
  obtain ⟨c, rfl, hc⟩ := bool_inv he hv
  exact ⟨c, hrun, congrArg Prod.fst hc⟩

theorem SeenM.look {w : World} {b n : Nat} {T : List ByteArray} (h : SeenM w b n T) (s : ByteArray) (hs : s.size ≤ 4096) : (Instr.lookup 45 (.map (some b)) (.string s) false).run Tryz.prog w = .ok (.bool (seenB T s)) w := by
  obtain ⟨D, h, h1⟩ := h
  obtain ⟨c, hrun, hat⟩ := lookup_bool h (Maps.string_keyed Tryz.underlying9) (t := 45) Tryz.underlying45 Tryz.underlying4 (Tryz.zeroValue4 _) (WideMaps.keyOf_string_mk Tryz.underlying9 (s := s) (by unfold maxLen; omega))
  rw [h1 s] at hat
  have e := Lit.bool.inj (DataW.lit.inj hat)
  rw [hrun, e]

theorem SeenM.update {w : World} {b n : Nat} {T : List ByteArray} (h : SeenM w b n T) (hn : n ≤ 1000) (s : ByteArray) (hs : s.size ≤ 4096) :
    ∃ w', (Instr.mapUpdate 45 (.map (some b)) (.string s) (.bool true)).run Tryz.prog w = .ok () w' ∧ SeenM w' b (n + 1) (s :: T) ∧ w.grownBy w' (some b) := by
  obtain ⟨D, h, h1⟩ := h
  have hm := h.isMap
  obtain ⟨w', hrun, ho, hg⟩ := h.update (t := 45) (Maps.string_keyed Tryz.underlying9) Tryz.underlying45 (by unfold maxLen; omega) (WideMaps.keyOf_string_mk Tryz.underlying9 (s := s) (by unfold maxLen; omega)) (plainElem_bool (H := Unit) Tryz.underlying4 true)
  refine ⟨w', hrun, ⟨_, ho, fun u => ?_⟩, hg⟩
  have e0 : seenB (s :: T) u = (decide (s = u) || seenB T u) := rfl
  by_cases he : u = s
  · subst he
    rw [Maps.atKey_put_same hm (by simp [WideAt.IsKeyLit]), e0, decide_eq_true rfl, Bool.true_or]
  · rw [Maps.atKey_put_other (fun e => he (by
      have e1 := Lit.string.inj e
      apply ByteArray.ext
      apply Array.ext'
      first | exact e1 | exact e1.symm)), h1 u, e0, decide_eq_false (fun e => he e.symm), Bool.false_or]

end Go.Proofs.YtfmoophjdgejeaaGreatDoor
