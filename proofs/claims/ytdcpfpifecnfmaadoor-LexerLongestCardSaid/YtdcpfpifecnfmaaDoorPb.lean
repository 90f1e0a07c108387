import Derived.Test.YtdcpfpifecnfmaaDoorLp
import Derived.Test.YtdcpfpifecnfmaaDoorPa
/-
  Plain facts: the tokens of a text are what it reads as; compact texts.
-/
namespace Go.Proofs.YtdcpfpifecnfmaaDoor
open Go.RowKit Go.Shelf Go.Lib

theorem toksF_reads : ∀ (f : Nat) (l : List UInt8) (k : Nat), k ≤ l.length → l.length < k + f →
    Reads (l.drop k) (((toksF f l k).filter fun t => t.kind != 0).map fun t => (t.kind, (l.drop t.at_).take (t.end_ - t.at_)))
  | 0, l, k, h1, h2 => by omega
  | f + 1, l, k, h1, h2 => by
    obtain ⟨f1, f2, f3, f4, f5, f6⟩ := nextT_facts l k h1
    have e : (nextT l k).at_ = k + skipF false (l.drop k) := rfl
    have e2 : (nextT l k).end_ = (nextT l k).at_ + (tokF (l.drop (nextT l k).at_)).2 := rfl
    have e3 : (nextT l k).kind = (tokF (l.drop (nextT l k).at_)).1 := rfl
    rw [toksF]
    by_cases h0 : (nextT l k).kind = 0
    · rw [if_pos h0, List.filter_cons_of_neg (by simp [h0]), List.filter_nil, List.map_nil]
      refine .done _ ?_
      have := f5 h0
      rw [List.length_drop]; omega
    · rw [if_neg h0, List.filter_cons_of_pos (by simp [h0]), List.map_cons]
      have ha := f6 h0
      have hr := toksF_reads f l (nextT l k).end_ f4 (by omega)
      generalize (nextT l k).at_ = a at *
      generalize (nextT l k).end_ = b at *
      generalize (nextT l k).kind = kd at *
      have hd : l.drop a = (l.drop a).take (b - a) ++ l.drop b := by
        have h := (List.take_append_drop (b - a) (l.drop a)).symm
        rw [List.drop_drop, show a + (b - a) = b by omega] at h
        exact h
      have hp : l.drop k = (l.drop k).take (a - k) ++ l.drop a := by
        have h := (List.take_append_drop (a - k) (l.drop k)).symm
        rw [List.drop_drop, show k + (a - k) = a by omega] at h
        exact h
      have hl : ((l.drop a).take (b - a)).length = b - a := by rw [List.length_take, List.length_drop]; omega
      refine .tok _ ((l.drop k).take (a - k)) _ (l.drop b) _ _ (by rw [← hd]; exact hp) ?_ ?_ ?_ hr
      · rw [List.length_take, List.length_drop]; omega
      · intro h; rw [h] at hl; simp at hl; omega
      · rw [← hd, hl, e3, show b - a = (tokF (l.drop a)).2 by omega]

/-- The kinds and the words of a text. -/
def ksOf (s : ByteArray) : List (Nat × List UInt8) := ((toks s.data.toList).filter fun t => t.kind != 0).map fun t => (t.kind, (wordOf s t).data.toList)

theorem reads_ks (s : ByteArray) : Reads s.data.toList (ksOf s) := by
  have h := toksF_reads (s.data.toList.length + 1) s.data.toList 0 (Nat.zero_le _) (by omega)
  have e : ksOf s = ((toksF (s.data.toList.length + 1) s.data.toList 0).filter fun t => t.kind != 0).map fun t => (t.kind, (s.data.toList.drop t.at_).take (t.end_ - t.at_)) := by
    unfold ksOf wordOf
    simp only [Lib.extract_data]
    rfl
  rw [e]; exact h

/-- A word's bytes. -/
def ba (x : Nat × List UInt8) : ByteArray := ⟨x.2.toArray⟩
theorem ba_list (x : Nat × List UInt8) : (ba x).data.toList = x.2 := by unfold ba; simp
theorem ba_eq (s : ByteArray) (k : Nat) : ba (k, s.data.toList) = s := by unfold ba; simp
theorem ba_inj {x y : Nat × List UInt8} (h : ba x = ba y) : x.2 = y.2 := by rw [← ba_list x, ← ba_list y, h]
theorem ba_app (x y : Nat × List UInt8) : (ba x ++ ba y).data.toList = x.2 ++ y.2 := by rw [ByteArray.data_append, Array.toList_append, ba_list, ba_list]

theorem words_ks (s : ByteArray) : wordsB s = (ksOf s).map ba := by
  unfold wordsB wordsT ksOf
  rw [List.map_map]
  refine List.map_congr_left fun t _ => ?_
  exact (ba_eq _ _).symm
theorem ks_of {s : ByteArray} {ks : List (Nat × List UInt8)} (h : Reads s.data.toList ks) : ksOf s = ks := (reads_ks s).one h
theorem words_of {s : ByteArray} {ks : List (Nat × List UInt8)} (h : Reads s.data.toList ks) : wordsB s = ks.map ba := by rw [words_ks, ks_of h]

theorem Reads.head {k : Nat} {w r : List UInt8} {js : List (Nat × List UInt8)} (h0 : w ≠ []) (hs : skipF false w = 0) (h : Reads (w ++ r) ((k, w) :: js)) : tokF (w ++ r) = (k, w.length) ∧ Reads r js := by
  cases h with
  | tok _ p _ r' _ _ hl hp hw ht h' =>
    rw [(skip_app h0 r).2 hs] at hp
    have hp0 : p = [] := List.length_eq_zero_iff.1 hp.symm
    subst hp0
    rw [List.nil_append] at hl
    have := List.append_cancel_left hl
    subst this
    exact ⟨ht, h'⟩

theorem sep_no {x y : Nat × List UInt8} (hx : IsWord x.1 x.2) (h : sepB (ba x) (ba y) = false) : tokF (x.2 ++ y.2) = (x.1, x.2.length) := by
  unfold sepB at h
  have hw : wordsB (ba x ++ ba y) = [ba x, ba y] := by simpa using h
  have hr := reads_ks (ba x ++ ba y)
  rw [words_ks] at hw
  rw [ba_app] at hr
  generalize ksOf (ba x ++ ba y) = ks at *
  cases ks with
  | nil => cases hw
  | cons z ks =>
    rw [List.map_cons] at hw
    have hz := ba_inj (List.cons.inj hw).1
    obtain ⟨zk, zw⟩ := z
    simp only at hz
    subst hz
    have ht := (hr.head hx.ne hx.skip).1
    have := tok_cut hx.ne ht
    rw [hx.tok] at this
    rw [ht, (Prod.mk.inj this).1]

theorem sep_yes {x y : Nat × List UInt8} (hx : IsWord x.1 x.2) (hy : IsWord y.1 y.2) (h : sepB (ba x) (ba y) = true) : tokF (x.2 ++ y.2) ≠ (x.1, x.2.length) := by
  intro ht
  have hr := hx.reads ht hy.alone
  have hw : wordsB (ba x ++ ba y) = [ba x, ba y] := words_of (by rw [ba_app]; exact hr)
  unfold sepB at h
  rw [hw] at h
  simp at h

/-- What follows a word in a compact text. -/
def restC : Nat × List UInt8 → List (Nat × List UInt8) → List UInt8
  | _, [] => []
  | x, y :: ys => (if sepB (ba x) (ba y) = true then [32] else []) ++ (y.2 ++ restC y ys)

theorem restC_gap (x : Nat × List UInt8) (y : Nat × List UInt8) (ys : List (Nat × List UInt8)) (h : sepB (ba x) (ba y) = true) : restC x (y :: ys) = 32 :: (y.2 ++ restC y ys) := by rw [restC, if_pos h]; rfl
theorem restC_no (x : Nat × List UInt8) (y : Nat × List UInt8) (ys : List (Nat × List UInt8)) (h : sepB (ba x) (ba y) = false) : restC x (y :: ys) = y.2 ++ restC y ys := by rw [restC, if_neg (by rw [h]; simp)]; rfl

theorem skip_blank (x : List UInt8) : skipF false (32 :: x) = skipF false x + 1 := by rw [skipF, if_pos (by decide)]

theorem join_reads : ∀ (ks : List (Nat × List UInt8)) (x : Nat × List UInt8), IsWord x.1 x.2 → (∀ y ∈ ks, IsWord y.1 y.2) → Reads (x.2 ++ restC x ks) (x :: ks)
  | [], x, hx, _ => by rw [restC, List.append_nil]; exact hx.alone
  | y :: ks, x, hx, hks => by
    have hy := hks y List.mem_cons_self
    have ih := join_reads ks y hy (fun z hz => hks z (List.mem_cons_of_mem _ hz))
    cases hs : sepB (ba x) (ba y) with
    | true =>
      rw [restC_gap _ _ _ hs]
      exact hx.reads (tok_gap _ hx.ne hx.tok (by decide)) (ih.skip [32] (by rw [List.singleton_append, skip_blank]; simp; omega))
    | false =>
      rw [restC_no _ _ _ hs]
      exact hx.reads (tok_more _ hx.ne hy.ne (sep_no hx hs)) ih

theorem unskip {x : List UInt8} {js : List (Nat × List UInt8)} (h : Reads (32 :: x) js) : Reads x js := by
  cases h with
  | done _ h => exact .done _ (by rw [skip_blank] at h; simpa using h)
  | tok _ p w r k ks hl hs hw ht h' =>
    rw [skip_blank] at hs
    cases p with
    | nil => simp at hs
    | cons c p =>
      rw [List.cons_append] at hl
      exact .tok _ p w r k ks (List.cons.inj hl).2 (by simpa using hs) hw ht h'

theorem word_blank {k : Nat} {w : List UInt8} (h : IsWord k w) : (32 : UInt8) ∉ w := by
  obtain ⟨hn, hs, ht⟩ := h
  cases w with
  | nil => exact absurd rfl hn
  | cons c u =>
    have hc := (skip_cons c u).1 hs
    intro hm
    rcases List.mem_cons.1 hm with rfl | hm
    · exact absurd hc (by decide)
    · have e : tokF (c :: u) = tokF (c :: (u ++ [])) := by rw [List.append_nil]
      rw [e, List.length_cons, tok_iff] at ht
      by_cases h1 : letterB c = true
      · rw [if_pos h1] at ht; exact absurd (ht.2.1 32 hm) (by decide)
      · rw [if_neg h1] at ht
        by_cases h2 : digitB c = true
        · rw [if_pos h2] at ht; exact absurd (ht.2.1 32 hm) (by decide)
        · rw [if_neg h2] at ht
          by_cases h3 : 0 < symL (c :: (u ++ []))
          · rw [if_pos h3] at ht
            cases u with
            | nil => cases hm
            | cons d u =>
              have h4 := sym_two c (d :: u ++ [])
              rw [ht.2, List.length_cons] at h4
              have hu : u = [] := List.length_eq_zero_iff.1 (by omega)
              subst hu
              have hd : d = 32 := (List.mem_singleton.1 hm).symm
              subst hd
              have h5 := ht.2
              rw [show ([32] : List UInt8) ++ [] = 32 :: [] from rfl, sym_gap c 32 [] (by decide) (by decide)] at h5
              rw [symL] at h5
              split at h5 <;> simp at h5
          · rw [if_neg h3] at ht
            have h4 := ht.2.1
            clear ht e h1 h2 h3 hs hn hc
            induction u with
            | nil => cases hm
            | cons d u ih =>
              rw [innerB, Bool.and_eq_true] at h4
              rcases List.mem_cons.1 hm with rfl | hm
              · have := (gap_facts 32 (by decide)).2.2.2.2.2 (u ++ [])
                rw [this] at h4
                exact absurd h4.1 (by decide)
              · exact ih (List.mem_cons_of_mem _ hm) hm h4.2

theorem join_blank : ∀ (ks : List (Nat × List UInt8)) (x : Nat × List UInt8) (A B : List UInt8), IsWord x.1 x.2 → (∀ y ∈ ks, IsWord y.1 y.2) → x.2 ++ restC x ks = A ++ 32 :: B → ∀ js, Reads (A ++ B) js → js.map ba ≠ (x :: ks).map ba
  | [], x, A, B, hx, _, he, js, hr => by
    rw [restC, List.append_nil] at he
    exact absurd (he ▸ (by simp : (32 : UInt8) ∈ A ++ 32 :: B)) (word_blank hx)
  | y :: ks, x, A, B, hx, hks, he, js, hr => by
    have hy := hks y List.mem_cons_self
    have hks' : ∀ z ∈ ks, IsWord z.1 z.2 := fun z hz => hks z (List.mem_cons_of_mem _ hz)
    obtain ⟨a, rfl, hR⟩ : ∃ a, A = x.2 ++ a ∧ restC x (y :: ks) = a ++ 32 :: B := by
      rcases List.append_eq_append_iff.1 he with ⟨a, h1, h2⟩ | ⟨c, h1, h2⟩
      · exact ⟨a, h1, h2⟩
      · cases c with
        | nil => exact ⟨[], by rw [h1]; simp, by rw [h2]; rfl⟩
        | cons d c =>
          have hd := (List.cons.inj h2).1
          subst hd
          exact absurd (h1 ▸ (by simp : (32 : UInt8) ∈ A ++ 32 :: c)) (word_blank hx)
    intro hj
    cases js with
    | nil => cases hj
    | cons z js =>
      obtain ⟨zk, zw⟩ := z
      rw [List.map_cons, List.map_cons] at hj
      obtain ⟨hz, hjt⟩ := List.cons.inj hj
      clear hj
      have hz := ba_inj hz
      simp only at hz
      subst hz
      rw [List.append_assoc] at hr
      obtain ⟨ht, hr⟩ := hr.head hx.ne hx.skip
      cases hs : sepB (ba x) (ba y) with
      | true =>
        rw [restC_gap _ _ _ hs] at hR
        cases a with
        | nil =>
          have hB : B = y.2 ++ restC y ks := (List.cons.inj hR).2.symm
          subst hB
          have h2 := (join_reads ks y hy hks').head hy.ne hy.skip
          rw [List.nil_append] at ht
          have h3 := tok_less hx.ne hy.ne ht h2.1
          have h4 := tok_cut hx.ne h3
          rw [hx.tok] at h4
          rw [← (Prod.mk.inj h4).1] at h3
          exact sep_yes hx hy hs h3
        | cons c a =>
          rw [List.cons_append] at hR
          obtain ⟨hc, hR2⟩ := List.cons.inj hR
          clear hR
          subst hc
          exact join_blank ks y a B hy hks' hR2 js (unskip hr) hjt
      | false =>
        rw [restC_no _ _ _ hs] at hR
        exact join_blank ks y a B hy hks' hR js hr hjt

theorem cB_rest (ks : List (Nat × List UInt8)) : ∀ (n k : Nat) (x : Nat × List UInt8) (ys : List (Nat × List UInt8)), k + 1 + ys.length = ks.length → ks.drop k = x :: ys → n = ys.length →
    cB (ks.map ba) ks.length = cB (ks.map ba) (k + 1) ++ restC x ys
  | 0, k, x, ys, h1, h2, h3 => by
    obtain rfl : ys = [] := List.length_eq_zero_iff.1 h3.symm
    rw [restC, List.append_nil, ← h1]; rfl
  | n + 1, k, x, ys, h1, h2, h3 => by
    cases ys with
    | nil => simp at h3
    | cons y ys =>
      have hd : ks.drop (k + 1) = y :: ys := by rw [← List.drop_drop, h2]; rfl
      have hx : (ks.map ba).getD k ByteArray.empty = ba x := by
        have h := congrArg (fun l => (l.map ba).getD 0 ByteArray.empty) h2
        simpa [List.getD_eq_getElem?_getD, List.getElem?_drop] using h
      have hy : (ks.map ba).getD (k + 1) ByteArray.empty = ba y := by
        have h := congrArg (fun l => (l.map ba).getD 0 ByteArray.empty) hd
        simpa [List.getD_eq_getElem?_getD, List.getElem?_drop] using h
      rw [cB_rest ks n (k + 1) y ys (by rw [List.length_cons] at h1; omega) hd (by simpa using h3)]
      conv => lhs; lhs; rw [cB]
      rw [lastW, hx, hy, ba_list, restC]
      have e : (if 0 < k + 1 ∧ sepB (ba x) (ba y) = true then ([32] : List UInt8) else []) = if sepB (ba x) (ba y) = true then [32] else [] := by
        by_cases h : sepB (ba x) (ba y) = true
        · rw [if_pos ⟨Nat.succ_pos _, h⟩, if_pos h]
        · rw [if_neg (fun hh => h hh.2), if_neg h]
      rw [e]
      simp only [List.append_assoc]

/-- A compact text. -/
def joinC : List (Nat × List UInt8) → List UInt8
  | [] => []
  | x :: ys => x.2 ++ restC x ys

theorem compact_join (s : ByteArray) : (compactB s).data.toList = joinC (ksOf s) := by
  unfold compactB
  rw [words_ks, List.length_map]
  show (cB ((ksOf s).map ba) (ksOf s).length).toArray.toList = _
  rw [List.toList_toArray]
  cases h : ksOf s with
  | nil => rfl
  | cons x ys =>
    rw [cB_rest (x :: ys) ys.length 0 x ys (by simp; omega) rfl rfl, cB, cB]
    show [] ++ _ ++ _ ++ _ = _
    rw [if_neg (fun h => Nat.lt_irrefl 0 h.1)]
    simp [joinC, ba_list]

theorem ks_words (s : ByteArray) : ∀ x ∈ ksOf s, IsWord x.1 x.2 := (reads_ks s).words

theorem compact_ks (s : ByteArray) : ksOf (compactB s) = ksOf s := by
  refine ks_of ?_
  rw [compact_join]
  have h := ks_words s
  cases hk : ksOf s with
  | nil => exact Reads.nil
  | cons x ys =>
    rw [hk] at h
    exact join_reads ys x (h x List.mem_cons_self) (fun y hy => h y (List.mem_cons_of_mem _ hy))

theorem compact_words (s : ByteArray) : wordsB (compactB s) = wordsB s := by rw [words_ks, words_ks, compact_ks]
theorem compact_twice (s : ByteArray) : compactB (compactB s) = compactB s := by
  unfold compactB
  rw [show wordsB ⟨(cB (wordsB s) (wordsB s).length).toArray⟩ = wordsB s from compact_words s]

theorem compact_blank (s t : ByteArray) (A B : List UInt8) (h : (compactB s).data.toList = A ++ 32 :: B) (ht : t.data.toList = A ++ B) : wordsB t ≠ wordsB s := by
  rw [compact_join] at h
  have hw := ks_words s
  have hr := reads_ks t
  rw [words_ks, words_ks]
  rw [ht] at hr
  cases hk : ksOf s with
  | nil => rw [hk] at h; simp [joinC] at h
  | cons x ys =>
    rw [hk] at hw h
    exact join_blank ys x A B (hw x List.mem_cons_self) (fun y hy => hw y (List.mem_cons_of_mem _ hy)) h _ hr

theorem reads_len {l : List UInt8} {ks : List (Nat × List UInt8)} (h : Reads l ks) : (ks.map fun x => x.2.length).sum ≤ l.length := by
  induction h with
  | done => simp
  | tok l p w r k ks hl hs hw ht h' ih => rw [hl]; simp only [List.map_cons, List.sum_cons, List.length_append]; omega

theorem rest_len : ∀ (ks : List (Nat × List UInt8)) (x : Nat × List UInt8), (∀ y ∈ ks, IsWord y.1 y.2) → (restC x ks).length ≤ 2 * (ks.map fun x => x.2.length).sum
  | [], x, _ => by simp [restC]
  | y :: ks, x, h => by
    have ih := rest_len ks y (fun z hz => h z (List.mem_cons_of_mem _ hz))
    have h1 := List.length_pos_iff.2 (h y List.mem_cons_self).ne
    have h2 : (if sepB (ba x) (ba y) = true then ([32] : List UInt8) else []).length ≤ 1 := by split <;> simp
    rw [restC]
    simp only [List.length_append, List.map_cons, List.sum_cons]
    omega

theorem compact_size (s : ByteArray) : (compactB s).size ≤ 2 * s.size := by
  have h := reads_len (reads_ks s)
  have hw := ks_words s
  rw [bytes_len] at h
  rw [← bytes_len, compact_join]
  cases hk : ksOf s with
  | nil => simp [joinC]
  | cons x ys =>
    rw [hk] at h hw
    have h2 := rest_len ys x (fun y hy => hw y (List.mem_cons_of_mem _ hy))
    simp only [joinC, List.length_append, List.map_cons, List.sum_cons] at h ⊢
    omega

end Go.Proofs.YtdcpfpifecnfmaaDoor
