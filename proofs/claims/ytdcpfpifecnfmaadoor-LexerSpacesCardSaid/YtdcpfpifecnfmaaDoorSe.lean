import Derived.Test.YtdcpfpifecnfmaaDoorSd
import Derived.IntWalk
/-
  LexerSpaces.
-/
namespace Go.Proofs.YtdcpfpifecnfmaaDoor
open Go.RowKit Go.Shelf Go.Lib

set_option maxHeartbeats 800000 in
theorem spaces1_any (x y : Tok) (h : x.kind = y.kind) (w : World) :
    Calls Tryd.prog 17 #[tokV x, tokV y] w fun e w' => e = .returned (.bool true) ∧ Below w.heap.size w w' := by
  have hk : ((x.kind : Int) == (y.kind : Int)) = true := by rw [h]; simp
  dsimp only [tokV]
  generalize x.kind = a at *
  generalize y.kind = b at *
  clear h
  go_enter Tryd.func17, Tryd.ntmps17
  go_wp2_with fail
  go_ret
  exact ⟨rfl, ((Below.refl w.heap.size w).alloc (Nat.le_refl _) _).alloc (by simp) _⟩

set_option maxRecDepth 100000 in
set_option maxHeartbeats 1600000 in
theorem equalFunc_any {w : World} {v u : Value} {ts us : List Tok} (hx : TokRow w v ts) (hy : TokRow w u us) (hk : ts.map (·.kind) = us.map (·.kind)) (hl : ts.length ≤ 20000) :
    Calls Tryd.prog 16 #[v, u, .func (.func 17) #[] #[]] w fun e w' => e = .returned (.bool true) ∧ Below w.heap.size w w' := by
  have hlen : us.length = ts.length := by have := congrArg List.length hk; simpa using this.symm
  obtain ⟨g1, c1, rfl, z1, h1⟩ := hx
  obtain ⟨g2, c2, rfl, z2, h2⟩ := hy
  rw [hlen]
  have HC : Hid (∀ k, k < ts.length → ∃ t t' : Tok, t.kind = t'.kind ∧ TokAt w g1 (k * 4) t ∧ TokAt w g2 (k * 4) t') := fun k hk' => by
    have e1 : ts[k]? = some ts[k] := List.getElem?_eq_getElem hk'
    have e2 : us[k]? = some (us[k]'(by omega)) := List.getElem?_eq_getElem (by omega)
    refine ⟨_, _, ?_, h1 k _ e1, h2 k _ e2⟩
    have := congrArg (fun l => l[k]?) hk
    simp only [List.getElem?_map, e1, e2, Option.map_some, Option.some.injEq] at this
    exact this
  clear h1 h2 hlen hk
  generalize ts.length = n at *
  go_enter Tryd.func16, Tryd.ntmps16
  go_wp2_with fail
  go_loopw [17] (fun i wr => ∃ k : Nat, k ≤ n ∧ i = .int .i64 k ∧ Hid (Below w.heap.size w wr)) (fun i _ => n - (intOf i).toNat)
  case atStart => exact ⟨0, Nat.zero_le _, rfl, Below.refl _ _⟩
  case round =>
    obtain ⟨k, hk, rfl, hb⟩ := hrel
    by_cases hlt : k < n
    · obtain ⟨t, t', hkk, ht, ht'⟩ := HC.out k hlt
      have ha := ht.below hb.out z1
      have hb' := ht'.below hb.out z2
      have a0 := ha.c0
      have a1 := ha.c1
      have a2 := ha.c2
      have a3 := ha.c3
      have b0 := hb'.c0
      have b1 := hb'.c1
      have b2 := hb'.c2
      have b3 := hb'.c3
      have hz := hb.out.size
      have hs1 := fun w' => spaces1_any t t' hkk w'
      dsimp only [tokV] at hs1
      have hkn : (k : Int) < (n : Int) := by omega
      have hg1 : g1 < wr.heap.size := Nat.lt_of_lt_of_le z1 hz
      have hg2 : g2 < wr.heap.size := Nat.lt_of_lt_of_le z2 hz
      have HB : Hid (Below w.heap.size w ((wr.alloc (.cells #[.int .i64 t.kind, .int .i64 t.from_, .int .i64 t.at_, .int .i64 t.end_] 33)).alloc (.cells #[.int .i64 t'.kind, .int .i64 t'.from_, .int .i64 t'.at_, .int .i64 t'.end_] 33))) := (hb.out.alloc hz _).alloc (by simp; omega) _
      clear ha hb' ht ht' hkk
      go_wp2_with fail
      (with_reducible refine (hs1 _).mono ?_)
      rintro e w2 ⟨rfl, hB2⟩
      have HB2 := hidden (bt HB.out hB2)
      clear hs1 hB2
      go_wp2_with fail
      go_roundw
      case rel => exact ⟨k + 1, by omega, by go_num, HB2⟩
      case measure => simp [intOf]; omega
    · obtain rfl : k = n := by omega
      clear hlt
      go_wp2_with fail
      go_ret
      exact ⟨rfl, hb.out⟩

/-- The gaps of the law. -/
def gapsB : List ByteArray := [⟨#[32]⟩, ⟨#[10]⟩, ⟨#[9, 13]⟩, ⟨#[32, 35, 32, 97, 100, 100, 32, 49, 10]⟩, ⟨#[35, 10, 10]⟩]
theorem gapsB_get (j : Nat) (h : j < 5) : (gapsB.getD j ByteArray.empty).data.toList ∈ gaps ∧ (gapsB.getD j ByteArray.empty).size ≤ 9 := by
  rcases j with _ | _ | _ | _ | _ | j
  · exact ⟨by decide, by decide⟩
  · exact ⟨by decide, by decide⟩
  · exact ⟨by decide, by decide⟩
  · exact ⟨by decide, by decide⟩
  · exact ⟨by decide, by decide⟩
  · omega

/-- What stands when k words are written, with some gaps. -/
def SpacedTo (s : ByteArray) (k : Nat) (b : ByteArray) : Prop :=
  ∃ xs : List (List UInt8 × (Nat × List UInt8)), xs.map (·.2) = (ksOf s).take k ∧ (∀ x ∈ xs, x.1 ∈ gaps ∧ IsWord x.2.1 x.2.2) ∧ b.data.toList = spaced xs ∧ xs.length = k

theorem spaced_len : ∀ xs : List (List UInt8 × (Nat × List UInt8)), (∀ x ∈ xs, x.1 ∈ gaps) → (spaced xs).length ≤ 9 * xs.length + ((xs.map (·.2)).map fun x => x.2.length).sum
  | [], _ => by simp [spaced]
  | x :: xs, h => by
    have ih := spaced_len xs (fun y hy => h y (List.mem_cons_of_mem _ hy))
    have hg : x.1.length ≤ 9 := by
      have := h x List.mem_cons_self
      simp only [gaps, List.mem_cons, List.not_mem_nil, or_false] at this
      rcases this with h | h | h | h | h <;> rw [h] <;> decide
    rw [spaced]
    simp only [List.length_append, List.map_cons, List.sum_cons, List.length_cons]
    omega

theorem take_sum (l : List Nat) (k : Nat) : (l.take k).sum ≤ l.sum := by
  have h := congrArg List.sum (List.take_append_drop k l)
  rw [List.sum_append] at h
  omega

theorem SpacedTo.size {s b : ByteArray} {k : Nat} (h : SpacedTo s k b) : b.size ≤ 9 * k + s.size := by
  obtain ⟨xs, h1, h2, h3, h4⟩ := h
  have hl := spaced_len xs (fun x hx => (h2 x hx).1)
  have hr := reads_len (reads_ks s)
  rw [bytes_len] at hr
  have ht := take_sum ((ksOf s).map fun x => x.2.length) k
  rw [h1, h4, List.map_take] at hl
  rw [← bytes_len, h3]
  omega

theorem SpacedTo.start (s : ByteArray) : SpacedTo s 0 ⟨#[]⟩ := ⟨[], rfl, fun _ h => (by cases h), rfl, rfl⟩

theorem SpacedTo.next {s b g : ByteArray} {k : Nat} (h : SpacedTo s k b) (hg : g.data.toList ∈ gaps) (hk : k < (wordsB s).length) : SpacedTo s (k + 1) (b ++ (g ++ (wordsB s).getD k ByteArray.empty)) := by
  obtain ⟨xs, h1, h2, h3, h4⟩ := h
  have hk2 : k < (ksOf s).length := by rw [words_ks, List.length_map] at hk; exact hk
  have hw : (wordsB s).getD k ByteArray.empty = ba (ksOf s)[k] := by
    rw [words_ks, List.getD_eq_getElem?_getD, List.getElem?_map, List.getElem?_eq_getElem hk2]; rfl
  refine ⟨xs ++ [(g.data.toList, (ksOf s)[k])], ?_, ?_, ?_, by simp [h4]⟩
  · rw [List.map_append, h1, List.take_add_one, List.getElem?_eq_getElem hk2]; rfl
  · intro x hx
    rcases List.mem_append.1 hx with hx | hx
    · exact h2 x hx
    · rw [List.mem_singleton.1 hx]
      exact ⟨hg, ks_words s _ (List.getElem_mem hk2)⟩
  · rw [spaced_snoc, ← h3, hw]
    simp [ba_list]

theorem SpacedTo.reads {s b : ByteArray} (h : SpacedTo s (wordsB s).length b) : wordsB b = wordsB s ∧ (toksK (b ++ ⟨#[35, 32, 101, 110, 100]⟩)).map (·.kind) = (toksK s).map (·.kind) := by
  obtain ⟨xs, h1, h2, h3, h4⟩ := h
  have he : (ksOf s).take (wordsB s).length = ksOf s := by rw [words_ks, List.length_map, List.take_length]
  rw [he] at h1
  have r1 := spaced_reads [] (.inl rfl) xs h2
  rw [List.append_nil, h1, ← h3] at r1
  have r2 := spaced_reads [35, 32, 101, 110, 100] (.inr ⟨⟨_, _, rfl, by decide⟩, .done _ rfl⟩) xs h2
  rw [h1] at r2
  have e2 : (b ++ (⟨#[35, 32, 101, 110, 100]⟩ : ByteArray)).data.toList = spaced xs ++ [35, 32, 101, 110, 100] := by rw [← h3]; simp
  refine ⟨by rw [words_of r1, ← words_ks], ?_⟩
  rw [kinds_ks, kinds_ks, ks_of (by rw [e2]; exact r2)]

/-- A slice of bytes that came in. -/
def BytesArg (w : World) (v : Value) (len : Nat) : Prop :=
  ∃ p cap, v = .slice p len cap ∧ ∀ i, i < len → ∃ (b o c : Nat), p = some ⟨b, o, none⟩ ∧ b < w.heap.size ∧ c ≤ 255 ∧ w.cell? ⟨b, o + i, none⟩ = some (.int .u8 c)

end Go.Proofs.YtdcpfpifecnfmaaDoor
