/-
  Plain facts on lists of bytes and on the places of their line feeds; no program stands here.
-/
namespace Go.Proofs.YtdcpfpifecnfmaaDoor

/-- The places of the line feeds among the first k bytes. -/
def feedsTo (l : List UInt8) (k : Nat) : List Nat := (List.range k).filter fun i => l.getD i 0 == 10
def feedsOf (l : List UInt8) : List Nat := feedsTo l l.length

theorem feedsTo_succ (l : List UInt8) (k : Nat) : feedsTo l (k + 1) = feedsTo l k ++ (if l.getD k 0 == 10 then [k] else []) := by
  unfold feedsTo
  rw [List.range_succ, List.filter_append]
  cases h : (l.getD k 0 == 10) <;> simp only [List.filter_cons, List.filter_nil, h] <;> simp

theorem feedsTo_mem {l : List UInt8} {k x : Nat} : x ∈ feedsTo l k ↔ x < k ∧ l.getD x 0 = 10 := by
  unfold feedsTo; simp

theorem feedsTo_len_mono (l : List UInt8) {j k : Nat} (h : j ≤ k) : (feedsTo l j).length ≤ (feedsTo l k).length := by
  obtain ⟨d, rfl⟩ := Nat.exists_eq_add_of_le h
  induction d with
  | zero => exact Nat.le_refl _
  | succ d ih => rw [← Nat.add_assoc, feedsTo_succ, List.length_append]; have := ih (by omega); omega

theorem feedsTo_count (l : List UInt8) (k : Nat) (h : k ≤ l.length) : (feedsTo l k).length = (l.take k).count 10 := by
  induction k with
  | zero => simp [feedsTo]
  | succ k ih =>
    have hk : k < l.length := by omega
    rw [feedsTo_succ, List.length_append, ih (by omega), List.take_succ_eq_append_getElem hk, List.count_append]
    rw [show l.getD k 0 = l[k] by rw [List.getD_eq_getElem?_getD, List.getElem?_eq_getElem hk]; rfl]
    by_cases e : l[k] = 10 <;> simp [e]

theorem feedsOf_len (l : List UInt8) : (feedsOf l).length = l.count 10 := by
  unfold feedsOf; rw [feedsTo_count l _ (Nat.le_refl _), List.take_length]

theorem feedsOf_le (l : List UInt8) : (feedsOf l).length ≤ l.length := by rw [feedsOf_len]; exact List.count_le_length

theorem feedsOf_lt (l : List UInt8) : ∀ x ∈ feedsOf l, x < l.length := fun _ hx => (feedsTo_mem.1 hx).1

theorem feedsOf_sorted (l : List UInt8) : (feedsOf l).Pairwise (· < ·) := List.Pairwise.filter _ List.pairwise_lt_range

/-- The line of an offset. -/
def lineN (fs : List Nat) (a : Int) : Nat := 1 + fs.countP fun x : Nat => decide ((x : Int) < a)

theorem map_getD_range (fs : List Nat) : (List.range fs.length).map (fun i => fs.getD i 0) = fs := by
  apply List.ext_getElem (by simp)
  intro i h1 h2
  simp [List.getElem?_eq_getElem h2]

theorem countP_range_getD (fs : List Nat) (p : Nat → Bool) : (List.range fs.length).countP (fun i => p (fs.getD i 0)) = fs.countP p := by
  conv => rhs; rw [← map_getD_range fs, List.countP_map]
  rfl

theorem sorted_getD {fs : List Nat} (h : fs.Pairwise (· < ·)) {i j : Nat} (hij : i ≤ j) (hj : j < fs.length) : fs.getD i 0 ≤ fs.getD j 0 := by
  rw [List.getD_eq_getElem?_getD, List.getD_eq_getElem?_getD, List.getElem?_eq_getElem (by omega), List.getElem?_eq_getElem hj]
  rcases Nat.lt_or_eq_of_le hij with h1 | rfl
  · exact Nat.le_of_lt (List.pairwise_iff_getElem.1 h i j (by omega) hj h1)
  · exact Nat.le_refl _

theorem getD_bytes (s : ByteArray) (k : Nat) (h : k < s.size) : s.data.toList.getD k 0 = s[k] := by
  rw [List.getD_eq_getElem?_getD, List.getElem?_eq_getElem (by simpa using h)]; rfl

end Go.Proofs.YtdcpfpifecnfmaaDoor
