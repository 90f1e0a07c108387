import Derived.Test.YtdcpfpifecnfmaaDoorKm
/-
  The tokens of a text, keywords told from names (plain).
-/
namespace Go.Proofs.YtdcpfpifecnfmaaDoor
open Go.RowKit Go.Shelf Go.Lib

/-- A token, keywords told from names. -/
def kwT (s : ByteArray) (t : Tok) : Tok := if t.kind = 1 ∧ (wordOf s t).data.toList ∈ kwords then { t with kind := 2 } else t
/-- The tokens of a text. -/
def toksK (s : ByteArray) : List Tok := (toks s.data.toList).map (kwT s)

theorem kwT_other (s : ByteArray) (t : Tok) (h : t.kind ≠ 1) : kwT s t = t := by unfold kwT; exact if_neg (fun hh => h hh.1)
theorem kwT_no (s : ByteArray) (t : Tok) (h : (wordOf s t).data.toList ∉ kwords) : kwT s t = t := by unfold kwT; exact if_neg (fun hh => h hh.2)
theorem kwT_yes (s : ByteArray) (t : Tok) (h1 : t.kind = 1) (h : (wordOf s t).data.toList ∈ kwords) : kwT s t = ⟨2, t.from_, t.at_, t.end_⟩ := by unfold kwT; exact if_pos ⟨h1, h⟩

theorem map_go (s : ByteArray) (p : List Tok) (x : Tok) : (p ++ [x]).map (kwT s) = p.map (kwT s) ++ [kwT s x] := by rw [List.map_append]; rfl
theorem map_prefix (s : ByteArray) {p q : List Tok} (h : p <+: q) : p.map (kwT s) <+: q.map (kwT s) := by obtain ⟨r, rfl⟩ := h; rw [List.map_append]; exact ⟨_, rfl⟩

end Go.Proofs.YtdcpfpifecnfmaaDoor
