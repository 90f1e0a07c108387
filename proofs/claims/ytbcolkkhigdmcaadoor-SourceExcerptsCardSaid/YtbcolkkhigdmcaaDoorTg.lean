import Derived.Test.YtbcolkkhigdmcaaDoorTf
namespace Go.Proofs.YtbcolkkhigdmcaaDoor
open Go.RowKit Go.Shelf Go.Lib

/-- The content of a line. -/
def contentL (l : List UInt8) (fs : List Nat) (line : Int) : List UInt8 :=
  if 1 ≤ line ∧ line ≤ fs.length + 1 then
    if line < fs.length + 1 then Lib.trimSuffix ((l.drop (startN fs l.length line.toNat)).take (endN fs l.length line.toNat - startN fs l.length line.toNat)) [13]
    else (l.drop (startN fs l.length line.toNat)).take (endN fs l.length line.toNat - startN fs l.length line.toNat)
  else []

theorem bytes_len (s : ByteArray) : s.data.toList.length = s.size := by simp

theorem extract_list (s : ByteArray) (a b : Nat) : s.extract a b = ⟨((s.data.toList.drop a).take (b - a)).toArray⟩ := Lib.extract_eq s a b

set_option maxHeartbeats 800000 in
theorem content_any {w : World} {b : Nat} {s : ByteArray} {fs : List Nat} (h : Idx w b s fs) (line : Int) :
    Calls Tryd.prog 18 #[.pointer (some ⟨b, 0, none⟩), .int .i64 line] w fun e w' =>
      e = .returned (.string ⟨(contentL s.data.toList fs line).toArray⟩) ∧ ∃ q, w' = w.drewN q := by
  have hh := has_any h line
  by_cases h1 : 1 ≤ line ∧ line ≤ fs.length + 1
  · have hd : decide (1 ≤ line ∧ line ≤ fs.length + 1) = true := decide_eq_true h1
    rw [hd] at hh
    have hs := fun q => start_any (h.drewN q) line h1.1 (by omega)
    have he := fun q => end_any (h.drewN q) line h1.1 h1.2
    have hli := fun q => lines_any (h.drewN q)
    have b1 := h.startLe line.toNat
    have b2 := h.endLe line.toNat
    have b3 : startN fs s.size line.toNat ≤ endN fs s.size line.toNat := start_le_end h.sorted h.lt _ (by omega) (by omega)
    have hsm := h.small
    have ht := h.text
    have hlen := h.len
    have hext : ∀ x y, (s.extract x y).size ≤ 1000 := fun x y => by
      rw [Lib.size_eq, Lib.extract_data, List.length_take, List.length_drop]; have := bytes_len s; omega
    have htrim := fun w' => Tryd.strings_TrimSuffix (s.extract (startN fs s.size line.toNat) (endN fs s.size line.toNat)) ⟨#[13]⟩ w' (by have := hext (startN fs s.size line.toNat) (endN fs s.size line.toNat); omega)
    have hN : contentL s.data.toList fs line = if line < fs.length + 1 then Lib.trimSuffix ((s.data.toList.drop (startN fs s.size line.toNat)).take (endN fs s.size line.toNat - startN fs s.size line.toNat)) [13] else (s.data.toList.drop (startN fs s.size line.toNat)).take (endN fs s.size line.toNat - startN fs s.size line.toNat) := by
      unfold contentL; rw [if_pos h1, bytes_len]
    rw [hN]
    generalize endN fs s.size line.toNat = en at *
    generalize startN fs s.size line.toNat = st at *
    have b4 : st ≤ s.size := by omega
    generalize fs.length = n at *
    clear hN hd h1 h hext
    by_cases h3 : line < (n : Int) + 1
    · rw [if_pos h3]
      go_enter Tryd.func18, Tryd.ntmps18
      go_wp2_with (go_at_call 29; refine hh.mono ?_; rintro e w' ⟨rfl, rfl⟩)
      go_quiet ((first | (go_at_call 28; exact Calls.quiet_of_same ((hs _).mono fun _ _ ⟨a, b⟩ => ⟨a, b.symm⟩)) | (go_at_call 30; exact Calls.quiet_of_same ((he _).mono fun _ _ ⟨a, b⟩ => ⟨a, b.symm⟩))))
      go_wp2_with (first | (go_at_call 16; refine (hli _).mono ?_; rintro e w' ⟨rfl, rfl⟩) | (go_at_call 31; refine (htrim _).mono ?_; rintro e w' ⟨rfl, rfl⟩))
      go_ret
      exact ⟨rfl, _, rfl⟩
    · rw [if_neg h3]
      have h4 : ¬ line < (n : Int) + 1 := h3
      go_enter Tryd.func18, Tryd.ntmps18
      go_wp2_with (go_at_call 29; refine hh.mono ?_; rintro e w' ⟨rfl, rfl⟩)
      go_quiet ((first | (go_at_call 28; exact Calls.quiet_of_same ((hs _).mono fun _ _ ⟨a, b⟩ => ⟨a, b.symm⟩)) | (go_at_call 30; exact Calls.quiet_of_same ((he _).mono fun _ _ ⟨a, b⟩ => ⟨a, b.symm⟩))))
      go_wp2_with (first | (go_at_call 16; refine (hli _).mono ?_; rintro e w' ⟨rfl, rfl⟩) | (go_at_call 31; refine (htrim _).mono ?_; rintro e w' ⟨rfl, rfl⟩))
      go_ret
      exact ⟨by show Ending.returned (.string (s.extract st en)) = _; rw [extract_list], _, rfl⟩
  · have hd : decide (1 ≤ line ∧ line ≤ fs.length + 1) = false := decide_eq_false h1
    rw [hd] at hh
    have hN : contentL s.data.toList fs line = [] := by unfold contentL; rw [if_neg h1]
    rw [hN]
    clear h hN hd h1
    go_enter Tryd.func18, Tryd.ntmps18
    go_wp2_with (go_at_call 29; refine hh.mono ?_; rintro e w' ⟨rfl, rfl⟩)
    go_ret
    exact ⟨rfl, 0, rfl⟩

end Go.Proofs.YtbcolkkhigdmcaaDoor
