/-
  Plain facts for SyntaxSpoils: the two spoilt trees, the stripped one.
-/
import Derived.Test.YtlbaaiglebpjiaaGreatDoorKg
namespace Go.Proofs.YtlbaaiglebpjiaaGreatDoor
open Go.RowKit Go.Shelf Go.Lib

theorem zeroT_count : zeroT.count = 1 := by rw [Tree.count_eq]; rfl

theorem countL_snoc : ∀ ts : List Tree, Tree.countL (ts ++ [zeroT]) = Tree.countL ts + 1
  | [] => by rw [List.nil_append, Tree.countL_cons, zeroT_count]; exact Nat.add_comm _ _
  | t :: ts => by rw [List.cons_append, Tree.countL_cons, Tree.countL_cons, countL_snoc ts]; omega

theorem spoils_facts {t y : Tree} {l : List Int} (hg : t.get l = some y) (hp : progB t = true) (ht : TextsOk t) (hc : t.count ≤ 1048576) :
    ∃ x y2 a b : Tree, x = .mk y.kind qT y.at_ y.end_ y.kids ∧ y2 = .mk y.kind y.text y.at_ y.end_ (y.kids ++ [zeroT]) ∧ repT2 t l x = a ∧ repT2 t l y2 = b ∧ errT t l = 0 ∧ progB a = false ∧ progB b = false ∧ TextsOk a ∧ TextsOk b ∧ a.count ≤ 4194304 ∧ b.count ≤ 4194304 ∧ x.count ≤ 4194304 ∧ y2.count ≤ 4194304 := by
  have hyt := textsOk_get ht hg
  have hyt2 := (textsOk_iff y).1 hyt
  have hyc : y.count ≤ t.count := by have := Tree.numberOf_lt hg; omega
  have hxt : TextsOk (.mk y.kind qT y.at_ y.end_ y.kids) := (textsOk_iff _).2 ⟨by show qT.size ≤ 4096; decide, hyt2.2⟩
  have hzt : TextsOk zeroT := (textsOk_iff _).2 ⟨by show (⟨#[]⟩ : ByteArray).size ≤ 4096; decide, fun x hx => by cases hx⟩
  have hy2t : TextsOk (.mk y.kind y.text y.at_ y.end_ (y.kids ++ [zeroT])) := (textsOk_iff _).2 ⟨hyt2.1, fun x hx => by
    have hx : x ∈ y.kids ++ [zeroT] := hx
    rcases List.mem_append.1 hx with hx | hx
    · exact hyt2.2 x hx
    · rw [List.mem_singleton.1 hx]; exact hzt⟩
  have hxc : (Tree.mk y.kind qT y.at_ y.end_ y.kids).count = y.count := by rw [Tree.count_eq, Tree.count_eq y]; rfl
  have hy2c : (Tree.mk y.kind y.text y.at_ y.end_ (y.kids ++ [zeroT])).count = y.count + 1 := by rw [Tree.count_eq, Tree.count_eq y]; show Tree.countL (y.kids ++ [zeroT]) + 1 = _; rw [countL_snoc]
  have hrep : ∀ b, repT2 t l b = t.replace (l.map Int.toNat) b := fun b => by unfold repT2; rw [hg]; rfl
  have hca := Tree.replace_count (.mk y.kind qT y.at_ y.end_ y.kids) hg
  have hcb := Tree.replace_count (.mk y.kind y.text y.at_ y.end_ (y.kids ++ [zeroT])) hg
  obtain ⟨n, hn⟩ := prog_taken hp
  obtain ⟨m, hm⟩ := taken_get tab_fine hn hg
  refine ⟨_, _, _, _, rfl, rfl, rfl, rfl, by unfold errT; rw [hg]; rfl, ?_, ?_, ?_, ?_, ?_, ?_, by omega, by omega⟩
  · rw [hrep]; exact prog_spoilt hg (rej_text tab_fine rfl)
  · rw [hrep]; exact prog_spoilt hg (rej_more tab_fine (x := y) rfl rfl hm)
  · rw [hrep]; exact textsOk_replace hxt ht hg
  · rw [hrep]; exact textsOk_replace hy2t ht hg
  · rw [hrep]; omega
  · rw [hrep]; omega

theorem strip_facts (t : Tree) : (TextsOk t → TextsOk t.strip) ∧ t.strip.count = t.count := by
  refine Tree.induct (P := fun t => (TextsOk t → TextsOk t.strip) ∧ t.strip.count = t.count) (fun t ih => ⟨fun h => ?_, ?_⟩) t
  · have h1 := (textsOk_iff t).1 h
    refine (textsOk_iff _).2 ⟨by rw [strip_eq]; exact h1.1, fun x hx => ?_⟩
    rw [strip_kids] at hx
    obtain ⟨z, hz, rfl⟩ := List.mem_map.1 hx
    exact (ih z hz).1 (h1.2 z hz)
  · rw [Tree.count_eq, Tree.count_eq t, strip_kids]
    have h : ∀ ts : List Tree, (∀ x ∈ ts, x.strip.count = x.count) → Tree.countL (ts.map Tree.strip) = Tree.countL ts := by
      intro ts
      induction ts with
      | nil => intro _; rfl
      | cons a ts ih2 => intro h; rw [List.map_cons, Tree.countL_cons, Tree.countL_cons, h a List.mem_cons_self, ih2 (fun x hx => h x (List.mem_cons_of_mem _ hx))]
    rw [h t.kids (fun x hx => (ih x hx).2)]

end Go.Proofs.YtlbaaiglebpjiaaGreatDoor
