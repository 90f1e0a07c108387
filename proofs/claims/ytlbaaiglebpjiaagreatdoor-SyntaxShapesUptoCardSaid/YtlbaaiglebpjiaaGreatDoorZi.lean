/-
  The chapter's example.
-/
import Derived.Test.YtlbaaiglebpjiaaGreatDoorJe
import Derived.Deep.RegionHeld3
namespace Go.Proofs.YtlbaaiglebpjiaaGreatDoor
open Go.RowKit Go.Shelf Go.Lib

set_option maxHeartbeats 800000 in
theorem leaf_any (k : Int) (s : ByteArray) (w : World) :
    Calls Tryz.prog 43 #[.int .i64 k, .string s] w fun e w' => e = .returned (.agg #[.int .i64 k, .string s, .int .i64 0, .int .i64 0, .slice none 0 0]) ∧ w' = w.alloc (.cells #[.int .i64 k, .string s, .int .i64 0, .int .i64 0, .slice none 0 0] 24) := by
  go_enter Tryz.func43, Tryz.ntmps43
  go_wp2_with fail
  exact bodyPost_ret (v := .agg #[.int .i64 k, .string s, .int .i64 0, .int .i64 0, .slice none 0 0]) (by simp [results, Tryz.results43, go_sem]) rfl ⟨rfl, rfl⟩

def exCol : Tree := .mk 11 ⟨#[97]⟩ 0 0 [.mk 35 ⟨#[115]⟩ 0 0 []]
def exRel : Tree := .mk 4 ⟨#[114]⟩ 0 0 [.mk 10 ⟨#[]⟩ 0 0 [exCol]]
def exSort : Tree := .mk 3 ⟨#[115]⟩ 0 0 [.mk 36 ⟨#[50]⟩ 0 0 []]
/-- The tree of the example. -/
def exT : Tree := .mk 2 ⟨#[]⟩ 0 0 [exSort, exRel]

theorem kids_one {w : World} {g c : Nat} {t : Tree} {kv : Value} (hc : 1 ≤ c) (h : NodeAt w g 0 t kv) (hk : KidsV w kv t.kids) : KidsV w (.slice (some ⟨g, 0, none⟩) 1 c) [t] := by
  refine KidsV.shut (ts := [t]) (g := g) (o := 0) hc (fun _ => rfl) (fun i t' ht => ?_)
  rcases i with _ | i
  · simp at ht; subst ht; exact ⟨kv, h, hk⟩
  · simp at ht

theorem kids_two {w : World} {g c : Nat} {t u : Tree} {kv ku : Value} (hc : 2 ≤ c) (h : NodeAt w g 0 t kv) (hk : KidsV w kv t.kids) (h2 : NodeAt w g 5 u ku) (hk2 : KidsV w ku u.kids) : KidsV w (.slice (some ⟨g, 0, none⟩) 2 c) [t, u] := by
  refine KidsV.shut (ts := [t, u]) (g := g) (o := 0) hc (fun _ => rfl) (fun i t' ht => ?_)
  rcases i with _ | _ | i
  · simp at ht; subst ht; exact ⟨kv, h, hk⟩
  · simp at ht; subst ht; exact ⟨ku, h2, hk2⟩
  · simp at ht

set_option maxRecDepth 100000 in
set_option maxHeartbeats 3200000 in
theorem example_any (w : World) :
    Calls Tryz.prog 42 #[] w fun e w' => ∃ p c, e = .returned (.agg #[.int .i64 2, .string ⟨#[]⟩, .int .i64 0, .int .i64 0, .slice p 2 c]) ∧ KidsV w' (.slice p 2 c) exT.kids ∧ Below w.heap.size w w' := by
  have hl := fun k s W => leaf_any k s W
  go_enter Tryz.func42, Tryz.ntmps42
  go_wp2_with (go_at_call 43; (with_reducible refine (hl _ _ _).mono ?_); rintro e w1 ⟨rfl, rfl⟩)
  go_region_with (go_at_call 43; (with_reducible refine (hl _ _ _).mono ?_); rintro e w1 ⟨rfl, rfl⟩)
  all_goals
    go_wp2_with fail
    refine bodyPost_ret (v := .agg #[.int .i64 2, .string ⟨#[]⟩, .int .i64 0, .int .i64 0, .slice (some ⟨w.heap.size + 1 + 1 + 1 + 1 + 1 + 1 + 1 + 1 + 1, 0, none⟩) 2 2]) (by simp [results, Tryz.results42, go_sem]) rfl ⟨some ⟨w.heap.size + 1 + 1 + 1 + 1 + 1 + 1 + 1 + 1 + 1, 0, none⟩, 2, rfl, ?_, ?_⟩
    · exact kids_two (t := exSort) (u := exRel) (kv := .slice (some ⟨w.heap.size + 1 + 1 + 1 + 1 + 1 + 1 + 1 + 1, 0, none⟩) 1 1) (ku := .slice (some ⟨w.heap.size + 1 + 1 + 1 + 1 + 1, 0, none⟩) 1 1) (by decide) ⟨by simp [go_sem, exSort, Tree.kind], by simp [go_sem, exSort, Tree.text], by simp [go_sem, exSort, Tree.at_], by simp [go_sem, exSort, Tree.end_], by simp [go_sem]⟩ (kids_one (t := .mk 36 ⟨#[50]⟩ 0 0 []) (kv := .slice none 0 0) (by decide) ⟨by simp [go_sem, Tree.kind], by simp [go_sem, Tree.text], by simp [go_sem, Tree.at_], by simp [go_sem, Tree.end_], by simp [go_sem]⟩ (KidsV.nil _ _ _)) ⟨by simp [go_sem, exRel, Tree.kind], by simp [go_sem, exRel, Tree.text], by simp [go_sem, exRel, Tree.at_], by simp [go_sem, exRel, Tree.end_], by simp [go_sem]⟩ (kids_one (t := .mk 10 ⟨#[]⟩ 0 0 [exCol]) (kv := .slice (some ⟨w.heap.size + 1 + 1 + 1 + 1, 0, none⟩) 1 1) (by decide) ⟨by simp [go_sem, Tree.kind], by simp [go_sem, Tree.text], by simp [go_sem, Tree.at_], by simp [go_sem, Tree.end_], by simp [go_sem]⟩ (kids_one (t := exCol) (kv := .slice (some ⟨w.heap.size + 1 + 1, 0, none⟩) 1 1) (by decide) ⟨by simp [go_sem, exCol, Tree.kind], by simp [go_sem, exCol, Tree.text], by simp [go_sem, exCol, Tree.at_], by simp [go_sem, exCol, Tree.end_], by simp [go_sem]⟩ (kids_one (t := .mk 35 ⟨#[115]⟩ 0 0 []) (kv := .slice none 0 0) (by decide) ⟨by simp [go_sem, Tree.kind], by simp [go_sem, Tree.text], by simp [go_sem, Tree.at_], by simp [go_sem, Tree.end_], by simp [go_sem]⟩ (KidsV.nil _ _ _))))
    · repeat (first | (with_reducible exact Below.refl _ _) | refine Below.drew ?_ | refine Below.alloc ?_ (by first | exact Nat.le_refl _ | (simp; done) | (simp; omega)) _)

end Go.Proofs.YtlbaaiglebpjiaaGreatDoor
