/-
  Path; Number.
-/
import Derived.Test.YtlbaaiglebpjiaaGreatDoorYg
import Derived.Laws.EntriesVeiled
namespace Go.Proofs.YtlbaaiglebpjiaaGreatDoor
open Go.RowKit Go.Shelf Go.Lib

set_option maxRecDepth 100000 in
set_option maxHeartbeats 3200000 in
theorem path_neg (t : Tree) (kv : Value) (z : Int) (hz : z < 0) (w : World) (hk : KidsV w kv t.kids) :
    Calls Tryz.prog 19 #[nodeV t kv, .int .i64 z] w fun e w' => e = .returned (.tuple #[.slice none 0 0, .bool false]) ∧ Below w.heap.size w w' := by
  have hmf : ∀ (fn : Fn) (first cap : Array Value) (w : World), (Instr.makeFunc fn first cap).run Tryz.prog w = .ok (.func fn first cap) w := fun _ _ _ _ => rfl
  obtain ⟨p, cap, g, o, rfl, _, _⟩ := hk.open
  simp only [nodeV]
  clear hk
  go_enter Tryz.func19, Tryz.ntmps19
  go_wp2_with fail
  go_ret2
  refine ⟨rfl, ?_⟩
  repeat (first | exact Below.refl _ _ | refine Below.setCell ?_ (by first | exact Nat.le_refl _ | (simp; done) | (simp; omega)) _ | refine Below.alloc ?_ (by first | exact Nat.le_refl _ | (simp; done) | (simp; omega)) _)

set_option maxRecDepth 100000 in
set_option maxHeartbeats 6400000 in
theorem path_any (t : Tree) (kv : Value) (n : Nat) (hn : n ≤ 9223372036854775807) (w : World) (hk : KidsV w kv t.kids) (hct : t.count ≤ 4194304) :
    Calls Tryz.prog 19 #[nodeV t kv, .int .i64 n] w fun e w' => Below w.heap.size w w' ∧ ((∃ q v, n < t.count ∧ t.pathOf n = some q ∧ e = .returned (.tuple #[v, .bool true]) ∧ w'.ownsRow w.heap.size 3 1 v q.length (q.map natI)) ∨
      (t.count ≤ n ∧ e = .returned (.tuple #[.slice none 0 0, .bool false]))) := by
  have hmf : ∀ (fn : Fn) (first cap : Array Value) (w : World), (Instr.makeFunc fn first cap).run Tryz.prog w = .ok (.func fn first cap) w := fun _ _ _ _ => rfl
  have e53 := enters_of Tryz.func54 (by kernel_rfl) rfl
  have hlev := Tree.levels_le_count t
  have hf := fun W (h : PSt w (w.heap.size + 2) (w.heap.size + 1) (w.heap.size + 3) (w.heap.size + 4) n [] (.slice none 0 0) W) => find_any t kv n [] (.slice none 0 0) W h hk hn (by simp; omega) hct
  obtain ⟨p, cap, g, o, rfl, _, _⟩ := hk.open
  simp only [nodeV] at hf ⊢
  have hneg : ¬ ((n : Int) < 0) := by omega
  clear hk hlev
  go_enter Tryz.func19, Tryz.ntmps19
  go_wp2_with fail
  (with_reducible refine (hf _ (PSt.mk (by repeat (first | exact Below.refl _ _ | refine Below.setCell ?_ (by first | exact Nat.le_refl _ | (simp; done) | (simp; omega)) _ | refine Below.alloc ?_ (by first | exact Nat.le_refl _ | (simp; done) | (simp; omega)) _)) (by omega) (by simp) (by simp [go_sem]) (by simp [go_sem]) (by simp [go_sem]) (by simp [go_sem]) (World.ownsRow_nil _ _ _ _) (by simp [go_sem]))).mono ?_)
  rintro e W3 ⟨pv3, K3, R3, (⟨h1, q, h2, rfl, S3⟩ | ⟨h1, rfl, S3⟩)⟩
  · have pp := S3.path
    obtain ⟨pa, pn, pc, rfl⟩ : ∃ pa pn pc, pv3 = .slice pa pn pc := by
      rcases S3.own.2 with ⟨h, _⟩ | ⟨g', cap', cur, h, _⟩
      · exact ⟨_, _, _, h⟩
      · exact ⟨_, _, _, h⟩
    have HS := hidden S3
    have HH := hidden (And.intro h1 h2)
    clear S3 h1 h2 hf K3 R3
    go_wp2_with fail
    go_ret2
    have ho := HS.out.own
    rw [List.nil_append] at ho
    exact ⟨HS.out.below, .inl ⟨q, _, HH.out.1, HH.out.2, rfl, row_mono ho (by omega)⟩⟩
  · have HS := hidden S3
    have HH := hidden h1
    clear S3 h1 hf K3 R3
    go_wp2_with fail
    go_ret2
    exact ⟨HS.out.below, .inr ⟨HH.out, rfl⟩⟩

end Go.Proofs.YtlbaaiglebpjiaaGreatDoor
