/-
  Plain facts: classes of bytes, what is skipped, symbols; no program stands here.
-/
import Derived.Test.YtdcpfpifecnfmaaDoorMb
namespace Go.Proofs.YtdcpfpifecnfmaaDoor

def whiteB (c : UInt8) : Bool := c == 9 || c == 10 || c == 13 || c == 32
def letterB (c : UInt8) : Bool := decide (97 ≤ c.toNat) && decide (c.toNat ≤ 122)
def digitB (c : UInt8) : Bool := decide (48 ≤ c.toNat) && decide (c.toNat ≤ 57)
def partB (c : UInt8) : Bool := letterB c || digitB c || c == 95

/-- How many bytes at the beginning are white space and comments ('cm': within a comment). -/
def skipF : Bool → List UInt8 → Nat
  | _, [] => 0
  | true, c :: r => if c = 10 then skipF false r + 1 else skipF true r + 1
  | false, c :: r => if whiteB c = true then skipF false r + 1 else if c = 35 then skipF true r + 1 else 0

def oneB (a : UInt8) : Bool := decide (a ∈ [60, 62, 61, 43, 45, 42, 40, 41, 123, 125, 44, 58, 59])
def twoB (a b : UInt8) : Bool := (b == 61 && (a == 61 || a == 33 || a == 60 || a == 62)) || (a == 46 && b == 46)
def symL : List UInt8 → Nat
  | [] => 0
  | [a] => if oneB a then 1 else 0
  | a :: b :: _ => if twoB a b then 2 else if oneB a then 1 else 0

def endsB (l : List UInt8) : Bool := match l with
  | [] => true
  | c :: _ => whiteB c || c == 35 || letterB c || digitB c || decide (0 < symL l)

/-- How many bytes a wrong token goes on. -/
def wrongF : List UInt8 → Nat
  | [] => 0
  | c :: r => if endsB (c :: r) then 0 else wrongF r + 1

/-- The kind (a keyword counts as a name) and the length of the token at the beginning. -/
def tokF : List UInt8 → Nat × Nat
  | [] => (0, 0)
  | c :: r => if letterB c then (1, (r.takeWhile partB).length + 1) else if digitB c then (3, (r.takeWhile digitB).length + 1)
    else if 0 < symL (c :: r) then (4, symL (c :: r)) else (5, wrongF r + 1)

theorem skipF_le : ∀ (cm : Bool) (l : List UInt8), skipF cm l ≤ l.length
  | _, [] => by simp [skipF]
  | true, c :: r => by unfold skipF; have h1 := skipF_le false r; have h2 := skipF_le true r; split <;> simp <;> omega
  | false, c :: r => by unfold skipF; have h1 := skipF_le false r; have h2 := skipF_le true r; split <;> (try split) <;> simp <;> omega

/-- A comment goes on to its line's end. -/
theorem skip_comment (l : List UInt8) : ∀ (d : Nat), d ≤ l.length → (∀ i, i < d → l.getD i 0 ≠ 10) → (d = l.length ∨ l.getD d 0 = 10) → skipF true l = d + skipF false (l.drop d) := by
  induction l with
  | nil => intro d hd _ _; obtain rfl : d = 0 := by simpa using hd
           rfl
  | cons c r ih =>
    intro d hd hno hend
    cases d with
    | zero =>
      have h10 : c = 10 := by
        rcases hend with h | h
        · simp at h
        · simpa using h
      subst h10
      show skipF true (10 :: r) = 0 + skipF false (10 :: r)
      simp [skipF, whiteB]
    | succ d =>
      have h10 : c ≠ 10 := by have := hno 0 (by omega); simpa using this
      have := ih d (by simpa using hd) (fun i hi => by have := hno (i + 1) (by omega); simpa using this) (by
        rcases hend with h | h
        · left; simpa using h
        · right; simpa using h)
      have e : skipF true (c :: r) = if c = 10 then skipF false r + 1 else skipF true r + 1 := by rw [skipF]
      rw [List.drop_succ_cons, e, if_neg h10, this]
      omega

end Go.Proofs.YtdcpfpifecnfmaaDoor
