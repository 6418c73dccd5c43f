/- Accounts: words, right lists, places, charges, ranks: lists alone. -/
import Derived.Test.YtpjfampfhofeaaaAcA
import Derived.Sort.Walk0
import Derived.Laws.Cover1
namespace Go.Proofs.Ytpjfampfhofeaaa
open Go.ChangeShapes Go.WideShapes Go.ChangeAt Go.RowKit

def letB (b : UInt8) : Bool := decide (97 ≤ b.toNat) && decide (b.toNat ≤ 122)
/-- One to eight small letters. -/
def wordB (s : ByteArray) : Bool := s.data.toList.all letB && (decide (1 ≤ s.size) && decide (s.size ≤ 8))
/-- One name is less than the other. -/
def ntL (a b : ByteArray) : Bool := Op.bytesLess a.toList b.toList
def useB (n : Int) : Bool := decide (0 ≤ n) && decide (n ≤ 1000000000)
/-- A right account. -/
def accB (x : Ac) : Bool := wordB x.nm && (decide (1 ≤ x.sh) && (decide (x.sh ≤ 1000) && useB x.us))
def ac0 : Ac := ⟨⟨#[]⟩, 0, 0⟩
def ag (l : List Ac) (i : Nat) : Ac := l.getD i ac0
theorem ag_eq {l : List Ac} {i : Nat} (h : i < l.length) : ag l i = l[i] := by simp [ag, h]
/-- The first j are right, and their names rise. -/
def ATo (l : List Ac) (j : Nat) : Prop := ∀ i, i < j → accB (ag l i) = true ∧ (0 < i → ntL (ag l (i - 1)).nm (ag l i).nm = true)
/-- Right accounts. -/
def AOk (l : List Ac) : Prop := l.length ≤ 12 ∧ ATo l l.length
theorem AOk.acc {l : List Ac} (h : AOk l) {x : Ac} (hx : x ∈ l) : accB x = true := by
  obtain ⟨i, hi, e⟩ := List.getElem_of_mem hx
  have := (h.2 i hi).1
  rw [ag_eq hi, e] at this
  exact this
theorem acc_parts {x : Ac} (h : accB x = true) : wordB x.nm = true ∧ 1 ≤ x.sh ∧ x.sh ≤ 1000 ∧ 0 ≤ x.us ∧ x.us ≤ 1000000000 := by
  simp [accB, useB] at h
  omega
def nmB (x : Ac) (s : ByteArray) : Bool := x.nm.toList == s.toList
/-- Where a name stands, from k on. -/
def atF : List Ac → ByteArray → Nat → Int
  | [], _, _ => -1
  | x :: r, s, k => if nmB x s = true then (k : Int) else atF r s (k + 1)
open Classical in
/-- The place of an account. -/
noncomputable def aAt (l : List Ac) (s : ByteArray) : Int := if AOk l then atF l s 0 else -1
theorem atF_in : ∀ (l : List Ac) (s : ByteArray) (k : Nat), atF l s k = -1 ∨ ∃ i : Nat, i < l.length ∧ atF l s k = ((k + i : Nat) : Int)
  | [], s, k => .inl rfl
  | x :: r, s, k => by
    unfold atF
    split
    · exact .inr ⟨0, by simp, by simp⟩
    · rcases atF_in r s (k + 1) with h | ⟨i, hi, h⟩
      · exact .inl h
      · exact .inr ⟨i + 1, by simp; omega, by rw [h]; congr 1; omega⟩
theorem aAt_in (l : List Ac) (s : ByteArray) : aAt l s = -1 ∨ ∃ i : Nat, i < l.length ∧ aAt l s = (i : Int) ∧ AOk l := by
  unfold aAt
  split
  · rename_i h
    rcases atF_in l s 0 with e | ⟨i, hi, e⟩
    · exact .inl e
    · exact .inr ⟨i, hi, by rw [e]; simp, h⟩
  · exact .inl rfl
/-- One that is charged. -/
def chA (x : Ac) (n : Int) : Ac := { x with us := min (x.us + n) 1000000000 }
def chL (l : List Ac) (i : Nat) (n : Int) : List Ac := l.set i (chA (ag l i) n)
/-- What they used, halved. -/
def fdA (x : Ac) : Ac := { x with us := x.us.tdiv 2 }
open Classical in
noncomputable def fdL (l : List Ac) : List Ac := if AOk l then l.map fdA else []
/-- One is ahead of the other. -/
def ahB (a b : Ac) : Bool := decide (a.us * b.sh < b.us * a.sh) || (a.us * b.sh == b.us * a.sh && ntL a.nm b.nm)
def rkOf (l : List Ac) (b : Ac) : Nat := l.countP (fun a => ahB a b)
open Classical in
noncomputable def rkL (l : List Ac) : List Int := if AOk l then l.map (fun b => (rkOf l b : Int)) else []
theorem rkOf_le (l : List Ac) (b : Ac) : rkOf l b ≤ l.length := List.countP_le_length
end Go.Proofs.Ytpjfampfhofeaaa
