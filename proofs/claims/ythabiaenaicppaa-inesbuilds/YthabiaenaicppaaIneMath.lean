/-
  Files of NES games: heads, faults, carts, in mathematics, of no program; and how the program spells the bits of a byte.
-/
import Derived.Test.YthabiaenaicppaaApp
import Derived.Laws.BitsAllLaws
namespace Go.Proofs.Ythabiaenaicppaa
open Go.RowKit
namespace Ine

/-- The byte at a place; 0, if there is none. -/
def bt (l : List UInt8) (i : Nat) : Nat := (l.getD i 0).toNat
theorem bt_lt (l : List UInt8) (i : Nat) : bt l i < 256 := UInt8.toNat_lt _
theorem bt_get (l : List UInt8) (i : Nat) (h : i < l.length) : bt l i = l[i].toNat := by simp [bt, List.getD, h]

def mapper (l : List UInt8) : Nat := bt l 7 / 16 * 16 + bt l 6 / 16
def start (l : List UInt8) : Nat := if bt l 6 / 4 % 2 = 1 then 528 else 16
def prgB (l : List UInt8) : Nat := bt l 4 * 16384
def chrB (l : List UInt8) : Nat := bt l 5 * 8192
def endAt (l : List UInt8) : Nat := start l + prgB l + chrB l
def mark : List UInt8 := [78, 69, 83, 26]

/-- What is told of a file that is no cart's; 0, if nothing is. -/
def fault (l : List UInt8) : Nat :=
  if 16777216 < l.length then 6 else if l.length < 16 then 2 else if l.take 4 ≠ mark then 3 else if bt l 7 / 4 % 4 = 2 then 3
  else if bt l 6 / 8 % 2 = 1 then 3 else if bt l 4 = 0 then 3 else if 4 < mapper l then 7 else if l.length < endAt l then 2 else 0

/-- A cart. -/
structure Ct where
  m : Nat
  r : Nat
  prg : List UInt8
  chr : List UInt8
  ram : Bool

/-- As many noughts as CHR has, if it is RAM. -/
def blank : List UInt8 := List.replicate 8192 0
theorem blank_length : blank.length = 8192 := List.length_replicate

/-- The cart of a file. -/
def cartOf (l : List UInt8) : Ct :=
  ⟨mapper l, bt l 6 % 2, (l.drop (start l)).take (prgB l), if chrB l = 0 then blank else (l.drop (start l + prgB l)).take (chrB l), chrB l == 0⟩

theorem fault_cases (l : List UInt8) (h : fault l = 0) : 16 ≤ l.length ∧ l.length ≤ 16777216 ∧ l.take 4 = mark ∧ mapper l ≤ 4 ∧ bt l 4 ≠ 0 ∧ endAt l ≤ l.length := by
  unfold fault at h
  repeat' split at h
  all_goals first
    | omega
    | (rename_i h1 h2 h3 h4 h5 h6 h7 h8; exact ⟨by omega, by omega, by simpa using h3, by omega, h6, by omega⟩)

theorem start_ge (l : List UInt8) : 16 ≤ start l ∧ start l ≤ 528 := by unfold start; split <;> omega
theorem prgB_le (l : List UInt8) : prgB l ≤ 4177920 := by have := bt_lt l 4; unfold prgB; omega
theorem chrB_le (l : List UInt8) : chrB l ≤ 2088960 := by have := bt_lt l 5; unfold chrB; omega

set_option maxRecDepth 100000 in
theorem and12 : ∀ n : Fin 256, (n.val &&& 12 = 8) ↔ n.val / 4 % 4 = 2 := by decide
set_option maxRecDepth 100000 in
theorem and8 : ∀ n : Fin 256, (n.val &&& 8 = 0) ↔ ¬ n.val / 8 % 2 = 1 := by decide
set_option maxRecDepth 100000 in
theorem and4 : ∀ n : Fin 256, (n.val &&& 4 = 0) ↔ ¬ n.val / 4 % 2 = 1 := by decide
set_option maxRecDepth 100000 in
theorem and1 : ∀ n : Fin 256, (n.val &&& 1 = 0) ↔ ¬ n.val % 2 = 1 := by decide
set_option maxRecDepth 100000 in
theorem and240 : ∀ n : Fin 256, (n.val &&& 240) = n.val / 16 * 16 := by decide
set_option maxRecDepth 100000 in
theorem or16 : ∀ a b : Fin 16, (a.val * 16 ||| b.val) = a.val * 16 + b.val := by decide

theorem s12 (l : List UInt8) (i : Nat) : (bits .and .u8 (bt l i : Int) 12 = 8) ↔ bt l i / 4 % 4 = 2 := by
  have h := u8_and_nat (bt l i) 12 (bt_lt l i) (by omega)
  have e := and12 ⟨bt l i, bt_lt l i⟩
  rw [show ((12 : Nat) : Int) = 12 from rfl] at h
  rw [h]
  simp only at e
  rw [← e]
  omega
theorem s8 (l : List UInt8) (i : Nat) : (bits .and .u8 (bt l i : Int) 8 = 0) ↔ ¬ bt l i / 8 % 2 = 1 := by
  have h := u8_and_nat (bt l i) 8 (bt_lt l i) (by omega)
  have e := and8 ⟨bt l i, bt_lt l i⟩
  rw [show ((8 : Nat) : Int) = 8 from rfl] at h
  rw [h]
  simp only at e
  rw [← e]
  omega
theorem s4 (l : List UInt8) (i : Nat) : (bits .and .u8 (bt l i : Int) 4 = 0) ↔ ¬ bt l i / 4 % 2 = 1 := by
  have h := u8_and_nat (bt l i) 4 (bt_lt l i) (by omega)
  have e := and4 ⟨bt l i, bt_lt l i⟩
  rw [show ((4 : Nat) : Int) = 4 from rfl] at h
  rw [h]
  simp only at e
  rw [← e]
  omega
theorem s1 (l : List UInt8) (i : Nat) : (bits .and .u8 (bt l i : Int) 1 = 0) ↔ ¬ bt l i % 2 = 1 := by
  have h := u8_and_nat (bt l i) 1 (bt_lt l i) (by omega)
  have e := and1 ⟨bt l i, bt_lt l i⟩
  rw [show ((1 : Nat) : Int) = 1 from rfl] at h
  rw [h]
  simp only at e
  rw [← e]
  omega
theorem smap (l : List UInt8) : bits .or .u8 (bits .and .u8 (bt l 7 : Int) 240) ((bt l 6 : Int) / 16) = (mapper l : Int) := by
  have h7 := bt_lt l 7
  have h6 := bt_lt l 6
  have h := u8_and_nat (bt l 7) 240 h7 (by omega)
  have e := and240 ⟨bt l 7, h7⟩
  rw [show ((240 : Nat) : Int) = 240 from rfl] at h
  simp only at e
  rw [h, e]
  have h2 := u8_or_nat (bt l 7 / 16 * 16) (bt l 6 / 16) (by omega) (by omega)
  have e2 := or16 ⟨bt l 7 / 16, by omega⟩ ⟨bt l 6 / 16, by omega⟩
  simp only at e2
  rw [e2] at h2
  unfold mapper
  rw [← h2]
  congr 1

end Ine
end Go.Proofs.Ythabiaenaicppaa
