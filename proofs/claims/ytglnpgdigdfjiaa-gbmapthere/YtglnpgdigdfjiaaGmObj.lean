/-
  Both maps in memory. No condition.
-/
import Derived.Test.YtglnpgdigdfjiaaApp
import Derived.Test.YtglnpgdigdfjiaaGmMath
import Derived.Laws.StructEq
import Derived.StillTailTactics
import Derived.Deep.Cut
import Derived.Deep.RegionLaw
import Derived.Deep.RegionHeld3
import Derived.Deep.DeepCutAuto
import Derived.WalkMore
import Derived.Laws.Bits
namespace Go.Proofs.Ytglnpgdigdfjiaa
open Go.RowKit
namespace Gm

def refC (S : St) : Array Value := #[.int .i64 S.kd, .int .i64 S.banks, .int .i64 S.size, .bool S.en, .int .i64 S.low, .int .i64 S.high, .int .i64 S.mode]
/-- The document's map at block q. -/
def RefAt (w : World) (q : Nat) (S : St) : Prop := Blk w q 39 (refC S)
theorem RefAt.fr {F : List Nat} {w w' : World} {q : Nat} {S : St} (h : RefAt w q S) (hf : Fr F w w') (hq : q ∉ F) : RefAt w' q S := Blk.fr h hf hq

/-- A function as a value. -/
def fv (f : Nat) : Value := .func (.func f) #[] #[]
def kind0 : List Value := [.bool true, fv 24, fv 24, fv 24, fv 24, fv 24, fv 24, fv 24, fv 24,
  fv 25, fv 26, fv 25]
def kind1 : List Value := [.bool false, fv 27, fv 27, fv 28, fv 28, fv 29, fv 29, fv 30, fv 30,
  fv 31, fv 32, fv 33]
def kind3 : List Value := [.bool false, fv 27, fv 27, fv 34, fv 34, fv 35, fv 35, fv 24, fv 24,
  fv 25, fv 36, fv 37]
def kind5 : List Value := [.bool false, fv 27, fv 27, fv 38, fv 39, fv 40, fv 40, fv 24, fv 24,
  fv 25, fv 36, fv 41]
/-- A kind's cells. -/
def kindC (k : Int) : List Value := if k = 0 then kind0 else if k = 1 then kind1 else if k = 3 then kind3 else kind5
def regC (S : St) : List Value := [.bool S.en, .int .i64 S.low, .int .i64 S.high, .int .i64 S.mode, .int .i64 S.banks, .int .i64 S.size]

/-- The program's map at block p. -/
def ProgAt (w : World) (p : Nat) (S : St) : Prop := Blk w p 63 (kindC S.kd ++ regC S).toArray
theorem ProgAt.fr {F : List Nat} {w w' : World} {p : Nat} {S : St} (h : ProgAt w p S) (hf : Fr F w w') (hp : p ∉ F) : ProgAt w' p S := Blk.fr h hf hp
theorem ProgAt.lt {w : World} {p : Nat} {S : St} (h : ProgAt w p S) : p < w.heap.size := Blk.lt h
theorem RefAt.lt {w : World} {p : Nat} {S : St} (h : RefAt w p S) : p < w.heap.size := Blk.lt h
theorem ProgAt.other {w : World} {p q : Nat} {S T : St} (h : ProgAt w p S) (h' : RefAt w q T) : p ≠ q := Blk.other h h' (by decide)

theorem kind_len (k : Int) : (kindC k).length = 12 := by
  unfold kindC
  repeat' split
  all_goals rfl
theorem ProgAt.reg {w : World} {p : Nat} {S : St} (h : ProgAt w p S) (i : Nat) : w.cell? ⟨p, 12 + i, none⟩ = (regC S)[i]? := by
  have := Blk.cell h (12 + i)
  rw [this, List.getElem?_toArray, List.getElem?_append_right (by rw [kind_len]; omega), kind_len]
  congr 1
  omega
/-- All of the registers' cells. -/
theorem ProgAt.regs {w : World} {p : Nat} {S : St} (h : ProgAt w p S) :
    w.cell? ⟨p, 12, none⟩ = some (.bool S.en) ∧ w.cell? ⟨p, 13, none⟩ = some (.int .i64 S.low) ∧ w.cell? ⟨p, 14, none⟩ = some (.int .i64 S.high) ∧ w.cell? ⟨p, 15, none⟩ = some (.int .i64 S.mode) ∧
    w.cell? ⟨p, 16, none⟩ = some (.int .i64 S.banks) ∧ w.cell? ⟨p, 17, none⟩ = some (.int .i64 S.size) :=
  ⟨h.reg 0, h.reg 1, h.reg 2, h.reg 3, h.reg 4, h.reg 5⟩
theorem ProgAt.put {w : World} {p : Nat} {S : St} (h : ProgAt w p S) (i : Nat) (u : Value) (T : St) (hk : T.kd = S.kd) (hc : (regC S).set i u = regC T) : ProgAt (w.setCell ⟨p, 12 + i, none⟩ u) p T := by
  have := Blk.put h (12 + i) u
  unfold ProgAt
  rw [hk, ← hc]
  have e : (kindC S.kd ++ regC S).toArray.setIfInBounds (12 + i) u = (kindC S.kd ++ (regC S).set i u).toArray := by
    rw [List.setIfInBounds_toArray, List.set_append_right _ _ (by rw [kind_len]; omega), kind_len]
    congr 3
    omega
  rw [e] at this
  exact this

/-- What a call leaves that turns the document's map. -/
def RDone (w : World) (q : Nat) (S : St) (e : Ending) (w' : World) : Prop := e = .returned (.tuple #[]) ∧ RefAt w' q S ∧ Fr [q] w w'
/-- .. the program's. -/
def PDone (w : World) (p : Nat) (S : St) (e : Ending) (w' : World) : Prop := e = .returned (.tuple #[]) ∧ ProgAt w' p S ∧ Fr [p] w w'

theorem ref_put {w : World} {q : Nat} {S : St} (h : RefAt w q S) (i : Nat) (u : Value) (T : St) (hc : (refC S).setIfInBounds i u = refC T) : RefAt (w.setCell ⟨q, i, none⟩ u) q T := by
  have := Blk.put h i u
  rw [hc] at this
  exact this
theorem rdone_put {w w0 : World} {q : Nat} {S : St} (h : RefAt w q S) (hf : Fr [q] w0 w) (i : Nat) (u : Value) (T : St) (hc : (refC S).setIfInBounds i u = refC T) : RDone w0 q T (.returned (.tuple #[])) (w.setCell ⟨q, i, none⟩ u) :=
  ⟨rfl, ref_put h i u T hc, hf.setCell (by simp) u⟩

/-- What a setter leaves: one cell is written. -/
def Putd (w : World) (p i : Nat) (u : Value) (e : Ending) (w' : World) : Prop := e = .returned (.tuple #[]) ∧ ∃ n, w' = (w.drewN n).setCell ⟨p, i, none⟩ u
/-- .. nothing. -/
def Kept (w : World) (e : Ending) (w' : World) : Prop := e = .returned (.tuple #[]) ∧ w' = w
theorem Putd.done {w w0 : World} {p i : Nat} {u : Value} {e : Ending} {w' : World} {S : St} (h : Putd w p (12 + i) u e w') (hp : ProgAt w p S) (hf : Fr [p] w0 w) (T : St) (hk : T.kd = S.kd) (hc : (regC S).set i u = regC T) : PDone w0 p T e w' := by
  obtain ⟨rfl, n, rfl⟩ := h
  exact ⟨rfl, (hp.fr ((Fr.refl [] w).drewN n) (by simp)).put i u T hk hc, (hf.drewN n).setCell (by simp) u⟩

end Gm
end Go.Proofs.Ytglnpgdigdfjiaa
