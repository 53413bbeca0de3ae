/-
  The document's map in memory. No condition.
-/
import Derived.Test.YtgakdlbdbiacgaaApp
import Derived.Test.YtgakdlbdbiacgaaNmMath
import Derived.Laws.StructEq
import Derived.StillTailTactics
import Derived.Deep.Cut
import Derived.Deep.RegionLaw
import Derived.Deep.RegionHeld3
import Derived.Deep.DeepCutAuto
import Derived.WalkMore
namespace Go.Proofs.Ytgakdlbdbiacgaa
open Go.RowKit
namespace Nm

def refC (S : St) : Array Value := #[.int .i64 S.pg, .int .i64 S.un, .int .i64 S.mp, .int .i64 S.mir, .int .i64 S.c, .int .i64 S.l, .int .i64 S.h, .int .i64 S.p, .int .i64 S.bits, .int .i64 S.cnt, .int .i64 S.n, .int .i64 S.sel, .int .i64 S.lat, .int .i64 S.ctr,
  .int .i64 S.r0, .int .i64 S.r1, .int .i64 S.r2, .int .i64 S.r3, .int .i64 S.r4, .int .i64 S.r5, .int .i64 S.r6, .int .i64 S.r7, .bool S.ld, .bool S.al, .bool S.ask]

/-- The document's map at block q. -/
def RefAt (w : World) (q : Nat) (S : St) : Prop := Blk w q 40 (refC S)

theorem RefAt.fr {F : List Nat} {w w' : World} {q : Nat} {S : St} (h : RefAt w q S) (hf : Fr F w w') (hq : q ∉ F) : RefAt w' q S := Blk.fr h hf hq

section
variable {w : World} {q : Nat} {t : TypeId} {x0 x1 x2 x3 x4 x5 x6 x7 x8 x9 x10 x11 x12 x13 x14 x15 x16 x17 x18 x19 x20 x21 x22 x23 x24 : Value}
theorem blk25 (h : Blk w q t #[x0, x1, x2, x3, x4, x5, x6, x7, x8, x9, x10, x11, x12, x13, x14, x15, x16, x17, x18, x19, x20, x21, x22, x23, x24]) :
    w.cell? ⟨q, 0, none⟩ = some x0 ∧ w.cell? ⟨q, 1, none⟩ = some x1 ∧ w.cell? ⟨q, 2, none⟩ = some x2 ∧ w.cell? ⟨q, 3, none⟩ = some x3 ∧ w.cell? ⟨q, 4, none⟩ = some x4 ∧ w.cell? ⟨q, 5, none⟩ = some x5 ∧ w.cell? ⟨q, 6, none⟩ = some x6 ∧ w.cell? ⟨q, 7, none⟩ = some x7 ∧
    w.cell? ⟨q, 8, none⟩ = some x8 ∧ w.cell? ⟨q, 9, none⟩ = some x9 ∧ w.cell? ⟨q, 10, none⟩ = some x10 ∧ w.cell? ⟨q, 11, none⟩ = some x11 ∧ w.cell? ⟨q, 12, none⟩ = some x12 ∧ w.cell? ⟨q, 13, none⟩ = some x13 ∧ w.cell? ⟨q, 14, none⟩ = some x14 ∧ w.cell? ⟨q, 15, none⟩ = some x15 ∧
    w.cell? ⟨q, 16, none⟩ = some x16 ∧ w.cell? ⟨q, 17, none⟩ = some x17 ∧ w.cell? ⟨q, 18, none⟩ = some x18 ∧ w.cell? ⟨q, 19, none⟩ = some x19 ∧ w.cell? ⟨q, 20, none⟩ = some x20 ∧ w.cell? ⟨q, 21, none⟩ = some x21 ∧ w.cell? ⟨q, 22, none⟩ = some x22 ∧ w.cell? ⟨q, 23, none⟩ = some x23 ∧ w.cell? ⟨q, 24, none⟩ = some x24 :=
  ⟨h.cell 0, h.cell 1, h.cell 2, h.cell 3, h.cell 4, h.cell 5, h.cell 6, h.cell 7, h.cell 8, h.cell 9, h.cell 10, h.cell 11, h.cell 12, h.cell 13, h.cell 14, h.cell 15, h.cell 16, h.cell 17, h.cell 18, h.cell 19, h.cell 20, h.cell 21, h.cell 22, h.cell 23, h.cell 24⟩
end

/-- What a call leaves that turns the document's map. -/
def RDone (w : World) (q : Nat) (S : St) (e : Ending) (w' : World) : Prop := e = .returned (.tuple #[]) ∧ RefAt w' q S ∧ Fr [q] w w'

theorem ref_put {w : World} {q : Nat} {S : St} (h : RefAt w q S) (i : Nat) (u : Value) (T : St) (hc : (refC S).setIfInBounds i u = refC T) : RefAt (w.setCell ⟨q, i, none⟩ u) q T := by
  have := Blk.put h i u
  rw [hc] at this
  exact this
theorem rdone_put {w w0 : World} {q : Nat} {S : St} (h : RefAt w q S) (hf : Fr [q] w0 w) (i : Nat) (u : Value) (T : St) (hc : (refC S).setIfInBounds i u = refC T) : RDone w0 q T (.returned (.tuple #[])) (w.setCell ⟨q, i, none⟩ u) :=
  ⟨rfl, ref_put h i u T hc, hf.setCell (by simp) u⟩

end Nm
end Go.Proofs.Ytgakdlbdbiacgaa
