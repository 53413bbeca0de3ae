/-
  Contract of ines.Parse once more: the cells of the cart of a file that has no fault, each under a name of its own.
-/
import Derived.Test.YthabiaenaicppaaIneShown
namespace Go.Proofs.Ythabiaenaicppaa
open Go.RowKit
namespace Ine

/-- What Parse leaves, by names. -/
def Carted (W : World) (mI rI : Int) (pl cl : List UInt8) (P1 Q1 : Nat) (bq : Bool) (e : Ending) (w' : World) : Prop :=
  ∃ g1 g2, e = .returned (.tuple #[.agg #[.int .i64 mI, .int .i64 rI, .slice (some ⟨g1, 0, none⟩) P1 P1, .slice (some ⟨g2, 0, none⟩) Q1 Q1, .bool bq], .int .i64 0]) ∧ W.heap.size ≤ g1 ∧ W.heap.size ≤ g2 ∧ Blk w' g1 5 (bv pl).toArray ∧ Blk w' g2 5 (bv cl).toArray ∧ Fr [] W w'

theorem parse_ct (W : World) (A : Option Addr) (n c : Nat) (l : List UInt8) (ct : Ct) (hn : l.length = n) (hnc : n ≤ c) (hr : Rd W A l) (hf : fault l = 0) (hct : cartOf l = ct) (mI rI : Int) (P1 Q1 : Nat) (h1 : (ct.m : Int) = mI) (h2 : (ct.r : Int) = rI) (h3 : ct.prg.length = P1) (h4 : ct.chr.length = Q1) :
    Calls Try.prog 10 #[.slice A n c] W (Carted W mI rI ct.prg ct.chr P1 Q1 ct.ram) := by
  refine (parse_ok W A n c l hn hnc hr hf).mono ?_
  rintro e w' ⟨v, rfl, ht⟩
  rw [hct] at ht
  obtain ⟨g1, g2, rfl, hg1, hg2, -, hd1, hd2, hfr⟩ := ht
  exact ⟨g1, g2, by rw [← h1, ← h2, ← h3, ← h4]; rfl, hg1, hg2, hd1, hd2, hfr⟩

theorem headZ (w : World) (p c f : UInt8) : Calls Try.prog 8 #[.int .u8 (p.toNat : Int), .int .u8 (c.toNat : Int), .int .u8 (f.toNat : Int), .int .u8 0] w (Headed w p c f 0) := head_any w p c f 0

/-- A cart in a block of its own: two of them, the same. -/
theorem same_two (w : World) (mI rI : Int) (pl cl : List UInt8) (P1 Q1 : Nat) (bq : Bool) (g1 g2 g1' g2' : Nat) (m r : Nat) (hm : mI = (m : Int)) (hr : rI = (r : Int)) (hp : pl.length = P1) (hc : cl.length = Q1) (h1 : Blk w g1 5 (bv pl).toArray) (h2 : Blk w g2 5 (bv cl).toArray) (h1' : Blk w g1' 5 (bv pl).toArray) (h2' : Blk w g2' 5 (bv cl).toArray) :
    Calls Try.prog 12 #[.agg #[.int .i64 mI, .int .i64 rI, .slice (some ⟨g1, 0, none⟩) P1 P1, .slice (some ⟨g2, 0, none⟩) Q1 Q1, .bool bq], .agg #[.int .i64 mI, .int .i64 rI, .slice (some ⟨g1', 0, none⟩) P1 P1, .slice (some ⟨g2', 0, none⟩) Q1 Q1, .bool bq]] w fun e w' => e = .returned (.bool true) ∧ Fr [] w w' := by
  subst hm hr hp hc
  exact same_cart w _ _ ⟨m, r, pl, cl, bq⟩ ⟨_, _, _, _, rfl, rd_blk h1, rd_blk h2⟩ ⟨_, _, _, _, rfl, rd_blk h1', rd_blk h2'⟩

end Ine
end Go.Proofs.Ythabiaenaicppaa
