/-
  Contract of the document's Put of patches (picklockref04): a record's bytes.
-/
import Derived.Test.YtchakjknndpmpaaIpsApply
import Derived.Test.YtchakjknndpmpaaIpsAp
namespace Go.Proofs.Ytchakjknndpmpaa
open Go.RowKit
namespace Ips

/-- A number's lowest byte, and those above it. -/
def lo (p : Nat) : UInt8 := UInt8.ofNat p
def mid (p : Nat) : UInt8 := UInt8.ofNat (p / 256)
def hi (p : Nat) : UInt8 := UInt8.ofNat (p / 65536)
/-- A record's bytes. -/
def recB (r : Rec) : List UInt8 := [hi r.pos, mid r.pos, lo r.pos] ++ (if 0 < r.run then [0, 0, mid r.run, lo r.run, r.data.headD 0] else [mid r.data.length, lo r.data.length] ++ r.data)

theorem lo_spell (p : Nat) : (p : Int) % 256 = ((lo p).toNat : Int) := by
  simp only [lo, UInt8.toNat_ofNat']
  omega
theorem mid_spell (p : Nat) : (p : Int) / 256 % 256 = ((mid p).toNat : Int) := by
  simp only [mid, UInt8.toNat_ofNat']
  omega
theorem mid_spell' (p : Nat) (h : p < 65536) : (p : Int) / 256 = ((mid p).toNat : Int) := by
  simp only [mid, UInt8.toNat_ofNat']
  omega
theorem hi_spell (p : Nat) (h : p < 16777216) : (p : Int) / 65536 = ((hi p).toNat : Int) := by
  simp only [hi, UInt8.toNat_ofNat']
  omega

/-- What Put answers. -/
def Putted (w : World) (l : List UInt8) (e : Ending) (w' : World) : Prop := ∃ A c, e = .returned (.slice A l.length c) ∧ Own w' w.heap.size (.slice A l.length c) l ∧ Fr [] w w'


end Ips
end Go.Proofs.Ytchakjknndpmpaa
