/-
  Arguments of the laws of layer 10 opened: an array of three bytes, the struct File; the table of RAM's sizes, out of what the rows list.
-/
import Derived.Test.YthomlnaabkfcpaaDoorRowBytes
import Derived.Test.YthomlnaabkfcpaaDoorGbSizes
import Derived.OpenShut
import Derived.ChangeOld
import Derived.ProofKit
import Derived.Lib.LaidTab
namespace Go.Proofs.YthomlnaabkfcpaaDoor
open Go.RowKit Go.Deep Go.WideShapes Go.ChangeShapes Go.ChangeAt
namespace Gb

theorem list3 {α : Type} (l : List α) (h : l.length = 3) : ∃ a b c, l = [a, b, c] := by
  match l, h with
  | [a, b, c], _ => exact ⟨a, b, c, rfl⟩
theorem list8 {α : Type} (l : List α) (h : l.length = 8) : ∃ a b c d e f g i, l = [a, b, c, d, e, f, g, i] := by
  match l, h with
  | [a, b, c, d, e, f, g, i], _ => exact ⟨a, b, c, d, e, f, g, i, rfl⟩
theorem cells1i : Tryd.prog.cellsOf 3 = 1 := by kernel_rfl
theorem cells3b : Tryd.prog.cellsOf 22 = 3 := by kernel_rfl
theorem cellsFile : Tryd.prog.cellsOf 24 = 8 := by kernel_rfl

section
variable {H : Type} {enc : TypeId × Value → H} {w : World} {base : Nat} {spare : Nat → Bool} {held : Bool}

set_option maxRecDepth 100000 in
theorem trod_three {fuel : Nat} {cs : List Value} {x : DataW H × List MemPlace} (h : DataW.trod enc Tryd.prog w base spare held fuel 22 cs = some x) (hl : cs.length = 3) : ∃ y0 y1 y2 : UInt8, cs = [.int .u8 (y0.toNat : Int), .int .u8 (y1.toNat : Int), .int .u8 (y2.toNat : Int)] := by
  obtain ⟨c0, c1, c2, rfl⟩ := list3 cs hl
  obtain ⟨xs, m, -, -, -, hl, hx⟩ := DataW.trod_array Tryd.underlying22 h
  obtain ⟨y0, y1, y2, rfl⟩ := list3 xs hl
  have h0 := hx 0 (by decide)
  have h1 := hx 1 (by decide)
  have h2 := hx 2 (by decide)
  rw [Rb.cells1b] at h0 h1 h2
  obtain ⟨z0, e0⟩ := Rb.one_byte h0
  obtain ⟨z1, e1⟩ := Rb.one_byte h1
  obtain ⟨z2, e2⟩ := Rb.one_byte h2
  simp at e0 e1 e2
  exact ⟨z0, z1, z2, by rw [e0, e1, e2]⟩

set_option maxRecDepth 100000 in
theorem open_three {r : Reach} {b0 : Nat} {v : Value} {d : DataW H} {p : List MemPlace} (hv : Value.okWide Tryd.prog w r b0 22 v) (h : DataW.Trod enc Tryd.prog w base spare held 22 v d p) :
    ∃ a b c : UInt8, v = .agg #[.int .u8 (a.toNat : Int), .int .u8 (b.toNat : Int), .int .u8 (c.toNat : Int)] := by
  obtain ⟨cs, rfl, hsz, _⟩ : ∃ cs, v = .agg cs ∧ cs.size = Tryd.prog.cellsOf 22 ∧ Row.okWide Tryd.prog w r b0 22 cs := by
    simpa [Value.okWide, Tryd.underlying22] using hv
  rw [cells3b] at hsz
  obtain ⟨l⟩ := cs
  obtain ⟨fuel, hf⟩ := h
  obtain ⟨y0, y1, y2, e⟩ := trod_three hf (by simpa [Value.cells] using hsz)
  simp [Value.cells] at e
  exact ⟨y0, y1, y2, by rw [e]⟩

set_option maxRecDepth 100000 in
theorem open_file {r : Reach} {b0 : Nat} {v : Value} {d : DataW H} {p : List MemPlace} (hv : Value.okWide Tryd.prog w r b0 24 v) (h : DataW.Trod enc Tryd.prog w base (fun _ => true) held 24 v d p) :
    ∃ (n : Int) (f a b c : UInt8) (at' : Int) (x : UInt8) (o : Int), v = .agg #[.int .i64 n, .int .u8 (f.toNat : Int), .int .u8 (a.toNat : Int), .int .u8 (b.toNat : Int), .int .u8 (c.toNat : Int), .int .i64 at', .int .u8 (x.toNat : Int), .int .i64 o] := by
  obtain ⟨cs, rfl, hsz⟩ := okWide_struct Tryd.underlying24 hv
  rw [cellsFile] at hsz
  obtain ⟨cl⟩ := cs
  obtain ⟨v0, v1, v2, v3, v4, v5, v6, v7, rfl⟩ := list8 cl hsz
  obtain ⟨fuel, hf⟩ := h
  obtain ⟨ys, n, -, -, -, hyl, hx⟩ := DataW.trod_struct Tryd.underlying24 hf
  have hlen : ys.length = 6 := hyl
  have h0 := hx 0 _ rfl
  have h1 := hx 1 _ rfl
  have h2 := hx 2 _ rfl
  have h3 := hx 3 _ rfl
  have h4 := hx 4 _ rfl
  have h5 := hx 5 _ rfl
  simp only [Value.cells] at h0 h1 h2 h3 h4 h5
  rw [List.getElem?_eq_getElem (by omega)] at h0 h1 h2 h3 h4 h5
  obtain ⟨n0, e0, -⟩ := DataW.trod_int Tryd.underlying3 h0
  obtain ⟨f, e1⟩ := Rb.one_byte h1
  obtain ⟨a, b, c, e2⟩ := trod_three h2 rfl
  obtain ⟨p0, e3, -⟩ := DataW.trod_int Tryd.underlying3 h3
  obtain ⟨x, e4⟩ := Rb.one_byte h4
  obtain ⟨o, e5, -⟩ := DataW.trod_int Tryd.underlying3 h5
  simp at e0 e1 e2 e3 e4 e5
  try rw [Rb.cells1b] at e1 e4
  try rw [cells1i] at e0 e3 e5
  try simp at e0 e1 e3 e4 e5
  obtain ⟨rfl, rfl, rfl⟩ := e2
  subst e0 e1 e3 e4 e5
  exact ⟨n0, f, a, b, c, p0, x, o, rfl⟩
end

theorem gTab : Tryd.prog.globalNamed "picklock/gbhead.ramBytes" = some 0 := by kernel_rfl
theorem gTabType : (Tryd.prog.globals[0]?).map (·.type) = some 51 := by kernel_rfl
theorem cells6 : Tryd.prog.cellsOf 51 = 6 := by kernel_rfl
theorem tab_of {W : World} (h : laidMetH Tryd.prog [("picklock/gbhead.ramBytes", Rows.laid_picklock_gbhead_ramBytes)] W) : Tab W := by
  have hT : Lib.TabIs Tryd.prog W "picklock/gbhead.ramBytes" .i64 [0, 2048, 8192, 32768, 131072, 65536] :=
    Lib.tabIs_of_head (rest := []) gTab gTabType Tryd.underlying51 Tryd.underlying3 cells1i cells6 h
  intro r hr
  have h1 := hT.cell gTab r (by simpa using hr)
  rw [h1]
  have hr6 : r = 0 ∨ r = 1 ∨ r = 2 ∨ r = 3 ∨ r = 4 ∨ r = 5 := by omega
  rcases hr6 with rfl | rfl | rfl | rfl | rfl | rfl <;> rfl

end Gb
end Go.Proofs.YthomlnaabkfcpaaDoor
