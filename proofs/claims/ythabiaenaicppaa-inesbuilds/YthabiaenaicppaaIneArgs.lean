/-
  The structs of picklocklaw09 that came in, opened to their cells.
-/
import Derived.Test.YthabiaenaicppaaRowBytes
import Derived.OpenShut
namespace Go.Proofs.Ythabiaenaicppaa
open Go.RowKit Go.Deep Go.WideShapes Go.ChangeShapes
namespace Ine

theorem list2 {α : Type} (l : List α) (h : l.length = 2) : ∃ a b, l = [a, b] := by
  match l, h with
  | [a, b], _ => exact ⟨a, b, rfl⟩
theorem list5 {α : Type} (l : List α) (h : l.length = 5) : ∃ a b c d e, l = [a, b, c, d, e] := by
  match l, h with
  | [a, b, c, d, e], _ => exact ⟨a, b, c, d, e, rfl⟩
theorem list8 {α : Type} (l : List α) (h : l.length = 8) : ∃ a b c d e f g i, l = [a, b, c, d, e, f, g, i] := by
  match l, h with
  | [a, b, c, d, e, f, g, i], _ => exact ⟨a, b, c, d, e, f, g, i, rfl⟩
theorem list12 {α : Type} (l : List α) (h : l.length = 12) : ∃ a b c d e f g i j k m n, l = [a, b, c, d, e, f, g, i, j, k, m, n] := by
  match l, h with
  | [a, b, c, d, e, f, g, i, j, k, m, n], _ => exact ⟨a, b, c, d, e, f, g, i, j, k, m, n, rfl⟩
theorem list15 {α : Type} (l : List α) (h : l.length = 15) : ∃ a b c d e f g i j k m n o p q, l = [a, b, c, d, e, f, g, i, j, k, m, n, o, p, q] := by
  match l, h with
  | [a, b, c, d, e, f, g, i, j, k, m, n, o, p, q], _ => exact ⟨a, b, c, d, e, f, g, i, j, k, m, n, o, p, q, rfl⟩
theorem cells1i : Try.prog.cellsOf 3 = 1 := by kernel_rfl
theorem cells1o : Try.prog.cellsOf 4 = 1 := by kernel_rfl
theorem cells1s : Try.prog.cellsOf 27 = 1 := by kernel_rfl
theorem cells2b : Try.prog.cellsOf 22 = 2 := by kernel_rfl
theorem cells8b : Try.prog.cellsOf 23 = 8 := by kernel_rfl
theorem cellsHead : Try.prog.cellsOf 25 = 15 := by kernel_rfl
theorem cellsCart : Try.prog.cellsOf 43 = 5 := by kernel_rfl
theorem cellsOwn : Try.prog.cellsOf 49 = 12 := by kernel_rfl

section
variable {H : Type} {enc : TypeId × Value → H} {w : World} {base : Nat} {spare : Nat → Bool} {held : Bool}

set_option maxRecDepth 100000 in
theorem trod_two {fuel : Nat} {cs : List Value} {x : DataW H × List MemPlace} (h : DataW.trod enc Try.prog w base spare held fuel 22 cs = some x) (hl : cs.length = 2) : ∃ y0 y1 : UInt8, cs = [.int .u8 (y0.toNat : Int), .int .u8 (y1.toNat : Int)] := by
  obtain ⟨c0, c1, rfl⟩ := list2 cs hl
  obtain ⟨xs, m, -, -, -, hl, hx⟩ := DataW.trod_array Try.underlying22 h
  obtain ⟨y0, y1, rfl⟩ := list2 xs hl
  have h0 := hx 0 (by decide)
  have h1 := hx 1 (by decide)
  rw [Rb.cells1b] at h0 h1
  obtain ⟨z0, e0⟩ := Rb.one_byte h0
  obtain ⟨z1, e1⟩ := Rb.one_byte h1
  simp at e0 e1
  exact ⟨z0, z1, by rw [e0, e1]⟩

set_option maxRecDepth 100000 in
theorem trod_eight {fuel : Nat} {cs : List Value} {x : DataW H × List MemPlace} (h : DataW.trod enc Try.prog w base spare held fuel 23 cs = some x) (hl : cs.length = 8) : ∃ y0 y1 y2 y3 y4 y5 y6 y7 : UInt8, cs = [.int .u8 (y0.toNat : Int), .int .u8 (y1.toNat : Int), .int .u8 (y2.toNat : Int), .int .u8 (y3.toNat : Int), .int .u8 (y4.toNat : Int), .int .u8 (y5.toNat : Int), .int .u8 (y6.toNat : Int), .int .u8 (y7.toNat : Int)] := by
  obtain ⟨c0, c1, c2, c3, c4, c5, c6, c7, rfl⟩ := list8 cs hl
  obtain ⟨xs, m, -, -, -, hl, hx⟩ := DataW.trod_array Try.underlying23 h
  obtain ⟨y0, y1, y2, y3, y4, y5, y6, y7, rfl⟩ := list8 xs hl
  have h0 := hx 0 (by decide)
  have h1 := hx 1 (by decide)
  have h2 := hx 2 (by decide)
  have h3 := hx 3 (by decide)
  have h4 := hx 4 (by decide)
  have h5 := hx 5 (by decide)
  have h6 := hx 6 (by decide)
  have h7 := hx 7 (by decide)
  rw [Rb.cells1b] at h0 h1 h2 h3 h4 h5 h6 h7
  obtain ⟨z0, e0⟩ := Rb.one_byte h0
  obtain ⟨z1, e1⟩ := Rb.one_byte h1
  obtain ⟨z2, e2⟩ := Rb.one_byte h2
  obtain ⟨z3, e3⟩ := Rb.one_byte h3
  obtain ⟨z4, e4⟩ := Rb.one_byte h4
  obtain ⟨z5, e5⟩ := Rb.one_byte h5
  obtain ⟨z6, e6⟩ := Rb.one_byte h6
  obtain ⟨z7, e7⟩ := Rb.one_byte h7
  simp at e0 e1 e2 e3 e4 e5 e6 e7
  exact ⟨z0, z1, z2, z3, z4, z5, z6, z7, by rw [e0, e1, e2, e3, e4, e5, e6, e7]⟩

set_option maxRecDepth 100000 in
theorem open_head {r : Reach} {b0 : Nat} {v : Value} {d : DataW H} {p : List MemPlace} (hv : Value.okWide Try.prog w r b0 25 v) (h : DataW.Trod enc Try.prog w base (fun _ => true) held 25 v d p) :
    ∃ (a0 a1 b0 b1 r0 r1 r2 r3 r4 r5 r6 r7 x : UInt8) (m o : Int), v = .agg #[.int .u8 (a0.toNat : Int), .int .u8 (a1.toNat : Int), .int .u8 (b0.toNat : Int), .int .u8 (b1.toNat : Int), .int .u8 (r0.toNat : Int), .int .u8 (r1.toNat : Int), .int .u8 (r2.toNat : Int), .int .u8 (r3.toNat : Int), .int .u8 (r4.toNat : Int), .int .u8 (r5.toNat : Int), .int .u8 (r6.toNat : Int), .int .u8 (r7.toNat : Int), .int .u8 (x.toNat : Int), .int .i64 m, .int .i64 o] := by
  obtain ⟨cs, rfl, hsz⟩ := okWide_struct Try.underlying25 hv
  rw [cellsHead] at hsz
  obtain ⟨cl⟩ := cs
  obtain ⟨v0, v1, v2, v3, v4, v5, v6, v7, v8, v9, v10, v11, v12, v13, v14, rfl⟩ := list15 cl hsz
  obtain ⟨fuel, hf⟩ := h
  obtain ⟨ys, n, -, -, -, hyl, hx⟩ := DataW.trod_struct Try.underlying25 hf
  have hlen : ys.length = 6 := hyl
  have h0 := hx 0 _ rfl
  have h1 := hx 1 _ rfl
  have h2 := hx 2 _ rfl
  have h3 := hx 3 _ rfl
  have h4 := hx 4 _ rfl
  have h5 := hx 5 _ rfl
  simp only [Value.cells] at h0 h1 h2 h3 h4 h5
  rw [List.getElem?_eq_getElem (by omega)] at h0 h1 h2 h3 h4 h5
  obtain ⟨a0, a1, e0⟩ := trod_two h0 rfl
  obtain ⟨b0, b1, e1⟩ := trod_two h1 rfl
  obtain ⟨r0, r1, r2, r3, r4, r5, r6, r7, e2⟩ := trod_eight h2 rfl
  obtain ⟨x, e3⟩ := Rb.one_byte h3
  obtain ⟨m, e4, -⟩ := DataW.trod_int Try.underlying3 h4
  obtain ⟨o, e5, -⟩ := DataW.trod_int Try.underlying3 h5
  simp at e0 e1 e2 e3 e4 e5
  try rw [Rb.cells1b] at e3
  try rw [cells1i] at e4 e5
  try simp at e3 e4 e5
  obtain ⟨rfl, rfl⟩ := e0
  obtain ⟨rfl, rfl⟩ := e1
  obtain ⟨rfl, rfl, rfl, rfl, rfl, rfl, rfl, rfl⟩ := e2
  subst e3 e4 e5
  exact ⟨a0, a1, b0, b1, r0, r1, r2, r3, r4, r5, r6, r7, x, m, o, rfl⟩

set_option maxRecDepth 100000 in
theorem open_cart {r : Reach} {b0 : Nat} {v : Value} {d : DataW H} {p : List MemPlace} (hv : Value.okWide Try.prog w r b0 43 v) (h : DataW.Trod enc Try.prog w base (fun _ => true) held 43 v d p) :
    ∃ (xa xb xc xd : UInt8) (b : Bool), v = .agg #[.int .u8 (xa.toNat : Int), .int .u8 (xb.toNat : Int), .int .u8 (xc.toNat : Int), .int .u8 (xd.toNat : Int), .bool b] := by
  obtain ⟨cs, rfl, hsz⟩ := okWide_struct Try.underlying43 hv
  rw [cellsCart] at hsz
  obtain ⟨cl⟩ := cs
  obtain ⟨v0, v1, v2, v3, v4, rfl⟩ := list5 cl hsz
  obtain ⟨fuel, hf⟩ := h
  obtain ⟨ys, n, -, -, -, hyl, hx⟩ := DataW.trod_struct Try.underlying43 hf
  have hlen : ys.length = 5 := hyl
  have h0 := hx 0 _ rfl
  have h1 := hx 1 _ rfl
  have h2 := hx 2 _ rfl
  have h3 := hx 3 _ rfl
  have h4 := hx 4 _ rfl
  simp only [Value.cells] at h0 h1 h2 h3 h4
  rw [List.getElem?_eq_getElem (by omega)] at h0 h1 h2 h3 h4
  obtain ⟨xa, e0⟩ := Rb.one_byte h0
  obtain ⟨xb, e1⟩ := Rb.one_byte h1
  obtain ⟨xc, e2⟩ := Rb.one_byte h2
  obtain ⟨xd, e3⟩ := Rb.one_byte h3
  obtain ⟨b, e4, -⟩ := DataW.trod_bool Try.underlying4 h4
  simp at e0 e1 e2 e3 e4
  try rw [Rb.cells1b] at e0 e1 e2 e3
  try rw [cells1o] at e4
  try simp at e0 e1 e2 e3 e4
  subst e0 e1 e2 e3 e4
  exact ⟨xa, xb, xc, xd, b, rfl⟩

set_option maxRecDepth 100000 in
theorem open_own {r : Reach} {b0 : Nat} {v : Value} {d : DataW H} {p : List MemPlace} (hv : Value.okWide Try.prog w r b0 49 v) (h : DataW.Trod enc Try.prog w base (fun _ => true) held 49 v d p) :
    ∃ (a0 a1 mp r0 r1 r2 r3 r4 r5 r6 r7 : UInt8) (A : Option Addr) (l : List UInt8) (c : Nat), v = .agg #[.int .u8 (a0.toNat : Int), .int .u8 (a1.toNat : Int), .int .u8 (mp.toNat : Int), .int .u8 (r0.toNat : Int), .int .u8 (r1.toNat : Int), .int .u8 (r2.toNat : Int), .int .u8 (r3.toNat : Int), .int .u8 (r4.toNat : Int), .int .u8 (r5.toNat : Int), .int .u8 (r6.toNat : Int), .int .u8 (r7.toNat : Int), .slice A l.length c] ∧ Rd w A l ∧ (A = none → c = 0) ∧ l.length ≤ c ∧ c ≤ maxLen := by
  obtain ⟨cs, rfl, hsz⟩ := okWide_struct Try.underlying49 hv
  rw [cellsOwn] at hsz
  obtain ⟨cl⟩ := cs
  obtain ⟨v0, v1, v2, v3, v4, v5, v6, v7, v8, v9, v10, v11, rfl⟩ := list12 cl hsz
  obtain ⟨fuel, hf⟩ := h
  obtain ⟨ys, n, -, -, -, hyl, hx⟩ := DataW.trod_struct Try.underlying49 hf
  have hlen : ys.length = 4 := hyl
  have h0 := hx 0 _ rfl
  have h1 := hx 1 _ rfl
  have h2 := hx 2 _ rfl
  have h3 := hx 3 _ rfl
  simp only [Value.cells] at h0 h1 h2 h3
  rw [List.getElem?_eq_getElem (by omega)] at h0 h1 h2 h3
  obtain ⟨a0, a1, e0⟩ := trod_two h0 rfl
  obtain ⟨mp, e1⟩ := Rb.one_byte h1
  obtain ⟨r0, r1, r2, r3, r4, r5, r6, r7, e2⟩ := trod_eight h2 rfl
  simp at e0 e1 e2
  try rw [Rb.cells1b] at e1
  try simp at e1
  obtain ⟨rfl, rfl⟩ := e0
  obtain ⟨rfl, rfl, rfl, rfl, rfl, rfl, rfl, rfl⟩ := e2
  subst e1
  have e3 : DataW.trod enc Try.prog w base (fun _ => true) held n 27 [v11] = some ys[3] := h3
  obtain ⟨A, l, c, rfl, g1, g2, g3, g4⟩ := Rb.row_bytes e3
  exact ⟨a0, a1, mp, r0, r1, r2, r3, r4, r5, r6, r7, A, l, c, rfl, g1, g2, g3, g4⟩
end

end Ine
end Go.Proofs.Ythabiaenaicppaa
