/-
  picklocklaw02.CrcForged returns true for every input: the four bytes lead from the one sum to the other one; no other four do. No condition.
-/
import Derived.Test.YtcemljbocaadfaaEq28
import Derived.Test.YtcemljbocaadfaaShown
namespace Go.Proofs.Ytcemljbocaadfaa
open Go.RowKit

/-- An array of four bytes in a block of its own. -/
def Quad (w : World) (g : Nat) (x0 x1 x2 x3 : UInt8) : Prop := Blk w g 28 #[.int .u8 (x0.toNat : Int), .int .u8 (x1.toNat : Int), .int .u8 (x2.toNat : Int), .int .u8 (x3.toNat : Int)]
theorem Quad.fr {S : List Nat} {w w' : World} {g : Nat} {x0 x1 x2 x3 : UInt8} (h : Quad w g x0 x1 x2 x3) (hf : Fr S w w') (hg : g ∉ S) : Quad w' g x0 x1 x2 x3 := Blk.fr h hf hg
theorem Quad.cells {w : World} {g : Nat} {x0 x1 x2 x3 : UInt8} (h : Quad w g x0 x1 x2 x3) : w.cell? ⟨g, 0, none⟩ = some (.int .u8 (x0.toNat : Int)) ∧ w.cell? ⟨g, 1, none⟩ = some (.int .u8 (x1.toNat : Int)) ∧ w.cell? ⟨g, 2, none⟩ = some (.int .u8 (x2.toNat : Int)) ∧ w.cell? ⟨g, 3, none⟩ = some (.int .u8 (x3.toNat : Int)) :=
  ⟨Blk.cell h 0, Blk.cell h 1, Blk.cell h 2, Blk.cell h 3⟩
theorem Quad.rd {w : World} {g : Nat} {x0 x1 x2 x3 : UInt8} (h : Quad w g x0 x1 x2 x3) : Rd w (some ⟨g, 0, none⟩) [x0, x1, x2, x3] := rd_blk (t := 28) h

set_option maxRecDepth 100000 in
set_option maxHeartbeats 2000000 in
theorem forged_walk (s t : BitVec 32) (y0 y1 y2 y3 : UInt8) (w : World) :
    Calls Try.prog 4 #[.int .u32 (u s), .int .u32 (u t), .agg #[.int .u8 (y0.toNat : Int), .int .u8 (y1.toNat : Int), .int .u8 (y2.toNat : Int), .int .u8 (y3.toNat : Int)]] w fun e w' => e = .returned (.bool true) ∧ Below w.heap.size w w' := by
  have HB0 : Hid (Blk (w.alloc (.cells #[.int .u8 (y0.toNat : Int), .int .u8 (y1.toNat : Int), .int .u8 (y2.toNat : Int), .int .u8 (y3.toNat : Int)] 28)) w.heap.size 28 #[.int .u8 (y0.toNat : Int), .int .u8 (y1.toNat : Int), .int .u8 (y2.toNat : Int), .int .u8 (y3.toNat : Int)]) := Blk.fresh _ _ _
  have HF0 : Hid (Fr [] w (w.alloc (.cells #[.int .u8 (y0.toNat : Int), .int .u8 (y1.toNat : Int), .int .u8 (y2.toNat : Int), .int .u8 (y3.toNat : Int)] 28))) := (Fr.refl [] w).alloc _
  go_enter Try.func4, Try.ntmps4
  go_wp2_with fail
  refine (shown_any _).mono ?_
  rintro e w1 ⟨rfl, hf1⟩
  have HF1 : Hid (Fr [] w w1) := HF0.out.tr hf1
  have HB1 := Lib.hid (HB0.out.fr hf1 (by simp))
  clear hf1 HF0 HB0
  obtain ⟨x0, x1, x2, x3, hn, hcall⟩ := forge4 w1 s t (u s) (u t) rfl rfl
  have HX := Lib.hid hn
  have HC := Lib.hid hcall
  clear hn hcall
  go_wp2_with fail
  refine HC.out.mono ?_
  rintro e w2 ⟨rfl, hf2⟩
  have HF2 : Hid (Fr [] w w2) := HF1.out.tr hf2
  have HB2 := Lib.hid (HB1.out.fr hf2 (by simp))
  clear hf2 HF1 HB1 HC
  have HF3 : Hid (Fr [] w (w2.alloc (.cells #[.int .u8 (x0.toNat : Int), .int .u8 (x1.toNat : Int), .int .u8 (x2.toNat : Int), .int .u8 (x3.toNat : Int)] 28))) := HF2.out.alloc _
  have HO3 : Hid (Quad (w2.alloc (.cells #[.int .u8 (x0.toNat : Int), .int .u8 (x1.toNat : Int), .int .u8 (x2.toNat : Int), .int .u8 (x3.toNat : Int)] 28)) w.heap.size y0 y1 y2 y3) := HB2.out.fr ((Fr.refl [] w2).alloc _) (by simp)
  have HQ3 : Hid (Quad (w2.alloc (.cells #[.int .u8 (x0.toNat : Int), .int .u8 (x1.toNat : Int), .int .u8 (x2.toNat : Int), .int .u8 (x3.toNat : Int)] 28)) w2.heap.size x0 x1 x2 x3) := Blk.fresh _ _ _
  go_wp2
  clear HF2 HB2
  generalize w2.alloc (.cells #[.int .u8 (x0.toNat : Int), .int .u8 (x1.toNat : Int), .int .u8 (x2.toNat : Int), .int .u8 (x3.toNat : Int)] 28) = w3 at *
  generalize w2.heap.size = g at *
  have C1 : Hid (∀ w', Fr [] w3 w' → Calls Try.prog 12 #[.int .u32 (u s), .slice (some ⟨g, 0, none⟩) 4 4] w' fun e w'' => e = .returned (.int .u32 (u t)) ∧ w' = w'') := by
    intro w' hf
    rw [← HX.out]
    exact rnext_any w' s _ 4 4 [x0, x1, x2, x3] rfl (HQ3.out.rd.fr hf (by simp)) (by decide)
  have C2 : Hid (∀ w', Fr [] w3 w' → Calls Try.prog 11 #[.int .u32 (u s), .slice (some ⟨g, 0, none⟩) 4 4] w' fun e w'' => e = .returned (.int .u32 (u t)) ∧ Fr [] w' w'') := by
    intro w' hf
    rw [← HX.out]
    exact next_any w' s _ 4 4 [x0, x1, x2, x3] rfl (HQ3.out.rd.fr hf (by simp)) (by decide)
  have C3 : Hid (∀ w', Fr [] w3 w' → Calls Try.prog 11 #[.int .u32 (u s), .slice (some ⟨w.heap.size, 0, none⟩) 4 4] w' fun e w'' => e = .returned (.int .u32 (u (next s [y0, y1, y2, y3]))) ∧ Fr [] w' w'') :=
    fun w' hf => next_any w' s _ 4 4 [y0, y1, y2, y3] rfl (HO3.out.rd.fr hf (by simp)) (by decide)
  have K : Hid (∀ w', Fr [] w3 w' → Quad w' w.heap.size y0 y1 y2 y3 ∧ Quad w' g x0 x1 x2 x3) := fun w' hf => ⟨HO3.out.fr hf (by simp), HQ3.out.fr hf (by simp)⟩
  have g28 := guard28
  have o0 := fun w' hf => (K.out w' hf).1.cells.1
  have o1 := fun w' hf => (K.out w' hf).1.cells.2.1
  have o2 := fun w' hf => (K.out w' hf).1.cells.2.2.1
  have o3 := fun w' hf => (K.out w' hf).1.cells.2.2.2
  have q0 := fun w' hf => (K.out w' hf).2.cells.1
  have q1 := fun w' hf => (K.out w' hf).2.cells.2.1
  have q2 := fun w' hf => (K.out w' hf).2.cells.2.2.1
  have q3 := fun w' hf => (K.out w' hf).2.cells.2.2.2
  by_cases hy : y0 = x0 ∧ y1 = x1 ∧ y2 = x2 ∧ y3 = x3
  · obtain ⟨rfl, rfl, rfl, rfl⟩ := hy
    have he := eq28_same y0 y1 y2 y3
    rw [HX.out] at C3
    go_region_held3 (fun w' => Fr [] w3 w') (first | exact (Fr.refl [] w3).drew | exact Fr.tr (by assumption) HF6.out | exact Fr.tr (by assumption) HF5.out | assumption)
      (first
      | (go_at_call 12; refine (C1.out _ (by assumption)).mono ?_; rintro e w4 ⟨rfl, rfl⟩)
      | (go_at_call_of 11 (Value.slice (some (⟨g, 0, none⟩ : Addr)) 4 4); refine (C2.out _ (by assumption)).mono ?_; rintro e w5 ⟨rfl, hf5⟩; have HF5 := Lib.hid hf5; clear hf5)
      | (go_at_call_of 11 (Value.slice (some (⟨w.heap.size, 0, none⟩ : Addr)) 4 4); refine (C3.out _ (by assumption)).mono ?_; rintro e w6 ⟨rfl, hf6⟩; have HF6 := Lib.hid hf6; clear hf6))
    have HF7 : Hid (Fr [] w3 w6) := by assumption
    go_wp2
    go_ret
    exact ⟨rfl, (HF3.out.tr HF7.out).below (by simp) (Nat.le_refl _)⟩
  · have hne : (u (next s [y0, y1, y2, y3]) == u t) = false := by
      rw [beq_eq_false_iff_ne]
      intro e
      have h1 := u_inj e
      rw [← HX.out] at h1
      exact hy (next_four_inj h1)
    have he := eq28_other y0 y1 y2 y3 x0 x1 x2 x3 hy
    clear hy
    generalize next s [y0, y1, y2, y3] = r at *
    go_region_held3 (fun w' => Fr [] w3 w') (first | exact (Fr.refl [] w3).drew | exact Fr.tr (by assumption) HF6.out | exact Fr.tr (by assumption) HF5.out | assumption)
      (first
      | (go_at_call 12; refine (C1.out _ (by assumption)).mono ?_; rintro e w4 ⟨rfl, rfl⟩)
      | (go_at_call_of 11 (Value.slice (some (⟨g, 0, none⟩ : Addr)) 4 4); refine (C2.out _ (by assumption)).mono ?_; rintro e w5 ⟨rfl, hf5⟩; have HF5 := Lib.hid hf5; clear hf5)
      | (go_at_call_of 11 (Value.slice (some (⟨w.heap.size, 0, none⟩ : Addr)) 4 4); refine (C3.out _ (by assumption)).mono ?_; rintro e w6 ⟨rfl, hf6⟩; have HF6 := Lib.hid hf6; clear hf6))
    have HF7 : Hid (Fr [] w3 w6) := by assumption
    go_wp2
    go_ret
    exact ⟨rfl, (HF3.out.tr HF7.out).below (by simp) (Nat.le_refl _)⟩

end Go.Proofs.Ytcemljbocaadfaa
