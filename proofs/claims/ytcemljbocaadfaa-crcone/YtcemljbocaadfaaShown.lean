/-
  picklocklaw02.shown returns true, and turns nothing that was there.
-/
import Derived.Test.YtcemljbocaadfaaForge
import Derived.Test.YtcemljbocaadfaaRef
import Derived.Lib.SlBytesConst
namespace Go.Proofs.Ytcemljbocaadfaa
open Go.RowKit

theorem forgeZ (w : World) (s t : BitVec 32) (z1 z2 : Int) (h1 : z1 = u s) (h2 : z2 = u t) :
    Calls Try.prog 13 #[.int .u32 z1, .int .u32 z2] w fun e w' => e = .returned (.agg (bv (forged s t)).toArray) ∧ Fr [] w w' := by
  subst h1 h2
  exact forge_any w s t
/-- The four bytes, named. -/
theorem forge4 (w : World) (s t : BitVec 32) (z1 z2 : Int) (h1 : z1 = u s) (h2 : z2 = u t) : ∃ x0 x1 x2 x3 : UInt8, next s [x0, x1, x2, x3] = t ∧
    Calls Try.prog 13 #[.int .u32 z1, .int .u32 z2] w fun e w' => e = .returned (.agg #[.int .u8 (x0.toNat : Int), .int .u8 (x1.toNat : Int), .int .u8 (x2.toNat : Int), .int .u8 (x3.toNat : Int)]) ∧ Fr [] w w' :=
  ⟨_, _, _, _, next_forged s t, forgeZ w s t z1 z2 h1 h2⟩
theorem rd_blk {w : World} {g : Nat} {t : TypeId} {l : List UInt8} (h : Blk w g t (bv l).toArray) : Rd w (some ⟨g, 0, none⟩) l :=
  fun _ => ⟨g, 0, rfl, h.rd (by rw [List.take_of_length_le (by simp [bv_length])])⟩

/-- A text's bytes, as a slice of their own. -/
theorem conv_const (w : World) (g : Nat) (hg : w.heap.size = g) (C : Array Value) (n c : Nat) :
    (convert 23 23 (.slice (some ⟨g, 0, none⟩) n c)).run Try.prog (w.alloc (.cells C 5)) = .ok (.slice (some ⟨g, 0, none⟩) n c) (w.alloc (.cells C 5 (C.size, C.size + 1))) := by
  subst hg
  exact Lib.run_convert_bytes_const w 23 5 C n c Try.underlying23 Try.underlying5
theorem rd_const (w : World) (g : Nat) (hg : w.heap.size = g) (l : List UInt8) (t : TypeId) (fr : Nat × Nat) : Rd (w.alloc (.cells (bv l).toArray t fr)) (some ⟨g, 0, none⟩) l := by
  subst hg
  intro _
  refine ⟨_, 0, rfl, fun j hj => ?_⟩
  rw [cell_of_row _ _ _ _ _ _ (heap_alloc_new w _), Nat.zero_add]
  simpa using bv_get l j hj

theorem nine_sum : u (next 0#32 [49, 50, 51, 52, 53, 54, 55, 56, 57]) = 3421780262 := by decide +kernel
theorem nil_sum : u (next 0#32 []) = 0 := by decide +kernel
theorem want_u : (3421780262 : Int) = u 0xCBF43926#32 := by decide
theorem rd_nil (w : World) : Rd w none [] := fun h => by simp at h

set_option maxRecDepth 100000 in
set_option maxHeartbeats 2000000 in
theorem shown_any (w : World) : Calls Try.prog 8 #[] w fun e w' => e = .returned (.bool true) ∧ Fr [] w w' := by
  obtain ⟨x0, x1, x2, x3, hn, hcall⟩ := forge4 w 0#32 0xCBF43926#32 0 3421780262 zero_u want_u
  have HX : Hid (u (next 0#32 [x0, x1, x2, x3]) = 3421780262) := by rw [hn]; exact want_u.symm
  have HC := Lib.hid hcall
  clear hn hcall
  go_enter Try.func8, Try.ntmps8
  go_wp2_with fail
  refine HC.out.mono ?_
  rintro e w1 ⟨rfl, hf1⟩
  have HF1 := Lib.hid hf1
  clear hf1
  have kc := conv_const (w1.alloc (.cells #[.int .u8 (x0.toNat : Int), .int .u8 (x1.toNat : Int), .int .u8 (x2.toNat : Int), .int .u8 (x3.toNat : Int)] 28)) (w1.heap.size + 1) (by simp)
    #[.int .u8 49, .int .u8 50, .int .u8 51, .int .u8 52, .int .u8 53, .int .u8 54, .int .u8 55, .int .u8 56, .int .u8 57] 9 9
  have HB1 : Hid (Blk (w1.alloc (.cells #[.int .u8 (x0.toNat : Int), .int .u8 (x1.toNat : Int), .int .u8 (x2.toNat : Int), .int .u8 (x3.toNat : Int)] 28)) w1.heap.size 28 #[.int .u8 (x0.toNat : Int), .int .u8 (x1.toNat : Int), .int .u8 (x2.toNat : Int), .int .u8 (x3.toNat : Int)]) := Blk.fresh _ _ _
  have HF0 : Hid (Fr [] w (w1.alloc (.cells #[.int .u8 (x0.toNat : Int), .int .u8 (x1.toNat : Int), .int .u8 (x2.toNat : Int), .int .u8 (x3.toNat : Int)] 28))) := HF1.out.alloc _
  go_wp2_with fail
  clear kc
  refine (sum_any _ (some ⟨w1.heap.size + 1, 0, none⟩) 9 9 [49, 50, 51, 52, 53, 54, 55, 56, 57] rfl (by exact rd_const _ _ (by simp) [49, 50, 51, 52, 53, 54, 55, 56, 57] 5 _) (by decide)).mono ?_
  rintro e w2 ⟨rfl, hf2⟩
  rw [nine_sum]
  have HF2 : Hid (Fr [] w w2) := (HF0.out.alloc _).tr hf2
  have HB2 : Hid (Blk w2 w1.heap.size 28 #[.int .u8 (x0.toNat : Int), .int .u8 (x1.toNat : Int), .int .u8 (x2.toNat : Int), .int .u8 (x3.toNat : Int)]) := (HB1.out.fr ((Fr.refl [] _).alloc _) (by simp)).fr hf2 (by simp)
  clear hf2 HF0 HB1 HF1
  go_wp2_with fail
  refine (sum_any w2 none 0 0 [] rfl (rd_nil w2) (by decide)).mono ?_
  rintro e w3 ⟨rfl, hf3⟩
  rw [nil_sum]
  have HF3 : Hid (Fr [] w w3) := HF2.out.tr hf3
  have HB3 : Hid (Blk w3 w1.heap.size 28 #[.int .u8 (x0.toNat : Int), .int .u8 (x1.toNat : Int), .int .u8 (x2.toNat : Int), .int .u8 (x3.toNat : Int)]) := HB2.out.fr hf3 (by simp)
  clear hf3 HF2 HB2
  have kc := conv_const w3 w3.heap.size rfl #[.int .u8 49, .int .u8 50, .int .u8 51, .int .u8 52, .int .u8 53] 5 5
  go_wp2_with fail
  clear kc
  refine (sum_any _ (some ⟨w3.heap.size, 0, none⟩) 5 5 [49, 50, 51, 52, 53] rfl (by exact rd_const _ _ rfl [49, 50, 51, 52, 53] 5 _) (by decide)).mono ?_
  rintro e w4 ⟨rfl, hf4⟩
  have HF4 : Hid (Fr [] w w4) := (HF3.out.alloc _).tr hf4
  have HB4 : Hid (Blk w4 w1.heap.size 28 #[.int .u8 (x0.toNat : Int), .int .u8 (x1.toNat : Int), .int .u8 (x2.toNat : Int), .int .u8 (x3.toNat : Int)]) := (HB3.out.fr ((Fr.refl [] _).alloc _) (by simp)).fr hf4 (by simp)
  clear hf4 HF3 HB3
  obtain ⟨s5, hs5⟩ : ∃ s5, s5 = next 0#32 [49, 50, 51, 52, 53] := ⟨_, rfl⟩
  rw [← hs5]
  have HS5 : Hid (u (next s5 [54, 55, 56, 57]) = 3421780262) := by
    rw [hs5, ← next_append]
    exact nine_sum
  clear hs5
  have kc := conv_const w4 w4.heap.size rfl #[.int .u8 54, .int .u8 55, .int .u8 56, .int .u8 57] 4 4
  go_wp2_with fail
  clear kc
  refine (next_any _ s5 (some ⟨w4.heap.size, 0, none⟩) 4 4 [54, 55, 56, 57] rfl (by exact rd_const _ _ rfl [54, 55, 56, 57] 5 _) (by decide)).mono ?_
  rintro e w5 ⟨rfl, hf5⟩
  rw [HS5.out]
  have HF5 : Hid (Fr [] w w5) := (HF4.out.alloc _).tr hf5
  have HB5 : Hid (Blk w5 w1.heap.size 28 #[.int .u8 (x0.toNat : Int), .int .u8 (x1.toNat : Int), .int .u8 (x2.toNat : Int), .int .u8 (x3.toNat : Int)]) := (HB4.out.fr ((Fr.refl [] _).alloc _) (by simp)).fr hf5 (by simp)
  clear hf5 HF4 HB4
  go_wp2_with fail
  refine (sum_any w5 (some ⟨w1.heap.size, 0, none⟩) 4 4 [x0, x1, x2, x3] rfl (rd_blk (t := 28) HB5.out) (by decide)).mono ?_
  rintro e w6 ⟨rfl, hf6⟩
  rw [HX.out]
  have HF6 : Hid (Fr [] w w6) := HF5.out.tr hf6
  clear hf6
  go_wp2
  go_ret
  exact ⟨rfl, HF6.out⟩

end Go.Proofs.Ytcemljbocaadfaa
