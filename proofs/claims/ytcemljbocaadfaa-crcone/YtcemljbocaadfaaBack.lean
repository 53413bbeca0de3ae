/-
  Contracts of crc's back, and of the function that it makes.
-/
import Derived.Test.YtcemljbocaadfaaTable
import Derived.Test.YtcemljbocaadfaaMath2
namespace Go.Proofs.Ytcemljbocaadfaa
open Go.RowKit

theorem info34 : (Try.prog.info? 34).map (fun i => (i.zero, i.size)) = some (some (.agg (Array.replicate 256 (.int .u32 0))), 256) := by kernel_rfl

theorem info22 : (Try.prog.info? 22).map (fun i => (i.zero, i.size)) = some (some (.int .u32 0), 1) := by kernel_rfl
theorem index35 (w : World) (k : Nat) (hk : k < 256) : (Instr.index 35 (.agg tabA) (.int .i64 (k : Int))).run Try.prog w = .ok (.int .u32 (u (T k))) w := by
  have h1 := tabA_get k hk
  obtain ⟨i, hi, h0⟩ : ∃ i, Try.prog.info? 22 = some i ∧ i.size = 1 := by
    have := (zero_of_info info22).2
    cases h : Try.prog.info? 22 with
    | none => simp [h] at this
    | some i => exact ⟨i, rfl, by simpa [h] using this⟩
  simp [Instr.index, run_underlying Try.underlying35, part, sizeOf, typeInfo, hi, h0, asIntOf, h1]
  omega

/-- While the places are filled: those of the first k entries are what they must be. -/
def Placed (w : World) (g k : Nat) : Prop := ∃ cs, Blk w g 34 cs ∧ cs.size = 256 ∧ ∀ j, j < k → cs[top j]? = some (.int .u32 (j : Int))
theorem Placed.step {w : World} {g k : Nat} (h : Placed w g k) (hk : k < 256) : (∃ v, w.cell? ⟨g, top k, none⟩ = some v) ∧ w.frozen? ⟨g, top k, none⟩ = false ∧ Placed (w.setCell ⟨g, top k, none⟩ (.int .u32 (k : Int))) g (k + 1) := by
  obtain ⟨cs, hb, hs, hc⟩ := h
  have ht := (inv_top k hk).2
  refine ⟨⟨_, (hb.cell (top k)).trans (Array.getElem?_eq_getElem (by omega))⟩, hb.frozen _, _, hb.put (top k) _, by simpa using hs, fun j hj => ?_⟩
  by_cases e : k = j
  · subst e; rw [Array.getElem?_setIfInBounds_self_of_lt (by omega)]
  · rw [Array.getElem?_setIfInBounds_ne (top_ne hk (by omega) e)]; exact hc j (by omega)
/-- All places. -/
def Places (w : World) (g : Nat) : Prop := ∀ h, h < 256 → w.cell? ⟨g, h, none⟩ = some (.int .u32 (inv h : Int))
theorem Placed.done {w : World} {g : Nat} (h : Placed w g 256) : Places w g := by
  obtain ⟨cs, hb, hs, hc⟩ := h
  intro j hj
  obtain ⟨h1, h2⟩ := top_inv j hj
  have := hc (inv j) h2
  rw [h1] at this
  rw [hb.cell, this]
theorem Places.fr {S : List Nat} {w w' : World} {g : Nat} (h : Places w g) (hf : Fr S w w') (hg : g ∉ S) : Places w' g := fun j hj => hf.cell (h j hj) hg

set_option maxHeartbeats 1000000 in
set_option maxRecDepth 100000 in
theorem back_any (w : World) :
    Calls Try.prog 15 #[.agg tabA] w fun e w' => ∃ p q, e = .returned (.func (.func 17) #[] #[.pointer (some ⟨p, 0, none⟩), .pointer (some ⟨q, 0, none⟩)]) ∧ Places w' p ∧ Blk w' q 35 tabA ∧ Fr [] w w' := by
  obtain ⟨hz, hsz⟩ := zero_of_info info34
  clear hsz
  have hzs : (Array.replicate 256 (Value.int .u32 0)).size = 256 := by simp
  generalize (Array.replicate 256 (Value.int .u32 0)) = Z at *
  have HZS := Lib.hid hzs
  have HSZ := Lib.hid (zero_of_info info35).2
  clear hzs
  go_enter Try.func15, Try.ntmps15
  go_wp2
  have HB : Hid (Blk ((w.alloc (.cells tabA 35)).alloc (.cells Z 34)) w.heap.size 35 tabA) := (Blk.fresh w 35 tabA).fr ((Fr.refl [] _).alloc _) (by simp)
  have HZ : Hid (Blk ((w.alloc (.cells tabA 35)).alloc (.cells Z 34)) (w.heap.size + 1) 34 Z) := by
    have := Blk.fresh (w.alloc (.cells tabA 35)) 34 Z
    rwa [show (w.alloc (.cells tabA 35)).heap.size = w.heap.size + 1 from by simp] at this
  have HF : Hid (Fr [] w ((w.alloc (.cells tabA 35)).alloc (.cells Z 34))) := ((Fr.refl [] w).alloc _).alloc _
  generalize ((w.alloc (.cells tabA 35)).alloc (.cells Z 34)) = w1 at *
  refine wp_load_row 35 (.tmp 1) rfl w.heap.size rfl 35 tabA (0, 0) _ HB.out Try.underlying35 rfl (by rw [tabA_size]; exact HSZ.out) ?_
  clear hz
  go_wp2
  go_loopw [4, 5, 7] (fun _ _ i wr => ∃ k : Nat, k ≤ 256 ∧ i = .int .i64 k ∧ Placed wr (w.heap.size + 1) k ∧ Blk wr w.heap.size 35 tabA ∧ Fr [] w wr) (fun _ _ i _ => 256 - (intOf i).toNat)
  case atStart => exact ⟨0, Nat.zero_le _, rfl, ⟨Z, HZ.out, HZS.out, fun j hj => by omega⟩, HB.out, HF.out⟩
  case round =>
    clear HB HF HZ
    obtain ⟨k, hk, rfl, hfill, hb, hf⟩ := hrel
    have HP := Lib.hid hfill
    have HB := Lib.hid hb
    have HF := Lib.hid hf
    clear hfill hb hf
    by_cases hlt : k < 256
    · obtain ⟨⟨v, h1⟩, h2, h3⟩ := HP.out.step hlt
      have H3 := Lib.hid h3
      clear h3
      have ht := index35 wr k hlt
      have htl := (inv_top k hlt).2
      have hu : u (T k) / 16777216 = (top k : Int) := by unfold u top; omega
      go_wp2
      go_roundw
      case rel => exact ⟨k + 1, by omega, by go_num, H3.out, HB.out.fr ((Fr.refl [w.heap.size + 1] wr).setCell (by simp) _) (by simp), HF.out.setCell (by simp) _⟩
      case measure => simp [intOf]; omega
    · obtain rfl : k = 256 := by omega
      go_wp2
      go_ret
      exact ⟨w.heap.size + 1, w.heap.size, rfl, HP.out.done, HB.out, HF.out⟩

/-- The register that the function tells. -/
theorem back_u (r : BitVec 32) : bits .or .u32 (bits .xor .u32 (u r) (u (T (inv (high r)))) * 256 % 4294967296) (inv (high r) : Int) = u (backR r) := by
  have h := (top_inv (high r) (high_lt r)).2
  have e1 : bits .xor .u32 (u r) (u (T (inv (high r)))) * (256 : Int) % (4294967296 : Int) = u ((r ^^^ T (inv (high r))) <<< 8) := by
    rw [xor_u]
    unfold u
    rw [BitVec.toNat_shiftLeft, Nat.shiftLeft_eq]
    omega
  have e2 : (inv (high r) : Int) = u (BitVec.ofNat 32 (inv (high r))) := by unfold u; rw [BitVec.toNat_ofNat, Nat.mod_eq_of_lt (by omega)]
  rw [e1, e2, or_u]
  rfl

set_option maxHeartbeats 1000000 in
set_option maxRecDepth 100000 in
theorem made_any (w : World) (p q : Nat) (r : BitVec 32) (hp : Places w p) (hq : Blk w q 35 tabA) :
    Calls Try.prog 17 #[.int .u32 (u r), .pointer (some ⟨p, 0, none⟩), .pointer (some ⟨q, 0, none⟩)] w fun e w' => e = .returned (.int .u32 (u (backR r))) ∧ w = w' := by
  have hh := high_lt r
  have hi := (top_inv (high r) hh).2
  have h1 := hp (high r) hh
  have h2 := hq.cell (inv (high r))
  rw [tabA_get _ hi] at h2
  have HB := Lib.hid (back_u r)
  have hu : u r / 16777216 = (high r : Int) := by unfold u high; omega
  clear hp hq
  generalize inv (high r) = i at *
  generalize high r = h at *
  go_enter Try.func17, Try.ntmps17
  go_wp2
  go_ret
  exact ⟨congrArg (fun x => Ending.returned (.int .u32 x)) HB.out, rfl⟩

end Go.Proofs.Ytcemljbocaadfaa
