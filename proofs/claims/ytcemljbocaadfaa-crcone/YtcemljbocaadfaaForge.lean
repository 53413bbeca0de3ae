/-
  Contract of crc's Forge.
-/
import Derived.Test.YtcemljbocaadfaaBack
import Derived.Test.YtcemljbocaadfaaNext
namespace Go.Proofs.Ytcemljbocaadfaa
open Go.RowKit

/-- The register behind k steps back. -/
def backN : Nat → BitVec 32 → BitVec 32
  | 0, r => r
  | k + 1, r => backR (backN k r)

theorem info28 : (Try.prog.info? 28).map (fun i => (i.zero, i.size)) = some (some (.agg (Array.replicate 4 (.int .u8 0))), 4) := by kernel_rfl

/-- While the four bytes are written. -/
def Row4 (w : World) (g : Nat) (d : BitVec 32) (k : Nat) : Prop := ∃ cs, Blk w g 28 cs ∧ cs.size = 4 ∧ ∀ j, j < k → cs[j]? = some (.int .u8 ((byteAt d j).toNat : Int))
theorem Row4.step {w : World} {g k : Nat} {d : BitVec 32} (h : Row4 w g d k) (hk : k < 4) : (∃ v, w.cell? ⟨g, k, none⟩ = some v) ∧ w.frozen? ⟨g, k, none⟩ = false ∧ Row4 (w.setCell ⟨g, k, none⟩ (.int .u8 ((byteAt d k).toNat : Int))) g d (k + 1) := by
  obtain ⟨cs, hb, hs, hc⟩ := h
  refine ⟨⟨_, (hb.cell k).trans (Array.getElem?_eq_getElem (by omega))⟩, hb.frozen k, _, hb.put k _, by simpa using hs, fun j hj => ?_⟩
  by_cases e : k = j
  · subst e; rw [Array.getElem?_setIfInBounds_self_of_lt (by omega)]
  · rw [Array.getElem?_setIfInBounds_ne e]; exact hc j (by omega)
theorem Row4.done {w : World} {g : Nat} {d : BitVec 32} (h : Row4 w g d 4) : Blk w g 28 (bv [byteAt d 0, byteAt d 1, byteAt d 2, byteAt d 3]).toArray := by
  obtain ⟨cs, hb, hs, hc⟩ := h
  have e : cs = (bv [byteAt d 0, byteAt d 1, byteAt d 2, byteAt d 3]).toArray := by
    apply Array.ext_getElem?
    intro j
    rcases (show j = 0 ∨ j = 1 ∨ j = 2 ∨ j = 3 ∨ 4 ≤ j by omega) with rfl | rfl | rfl | rfl | hj
    · rw [hc 0 (by omega)]; rfl
    · rw [hc 1 (by omega)]; rfl
    · rw [hc 2 (by omega)]; rfl
    · rw [hc 3 (by omega)]; rfl
    · rw [Array.getElem?_eq_none (by omega), Array.getElem?_eq_none (by simp [bv]; omega)]
  rwa [e] at hb

theorem byte_u (d : BitVec 32) (k : Nat) : u d / 2 ^ (8 * k) % 256 = ((byteAt d k).toNat : Int) := by
  unfold u byteAt
  rw [UInt8.toNat_ofNat', Nat.mod_mod, show (256 : Nat) ^ k = 2 ^ (8 * k) from by rw [Nat.pow_mul]]
  simp

set_option maxHeartbeats 1000000 in
set_option maxRecDepth 100000 in
theorem forge_any (w : World) (s t : BitVec 32) :
    Calls Try.prog 13 #[.int .u32 (u s), .int .u32 (u t)] w fun e w' => e = .returned (.agg (bv (forged s t)).toArray) ∧ Fr [] w w' := by
  go_enter Try.func13, Try.ntmps13
  go_wp2_with fail
  refine (table_any _).mono ?_
  rintro e w1 ⟨rfl, hf1⟩
  have HF1 := Lib.hid hf1
  clear hf1
  have HB0 : Hid (Blk (w.alloc (.cells #[.int .u8 0, .int .u8 0, .int .u8 0, .int .u8 0] 28)) w.heap.size 28 #[.int .u8 0, .int .u8 0, .int .u8 0, .int .u8 0]) := Blk.fresh _ _ _
  have HF0 : Hid (Fr [] w w1) := ((Fr.refl [] w).alloc _).tr HF1.out
  have HB1 : Hid (Blk w1 w.heap.size 28 #[.int .u8 0, .int .u8 0, .int .u8 0, .int .u8 0]) := HB0.out.fr HF1.out (by simp)
  clear HB0 HF1
  go_wp2_with fail
  refine (back_any w1).mono ?_
  rintro e w2 ⟨p, q, rfl, hp, hq, hf2⟩
  have HP := Lib.hid hp
  have HQ := Lib.hid hq
  have HF2 : Hid (Fr [] w w2) := HF0.out.tr hf2
  have HB2 : Hid (Blk w2 w.heap.size 28 #[.int .u8 0, .int .u8 0, .int .u8 0, .int .u8 0]) := HB1.out.fr hf2 (by simp)
  clear hp hq hf2 HF0 HB1
  have H0 := Lib.hid (nots_u t)
  go_wp2
  rw [H0.out]
  go_loopw [6, 14] (fun v i wr => ∃ k : Nat, k ≤ 4 ∧ i = .int .i64 k ∧ v = .int .u32 (u (backN k (~~~ t))) ∧ wr = w2) (fun _ i _ => 4 - (intOf i).toNat)
  case atStart => exact ⟨0, Nat.zero_le _, rfl, rfl, rfl⟩
  case round =>
    obtain ⟨k, hk, rfl, rfl, hw⟩ := hrel
    obtain rfl := hw.symm
    by_cases hlt : k < 4
    · go_wp2_with fail
      refine (made_any w2 p q (backN k (~~~ t)) HP.out HQ.out).mono ?_
      rintro e w3 ⟨rfl, rfl⟩
      go_wp2
      go_roundw
      case rel => exact ⟨k + 1, by omega, by go_num, rfl, trivial⟩
      case measure => simp [intOf]; omega
    · obtain rfl : k = 4 := by omega
      have H1 := Lib.hid (nots_u s)
      go_wp2
      rw [H1.out, xor_u]
      generalize hd : backN 4 (~~~ t) ^^^ ~~~ s = d
      have HD : Hid (differs s t = d) := hd
      clear hd
      go_loopw [9, 24] (fun _ i wr2 => ∃ k : Nat, k ≤ 4 ∧ i = .int .i64 k ∧ Row4 wr2 w2.heap.size d k ∧ Blk wr2 w.heap.size 28 #[.int .u8 0, .int .u8 0, .int .u8 0, .int .u8 0] ∧ Fr [] w wr2) (fun _ i _ => 4 - (intOf i).toNat)
      case atStart => exact ⟨0, Nat.zero_le _, rfl, ⟨_, Blk.fresh _ _ _, rfl, fun j hj => by omega⟩, HB2.out.fr ((Fr.refl [] _).alloc _) (by simp), HF2.out.alloc _⟩
      case round =>
        obtain ⟨k, hk, rfl, hrow, hb, hf⟩ := hrel
        have HR := Lib.hid hrow
        have HB3 := Lib.hid hb
        have HF3 := Lib.hid hf
        clear hrow hb hf
        by_cases hlt : k < 4
        · obtain ⟨⟨v, h1⟩, h2, h3⟩ := HR.out.step hlt
          have H3 := Lib.hid h3
          clear h3
          have HBY := Lib.hid (byte_u d k)
          go_wp2
          rw [HBY.out]
          refine ⟨⟨k + 1, by omega, by go_num, H3.out, HB3.out.fr ((Fr.refl [w2.heap.size] wr).setCell (by simp) _) ?_, HF3.out.setCell (.inr HF2.out.size) _⟩, by simp [intOf]; omega⟩
          have := HB2.out.lt
          simp
          omega
        · obtain rfl : k = 4 := by omega
          have hb4 := HR.out.done
          have c0 := hb4.cell 0
          have c1 := hb4.cell 1
          have c2 := hb4.cell 2
          have c3 := hb4.cell 3
          simp only [bv, List.map_cons, List.map_nil, List.getElem?_toArray, List.getElem?_cons_zero, List.getElem?_cons_succ] at c0 c1 c2 c3
          have z0 := HB3.out.cell 0
          have z1 := HB3.out.cell 1
          have z2 := HB3.out.cell 2
          have z3 := HB3.out.cell 3
          simp only [List.getElem?_toArray, List.getElem?_cons_zero, List.getElem?_cons_succ] at z0 z1 z2 z3
          have f0 := HB3.out.frozen 0
          have f1 := HB3.out.frozen 1
          have f2 := HB3.out.frozen 2
          have f3 := HB3.out.frozen 3
          clear hb4
          go_wp2
          have hb5 : Blk ((((wr.setCell ⟨w.heap.size, 0, none⟩ (.int .u8 ((byteAt d 0).toNat : Int))).setCell ⟨w.heap.size, 1, none⟩ (.int .u8 ((byteAt d 1).toNat : Int))).setCell ⟨w.heap.size, 2, none⟩ (.int .u8 ((byteAt d 2).toNat : Int))).setCell ⟨w.heap.size, 3, none⟩ (.int .u8 ((byteAt d 3).toNat : Int)))
              w.heap.size 28 (bv (forged s t)).toArray := by
            have := (((HB3.out.put 0 (.int .u8 ((byteAt d 0).toNat : Int))).put 1 (.int .u8 ((byteAt d 1).toNat : Int))).put 2 (.int .u8 ((byteAt d 2).toNat : Int))).put 3 (.int .u8 ((byteAt d 3).toNat : Int))
            unfold forged
            rw [HD.out]
            exact this
          refine bodyPost_ret (v := .agg (bv (forged s t)).toArray) (results_cell_row Try.results13 _ _ w.heap.size 28 (bv (forged s t)).toArray (0, 0) _ rfl hb5 Try.underlying28 rfl (zero_of_info info28).2) rfl ⟨rfl, ?_⟩
          exact (((HF3.out.setCell (by simp) _).setCell (by simp) _).setCell (by simp) _).setCell (by simp) _

end Go.Proofs.Ytcemljbocaadfaa
