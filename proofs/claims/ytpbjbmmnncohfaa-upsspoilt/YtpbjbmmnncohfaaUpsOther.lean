/-
  Contract of ups' other: what is made of the one file is the other one.
-/
import Derived.Test.YtpbjbmmnncohfaaUpsBits
import Derived.Deep.DeepCutAuto
namespace Go.Proofs.Ytpbjbmmnncohfaa
open Go.RowKit
namespace Ups
open Cp (over over_length)

theorem guardM (op : BinOp) (x y : Operand) (xs ys : Array Value) (w : World) : (eqGuard op 39 x y (.agg xs) (.agg ys)).run Try.prog w = .ok () w :=
  run_eqGuard_agg w op 39 x y xs ys (by kernel_rfl)
theorem eqM (a1 b1 a2 b2 : Int) (w : World) : (Op.equalIn 10000 39 (.agg #[.int .u64 a1, .int .u32 a2]) (.agg #[.int .u64 b1, .int .u32 b2])).run Try.prog w = .ok (a1 == b1 && a2 == b2) w := by
  have u64 := Try.underlying37
  have u32 := Try.underlying29
  have a64 := Try.isAgg37
  have a32 := Try.isAgg29
  have z64 := Try.sizeOf37
  have z32 := Try.sizeOf29
  rw [show (10000 : Nat) = 9999 + 1 from rfl, run_equalIn_struct w 9999 39 _ _ (by kernel_rfl) (by kernel_rfl)]
  simp only [Program.fieldsOf, Try.underlying39, Op.eqFields]
  go_simp
  by_cases h0 : a1 = b1 <;> by_cases h1 : a2 = b2 <;> simp [h0, h1]
theorem eqM_same (A : Nat × BitVec 32) (w : World) : (Op.equalIn 10000 39 (.agg #[.int .u64 (A.1 : Int), .int .u32 (Crc.u A.2)]) (.agg #[.int .u64 (A.1 : Int), .int .u32 (Crc.u A.2)])).run Try.prog w = .ok true w := by
  rw [eqM]; simp
theorem eqM_other (A B : Nat × BitVec 32) (h : A ≠ B) (w : World) : (Op.equalIn 10000 39 (.agg #[.int .u64 (A.1 : Int), .int .u32 (Crc.u A.2)]) (.agg #[.int .u64 (B.1 : Int), .int .u32 (Crc.u B.2)])).run Try.prog w = .ok false w := by
  rw [eqM]
  congr 1
  rw [Bool.eq_false_iff]
  intro hh
  simp at hh
  obtain ⟨a1, a2⟩ := A
  obtain ⟨b1, b2⟩ := B
  simp only at hh
  exact h (by rw [show a1 = b1 by omega, Crc.u_inj hh.2])

theorem xor_ne {x y : UInt8} (h : x ≠ y) : x ^^^ y ≠ 0 := by
  intro e
  apply h
  have h1 := congrArg (fun z => x ^^^ z) e
  simp only [xor_cancel] at h1
  rw [h1]
  simp

/-- What other leaves. -/
def Othered (w : World) (m x : List UInt8) (C : Nat × BitVec 32) (e : Ending) (w' : World) : Prop :=
  Fr [] w w' ∧ ((e = .returned (.tuple #[.slice none 0 0, .int .i64 5]) ∧ ¬ (sum (madeL m x C.1) = C.2 ∧ ¬ Spills m x C.1)) ∨
    ∃ g, e = .returned (.tuple #[.slice (some ⟨g, 0, none⟩) C.1 C.1, .int .i64 0]) ∧ Blk w' g 5 (bv (madeL m x C.1)).toArray ∧ w.heap.size ≤ g ∧ sum (madeL m x C.1) = C.2)

set_option maxRecDepth 100000 in
set_option maxHeartbeats 2000000 in
theorem other_any (w : World) (p g : Nat) (A B C : Nat × BitVec 32) (m x : List UInt8) (R : Option Addr) (n c : Nat) (h : Pt w p g A B m) (hn : x.length = n) (hr : Rd w R x) (hn2 : n ≤ 1000000000) (hC : C.1 ≤ 16777216) (hm : m.length ≤ 16777216) (hmx : m.length ≤ max C.1 n) :
    Calls Try.prog 22 #[.pointer (some ⟨p, 0, none⟩), .slice R n c, mV C] w (Othered w m x C) := by
  obtain ⟨s, hs⟩ : ∃ s, w.heap.size = s := ⟨_, rfl⟩
  have hps : p < s := by have := h.1.lt; omega
  have hgs : g < s := by have := h.2.lt; omega
  obtain ⟨k2, C2⟩ := C
  simp only at hC hmx
  have HBad : Hid (∀ W, Fr [] w W → ¬ (sum (madeL m x k2) = C2 ∧ ¬ Spills m x k2) → Othered w m x (k2, C2) (.returned (.tuple #[.slice none 0 0, .int .i64 5])) W) := Lib.hid fun W h1 h2 => ⟨h1, .inl ⟨rfl, h2⟩⟩
  have HGood : Hid (∀ W j, Fr [] w W → Blk W j 5 (bv (madeL m x k2)).toArray → w.heap.size ≤ j → sum (madeL m x k2) = C2 → Othered w m x (k2, C2) (.returned (.tuple #[.slice (some ⟨j, 0, none⟩) k2 k2, .int .i64 0])) W) := Lib.hid fun W j h1 h2 h3 h4 => ⟨h1, .inr ⟨j, rfl, h2, h3, h4⟩⟩
  generalize Othered w m x (k2, C2) = Q at *
  have hmk := make64 k2 (by omega)
  have HP := Lib.hid h
  have HN := Lib.hid hn
  have HR := Lib.hid hr
  obtain ⟨N, hN⟩ : ∃ N, m.length = N := ⟨_, rfl⟩
  have HM := Lib.hid hN
  rw [hN] at hm hmx
  have HL1 : Hid ((x.take k2).length = Nat.min n k2) := Lib.hid (by rw [List.length_take, hn]; exact Nat.min_comm k2 n)
  have HL2 : Hid (0 + (x.take k2).length ≤ (List.replicate k2 (0 : UInt8)).length) := Lib.hid (by rw [List.length_replicate, List.length_take]; omega)
  obtain ⟨q, hq⟩ : ∃ q, (x.take k2).length = q := ⟨_, rfl⟩
  have HL3 := Lib.hid hq
  have HOl : Hid ((over (List.replicate k2 (0 : UInt8)) 0 (x.take k2)).length = k2) := Lib.hid (over_zeros_length (x.take k2) k2 (by rw [List.length_take]; omega))
  have HMade : Hid (xored (over (List.replicate k2 0) 0 (x.take k2)) m N = madeL m x k2) := Lib.hid (xored_made m x k2 N (by omega))
  obtain ⟨w0, hw0⟩ : ∃ w0, w0 = (w.alloc (.cells #[.int .u64 (k2 : Int), .int .u32 (Crc.u C2)] 39)).alloc (.cells (bv (List.replicate k2 0)).toArray 5) := ⟨_, rfl⟩
  have hF0 : Fr [] w w0 := by rw [hw0]; exact ((Fr.refl [] w).alloc _).alloc _
  have hB0 : Blk w0 s 39 #[.int .u64 (k2 : Int), .int .u32 (Crc.u C2)] := by
    rw [hw0, ← hs]
    exact (Blk.fresh w 39 #[.int .u64 (k2 : Int), .int .u32 (Crc.u C2)]).fr ((Fr.refl [] _).alloc _) (by simp)
  have hB1 : Blk w0 (s + 1) 5 (bv (List.replicate k2 0)).toArray := by
    have h1 := Blk.fresh (w.alloc (.cells #[.int .u64 (k2 : Int), .int .u32 (Crc.u C2)] 39)) 5 (bv (List.replicate k2 0)).toArray
    rw [World.size_alloc, hs] at h1
    rw [hw0]
    exact h1
  have HW0 := Lib.hid hw0
  have HF0 := Lib.hid hF0
  have HB0 := Lib.hid hB0
  have HB1 := Lib.hid hB1
  have HR0 := Lib.hid (hr.later hF0 (by simp))
  unfold mV
  clear h hn hr hN hq hw0 hF0 hB0 hB1
  go_enter Try.func22, Try.ntmps22
  go_upto_region 2 with fail
  rw [← HW0.out]
  go_wp2_with (refine Cp.wpList_copyB _ rfl (.tmp 14) (.tmp 15) 22 rfl Try.underlying22 Cp.size5 (some ⟨s + 1, 0, none⟩) R k2 k2 n c rfl rfl (s + 1) 0 (List.replicate k2 0) HB1.out (x.take k2) HL1.out (fun _ => rfl) (rd_take HR0.out k2) HL2.out q HL3.out ?_)
  intro w1 hb1 hf1
  have HFr1 : Hid (Fr [] w w1) := Lib.hid (HF0.out.trans hf1 (by simp; omega))
  have HO1 := Lib.hid hb1
  have HM1 := Lib.hid (HB0.out.fr hf1 (by simp))
  clear hb1 hf1 HB0 HB1 HR0 HL1 HL2 HL3 HF0 HW0 hmk
  generalize over (List.replicate k2 (0 : UInt8)) 0 (x.take k2) = O at *
  have c4 : w1.cell? ⟨p, 4, none⟩ = some (.slice (some ⟨g, 0, none⟩) N N) := by
    have h1 := (HP.out.1.fr HFr1.out (by simp)).cell 4
    rw [HM.out] at h1
    simpa using h1
  go_wp2_with fail
  clear c4
  go_loopw [22] (fun i wr => ∃ k : Nat, k ≤ N ∧ i = .int .i64 (k : Int) ∧ Blk wr (s + 1) 5 (bv (xored O m k)).toArray ∧ Blk wr s 39 #[.int .u64 (k2 : Int), .int .u32 (Crc.u C2)] ∧ Fr [] w wr) (fun i _ => N - (intOf i).toNat)
  case atStart => exact ⟨0, Nat.zero_le _, rfl, by rw [xored_zero]; exact HO1.out, HM1.out, HFr1.out⟩
  case round =>
    obtain ⟨k, hk, rfl, ho, hmb, hf⟩ := hrel
    have HO := Lib.hid ho
    have HMb := Lib.hid hmb
    have HF := Lib.hid hf
    clear HO1 HM1 HFr1
    by_cases hlt : k < N
    · have hlt' : (k : Int) < N := by omega
      obtain ⟨y, hy⟩ : ∃ y, m[k]? = some y := ⟨_, List.getElem?_eq_getElem (by rw [HM.out]; exact hlt)⟩
      have cy := blk_get (HP.out.2.fr hf (by simp)) k y hy
      have HY := Lib.hid (at0_get m k y hy)
      have hy8 := y.toNat_lt
      clear ho hmb hf hy
      by_cases hin : k < k2
      · have hin' : (k : Int) < k2 := by omega
        have cm := blk_get HO.out k _ (xored_at O m k (by rw [HOl.out]; exact hin))
        have zm := HO.out.frozen k
        have HS := Lib.hid (xored_succ O m k (by rw [HOl.out]; exact hin))
        rw [HY.out] at HS
        generalize at0 O k = v at *
        have HXor := Lib.hid (xor_byte v y)
        go_wp2
        go_roundw
        case rel =>
          have hs2 : Fr [s + 1] wr (wr.setCell ⟨s + 1, k, none⟩ (.int .u8 ((v ^^^ y).toNat : Int))) := (Fr.refl [s + 1] wr).setCell (by simp) _
          rw [HXor.out]
          refine ⟨k + 1, by omega, by go_num, ?_, HMb.out.fr hs2 (by simp), HF.out.trans hs2 (by simp; omega)⟩
          rw [HS.out]
          exact blk_put HO.out k (v ^^^ y)
        case measure => simp [intOf]; omega
      · have hin' : ¬ (k : Int) < k2 := by omega
        have hkn : k < n := by omega
        have HPast := Lib.hid (xored_past O m k (by rw [HOl.out]; omega))
        by_cases hy0 : y = 0
        · subst hy0
          go_wp2
          go_roundw
          case rel => exact ⟨k + 1, by omega, by go_num, by rw [HPast.out]; exact HO.out, HMb.out, HF.out⟩
          case measure => simp [intOf]; omega
        · have hyz : ((y.toNat : Int) != 0) = true := by simp; intro h; exact hy0 (UInt8.toNat_inj.1 (by simpa using h))
          obtain ⟨bx, ox, z, rfl, hz, cz⟩ := (HR.out.later HF.out (by simp)).at k (by rw [HN.out]; exact hkn)
          have hkn' : (k : Int) < n := by omega
          have HZ := Lib.hid (at0_get x k z hz)
          have hz8 := z.toNat_lt
          clear hz
          by_cases hzy : z = y
          · subst hzy
            go_wp2
            go_roundw
            case rel => exact ⟨k + 1, by omega, by go_num, by rw [HPast.out]; exact HO.out, HMb.out, HF.out⟩
            case measure => simp [intOf]; omega
          · have hzy' : ((z.toNat : Int) != (y.toNat : Int)) = true := by simp; intro h; exact hzy (UInt8.toNat_inj.1 (by omega))
            have HX := Lib.hid (HBad.out wr HF.out (fun hh => hh.2 ⟨k, by omega, by rw [HY.out]; exact hy0, by rw [HY.out, HZ.out]; exact xor_ne hzy⟩))
            go_wp2
            exact HX.out
    · obtain rfl : k = N := by omega
      have hlt' : ¬ (k : Int) < k := by omega
      rw [HMade.out] at ho
      have HO' := Lib.hid ho
      have hml := madeL_length m x k2
      have HML := Lib.hid hml
      have HSm : Hid (meas (madeL m x k2) = (k2, sum (madeL m x k2))) := Lib.hid (by unfold meas; rw [hml])
      clear ho hmb hf HO hml
      generalize madeL m x k2 = Z at *
      have CM : Hid (∀ W, Fr [] wr W → Calls Try.prog 14 #[.slice (some ⟨s + 1, 0, none⟩) k2 k2] W fun e w' => e = .returned (.agg #[.int .u64 (k2 : Int), .int .u32 (Crc.u (sum Z))]) ∧ Fr [] W w') := Lib.hid (by
        intro W hW
        have h1 := measured_any W (some ⟨s + 1, 0, none⟩) k2 k2 Z HML.out ((rd_blk HO'.out).later hW (by simp)) (by omega)
        rw [HSm.out] at h1
        exact h1)
      have hM0 := HMb.out.cell 0
      have hM1 := HMb.out.cell 1
      simp at hM0 hM1
      have hg := guardM
      have he := eqM
      obtain ⟨V, hV⟩ : ∃ V, sum Z = V := ⟨_, rfl⟩
      rw [hV] at HBad HGood CM
      clear hV HSm
      by_cases hS : V = C2
      · subst hS
        go_upto_region 11 with fail
        go_cut [52] (fun s52 wx => s52 = .bool false ∧ Fr [] wr wx)
        case first =>
          go_region_law (go_simp; go_at_call 14; (with_reducible refine (CM.out wr.drew (Fr.refl [] wr).drew).mono ?_); rintro e w2 ⟨rfl, hf2⟩; have HF2 : Hid (Fr [] wr w2) := Lib.hid ((Fr.refl [] wr).drew.tr hf2); have hb2 := HMb.out.fr HF2.out (by simp); have d0 := hb2.cell 0; have d1 := hb2.cell 1; simp at d0 d1; clear hf2 hb2)
          all_goals
            go_wp2_with fail
            go_meet
            exact ⟨rfl, HF2.out⟩
        case rest =>
          obtain ⟨rfl, hf2⟩ := hcut
          have HX := Lib.hid (HGood.out wc (s + 1) (HF.out.tr hf2) (HO'.out.fr hf2 (by simp)) (by omega) rfl)
          clear hf2
          go_wp2
          exact HX.out
      · have hb : (Crc.u V == Crc.u C2) = false := by simp; exact fun h => hS (Crc.u_inj h)
        go_upto_region 11 with fail
        go_cut [52] (fun s52 wx => s52 = .bool true ∧ Fr [] wr wx)
        case first =>
          go_region_law (go_simp; go_at_call 14; (with_reducible refine (CM.out wr.drew (Fr.refl [] wr).drew).mono ?_); rintro e w2 ⟨rfl, hf2⟩; have HF2 : Hid (Fr [] wr w2) := Lib.hid ((Fr.refl [] wr).drew.tr hf2); have hb2 := HMb.out.fr HF2.out (by simp); have d0 := hb2.cell 0; have d1 := hb2.cell 1; simp at d0 d1; clear hf2 hb2)
          all_goals
            go_wp2_with fail
            go_meet
            exact ⟨by simp, HF2.out⟩
        case rest =>
          obtain ⟨rfl, hf2⟩ := hcut
          have HX := Lib.hid (HBad.out wc (HF.out.tr hf2) (fun hh => hS hh.1))
          clear hf2
          go_wp2
          exact HX.out

end Ups
end Go.Proofs.Ytpbjbmmnncohfaa
