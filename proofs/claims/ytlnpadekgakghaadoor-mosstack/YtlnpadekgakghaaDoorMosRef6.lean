/-
  Contracts of the document's CPU: what is done with A, loads and stores. Conditions: the state is one that there is, few bytes were written.
-/
import Derived.Test.YtlnpadekgakghaaDoorMosRef5b
namespace Go.Proofs.YtlnpadekgakghaaDoor
open Go.RowKit
namespace Ms
open Al (byte of_byte)
set_option linter.unusedVariables false

theorem adr_rd {β : Type} [Io β] (mode : Int) (S : St β) : 0 ≤ (adr mode S).rd ∧ (adr mode S).rd ≤ 100 := by
  unfold adr
  repeat' split
  all_goals first | (simp only [added]; omega) | omega
theorem raddress_any (w : World) (B q : Nat) (v : Value) (S : S14) (mode : Int) (n : Nat) (H : RefAt w B q v S) (hO : Ok n S) (h0 : 0 ≤ mode) (h8 : mode ≤ 8) (hB : B ≤ w.heap.size) :
    Calls Tryd.prog 74 #[.pointer (some ⟨q, 0, none⟩), .int .i64 mode] w (RDone w B q v ⟨S.a, S.x, S.y, S.s, S.p, adrPC mode S, S.h, adrB mode S⟩ (adV (adr mode S))) := by
  have : mode = 0 ∨ mode = 1 ∨ mode = 2 ∨ mode = 3 ∨ mode = 4 ∨ mode = 5 ∨ mode = 6 ∨ mode = 7 ∨ mode = 8 := by omega
  rcases this with rfl | rfl | rfl | rfl | rfl | rfl | rfl | rfl | rfl
  · exact raddress0 w B q v S n H hO hB
  · exact raddress1 w B q v S n H hO hB
  · exact raddress2 w B q v S n H hO hB
  · exact raddress3 w B q v S n H hO hB
  · exact raddress4 w B q v S n H hO hB
  · exact raddress5 w B q v S n H hO hB
  · exact raddress6 w B q v S n H hO hB
  · exact raddress7 w B q v S n H hO hB
  · exact raddress8 w B q v S n H hO hB

set_option maxRecDepth 100000 in
set_option maxHeartbeats 4000000 in
theorem rmain0 (w : World) (B q : Nat) (v : Value) (S : S14) (n : Nat) (mode : Int) (H : RefAt w B q v S) (hO : Ok n S) (hn : n + 2 < 1000000000) (h0 : 0 ≤ mode) (h8 : mode ≤ 8) (hB : B ≤ w.heap.size) :
    Calls Tryd.prog 48 #[.pointer (some ⟨q, 0, none⟩), .int .i64 0, .int .i64 mode] w (RDone w B q v (main 0 mode S) (.int .i64 (mainN 0 mode S))) := by
  have HO := Lib.hid hO
  obtain ⟨a, x, y, s, p, pc, h, b⟩ := S
  have HAd := Lib.hid (raddress_any w B q v ⟨a, x, y, s, p, pc, h, b⟩ mode n H hO h0 h8 hB)
  have HuA := Lib.hid (adr_u16 mode hO)
  have HOA : Hid (Ok n (⟨a, x, y, s, p, adrPC mode (⟨a, x, y, s, p, pc, h, b⟩ : S14), h, adrB mode (⟨a, x, y, s, p, pc, h, b⟩ : S14)⟩ : S14)) := Lib.hid (Ok.mk' hO.a hO.x hO.y hO.s hO.pf (adrPC_u16 mode) (adrB_ok mode hO))
  obtain ⟨rd0, rd1⟩ := adr_rd mode (⟨a, x, y, s, p, pc, h, b⟩ : S14)
  have hS : main 0 mode (⟨a, x, y, s, p, pc, h, b⟩ : S14) = ⟨Go.bits .or .u8 a (Io.rv (adrB mode (⟨a, x, y, s, p, pc, h, b⟩ : S14)) (adr mode (⟨a, x, y, s, p, pc, h, b⟩ : S14)).ad), x, y, s, zn p (Go.bits .or .u8 a (Io.rv (adrB mode (⟨a, x, y, s, p, pc, h, b⟩ : S14)) (adr mode (⟨a, x, y, s, p, pc, h, b⟩ : S14)).ad)), adrPC mode (⟨a, x, y, s, p, pc, h, b⟩ : S14), h, adrB mode (⟨a, x, y, s, p, pc, h, b⟩ : S14)⟩ := rfl
  have hM : mainN 0 mode (⟨a, x, y, s, p, pc, h, b⟩ : S14) = (adr mode (⟨a, x, y, s, p, pc, h, b⟩ : S14)).rd + cr1 (adr mode (⟨a, x, y, s, p, pc, h, b⟩ : S14)).cr := rfl
  rw [hS, hM]
  have hv : byte (Io.rv (adrB mode (⟨a, x, y, s, p, pc, h, b⟩ : S14)) (adr mode (⟨a, x, y, s, p, pc, h, b⟩ : S14)).ad) := Io.rv_ok _ (adrB_ok mode hO)
  clear hS hM
  have HHl := Lib.hid (foot_lt H)
  change Hid (Calls Tryd.prog 74 #[.pointer (some ⟨q, 0, none⟩), .int .i64 mode] w (RDone w B q v ⟨a, x, y, s, p, adrPC mode (⟨a, x, y, s, p, pc, h, b⟩ : S14), h, adrB mode (⟨a, x, y, s, p, pc, h, b⟩ : S14)⟩ (adV (adr mode (⟨a, x, y, s, p, pc, h, b⟩ : S14))))) at HAd
  generalize adrPC mode (⟨a, x, y, s, p, pc, h, b⟩ : S14) = PC at *
  generalize adrB mode (⟨a, x, y, s, p, pc, h, b⟩ : S14) = bb at *
  generalize adr mode (⟨a, x, y, s, p, pc, h, b⟩ : S14) = D at *
  obtain ⟨ad, cr, rd, put, chg⟩ := D
  simp only at rd0 rd1 HuA
  change Hid (Calls Tryd.prog 74 #[.pointer (some ⟨q, 0, none⟩), .int .i64 mode] w (RDone w B q v ⟨a, x, y, s, p, PC, h, bb⟩ (.agg #[.int .u16 ad, .bool cr, .int .i64 rd, .int .i64 put, .int .i64 chg]))) at HAd
  have HVM : Hid (bb.m ad = Io.rv bb ad) := Lib.hid rfl
  generalize Io.rv bb ad = M at *
  have HM := Lib.hid hv
  obtain ⟨N, hN⟩ : ∃ z, rd + cr1 cr = z := ⟨_, rfl⟩
  have HN0 : Hid (cr = false → N = rd) := Lib.hid (by rintro rfl; rw [← hN]; show rd + 0 = rd; omega)
  have HN1 : Hid (cr = true → N = rd + 1) := Lib.hid (by rintro rfl; exact hN.symm)
  simp only
  rw [hN]
  have HRb : Hid (byte (Go.bits .or .u8 a M)) := Lib.hid (wrap_byte _)
  have HNn := Lib.hid hn
  have HB0 := Lib.hid hB
  have m0 : 0 ≤ M := hv.1
  have m1 : M < 256 := hv.2
  clear hv hN
  obtain ⟨a0, a1⟩ : 0 ≤ a ∧ a < 256 := hO.a
  clear H hO hn hB h0 h8 HHl
  go_enter Tryd.func48, Tryd.ntmps48
  go_wp2_with fail
  (with_reducible refine (HAd.out).mono ?_)
  intro e w1 hd
  obtain ⟨rfl, v1, hr, hf, hl⟩ := hd
  have hg : ∃ g, w1.heap.size = g := ⟨_, rfl⟩
  obtain ⟨g, hg⟩ := hg
  have hxb := Blk.fresh w1 99 #[.int .u16 ad, .bool cr, .int .i64 rd, .int .i64 put, .int .i64 chg]
  rw [hg] at hxb
  have hal : Fr [] w1 (w1.alloc (.cells #[.int .u16 ad, .bool cr, .int .i64 rd, .int .i64 put, .int .i64 chg] 99)) := (Fr.refl [] w1).alloc _
  have HX := Lib.hid hxb
  have HXf : Hid (g ∉ foot q v1) := Lib.hid (fun hm => by have := foot_lt hr g hm; omega)
  have HR1 := Lib.hid (hr.fr hal (by simp))
  have HW1 : Hid (Fr (foot q v) w (w1.alloc (.cells #[.int .u16 ad, .bool cr, .int .i64 rd, .int .i64 put, .int .i64 chg] 99))) := Lib.hid (hf.tr hal.nil)
  have HWL := Lib.hid hl
  have HF1 : Hid (Fr (foot q v1) (w1.alloc (.cells #[.int .u16 ad, .bool cr, .int .i64 rd, .int .i64 put, .int .i64 chg] 99)) (w1.alloc (.cells #[.int .u16 ad, .bool cr, .int .i64 rd, .int .i64 put, .int .i64 chg] 99))) := Lib.hid (Fr.refl _ _)
  have HL1 : Hid (Lies (w1.alloc (.cells #[.int .u16 ad, .bool cr, .int .i64 rd, .int .i64 put, .int .i64 chg] 99)) v1 v1) := Lib.hid (Lies.refl _ _)
  have HB1 := Lib.hid (Nat.le_trans HB0.out HW1.out.size)
  clear hr hf hl hxb hal HAd
  go_upto_region 5 with fail
  generalize w1.alloc _ = wA at *
  clear hg HB0
  have HB0 := HB1
  obtain ⟨e0, e1, e2, e3, e4⟩ := blk5 HX.out
  clear e1 e2 e3 e4
  go_wp2_with fail
  (with_reducible refine (rread_any wA B q v1 ⟨a, x, y, s, p, PC, h, bb⟩ ad HR1.out HuA.out).mono ?_)
  rintro e w2 ⟨rfl, rfl⟩
  rw [show (St.b (⟨a, x, y, s, p, PC, h, bb⟩ : S14)).m ad = M from HVM.out]
  clear e0
  obtain ⟨c0, c1, c2, c3, c4, c5, c6⟩ := regs HR1.out
  have f0 := RefAt.frozen HR1.out 0
  clear c1 c2 c3 c4 c5 c6
  have HR2 : Hid (RefAt (wA.setCell ⟨q, 0, none⟩ (.int .u8 (Go.bits .or .u8 a M))) B q v1 ⟨Go.bits .or .u8 a M, x, y, s, p, PC, h, bb⟩) := Lib.hid (put_a HR1.out _)
  have HF2 : Hid (Fr (foot q v1) wA (wA.setCell ⟨q, 0, none⟩ (.int .u8 (Go.bits .or .u8 a M)))) := Lib.hid (HF1.out.setCell (by simp [foot]) _)
  have HL2 := Lib.hid HL1.out
  have HB2 : Hid (B ≤ (wA.setCell ⟨q, 0, none⟩ (.int .u8 (Go.bits .or .u8 a M))).heap.size) := Lib.hid (Nat.le_trans HB1.out HF2.out.size)
  go_upto_region 27 with fail
  clear c0 f0
  generalize wA.setCell _ _ = w2 at *
  obtain ⟨c0, c1, c2, c3, c4, c5, c6⟩ := regs HR2.out
  clear c1 c2 c3 c4 c5 c6
  go_wp2_with fail
  (with_reducible refine (rzn_any w2 B q v1 ⟨Go.bits .or .u8 a M, x, y, s, p, PC, h, bb⟩ (Go.bits .or .u8 a M) HR2.out HOA.out.pf HRb.out HB2.out).mono ?_)
  intro e w3 hd
  obtain ⟨rfl, v3, hr, hf, hl⟩ := rdone_tr HF2.out HL2.out hd
  change RefAt w3 B q v3 ⟨Go.bits .or .u8 a M, x, y, s, zn p (Go.bits .or .u8 a M), PC, h, bb⟩ at hr
  have HR3 := Lib.hid hr
  have HF3 := Lib.hid hf
  have HL3 := Lib.hid hl
  have HB3 := Lib.hid (Nat.le_trans HB0.out hf.size)
  clear hd hr hf hl c0
  obtain ⟨e0, e1, e2, e3, e4⟩ := blk5 (HX.out.fr HF3.out HXf.out)
  clear e0 e3 e4
  cases cr
  · obtain rfl := HN0.out rfl
    go_wp2
    go_ret
    exact rdone_tr HW1.out HWL.out ⟨rfl, v3, HR3.out, HF3.out, HL3.out⟩
  · obtain rfl := HN1.out rfl
    go_wp2
    go_ret
    exact rdone_tr HW1.out HWL.out ⟨rfl, v3, HR3.out, HF3.out, HL3.out⟩

set_option maxRecDepth 100000 in
set_option maxHeartbeats 4000000 in
theorem rmain1 (w : World) (B q : Nat) (v : Value) (S : S14) (n : Nat) (mode : Int) (H : RefAt w B q v S) (hO : Ok n S) (hn : n + 2 < 1000000000) (h0 : 0 ≤ mode) (h8 : mode ≤ 8) (hB : B ≤ w.heap.size) :
    Calls Tryd.prog 48 #[.pointer (some ⟨q, 0, none⟩), .int .i64 1, .int .i64 mode] w (RDone w B q v (main 1 mode S) (.int .i64 (mainN 1 mode S))) := by
  have HO := Lib.hid hO
  obtain ⟨a, x, y, s, p, pc, h, b⟩ := S
  have HAd := Lib.hid (raddress_any w B q v ⟨a, x, y, s, p, pc, h, b⟩ mode n H hO h0 h8 hB)
  have HuA := Lib.hid (adr_u16 mode hO)
  have HOA : Hid (Ok n (⟨a, x, y, s, p, adrPC mode (⟨a, x, y, s, p, pc, h, b⟩ : S14), h, adrB mode (⟨a, x, y, s, p, pc, h, b⟩ : S14)⟩ : S14)) := Lib.hid (Ok.mk' hO.a hO.x hO.y hO.s hO.pf (adrPC_u16 mode) (adrB_ok mode hO))
  obtain ⟨rd0, rd1⟩ := adr_rd mode (⟨a, x, y, s, p, pc, h, b⟩ : S14)
  have hS : main 1 mode (⟨a, x, y, s, p, pc, h, b⟩ : S14) = ⟨Go.bits .and .u8 a (Io.rv (adrB mode (⟨a, x, y, s, p, pc, h, b⟩ : S14)) (adr mode (⟨a, x, y, s, p, pc, h, b⟩ : S14)).ad), x, y, s, zn p (Go.bits .and .u8 a (Io.rv (adrB mode (⟨a, x, y, s, p, pc, h, b⟩ : S14)) (adr mode (⟨a, x, y, s, p, pc, h, b⟩ : S14)).ad)), adrPC mode (⟨a, x, y, s, p, pc, h, b⟩ : S14), h, adrB mode (⟨a, x, y, s, p, pc, h, b⟩ : S14)⟩ := rfl
  have hM : mainN 1 mode (⟨a, x, y, s, p, pc, h, b⟩ : S14) = (adr mode (⟨a, x, y, s, p, pc, h, b⟩ : S14)).rd + cr1 (adr mode (⟨a, x, y, s, p, pc, h, b⟩ : S14)).cr := rfl
  rw [hS, hM]
  have hv : byte (Io.rv (adrB mode (⟨a, x, y, s, p, pc, h, b⟩ : S14)) (adr mode (⟨a, x, y, s, p, pc, h, b⟩ : S14)).ad) := Io.rv_ok _ (adrB_ok mode hO)
  clear hS hM
  have HHl := Lib.hid (foot_lt H)
  change Hid (Calls Tryd.prog 74 #[.pointer (some ⟨q, 0, none⟩), .int .i64 mode] w (RDone w B q v ⟨a, x, y, s, p, adrPC mode (⟨a, x, y, s, p, pc, h, b⟩ : S14), h, adrB mode (⟨a, x, y, s, p, pc, h, b⟩ : S14)⟩ (adV (adr mode (⟨a, x, y, s, p, pc, h, b⟩ : S14))))) at HAd
  generalize adrPC mode (⟨a, x, y, s, p, pc, h, b⟩ : S14) = PC at *
  generalize adrB mode (⟨a, x, y, s, p, pc, h, b⟩ : S14) = bb at *
  generalize adr mode (⟨a, x, y, s, p, pc, h, b⟩ : S14) = D at *
  obtain ⟨ad, cr, rd, put, chg⟩ := D
  simp only at rd0 rd1 HuA
  change Hid (Calls Tryd.prog 74 #[.pointer (some ⟨q, 0, none⟩), .int .i64 mode] w (RDone w B q v ⟨a, x, y, s, p, PC, h, bb⟩ (.agg #[.int .u16 ad, .bool cr, .int .i64 rd, .int .i64 put, .int .i64 chg]))) at HAd
  have HVM : Hid (bb.m ad = Io.rv bb ad) := Lib.hid rfl
  generalize Io.rv bb ad = M at *
  have HM := Lib.hid hv
  obtain ⟨N, hN⟩ : ∃ z, rd + cr1 cr = z := ⟨_, rfl⟩
  have HN0 : Hid (cr = false → N = rd) := Lib.hid (by rintro rfl; rw [← hN]; show rd + 0 = rd; omega)
  have HN1 : Hid (cr = true → N = rd + 1) := Lib.hid (by rintro rfl; exact hN.symm)
  simp only
  rw [hN]
  have HRb : Hid (byte (Go.bits .and .u8 a M)) := Lib.hid (wrap_byte _)
  have HNn := Lib.hid hn
  have HB0 := Lib.hid hB
  have m0 : 0 ≤ M := hv.1
  have m1 : M < 256 := hv.2
  clear hv hN
  obtain ⟨a0, a1⟩ : 0 ≤ a ∧ a < 256 := hO.a
  clear H hO hn hB h0 h8 HHl
  go_enter Tryd.func48, Tryd.ntmps48
  go_wp2_with fail
  (with_reducible refine (HAd.out).mono ?_)
  intro e w1 hd
  obtain ⟨rfl, v1, hr, hf, hl⟩ := hd
  have hg : ∃ g, w1.heap.size = g := ⟨_, rfl⟩
  obtain ⟨g, hg⟩ := hg
  have hxb := Blk.fresh w1 99 #[.int .u16 ad, .bool cr, .int .i64 rd, .int .i64 put, .int .i64 chg]
  rw [hg] at hxb
  have hal : Fr [] w1 (w1.alloc (.cells #[.int .u16 ad, .bool cr, .int .i64 rd, .int .i64 put, .int .i64 chg] 99)) := (Fr.refl [] w1).alloc _
  have HX := Lib.hid hxb
  have HXf : Hid (g ∉ foot q v1) := Lib.hid (fun hm => by have := foot_lt hr g hm; omega)
  have HR1 := Lib.hid (hr.fr hal (by simp))
  have HW1 : Hid (Fr (foot q v) w (w1.alloc (.cells #[.int .u16 ad, .bool cr, .int .i64 rd, .int .i64 put, .int .i64 chg] 99))) := Lib.hid (hf.tr hal.nil)
  have HWL := Lib.hid hl
  have HF1 : Hid (Fr (foot q v1) (w1.alloc (.cells #[.int .u16 ad, .bool cr, .int .i64 rd, .int .i64 put, .int .i64 chg] 99)) (w1.alloc (.cells #[.int .u16 ad, .bool cr, .int .i64 rd, .int .i64 put, .int .i64 chg] 99))) := Lib.hid (Fr.refl _ _)
  have HL1 : Hid (Lies (w1.alloc (.cells #[.int .u16 ad, .bool cr, .int .i64 rd, .int .i64 put, .int .i64 chg] 99)) v1 v1) := Lib.hid (Lies.refl _ _)
  have HB1 := Lib.hid (Nat.le_trans HB0.out HW1.out.size)
  clear hr hf hl hxb hal HAd
  go_upto_region 5 with fail
  generalize w1.alloc _ = wA at *
  clear hg HB0
  have HB0 := HB1
  obtain ⟨e0, e1, e2, e3, e4⟩ := blk5 HX.out
  clear e1 e2 e3 e4
  go_wp2_with fail
  (with_reducible refine (rread_any wA B q v1 ⟨a, x, y, s, p, PC, h, bb⟩ ad HR1.out HuA.out).mono ?_)
  rintro e w2 ⟨rfl, rfl⟩
  rw [show (St.b (⟨a, x, y, s, p, PC, h, bb⟩ : S14)).m ad = M from HVM.out]
  clear e0
  obtain ⟨c0, c1, c2, c3, c4, c5, c6⟩ := regs HR1.out
  have f0 := RefAt.frozen HR1.out 0
  clear c1 c2 c3 c4 c5 c6
  have HR2 : Hid (RefAt (wA.setCell ⟨q, 0, none⟩ (.int .u8 (Go.bits .and .u8 a M))) B q v1 ⟨Go.bits .and .u8 a M, x, y, s, p, PC, h, bb⟩) := Lib.hid (put_a HR1.out _)
  have HF2 : Hid (Fr (foot q v1) wA (wA.setCell ⟨q, 0, none⟩ (.int .u8 (Go.bits .and .u8 a M)))) := Lib.hid (HF1.out.setCell (by simp [foot]) _)
  have HL2 := Lib.hid HL1.out
  have HB2 : Hid (B ≤ (wA.setCell ⟨q, 0, none⟩ (.int .u8 (Go.bits .and .u8 a M))).heap.size) := Lib.hid (Nat.le_trans HB1.out HF2.out.size)
  go_upto_region 27 with fail
  clear c0 f0
  generalize wA.setCell _ _ = w2 at *
  obtain ⟨c0, c1, c2, c3, c4, c5, c6⟩ := regs HR2.out
  clear c1 c2 c3 c4 c5 c6
  go_wp2_with fail
  (with_reducible refine (rzn_any w2 B q v1 ⟨Go.bits .and .u8 a M, x, y, s, p, PC, h, bb⟩ (Go.bits .and .u8 a M) HR2.out HOA.out.pf HRb.out HB2.out).mono ?_)
  intro e w3 hd
  obtain ⟨rfl, v3, hr, hf, hl⟩ := rdone_tr HF2.out HL2.out hd
  change RefAt w3 B q v3 ⟨Go.bits .and .u8 a M, x, y, s, zn p (Go.bits .and .u8 a M), PC, h, bb⟩ at hr
  have HR3 := Lib.hid hr
  have HF3 := Lib.hid hf
  have HL3 := Lib.hid hl
  have HB3 := Lib.hid (Nat.le_trans HB0.out hf.size)
  clear hd hr hf hl c0
  obtain ⟨e0, e1, e2, e3, e4⟩ := blk5 (HX.out.fr HF3.out HXf.out)
  clear e0 e3 e4
  cases cr
  · obtain rfl := HN0.out rfl
    go_wp2
    go_ret
    exact rdone_tr HW1.out HWL.out ⟨rfl, v3, HR3.out, HF3.out, HL3.out⟩
  · obtain rfl := HN1.out rfl
    go_wp2
    go_ret
    exact rdone_tr HW1.out HWL.out ⟨rfl, v3, HR3.out, HF3.out, HL3.out⟩

set_option maxRecDepth 100000 in
set_option maxHeartbeats 4000000 in
theorem rmain2 (w : World) (B q : Nat) (v : Value) (S : S14) (n : Nat) (mode : Int) (H : RefAt w B q v S) (hO : Ok n S) (hn : n + 2 < 1000000000) (h0 : 0 ≤ mode) (h8 : mode ≤ 8) (hB : B ≤ w.heap.size) :
    Calls Tryd.prog 48 #[.pointer (some ⟨q, 0, none⟩), .int .i64 2, .int .i64 mode] w (RDone w B q v (main 2 mode S) (.int .i64 (mainN 2 mode S))) := by
  have HO := Lib.hid hO
  obtain ⟨a, x, y, s, p, pc, h, b⟩ := S
  have HAd := Lib.hid (raddress_any w B q v ⟨a, x, y, s, p, pc, h, b⟩ mode n H hO h0 h8 hB)
  have HuA := Lib.hid (adr_u16 mode hO)
  have HOA : Hid (Ok n (⟨a, x, y, s, p, adrPC mode (⟨a, x, y, s, p, pc, h, b⟩ : S14), h, adrB mode (⟨a, x, y, s, p, pc, h, b⟩ : S14)⟩ : S14)) := Lib.hid (Ok.mk' hO.a hO.x hO.y hO.s hO.pf (adrPC_u16 mode) (adrB_ok mode hO))
  obtain ⟨rd0, rd1⟩ := adr_rd mode (⟨a, x, y, s, p, pc, h, b⟩ : S14)
  have hS : main 2 mode (⟨a, x, y, s, p, pc, h, b⟩ : S14) = ⟨Go.bits .xor .u8 a (Io.rv (adrB mode (⟨a, x, y, s, p, pc, h, b⟩ : S14)) (adr mode (⟨a, x, y, s, p, pc, h, b⟩ : S14)).ad), x, y, s, zn p (Go.bits .xor .u8 a (Io.rv (adrB mode (⟨a, x, y, s, p, pc, h, b⟩ : S14)) (adr mode (⟨a, x, y, s, p, pc, h, b⟩ : S14)).ad)), adrPC mode (⟨a, x, y, s, p, pc, h, b⟩ : S14), h, adrB mode (⟨a, x, y, s, p, pc, h, b⟩ : S14)⟩ := rfl
  have hM : mainN 2 mode (⟨a, x, y, s, p, pc, h, b⟩ : S14) = (adr mode (⟨a, x, y, s, p, pc, h, b⟩ : S14)).rd + cr1 (adr mode (⟨a, x, y, s, p, pc, h, b⟩ : S14)).cr := rfl
  rw [hS, hM]
  have hv : byte (Io.rv (adrB mode (⟨a, x, y, s, p, pc, h, b⟩ : S14)) (adr mode (⟨a, x, y, s, p, pc, h, b⟩ : S14)).ad) := Io.rv_ok _ (adrB_ok mode hO)
  clear hS hM
  have HHl := Lib.hid (foot_lt H)
  change Hid (Calls Tryd.prog 74 #[.pointer (some ⟨q, 0, none⟩), .int .i64 mode] w (RDone w B q v ⟨a, x, y, s, p, adrPC mode (⟨a, x, y, s, p, pc, h, b⟩ : S14), h, adrB mode (⟨a, x, y, s, p, pc, h, b⟩ : S14)⟩ (adV (adr mode (⟨a, x, y, s, p, pc, h, b⟩ : S14))))) at HAd
  generalize adrPC mode (⟨a, x, y, s, p, pc, h, b⟩ : S14) = PC at *
  generalize adrB mode (⟨a, x, y, s, p, pc, h, b⟩ : S14) = bb at *
  generalize adr mode (⟨a, x, y, s, p, pc, h, b⟩ : S14) = D at *
  obtain ⟨ad, cr, rd, put, chg⟩ := D
  simp only at rd0 rd1 HuA
  change Hid (Calls Tryd.prog 74 #[.pointer (some ⟨q, 0, none⟩), .int .i64 mode] w (RDone w B q v ⟨a, x, y, s, p, PC, h, bb⟩ (.agg #[.int .u16 ad, .bool cr, .int .i64 rd, .int .i64 put, .int .i64 chg]))) at HAd
  have HVM : Hid (bb.m ad = Io.rv bb ad) := Lib.hid rfl
  generalize Io.rv bb ad = M at *
  have HM := Lib.hid hv
  obtain ⟨N, hN⟩ : ∃ z, rd + cr1 cr = z := ⟨_, rfl⟩
  have HN0 : Hid (cr = false → N = rd) := Lib.hid (by rintro rfl; rw [← hN]; show rd + 0 = rd; omega)
  have HN1 : Hid (cr = true → N = rd + 1) := Lib.hid (by rintro rfl; exact hN.symm)
  simp only
  rw [hN]
  have HRb : Hid (byte (Go.bits .xor .u8 a M)) := Lib.hid (wrap_byte _)
  have HNn := Lib.hid hn
  have HB0 := Lib.hid hB
  have m0 : 0 ≤ M := hv.1
  have m1 : M < 256 := hv.2
  clear hv hN
  obtain ⟨a0, a1⟩ : 0 ≤ a ∧ a < 256 := hO.a
  clear H hO hn hB h0 h8 HHl
  go_enter Tryd.func48, Tryd.ntmps48
  go_wp2_with fail
  (with_reducible refine (HAd.out).mono ?_)
  intro e w1 hd
  obtain ⟨rfl, v1, hr, hf, hl⟩ := hd
  have hg : ∃ g, w1.heap.size = g := ⟨_, rfl⟩
  obtain ⟨g, hg⟩ := hg
  have hxb := Blk.fresh w1 99 #[.int .u16 ad, .bool cr, .int .i64 rd, .int .i64 put, .int .i64 chg]
  rw [hg] at hxb
  have hal : Fr [] w1 (w1.alloc (.cells #[.int .u16 ad, .bool cr, .int .i64 rd, .int .i64 put, .int .i64 chg] 99)) := (Fr.refl [] w1).alloc _
  have HX := Lib.hid hxb
  have HXf : Hid (g ∉ foot q v1) := Lib.hid (fun hm => by have := foot_lt hr g hm; omega)
  have HR1 := Lib.hid (hr.fr hal (by simp))
  have HW1 : Hid (Fr (foot q v) w (w1.alloc (.cells #[.int .u16 ad, .bool cr, .int .i64 rd, .int .i64 put, .int .i64 chg] 99))) := Lib.hid (hf.tr hal.nil)
  have HWL := Lib.hid hl
  have HF1 : Hid (Fr (foot q v1) (w1.alloc (.cells #[.int .u16 ad, .bool cr, .int .i64 rd, .int .i64 put, .int .i64 chg] 99)) (w1.alloc (.cells #[.int .u16 ad, .bool cr, .int .i64 rd, .int .i64 put, .int .i64 chg] 99))) := Lib.hid (Fr.refl _ _)
  have HL1 : Hid (Lies (w1.alloc (.cells #[.int .u16 ad, .bool cr, .int .i64 rd, .int .i64 put, .int .i64 chg] 99)) v1 v1) := Lib.hid (Lies.refl _ _)
  have HB1 := Lib.hid (Nat.le_trans HB0.out HW1.out.size)
  clear hr hf hl hxb hal HAd
  go_upto_region 5 with fail
  generalize w1.alloc _ = wA at *
  clear hg HB0
  have HB0 := HB1
  obtain ⟨e0, e1, e2, e3, e4⟩ := blk5 HX.out
  clear e1 e2 e3 e4
  go_wp2_with fail
  (with_reducible refine (rread_any wA B q v1 ⟨a, x, y, s, p, PC, h, bb⟩ ad HR1.out HuA.out).mono ?_)
  rintro e w2 ⟨rfl, rfl⟩
  rw [show (St.b (⟨a, x, y, s, p, PC, h, bb⟩ : S14)).m ad = M from HVM.out]
  clear e0
  obtain ⟨c0, c1, c2, c3, c4, c5, c6⟩ := regs HR1.out
  have f0 := RefAt.frozen HR1.out 0
  clear c1 c2 c3 c4 c5 c6
  have HR2 : Hid (RefAt (wA.setCell ⟨q, 0, none⟩ (.int .u8 (Go.bits .xor .u8 a M))) B q v1 ⟨Go.bits .xor .u8 a M, x, y, s, p, PC, h, bb⟩) := Lib.hid (put_a HR1.out _)
  have HF2 : Hid (Fr (foot q v1) wA (wA.setCell ⟨q, 0, none⟩ (.int .u8 (Go.bits .xor .u8 a M)))) := Lib.hid (HF1.out.setCell (by simp [foot]) _)
  have HL2 := Lib.hid HL1.out
  have HB2 : Hid (B ≤ (wA.setCell ⟨q, 0, none⟩ (.int .u8 (Go.bits .xor .u8 a M))).heap.size) := Lib.hid (Nat.le_trans HB1.out HF2.out.size)
  go_upto_region 27 with fail
  clear c0 f0
  generalize wA.setCell _ _ = w2 at *
  obtain ⟨c0, c1, c2, c3, c4, c5, c6⟩ := regs HR2.out
  clear c1 c2 c3 c4 c5 c6
  go_wp2_with fail
  (with_reducible refine (rzn_any w2 B q v1 ⟨Go.bits .xor .u8 a M, x, y, s, p, PC, h, bb⟩ (Go.bits .xor .u8 a M) HR2.out HOA.out.pf HRb.out HB2.out).mono ?_)
  intro e w3 hd
  obtain ⟨rfl, v3, hr, hf, hl⟩ := rdone_tr HF2.out HL2.out hd
  change RefAt w3 B q v3 ⟨Go.bits .xor .u8 a M, x, y, s, zn p (Go.bits .xor .u8 a M), PC, h, bb⟩ at hr
  have HR3 := Lib.hid hr
  have HF3 := Lib.hid hf
  have HL3 := Lib.hid hl
  have HB3 := Lib.hid (Nat.le_trans HB0.out hf.size)
  clear hd hr hf hl c0
  obtain ⟨e0, e1, e2, e3, e4⟩ := blk5 (HX.out.fr HF3.out HXf.out)
  clear e0 e3 e4
  cases cr
  · obtain rfl := HN0.out rfl
    go_wp2
    go_ret
    exact rdone_tr HW1.out HWL.out ⟨rfl, v3, HR3.out, HF3.out, HL3.out⟩
  · obtain rfl := HN1.out rfl
    go_wp2
    go_ret
    exact rdone_tr HW1.out HWL.out ⟨rfl, v3, HR3.out, HF3.out, HL3.out⟩

set_option maxRecDepth 100000 in
set_option maxHeartbeats 4000000 in
theorem rmain3 (w : World) (B q : Nat) (v : Value) (S : S14) (n : Nat) (mode : Int) (H : RefAt w B q v S) (hO : Ok n S) (hn : n + 2 < 1000000000) (h0 : 0 ≤ mode) (h8 : mode ≤ 8) (hB : B ≤ w.heap.size) :
    Calls Tryd.prog 48 #[.pointer (some ⟨q, 0, none⟩), .int .i64 3, .int .i64 mode] w (RDone w B q v (main 3 mode S) (.int .i64 (mainN 3 mode S))) := by
  have HO := Lib.hid hO
  obtain ⟨a, x, y, s, p, pc, h, b⟩ := S
  have HAd := Lib.hid (raddress_any w B q v ⟨a, x, y, s, p, pc, h, b⟩ mode n H hO h0 h8 hB)
  have HuA := Lib.hid (adr_u16 mode hO)
  have HOA : Hid (Ok n (⟨a, x, y, s, p, adrPC mode (⟨a, x, y, s, p, pc, h, b⟩ : S14), h, adrB mode (⟨a, x, y, s, p, pc, h, b⟩ : S14)⟩ : S14)) := Lib.hid (Ok.mk' hO.a hO.x hO.y hO.s hO.pf (adrPC_u16 mode) (adrB_ok mode hO))
  obtain ⟨rd0, rd1⟩ := adr_rd mode (⟨a, x, y, s, p, pc, h, b⟩ : S14)
  have hS : main 3 mode (⟨a, x, y, s, p, pc, h, b⟩ : S14) = ⟨Al.addR a (Io.rv (adrB mode (⟨a, x, y, s, p, pc, h, b⟩ : S14)) (adr mode (⟨a, x, y, s, p, pc, h, b⟩ : S14)).ad) (on p 1), x, y, s, zn (setF (setF p 1 (Al.addC a (Io.rv (adrB mode (⟨a, x, y, s, p, pc, h, b⟩ : S14)) (adr mode (⟨a, x, y, s, p, pc, h, b⟩ : S14)).ad) (on p 1))) 64 (Al.addO a (Io.rv (adrB mode (⟨a, x, y, s, p, pc, h, b⟩ : S14)) (adr mode (⟨a, x, y, s, p, pc, h, b⟩ : S14)).ad) (on p 1))) (Al.addR a (Io.rv (adrB mode (⟨a, x, y, s, p, pc, h, b⟩ : S14)) (adr mode (⟨a, x, y, s, p, pc, h, b⟩ : S14)).ad) (on p 1)), adrPC mode (⟨a, x, y, s, p, pc, h, b⟩ : S14), h, adrB mode (⟨a, x, y, s, p, pc, h, b⟩ : S14)⟩ := rfl
  have hM : mainN 3 mode (⟨a, x, y, s, p, pc, h, b⟩ : S14) = (adr mode (⟨a, x, y, s, p, pc, h, b⟩ : S14)).rd + cr1 (adr mode (⟨a, x, y, s, p, pc, h, b⟩ : S14)).cr := rfl
  rw [hS, hM]
  have hv : byte (Io.rv (adrB mode (⟨a, x, y, s, p, pc, h, b⟩ : S14)) (adr mode (⟨a, x, y, s, p, pc, h, b⟩ : S14)).ad) := Io.rv_ok _ (adrB_ok mode hO)
  clear hS hM
  have HHl := Lib.hid (foot_lt H)
  change Hid (Calls Tryd.prog 74 #[.pointer (some ⟨q, 0, none⟩), .int .i64 mode] w (RDone w B q v ⟨a, x, y, s, p, adrPC mode (⟨a, x, y, s, p, pc, h, b⟩ : S14), h, adrB mode (⟨a, x, y, s, p, pc, h, b⟩ : S14)⟩ (adV (adr mode (⟨a, x, y, s, p, pc, h, b⟩ : S14))))) at HAd
  generalize adrPC mode (⟨a, x, y, s, p, pc, h, b⟩ : S14) = PC at *
  generalize adrB mode (⟨a, x, y, s, p, pc, h, b⟩ : S14) = bb at *
  generalize adr mode (⟨a, x, y, s, p, pc, h, b⟩ : S14) = D at *
  obtain ⟨ad, cr, rd, put, chg⟩ := D
  simp only at rd0 rd1 HuA
  change Hid (Calls Tryd.prog 74 #[.pointer (some ⟨q, 0, none⟩), .int .i64 mode] w (RDone w B q v ⟨a, x, y, s, p, PC, h, bb⟩ (.agg #[.int .u16 ad, .bool cr, .int .i64 rd, .int .i64 put, .int .i64 chg]))) at HAd
  have HVM : Hid (bb.m ad = Io.rv bb ad) := Lib.hid rfl
  generalize Io.rv bb ad = M at *
  have HM := Lib.hid hv
  obtain ⟨N, hN⟩ : ∃ z, rd + cr1 cr = z := ⟨_, rfl⟩
  have HN0 : Hid (cr = false → N = rd) := Lib.hid (by rintro rfl; rw [← hN]; show rd + 0 = rd; omega)
  have HN1 : Hid (cr = true → N = rd + 1) := Lib.hid (by rintro rfl; exact hN.symm)
  simp only
  rw [hN]
  have HNn := Lib.hid hn
  have HB0 := Lib.hid hB
  have m0 : 0 ≤ M := hv.1
  have m1 : M < 256 := hv.2
  clear hv hN
  obtain ⟨a0, a1⟩ : 0 ≤ a ∧ a < 256 := hO.a
  clear H hO hn hB h0 h8 HHl
  go_enter Tryd.func48, Tryd.ntmps48
  go_wp2_with fail
  (with_reducible refine (HAd.out).mono ?_)
  intro e w1 hd
  obtain ⟨rfl, v1, hr, hf, hl⟩ := hd
  have hg : ∃ g, w1.heap.size = g := ⟨_, rfl⟩
  obtain ⟨g, hg⟩ := hg
  have hxb := Blk.fresh w1 99 #[.int .u16 ad, .bool cr, .int .i64 rd, .int .i64 put, .int .i64 chg]
  rw [hg] at hxb
  have hal : Fr [] w1 (w1.alloc (.cells #[.int .u16 ad, .bool cr, .int .i64 rd, .int .i64 put, .int .i64 chg] 99)) := (Fr.refl [] w1).alloc _
  have HX := Lib.hid hxb
  have HXf : Hid (g ∉ foot q v1) := Lib.hid (fun hm => by have := foot_lt hr g hm; omega)
  have HR1 := Lib.hid (hr.fr hal (by simp))
  have HW1 : Hid (Fr (foot q v) w (w1.alloc (.cells #[.int .u16 ad, .bool cr, .int .i64 rd, .int .i64 put, .int .i64 chg] 99))) := Lib.hid (hf.tr hal.nil)
  have HWL := Lib.hid hl
  have HF1 : Hid (Fr (foot q v1) (w1.alloc (.cells #[.int .u16 ad, .bool cr, .int .i64 rd, .int .i64 put, .int .i64 chg] 99)) (w1.alloc (.cells #[.int .u16 ad, .bool cr, .int .i64 rd, .int .i64 put, .int .i64 chg] 99))) := Lib.hid (Fr.refl _ _)
  have HL1 : Hid (Lies (w1.alloc (.cells #[.int .u16 ad, .bool cr, .int .i64 rd, .int .i64 put, .int .i64 chg] 99)) v1 v1) := Lib.hid (Lies.refl _ _)
  have HB1 := Lib.hid (Nat.le_trans HB0.out HW1.out.size)
  clear hr hf hl hxb hal HAd
  go_upto_region 5 with fail
  generalize w1.alloc _ = wA at *
  clear hg HB0
  have HB0 := HB1
  obtain ⟨e0, e1, e2, e3, e4⟩ := blk5 HX.out
  clear e1 e2 e3 e4
  go_wp2_with fail
  (with_reducible refine (rread_any wA B q v1 ⟨a, x, y, s, p, PC, h, bb⟩ ad HR1.out HuA.out).mono ?_)
  rintro e w2 ⟨rfl, rfl⟩
  rw [show (St.b (⟨a, x, y, s, p, PC, h, bb⟩ : S14)).m ad = M from HVM.out]
  clear e0
  obtain ⟨c0, c1, c2, c3, c4, c5, c6⟩ := regs HR1.out
  clear c1 c2 c3 c4 c5 c6
  have HCo : Hid (∀ k, Calls Tryd.prog 79 #[.pointer (some ⟨q, 0, none⟩), .int .u8 1] (wA.drewN k) fun e w' => e = .returned (.bool (on p 1)) ∧ wA.drewN k = w') := Lib.hid (fun k => ron_any (wA.drewN k) B q v1 ⟨a, x, y, s, p, PC, h, bb⟩ 1 (HR1.out.fr ((Fr.refl [] wA).drewN k) (by simp)) isF1 HOA.out.p)
  have HCa : Hid (∀ k, Calls Tryd.prog 78 #[.int .u8 a, .int .u8 M, .bool (on p 1)] (wA.drewN k) fun e w' => e = .returned (.tuple #[.int .u8 (Al.addR a M (on p 1)), .bool (Al.addC a M (on p 1)), .bool (Al.addO a M (on p 1))]) ∧ wA.drewN k = w') := Lib.hid (fun k => Al.radd_any (wA.drewN k) a M (on p 1) HOA.out.a HM.out)
  have HRb : Hid (byte (Al.addR a M (on p 1))) := Lib.hid (Al.addR_byte _ _ _)
  generalize on p 1 = o1 at *
  generalize Al.addR a M o1 = R at *
  generalize Al.addC a M o1 = C1 at *
  generalize Al.addO a M o1 = O1 at *
  go_upto_region 14 with fail
  go_quiet (first | (go_at_call 79; with_reducible exact Calls.quiet_of_same ((HCo.out _).mono fun _ _ h => ⟨h.1, h.2.symm⟩)) | (go_at_call 78; with_reducible exact Calls.quiet_of_same ((HCa.out _).mono fun _ _ h => ⟨h.1, h.2.symm⟩)))
  have HRq := Lib.hid (HR1.out.fr ((Fr.refl [] wA).drewN nq) (by simp))
  have HFq : Hid (Fr (foot q v1) wA (wA.drewN nq)) := Lib.hid (HF1.out.drewN nq)
  have HBq : Hid (B ≤ (wA.drewN nq).heap.size) := HB1
  clear c0 HCo HCa
  generalize wA.drewN nq = wq at *
  obtain ⟨c0, c1, c2, c3, c4, c5, c6⟩ := regs HRq.out
  have f0 := RefAt.frozen HRq.out 0
  clear c1 c2 c3 c4 c5 c6
  have HR2 : Hid (RefAt (wq.setCell ⟨q, 0, none⟩ (.int .u8 R)) B q v1 ⟨R, x, y, s, p, PC, h, bb⟩) := Lib.hid (put_a HRq.out _)
  have HF2 : Hid (Fr (foot q v1) wA (wq.setCell ⟨q, 0, none⟩ (.int .u8 R))) := Lib.hid (HFq.out.setCell (by simp [foot]) _)
  have HL2 := Lib.hid HL1.out
  have HB2 : Hid (B ≤ (wq.setCell ⟨q, 0, none⟩ (.int .u8 R)).heap.size) := Lib.hid (Nat.le_trans HB1.out HF2.out.size)
  go_upto_region 16 with fail
  clear c0 f0
  generalize wq.setCell _ _ = w2 at *
  go_wp2_with fail
  (with_reducible refine (rset_any w2 B q v1 ⟨R, x, y, s, p, PC, h, bb⟩ 1 C1 HR2.out isF1 HOA.out.p HB2.out).mono ?_)
  intro e w3 hd
  obtain ⟨rfl, v3, hr, hf, hl⟩ := rdone_tr HF2.out HL2.out hd
  change RefAt w3 B q v3 ⟨R, x, y, s, setF p 1 C1, PC, h, bb⟩ at hr
  have HR3 := Lib.hid hr
  have HF3 := Lib.hid hf
  have HL3 := Lib.hid hl
  have HB3 := Lib.hid (Nat.le_trans HB0.out hf.size)
  clear hd hr hf hl
  go_wp2_with fail
  (with_reducible refine (rset_any w3 B q v3 ⟨R, x, y, s, setF p 1 C1, PC, h, bb⟩ 64 O1 HR3.out isF64 (fl_b (fl_setF _ _ _ isF1 HOA.out.pf)) HB3.out).mono ?_)
  intro e w4 hd
  obtain ⟨rfl, v4, hr, hf, hl⟩ := rdone_tr HF3.out HL3.out hd
  change RefAt w4 B q v4 ⟨R, x, y, s, setF (setF p 1 C1) 64 O1, PC, h, bb⟩ at hr
  have HR4 := Lib.hid hr
  have HF4 := Lib.hid hf
  have HL4 := Lib.hid hl
  have HB4 := Lib.hid (Nat.le_trans HB0.out hf.size)
  clear hd hr hf hl
  obtain ⟨c0, c1, c2, c3, c4, c5, c6⟩ := regs HR4.out
  clear c1 c2 c3 c4 c5 c6
  go_wp2_with fail
  (with_reducible refine (rzn_any w4 B q v4 ⟨R, x, y, s, setF (setF p 1 C1) 64 O1, PC, h, bb⟩ R HR4.out (fl_setF _ _ _ isF64 (fl_setF _ _ _ isF1 HOA.out.pf)) HRb.out HB4.out).mono ?_)
  intro e w5 hd
  obtain ⟨rfl, v5, hr, hf, hl⟩ := rdone_tr HF4.out HL4.out hd
  change RefAt w5 B q v5 ⟨R, x, y, s, zn (setF (setF p 1 C1) 64 O1) R, PC, h, bb⟩ at hr
  have HR5 := Lib.hid hr
  have HF5 := Lib.hid hf
  have HL5 := Lib.hid hl
  have HB5 := Lib.hid (Nat.le_trans HB0.out hf.size)
  clear hd hr hf hl c0
  obtain ⟨e0, e1, e2, e3, e4⟩ := blk5 (HX.out.fr HF5.out HXf.out)
  clear e0 e3 e4
  cases cr
  · obtain rfl := HN0.out rfl
    go_wp2
    go_ret
    exact rdone_tr HW1.out HWL.out ⟨rfl, v5, HR5.out, HF5.out, HL5.out⟩
  · obtain rfl := HN1.out rfl
    go_wp2
    go_ret
    exact rdone_tr HW1.out HWL.out ⟨rfl, v5, HR5.out, HF5.out, HL5.out⟩

set_option maxRecDepth 100000 in
set_option maxHeartbeats 4000000 in
theorem rmain4 (w : World) (B q : Nat) (v : Value) (S : S14) (n : Nat) (mode : Int) (H : RefAt w B q v S) (hO : Ok n S) (hn : n + 2 < 1000000000) (h0 : 0 ≤ mode) (h8 : mode ≤ 8) (hB : B ≤ w.heap.size) :
    Calls Tryd.prog 48 #[.pointer (some ⟨q, 0, none⟩), .int .i64 4, .int .i64 mode] w (RDone w B q v (main 4 mode S) (.int .i64 (mainN 4 mode S))) := by
  have HO := Lib.hid hO
  obtain ⟨a, x, y, s, p, pc, h, b⟩ := S
  have HAd := Lib.hid (raddress_any w B q v ⟨a, x, y, s, p, pc, h, b⟩ mode n H hO h0 h8 hB)
  have HuA := Lib.hid (adr_u16 mode hO)
  have HOA : Hid (Ok n (⟨a, x, y, s, p, adrPC mode (⟨a, x, y, s, p, pc, h, b⟩ : S14), h, adrB mode (⟨a, x, y, s, p, pc, h, b⟩ : S14)⟩ : S14)) := Lib.hid (Ok.mk' hO.a hO.x hO.y hO.s hO.pf (adrPC_u16 mode) (adrB_ok mode hO))
  obtain ⟨rd0, rd1⟩ := adr_rd mode (⟨a, x, y, s, p, pc, h, b⟩ : S14)
  have hS : main 4 mode (⟨a, x, y, s, p, pc, h, b⟩ : S14) = ⟨a, x, y, s, p, adrPC mode (⟨a, x, y, s, p, pc, h, b⟩ : S14), h, Io.wb (adrB mode (⟨a, x, y, s, p, pc, h, b⟩ : S14)) (adr mode (⟨a, x, y, s, p, pc, h, b⟩ : S14)).ad a⟩ := rfl
  have hM : mainN 4 mode (⟨a, x, y, s, p, pc, h, b⟩ : S14) = (adr mode (⟨a, x, y, s, p, pc, h, b⟩ : S14)).put := rfl
  rw [hS, hM]
  clear hS hM
  have HHl := Lib.hid (foot_lt H)
  change Hid (Calls Tryd.prog 74 #[.pointer (some ⟨q, 0, none⟩), .int .i64 mode] w (RDone w B q v ⟨a, x, y, s, p, adrPC mode (⟨a, x, y, s, p, pc, h, b⟩ : S14), h, adrB mode (⟨a, x, y, s, p, pc, h, b⟩ : S14)⟩ (adV (adr mode (⟨a, x, y, s, p, pc, h, b⟩ : S14))))) at HAd
  generalize adrPC mode (⟨a, x, y, s, p, pc, h, b⟩ : S14) = PC at *
  generalize adrB mode (⟨a, x, y, s, p, pc, h, b⟩ : S14) = bb at *
  generalize adr mode (⟨a, x, y, s, p, pc, h, b⟩ : S14) = D at *
  obtain ⟨ad, cr, rd, put, chg⟩ := D
  simp only at rd0 rd1 HuA
  change Hid (Calls Tryd.prog 74 #[.pointer (some ⟨q, 0, none⟩), .int .i64 mode] w (RDone w B q v ⟨a, x, y, s, p, PC, h, bb⟩ (.agg #[.int .u16 ad, .bool cr, .int .i64 rd, .int .i64 put, .int .i64 chg]))) at HAd
  have HNn := Lib.hid hn
  have HB0 := Lib.hid hB
  obtain ⟨a0, a1⟩ : 0 ≤ a ∧ a < 256 := hO.a
  clear H hO hn hB h0 h8 HHl
  go_enter Tryd.func48, Tryd.ntmps48
  go_wp2_with fail
  (with_reducible refine (HAd.out).mono ?_)
  intro e w1 hd
  obtain ⟨rfl, v1, hr, hf, hl⟩ := hd
  have hg : ∃ g, w1.heap.size = g := ⟨_, rfl⟩
  obtain ⟨g, hg⟩ := hg
  have hxb := Blk.fresh w1 99 #[.int .u16 ad, .bool cr, .int .i64 rd, .int .i64 put, .int .i64 chg]
  rw [hg] at hxb
  have hal : Fr [] w1 (w1.alloc (.cells #[.int .u16 ad, .bool cr, .int .i64 rd, .int .i64 put, .int .i64 chg] 99)) := (Fr.refl [] w1).alloc _
  have HX := Lib.hid hxb
  have HXf : Hid (g ∉ foot q v1) := Lib.hid (fun hm => by have := foot_lt hr g hm; omega)
  have HR1 := Lib.hid (hr.fr hal (by simp))
  have HW1 : Hid (Fr (foot q v) w (w1.alloc (.cells #[.int .u16 ad, .bool cr, .int .i64 rd, .int .i64 put, .int .i64 chg] 99))) := Lib.hid (hf.tr hal.nil)
  have HWL := Lib.hid hl
  have HF1 : Hid (Fr (foot q v1) (w1.alloc (.cells #[.int .u16 ad, .bool cr, .int .i64 rd, .int .i64 put, .int .i64 chg] 99)) (w1.alloc (.cells #[.int .u16 ad, .bool cr, .int .i64 rd, .int .i64 put, .int .i64 chg] 99))) := Lib.hid (Fr.refl _ _)
  have HL1 : Hid (Lies (w1.alloc (.cells #[.int .u16 ad, .bool cr, .int .i64 rd, .int .i64 put, .int .i64 chg] 99)) v1 v1) := Lib.hid (Lies.refl _ _)
  have HB1 := Lib.hid (Nat.le_trans HB0.out HW1.out.size)
  clear hr hf hl hxb hal HAd
  go_upto_region 3 with fail
  generalize w1.alloc _ = wA at *
  clear hg HB0
  have HB0 := HB1
  have c0 := (regs HR1.out).1
  obtain ⟨e0, e1, e2, e3, e4⟩ := blk5 HX.out
  clear e1 e2 e3 e4
  go_still_tail 7, (by kernel_rfl)
  repeat still_step
  change wpList _ _ _ _ _ wA.drew
  have HRD := Lib.hid (HR1.out.fr (Fr.refl [] wA).drew (by simp))
  have HFD : Hid (Fr (foot q v1) wA wA.drew) := Lib.hid HF1.out.drew
  have HBD : Hid (B ≤ wA.drew.heap.size) := HB1
  have HLD := Lib.hid HL1.out
  clear c0 e0
  generalize wA.drew = wB at *
  go_wp2_with fail
  (with_reducible refine (rwrite_any wB B q v1 ⟨a, x, y, s, p, PC, h, bb⟩ ad a n HRD.out HuA.out HOA.out.a HOA.out (by have := HNn.out; omega) HBD.out).mono ?_)
  intro e w2 hd
  obtain ⟨rfl, v2, hr, hf, hl⟩ := rdone_tr HFD.out HLD.out hd
  have HR2 := Lib.hid hr
  have HF2 := Lib.hid hf
  have HL2 := Lib.hid hl
  clear hd hr hf hl
  obtain ⟨e0, e1, e2, e3, e4⟩ := blk5 (HX.out.fr HF2.out HXf.out)
  clear e0 e1 e2 e4
  go_wp2
  go_ret
  exact rdone_tr HW1.out HWL.out ⟨rfl, v2, HR2.out, HF2.out, HL2.out⟩

set_option maxRecDepth 100000 in
set_option maxHeartbeats 4000000 in
theorem rmain5 (w : World) (B q : Nat) (v : Value) (S : S14) (n : Nat) (mode : Int) (H : RefAt w B q v S) (hO : Ok n S) (hn : n + 2 < 1000000000) (h0 : 0 ≤ mode) (h8 : mode ≤ 8) (hB : B ≤ w.heap.size) :
    Calls Tryd.prog 48 #[.pointer (some ⟨q, 0, none⟩), .int .i64 5, .int .i64 mode] w (RDone w B q v (main 5 mode S) (.int .i64 (mainN 5 mode S))) := by
  have HO := Lib.hid hO
  obtain ⟨a, x, y, s, p, pc, h, b⟩ := S
  have HAd := Lib.hid (raddress_any w B q v ⟨a, x, y, s, p, pc, h, b⟩ mode n H hO h0 h8 hB)
  have HuA := Lib.hid (adr_u16 mode hO)
  have HOA : Hid (Ok n (⟨a, x, y, s, p, adrPC mode (⟨a, x, y, s, p, pc, h, b⟩ : S14), h, adrB mode (⟨a, x, y, s, p, pc, h, b⟩ : S14)⟩ : S14)) := Lib.hid (Ok.mk' hO.a hO.x hO.y hO.s hO.pf (adrPC_u16 mode) (adrB_ok mode hO))
  obtain ⟨rd0, rd1⟩ := adr_rd mode (⟨a, x, y, s, p, pc, h, b⟩ : S14)
  have hS : main 5 mode (⟨a, x, y, s, p, pc, h, b⟩ : S14) = ⟨(Io.rv (adrB mode (⟨a, x, y, s, p, pc, h, b⟩ : S14)) (adr mode (⟨a, x, y, s, p, pc, h, b⟩ : S14)).ad), x, y, s, zn p ((Io.rv (adrB mode (⟨a, x, y, s, p, pc, h, b⟩ : S14)) (adr mode (⟨a, x, y, s, p, pc, h, b⟩ : S14)).ad)), adrPC mode (⟨a, x, y, s, p, pc, h, b⟩ : S14), h, adrB mode (⟨a, x, y, s, p, pc, h, b⟩ : S14)⟩ := rfl
  have hM : mainN 5 mode (⟨a, x, y, s, p, pc, h, b⟩ : S14) = (adr mode (⟨a, x, y, s, p, pc, h, b⟩ : S14)).rd + cr1 (adr mode (⟨a, x, y, s, p, pc, h, b⟩ : S14)).cr := rfl
  rw [hS, hM]
  have hv : byte (Io.rv (adrB mode (⟨a, x, y, s, p, pc, h, b⟩ : S14)) (adr mode (⟨a, x, y, s, p, pc, h, b⟩ : S14)).ad) := Io.rv_ok _ (adrB_ok mode hO)
  clear hS hM
  have HHl := Lib.hid (foot_lt H)
  change Hid (Calls Tryd.prog 74 #[.pointer (some ⟨q, 0, none⟩), .int .i64 mode] w (RDone w B q v ⟨a, x, y, s, p, adrPC mode (⟨a, x, y, s, p, pc, h, b⟩ : S14), h, adrB mode (⟨a, x, y, s, p, pc, h, b⟩ : S14)⟩ (adV (adr mode (⟨a, x, y, s, p, pc, h, b⟩ : S14))))) at HAd
  generalize adrPC mode (⟨a, x, y, s, p, pc, h, b⟩ : S14) = PC at *
  generalize adrB mode (⟨a, x, y, s, p, pc, h, b⟩ : S14) = bb at *
  generalize adr mode (⟨a, x, y, s, p, pc, h, b⟩ : S14) = D at *
  obtain ⟨ad, cr, rd, put, chg⟩ := D
  simp only at rd0 rd1 HuA
  change Hid (Calls Tryd.prog 74 #[.pointer (some ⟨q, 0, none⟩), .int .i64 mode] w (RDone w B q v ⟨a, x, y, s, p, PC, h, bb⟩ (.agg #[.int .u16 ad, .bool cr, .int .i64 rd, .int .i64 put, .int .i64 chg]))) at HAd
  have HVM : Hid (bb.m ad = Io.rv bb ad) := Lib.hid rfl
  generalize Io.rv bb ad = M at *
  have HM := Lib.hid hv
  obtain ⟨N, hN⟩ : ∃ z, rd + cr1 cr = z := ⟨_, rfl⟩
  have HN0 : Hid (cr = false → N = rd) := Lib.hid (by rintro rfl; rw [← hN]; show rd + 0 = rd; omega)
  have HN1 : Hid (cr = true → N = rd + 1) := Lib.hid (by rintro rfl; exact hN.symm)
  simp only
  rw [hN]
  have HNn := Lib.hid hn
  have HB0 := Lib.hid hB
  have m0 : 0 ≤ M := hv.1
  have m1 : M < 256 := hv.2
  clear hv hN
  obtain ⟨a0, a1⟩ : 0 ≤ a ∧ a < 256 := hO.a
  clear H hO hn hB h0 h8 HHl
  go_enter Tryd.func48, Tryd.ntmps48
  go_wp2_with fail
  (with_reducible refine (HAd.out).mono ?_)
  intro e w1 hd
  obtain ⟨rfl, v1, hr, hf, hl⟩ := hd
  have hg : ∃ g, w1.heap.size = g := ⟨_, rfl⟩
  obtain ⟨g, hg⟩ := hg
  have hxb := Blk.fresh w1 99 #[.int .u16 ad, .bool cr, .int .i64 rd, .int .i64 put, .int .i64 chg]
  rw [hg] at hxb
  have hal : Fr [] w1 (w1.alloc (.cells #[.int .u16 ad, .bool cr, .int .i64 rd, .int .i64 put, .int .i64 chg] 99)) := (Fr.refl [] w1).alloc _
  have HX := Lib.hid hxb
  have HXf : Hid (g ∉ foot q v1) := Lib.hid (fun hm => by have := foot_lt hr g hm; omega)
  have HR1 := Lib.hid (hr.fr hal (by simp))
  have HW1 : Hid (Fr (foot q v) w (w1.alloc (.cells #[.int .u16 ad, .bool cr, .int .i64 rd, .int .i64 put, .int .i64 chg] 99))) := Lib.hid (hf.tr hal.nil)
  have HWL := Lib.hid hl
  have HF1 : Hid (Fr (foot q v1) (w1.alloc (.cells #[.int .u16 ad, .bool cr, .int .i64 rd, .int .i64 put, .int .i64 chg] 99)) (w1.alloc (.cells #[.int .u16 ad, .bool cr, .int .i64 rd, .int .i64 put, .int .i64 chg] 99))) := Lib.hid (Fr.refl _ _)
  have HL1 : Hid (Lies (w1.alloc (.cells #[.int .u16 ad, .bool cr, .int .i64 rd, .int .i64 put, .int .i64 chg] 99)) v1 v1) := Lib.hid (Lies.refl _ _)
  have HB1 := Lib.hid (Nat.le_trans HB0.out HW1.out.size)
  clear hr hf hl hxb hal HAd
  go_upto_region 5 with fail
  generalize w1.alloc _ = wA at *
  clear hg HB0
  have HB0 := HB1
  obtain ⟨e0, e1, e2, e3, e4⟩ := blk5 HX.out
  clear e1 e2 e3 e4
  go_wp2_with fail
  (with_reducible refine (rread_any wA B q v1 ⟨a, x, y, s, p, PC, h, bb⟩ ad HR1.out HuA.out).mono ?_)
  rintro e w2 ⟨rfl, rfl⟩
  rw [show (St.b (⟨a, x, y, s, p, PC, h, bb⟩ : S14)).m ad = M from HVM.out]
  clear e0
  obtain ⟨c0, c1, c2, c3, c4, c5, c6⟩ := regs HR1.out
  have f0 := RefAt.frozen HR1.out 0
  clear c1 c2 c3 c4 c5 c6
  have HR2 : Hid (RefAt (wA.setCell ⟨q, 0, none⟩ (.int .u8 (M))) B q v1 ⟨M, x, y, s, p, PC, h, bb⟩) := Lib.hid (put_a HR1.out _)
  have HF2 : Hid (Fr (foot q v1) wA (wA.setCell ⟨q, 0, none⟩ (.int .u8 (M)))) := Lib.hid (HF1.out.setCell (by simp [foot]) _)
  have HL2 := Lib.hid HL1.out
  have HB2 : Hid (B ≤ (wA.setCell ⟨q, 0, none⟩ (.int .u8 (M))).heap.size) := Lib.hid (Nat.le_trans HB1.out HF2.out.size)
  go_upto_region 27 with fail
  clear c0 f0
  generalize wA.setCell _ _ = w2 at *
  obtain ⟨c0, c1, c2, c3, c4, c5, c6⟩ := regs HR2.out
  clear c1 c2 c3 c4 c5 c6
  go_wp2_with fail
  (with_reducible refine (rzn_any w2 B q v1 ⟨M, x, y, s, p, PC, h, bb⟩ (M) HR2.out HOA.out.pf HM.out HB2.out).mono ?_)
  intro e w3 hd
  obtain ⟨rfl, v3, hr, hf, hl⟩ := rdone_tr HF2.out HL2.out hd
  change RefAt w3 B q v3 ⟨M, x, y, s, zn p (M), PC, h, bb⟩ at hr
  have HR3 := Lib.hid hr
  have HF3 := Lib.hid hf
  have HL3 := Lib.hid hl
  have HB3 := Lib.hid (Nat.le_trans HB0.out hf.size)
  clear hd hr hf hl c0
  obtain ⟨e0, e1, e2, e3, e4⟩ := blk5 (HX.out.fr HF3.out HXf.out)
  clear e0 e3 e4
  cases cr
  · obtain rfl := HN0.out rfl
    go_wp2
    go_ret
    exact rdone_tr HW1.out HWL.out ⟨rfl, v3, HR3.out, HF3.out, HL3.out⟩
  · obtain rfl := HN1.out rfl
    go_wp2
    go_ret
    exact rdone_tr HW1.out HWL.out ⟨rfl, v3, HR3.out, HF3.out, HL3.out⟩

set_option maxRecDepth 100000 in
set_option maxHeartbeats 4000000 in
theorem rmain6 (w : World) (B q : Nat) (v : Value) (S : S14) (n : Nat) (mode : Int) (H : RefAt w B q v S) (hO : Ok n S) (hn : n + 2 < 1000000000) (h0 : 0 ≤ mode) (h8 : mode ≤ 8) (hB : B ≤ w.heap.size) :
    Calls Tryd.prog 48 #[.pointer (some ⟨q, 0, none⟩), .int .i64 6, .int .i64 mode] w (RDone w B q v (main 6 mode S) (.int .i64 (mainN 6 mode S))) := by
  have HO := Lib.hid hO
  obtain ⟨a, x, y, s, p, pc, h, b⟩ := S
  have HAd := Lib.hid (raddress_any w B q v ⟨a, x, y, s, p, pc, h, b⟩ mode n H hO h0 h8 hB)
  have HuA := Lib.hid (adr_u16 mode hO)
  have HOA : Hid (Ok n (⟨a, x, y, s, p, adrPC mode (⟨a, x, y, s, p, pc, h, b⟩ : S14), h, adrB mode (⟨a, x, y, s, p, pc, h, b⟩ : S14)⟩ : S14)) := Lib.hid (Ok.mk' hO.a hO.x hO.y hO.s hO.pf (adrPC_u16 mode) (adrB_ok mode hO))
  obtain ⟨rd0, rd1⟩ := adr_rd mode (⟨a, x, y, s, p, pc, h, b⟩ : S14)
  have hS : main 6 mode (⟨a, x, y, s, p, pc, h, b⟩ : S14) = ⟨a, x, y, s, cmpP p a (Io.rv (adrB mode (⟨a, x, y, s, p, pc, h, b⟩ : S14)) (adr mode (⟨a, x, y, s, p, pc, h, b⟩ : S14)).ad), adrPC mode (⟨a, x, y, s, p, pc, h, b⟩ : S14), h, adrB mode (⟨a, x, y, s, p, pc, h, b⟩ : S14)⟩ := rfl
  have hM : mainN 6 mode (⟨a, x, y, s, p, pc, h, b⟩ : S14) = (adr mode (⟨a, x, y, s, p, pc, h, b⟩ : S14)).rd + cr1 (adr mode (⟨a, x, y, s, p, pc, h, b⟩ : S14)).cr := rfl
  rw [hS, hM]
  have hv : byte (Io.rv (adrB mode (⟨a, x, y, s, p, pc, h, b⟩ : S14)) (adr mode (⟨a, x, y, s, p, pc, h, b⟩ : S14)).ad) := Io.rv_ok _ (adrB_ok mode hO)
  clear hS hM
  have HHl := Lib.hid (foot_lt H)
  change Hid (Calls Tryd.prog 74 #[.pointer (some ⟨q, 0, none⟩), .int .i64 mode] w (RDone w B q v ⟨a, x, y, s, p, adrPC mode (⟨a, x, y, s, p, pc, h, b⟩ : S14), h, adrB mode (⟨a, x, y, s, p, pc, h, b⟩ : S14)⟩ (adV (adr mode (⟨a, x, y, s, p, pc, h, b⟩ : S14))))) at HAd
  generalize adrPC mode (⟨a, x, y, s, p, pc, h, b⟩ : S14) = PC at *
  generalize adrB mode (⟨a, x, y, s, p, pc, h, b⟩ : S14) = bb at *
  generalize adr mode (⟨a, x, y, s, p, pc, h, b⟩ : S14) = D at *
  obtain ⟨ad, cr, rd, put, chg⟩ := D
  simp only at rd0 rd1 HuA
  change Hid (Calls Tryd.prog 74 #[.pointer (some ⟨q, 0, none⟩), .int .i64 mode] w (RDone w B q v ⟨a, x, y, s, p, PC, h, bb⟩ (.agg #[.int .u16 ad, .bool cr, .int .i64 rd, .int .i64 put, .int .i64 chg]))) at HAd
  have HVM : Hid (bb.m ad = Io.rv bb ad) := Lib.hid rfl
  generalize Io.rv bb ad = M at *
  have HM := Lib.hid hv
  obtain ⟨N, hN⟩ : ∃ z, rd + cr1 cr = z := ⟨_, rfl⟩
  have HN0 : Hid (cr = false → N = rd) := Lib.hid (by rintro rfl; rw [← hN]; show rd + 0 = rd; omega)
  have HN1 : Hid (cr = true → N = rd + 1) := Lib.hid (by rintro rfl; exact hN.symm)
  simp only
  rw [hN]
  have HNn := Lib.hid hn
  have HB0 := Lib.hid hB
  have m0 : 0 ≤ M := hv.1
  have m1 : M < 256 := hv.2
  clear hv hN
  obtain ⟨a0, a1⟩ : 0 ≤ a ∧ a < 256 := hO.a
  clear H hO hn hB h0 h8 HHl
  go_enter Tryd.func48, Tryd.ntmps48
  go_wp2_with fail
  (with_reducible refine (HAd.out).mono ?_)
  intro e w1 hd
  obtain ⟨rfl, v1, hr, hf, hl⟩ := hd
  have hg : ∃ g, w1.heap.size = g := ⟨_, rfl⟩
  obtain ⟨g, hg⟩ := hg
  have hxb := Blk.fresh w1 99 #[.int .u16 ad, .bool cr, .int .i64 rd, .int .i64 put, .int .i64 chg]
  rw [hg] at hxb
  have hal : Fr [] w1 (w1.alloc (.cells #[.int .u16 ad, .bool cr, .int .i64 rd, .int .i64 put, .int .i64 chg] 99)) := (Fr.refl [] w1).alloc _
  have HX := Lib.hid hxb
  have HXf : Hid (g ∉ foot q v1) := Lib.hid (fun hm => by have := foot_lt hr g hm; omega)
  have HR1 := Lib.hid (hr.fr hal (by simp))
  have HW1 : Hid (Fr (foot q v) w (w1.alloc (.cells #[.int .u16 ad, .bool cr, .int .i64 rd, .int .i64 put, .int .i64 chg] 99))) := Lib.hid (hf.tr hal.nil)
  have HWL := Lib.hid hl
  have HF1 : Hid (Fr (foot q v1) (w1.alloc (.cells #[.int .u16 ad, .bool cr, .int .i64 rd, .int .i64 put, .int .i64 chg] 99)) (w1.alloc (.cells #[.int .u16 ad, .bool cr, .int .i64 rd, .int .i64 put, .int .i64 chg] 99))) := Lib.hid (Fr.refl _ _)
  have HL1 : Hid (Lies (w1.alloc (.cells #[.int .u16 ad, .bool cr, .int .i64 rd, .int .i64 put, .int .i64 chg] 99)) v1 v1) := Lib.hid (Lies.refl _ _)
  have HB1 := Lib.hid (Nat.le_trans HB0.out HW1.out.size)
  clear hr hf hl hxb hal HAd
  go_upto_region 5 with fail
  generalize w1.alloc _ = wA at *
  clear hg HB0
  have HB0 := HB1
  obtain ⟨e0, e1, e2, e3, e4⟩ := blk5 HX.out
  clear e1 e2 e3 e4
  go_wp2_with fail
  (with_reducible refine (rread_any wA B q v1 ⟨a, x, y, s, p, PC, h, bb⟩ ad HR1.out HuA.out).mono ?_)
  rintro e w2 ⟨rfl, rfl⟩
  rw [show (St.b (⟨a, x, y, s, p, PC, h, bb⟩ : S14)).m ad = M from HVM.out]
  clear e0
  obtain ⟨c0, c1, c2, c3, c4, c5, c6⟩ := regs HR1.out
  clear c1 c2 c3 c4 c5 c6
  go_wp2_with fail
  (with_reducible refine (rcompare2_any wA B q v1 ⟨a, x, y, s, p, PC, h, bb⟩ a M HR1.out HOA.out.pf HOA.out.a HM.out HB1.out).mono ?_)
  intro e w2 hd
  obtain ⟨rfl, v2, hr, hf, hl⟩ := rdone_tr HF1.out HL1.out hd
  change RefAt w2 B q v2 ⟨a, x, y, s, cmpP p a M, PC, h, bb⟩ at hr
  have HR2 := Lib.hid hr
  have HF2 := Lib.hid hf
  have HL2 := Lib.hid hl
  have HB2 := Lib.hid (Nat.le_trans HB0.out hf.size)
  clear hd hr hf hl c0
  obtain ⟨e0, e1, e2, e3, e4⟩ := blk5 (HX.out.fr HF2.out HXf.out)
  clear e0 e3 e4
  cases cr
  · obtain rfl := HN0.out rfl
    go_wp2
    go_ret
    exact rdone_tr HW1.out HWL.out ⟨rfl, v2, HR2.out, HF2.out, HL2.out⟩
  · obtain rfl := HN1.out rfl
    go_wp2
    go_ret
    exact rdone_tr HW1.out HWL.out ⟨rfl, v2, HR2.out, HF2.out, HL2.out⟩

set_option maxRecDepth 100000 in
set_option maxHeartbeats 4000000 in
theorem rmain7 (w : World) (B q : Nat) (v : Value) (S : S14) (n : Nat) (mode : Int) (H : RefAt w B q v S) (hO : Ok n S) (hn : n + 2 < 1000000000) (h0 : 0 ≤ mode) (h8 : mode ≤ 8) (hB : B ≤ w.heap.size) :
    Calls Tryd.prog 48 #[.pointer (some ⟨q, 0, none⟩), .int .i64 7, .int .i64 mode] w (RDone w B q v (main 7 mode S) (.int .i64 (mainN 7 mode S))) := by
  have HO := Lib.hid hO
  obtain ⟨a, x, y, s, p, pc, h, b⟩ := S
  have HAd := Lib.hid (raddress_any w B q v ⟨a, x, y, s, p, pc, h, b⟩ mode n H hO h0 h8 hB)
  have HuA := Lib.hid (adr_u16 mode hO)
  have HOA : Hid (Ok n (⟨a, x, y, s, p, adrPC mode (⟨a, x, y, s, p, pc, h, b⟩ : S14), h, adrB mode (⟨a, x, y, s, p, pc, h, b⟩ : S14)⟩ : S14)) := Lib.hid (Ok.mk' hO.a hO.x hO.y hO.s hO.pf (adrPC_u16 mode) (adrB_ok mode hO))
  obtain ⟨rd0, rd1⟩ := adr_rd mode (⟨a, x, y, s, p, pc, h, b⟩ : S14)
  have hS : main 7 mode (⟨a, x, y, s, p, pc, h, b⟩ : S14) = ⟨Al.subR a (Io.rv (adrB mode (⟨a, x, y, s, p, pc, h, b⟩ : S14)) (adr mode (⟨a, x, y, s, p, pc, h, b⟩ : S14)).ad) (on p 1), x, y, s, zn (setF (setF p 1 (Al.subC a (Io.rv (adrB mode (⟨a, x, y, s, p, pc, h, b⟩ : S14)) (adr mode (⟨a, x, y, s, p, pc, h, b⟩ : S14)).ad) (on p 1))) 64 (Al.subO a (Io.rv (adrB mode (⟨a, x, y, s, p, pc, h, b⟩ : S14)) (adr mode (⟨a, x, y, s, p, pc, h, b⟩ : S14)).ad) (on p 1))) (Al.subR a (Io.rv (adrB mode (⟨a, x, y, s, p, pc, h, b⟩ : S14)) (adr mode (⟨a, x, y, s, p, pc, h, b⟩ : S14)).ad) (on p 1)), adrPC mode (⟨a, x, y, s, p, pc, h, b⟩ : S14), h, adrB mode (⟨a, x, y, s, p, pc, h, b⟩ : S14)⟩ := rfl
  have hM : mainN 7 mode (⟨a, x, y, s, p, pc, h, b⟩ : S14) = (adr mode (⟨a, x, y, s, p, pc, h, b⟩ : S14)).rd + cr1 (adr mode (⟨a, x, y, s, p, pc, h, b⟩ : S14)).cr := rfl
  rw [hS, hM]
  have hv : byte (Io.rv (adrB mode (⟨a, x, y, s, p, pc, h, b⟩ : S14)) (adr mode (⟨a, x, y, s, p, pc, h, b⟩ : S14)).ad) := Io.rv_ok _ (adrB_ok mode hO)
  clear hS hM
  have HHl := Lib.hid (foot_lt H)
  change Hid (Calls Tryd.prog 74 #[.pointer (some ⟨q, 0, none⟩), .int .i64 mode] w (RDone w B q v ⟨a, x, y, s, p, adrPC mode (⟨a, x, y, s, p, pc, h, b⟩ : S14), h, adrB mode (⟨a, x, y, s, p, pc, h, b⟩ : S14)⟩ (adV (adr mode (⟨a, x, y, s, p, pc, h, b⟩ : S14))))) at HAd
  generalize adrPC mode (⟨a, x, y, s, p, pc, h, b⟩ : S14) = PC at *
  generalize adrB mode (⟨a, x, y, s, p, pc, h, b⟩ : S14) = bb at *
  generalize adr mode (⟨a, x, y, s, p, pc, h, b⟩ : S14) = D at *
  obtain ⟨ad, cr, rd, put, chg⟩ := D
  simp only at rd0 rd1 HuA
  change Hid (Calls Tryd.prog 74 #[.pointer (some ⟨q, 0, none⟩), .int .i64 mode] w (RDone w B q v ⟨a, x, y, s, p, PC, h, bb⟩ (.agg #[.int .u16 ad, .bool cr, .int .i64 rd, .int .i64 put, .int .i64 chg]))) at HAd
  have HVM : Hid (bb.m ad = Io.rv bb ad) := Lib.hid rfl
  generalize Io.rv bb ad = M at *
  have HM := Lib.hid hv
  obtain ⟨N, hN⟩ : ∃ z, rd + cr1 cr = z := ⟨_, rfl⟩
  have HN0 : Hid (cr = false → N = rd) := Lib.hid (by rintro rfl; rw [← hN]; show rd + 0 = rd; omega)
  have HN1 : Hid (cr = true → N = rd + 1) := Lib.hid (by rintro rfl; exact hN.symm)
  simp only
  rw [hN]
  have HNn := Lib.hid hn
  have HB0 := Lib.hid hB
  have m0 : 0 ≤ M := hv.1
  have m1 : M < 256 := hv.2
  clear hv hN
  obtain ⟨a0, a1⟩ : 0 ≤ a ∧ a < 256 := hO.a
  clear H hO hn hB h0 h8 HHl
  go_enter Tryd.func48, Tryd.ntmps48
  go_wp2_with fail
  (with_reducible refine (HAd.out).mono ?_)
  intro e w1 hd
  obtain ⟨rfl, v1, hr, hf, hl⟩ := hd
  have hg : ∃ g, w1.heap.size = g := ⟨_, rfl⟩
  obtain ⟨g, hg⟩ := hg
  have hxb := Blk.fresh w1 99 #[.int .u16 ad, .bool cr, .int .i64 rd, .int .i64 put, .int .i64 chg]
  rw [hg] at hxb
  have hal : Fr [] w1 (w1.alloc (.cells #[.int .u16 ad, .bool cr, .int .i64 rd, .int .i64 put, .int .i64 chg] 99)) := (Fr.refl [] w1).alloc _
  have HX := Lib.hid hxb
  have HXf : Hid (g ∉ foot q v1) := Lib.hid (fun hm => by have := foot_lt hr g hm; omega)
  have HR1 := Lib.hid (hr.fr hal (by simp))
  have HW1 : Hid (Fr (foot q v) w (w1.alloc (.cells #[.int .u16 ad, .bool cr, .int .i64 rd, .int .i64 put, .int .i64 chg] 99))) := Lib.hid (hf.tr hal.nil)
  have HWL := Lib.hid hl
  have HF1 : Hid (Fr (foot q v1) (w1.alloc (.cells #[.int .u16 ad, .bool cr, .int .i64 rd, .int .i64 put, .int .i64 chg] 99)) (w1.alloc (.cells #[.int .u16 ad, .bool cr, .int .i64 rd, .int .i64 put, .int .i64 chg] 99))) := Lib.hid (Fr.refl _ _)
  have HL1 : Hid (Lies (w1.alloc (.cells #[.int .u16 ad, .bool cr, .int .i64 rd, .int .i64 put, .int .i64 chg] 99)) v1 v1) := Lib.hid (Lies.refl _ _)
  have HB1 := Lib.hid (Nat.le_trans HB0.out HW1.out.size)
  clear hr hf hl hxb hal HAd
  go_upto_region 5 with fail
  generalize w1.alloc _ = wA at *
  clear hg HB0
  have HB0 := HB1
  obtain ⟨e0, e1, e2, e3, e4⟩ := blk5 HX.out
  clear e1 e2 e3 e4
  go_wp2_with fail
  (with_reducible refine (rread_any wA B q v1 ⟨a, x, y, s, p, PC, h, bb⟩ ad HR1.out HuA.out).mono ?_)
  rintro e w2 ⟨rfl, rfl⟩
  rw [show (St.b (⟨a, x, y, s, p, PC, h, bb⟩ : S14)).m ad = M from HVM.out]
  clear e0
  obtain ⟨c0, c1, c2, c3, c4, c5, c6⟩ := regs HR1.out
  clear c1 c2 c3 c4 c5 c6
  have HCo : Hid (∀ k, Calls Tryd.prog 79 #[.pointer (some ⟨q, 0, none⟩), .int .u8 1] (wA.drewN k) fun e w' => e = .returned (.bool (on p 1)) ∧ wA.drewN k = w') := Lib.hid (fun k => ron_any (wA.drewN k) B q v1 ⟨a, x, y, s, p, PC, h, bb⟩ 1 (HR1.out.fr ((Fr.refl [] wA).drewN k) (by simp)) isF1 HOA.out.p)
  have HCa : Hid (∀ k, Calls Tryd.prog 80 #[.int .u8 a, .int .u8 M, .bool (on p 1)] (wA.drewN k) fun e w' => e = .returned (.tuple #[.int .u8 (Al.subR a M (on p 1)), .bool (Al.subC a M (on p 1)), .bool (Al.subO a M (on p 1))]) ∧ wA.drewN k = w') := Lib.hid (fun k => Al.rsub_any (wA.drewN k) a M (on p 1) HOA.out.a HM.out)
  have HRb : Hid (byte (Al.subR a M (on p 1))) := Lib.hid (Al.subR_byte _ _ _)
  generalize on p 1 = o1 at *
  generalize Al.subR a M o1 = R at *
  generalize Al.subC a M o1 = C1 at *
  generalize Al.subO a M o1 = O1 at *
  go_upto_region 23 with fail
  go_quiet (first | (go_at_call 79; with_reducible exact Calls.quiet_of_same ((HCo.out _).mono fun _ _ h => ⟨h.1, h.2.symm⟩)) | (go_at_call 80; with_reducible exact Calls.quiet_of_same ((HCa.out _).mono fun _ _ h => ⟨h.1, h.2.symm⟩)))
  have HRq := Lib.hid (HR1.out.fr ((Fr.refl [] wA).drewN nq) (by simp))
  have HFq : Hid (Fr (foot q v1) wA (wA.drewN nq)) := Lib.hid (HF1.out.drewN nq)
  have HBq : Hid (B ≤ (wA.drewN nq).heap.size) := HB1
  clear c0 HCo HCa
  generalize wA.drewN nq = wq at *
  obtain ⟨c0, c1, c2, c3, c4, c5, c6⟩ := regs HRq.out
  have f0 := RefAt.frozen HRq.out 0
  clear c1 c2 c3 c4 c5 c6
  have HR2 : Hid (RefAt (wq.setCell ⟨q, 0, none⟩ (.int .u8 R)) B q v1 ⟨R, x, y, s, p, PC, h, bb⟩) := Lib.hid (put_a HRq.out _)
  have HF2 : Hid (Fr (foot q v1) wA (wq.setCell ⟨q, 0, none⟩ (.int .u8 R))) := Lib.hid (HFq.out.setCell (by simp [foot]) _)
  have HL2 := Lib.hid HL1.out
  have HB2 : Hid (B ≤ (wq.setCell ⟨q, 0, none⟩ (.int .u8 R)).heap.size) := Lib.hid (Nat.le_trans HB1.out HF2.out.size)
  go_upto_region 25 with fail
  clear c0 f0
  generalize wq.setCell _ _ = w2 at *
  go_wp2_with fail
  (with_reducible refine (rset_any w2 B q v1 ⟨R, x, y, s, p, PC, h, bb⟩ 1 C1 HR2.out isF1 HOA.out.p HB2.out).mono ?_)
  intro e w3 hd
  obtain ⟨rfl, v3, hr, hf, hl⟩ := rdone_tr HF2.out HL2.out hd
  change RefAt w3 B q v3 ⟨R, x, y, s, setF p 1 C1, PC, h, bb⟩ at hr
  have HR3 := Lib.hid hr
  have HF3 := Lib.hid hf
  have HL3 := Lib.hid hl
  have HB3 := Lib.hid (Nat.le_trans HB0.out hf.size)
  clear hd hr hf hl
  go_wp2_with fail
  (with_reducible refine (rset_any w3 B q v3 ⟨R, x, y, s, setF p 1 C1, PC, h, bb⟩ 64 O1 HR3.out isF64 (fl_b (fl_setF _ _ _ isF1 HOA.out.pf)) HB3.out).mono ?_)
  intro e w4 hd
  obtain ⟨rfl, v4, hr, hf, hl⟩ := rdone_tr HF3.out HL3.out hd
  change RefAt w4 B q v4 ⟨R, x, y, s, setF (setF p 1 C1) 64 O1, PC, h, bb⟩ at hr
  have HR4 := Lib.hid hr
  have HF4 := Lib.hid hf
  have HL4 := Lib.hid hl
  have HB4 := Lib.hid (Nat.le_trans HB0.out hf.size)
  clear hd hr hf hl
  obtain ⟨c0, c1, c2, c3, c4, c5, c6⟩ := regs HR4.out
  clear c1 c2 c3 c4 c5 c6
  go_wp2_with fail
  (with_reducible refine (rzn_any w4 B q v4 ⟨R, x, y, s, setF (setF p 1 C1) 64 O1, PC, h, bb⟩ R HR4.out (fl_setF _ _ _ isF64 (fl_setF _ _ _ isF1 HOA.out.pf)) HRb.out HB4.out).mono ?_)
  intro e w5 hd
  obtain ⟨rfl, v5, hr, hf, hl⟩ := rdone_tr HF4.out HL4.out hd
  change RefAt w5 B q v5 ⟨R, x, y, s, zn (setF (setF p 1 C1) 64 O1) R, PC, h, bb⟩ at hr
  have HR5 := Lib.hid hr
  have HF5 := Lib.hid hf
  have HL5 := Lib.hid hl
  have HB5 := Lib.hid (Nat.le_trans HB0.out hf.size)
  clear hd hr hf hl c0
  obtain ⟨e0, e1, e2, e3, e4⟩ := blk5 (HX.out.fr HF5.out HXf.out)
  clear e0 e3 e4
  cases cr
  · obtain rfl := HN0.out rfl
    go_wp2
    go_ret
    exact rdone_tr HW1.out HWL.out ⟨rfl, v5, HR5.out, HF5.out, HL5.out⟩
  · obtain rfl := HN1.out rfl
    go_wp2
    go_ret
    exact rdone_tr HW1.out HWL.out ⟨rfl, v5, HR5.out, HF5.out, HL5.out⟩

end Ms
end Go.Proofs.YtlnpadekgakghaaDoor
