/-
  Contracts of the document's CPU: loads, stores, changed memory, and opcodes whose lowest two bits are 2. Conditions: the state is one that there is, few bytes were written.
-/
import Derived.Test.YtlnpadekgakghaaDoorMosRef8
namespace Go.Proofs.YtlnpadekgakghaaDoor
open Go.RowKit
namespace Ms
open Al (byte of_byte)
set_option linter.unusedVariables false

set_option maxRecDepth 100000 in
set_option maxHeartbeats 4000000 in
theorem rstoreX (w : World) (B q : Nat) (v : Value) (S : S14) (n : Nat) (mode : Int) (H : RefAt w B q v S) (hO : Ok n S) (hn : n + 2 < 1000000000) (h0 : 0 ≤ mode) (h8 : mode ≤ 8) (hB : B ≤ w.heap.size) :
    Calls Tryd.prog 76 #[.pointer (some ⟨q, 0, none⟩), .int .i64 mode, .bool true, .bool true] w (RDone w B q v (loads mode true true S) (.int .i64 (loadsN mode true S))) := by
  have HO := Lib.hid hO
  obtain ⟨a, x, y, s, p, pc, h, b⟩ := S
  have HAd := Lib.hid (raddress_any w B q v ⟨a, x, y, s, p, pc, h, b⟩ mode n H hO h0 h8 hB)
  have HuA := Lib.hid (adr_u16 mode hO)
  have HOA : Hid (Ok n (⟨a, x, y, s, p, adrPC mode (⟨a, x, y, s, p, pc, h, b⟩ : S14), h, adrB mode (⟨a, x, y, s, p, pc, h, b⟩ : S14)⟩ : S14)) := Lib.hid (Ok.mk' hO.a hO.x hO.y hO.s hO.pf (adrPC_u16 mode) (adrB_ok mode hO))
  obtain ⟨rd0, rd1⟩ := adr_rd mode (⟨a, x, y, s, p, pc, h, b⟩ : S14)
  have hS : loads mode true true (⟨a, x, y, s, p, pc, h, b⟩ : S14) = ⟨a, x, y, s, p, adrPC mode (⟨a, x, y, s, p, pc, h, b⟩ : S14), h, Io.wb (adrB mode (⟨a, x, y, s, p, pc, h, b⟩ : S14)) (adr mode (⟨a, x, y, s, p, pc, h, b⟩ : S14)).ad x⟩ := rfl
  have hM : loadsN mode true (⟨a, x, y, s, p, pc, h, b⟩ : S14) = (adr mode (⟨a, x, y, s, p, pc, h, b⟩ : S14)).put := rfl
  rw [hS, hM]
  clear hS hM
  have HHl := Lib.hid (foot_lt H)
  change Hid (Calls Tryd.prog 74 #[.pointer (some ⟨q, 0, none⟩), .int .i64 mode] w (RDone w B q v ⟨a, x, y, s, p, adrPC mode (⟨a, x, y, s, p, pc, h, b⟩ : S14), h, adrB mode (⟨a, x, y, s, p, pc, h, b⟩ : S14)⟩ (adV (adr mode (⟨a, x, y, s, p, pc, h, b⟩ : S14))))) at HAd
  generalize adrPC mode (⟨a, x, y, s, p, pc, h, b⟩ : S14) = PC at *
  generalize adrB mode (⟨a, x, y, s, p, pc, h, b⟩ : S14) = bb at *
  generalize adr mode (⟨a, x, y, s, p, pc, h, b⟩ : S14) = D at *
  obtain ⟨ad, cr, rd, put, chg⟩ := D
  simp only at rd0 rd1 HuA
  change Hid (Calls Tryd.prog 74 #[.pointer (some ⟨q, 0, none⟩), .int .i64 mode] w (RDone w B q v ⟨a, x, y, s, p, PC, h, bb⟩ (.agg #[.int .u16 ad, .bool cr, .int .i64 rd, .int .i64 put, .int .i64 chg]))) at HAd
  have HNn := Lib.hid hn
  have HB0 := Lib.hid hB
  obtain ⟨r0, r1⟩ : 0 ≤ x ∧ x < 256 := hO.x
  clear H hO hn hB h0 h8 HHl
  go_enter Tryd.func76, Tryd.ntmps76
  go_wp2_with fail
  (with_reducible refine (HAd.out).mono ?_)
  intro e w1 hd
  obtain ⟨rfl, v1, hr, hf, hl⟩ := hd
  have hg : ∃ g, w1.heap.size = g := ⟨_, rfl⟩
  obtain ⟨g, hg⟩ := hg
  have hxb := Blk.fresh w1 99 #[.int .u16 ad, .bool cr, .int .i64 rd, .int .i64 put, .int .i64 chg]
  rw [hg] at hxb
  have hal : Fr [] w1 (w1.alloc (.cells #[.int .u16 ad, .bool cr, .int .i64 rd, .int .i64 put, .int .i64 chg] 99)) := (Fr.refl [] w1).alloc _
  have HX := Lib.hid hxb
  have HXf : Hid (g ∉ foot q v1) := Lib.hid (fun hm => by have := foot_lt hr g hm; omega)
  have HR1 := Lib.hid (hr.fr hal (by simp))
  have HW1 : Hid (Fr (foot q v) w (w1.alloc (.cells #[.int .u16 ad, .bool cr, .int .i64 rd, .int .i64 put, .int .i64 chg] 99))) := Lib.hid (hf.tr hal.nil)
  have HWL := Lib.hid hl
  have HF1 : Hid (Fr (foot q v1) (w1.alloc (.cells #[.int .u16 ad, .bool cr, .int .i64 rd, .int .i64 put, .int .i64 chg] 99)) (w1.alloc (.cells #[.int .u16 ad, .bool cr, .int .i64 rd, .int .i64 put, .int .i64 chg] 99))) := Lib.hid (Fr.refl _ _)
  have HL1 : Hid (Lies (w1.alloc (.cells #[.int .u16 ad, .bool cr, .int .i64 rd, .int .i64 put, .int .i64 chg] 99)) v1 v1) := Lib.hid (Lies.refl _ _)
  have HB1 := Lib.hid (Nat.le_trans HB0.out HW1.out.size)
  clear hr hf hl hxb hal HAd
  go_upto_region 2 with fail
  generalize w1.alloc _ = wA at *
  clear hg HB0
  have HB0 := HB1
  obtain ⟨c0, c1, c2, c3, c4, c5, c6⟩ := regs HR1.out
  clear c0 c3 c4 c5 c6
  obtain ⟨e0, e1, e2, e3, e4⟩ := blk5 HX.out
  clear e1 e2 e3 e4
  go_wp2_with fail
  (with_reducible refine (rwrite_any wA B q v1 ⟨a, x, y, s, p, PC, h, bb⟩ ad x n HR1.out HuA.out HOA.out.x HOA.out (by have := HNn.out; omega) HB1.out).mono ?_)
  intro e w2 hd
  obtain ⟨rfl, v2, hr, hf, hl⟩ := rdone_tr HF1.out HL1.out hd
  change RefAt w2 B q v2 ⟨a, x, y, s, p, PC, h, Io.wb bb ad x⟩ at hr
  have HR2 := Lib.hid hr
  have HF2 := Lib.hid hf
  have HL2 := Lib.hid hl
  have HB2 := Lib.hid (Nat.le_trans HB0.out hf.size)
  clear hd hr hf hl
  clear c1 c2 e0
  obtain ⟨e0, e1, e2, e3, e4⟩ := blk5 (HX.out.fr HF2.out HXf.out)
  clear e0 e1 e2 e4
  go_wp2
  go_ret
  exact rdone_tr HW1.out HWL.out ⟨rfl, v2, HR2.out, HF2.out, HL2.out⟩

set_option maxRecDepth 100000 in
set_option maxHeartbeats 4000000 in
theorem rloadX (w : World) (B q : Nat) (v : Value) (S : S14) (n : Nat) (mode : Int) (H : RefAt w B q v S) (hO : Ok n S) (h0 : 0 ≤ mode) (h8 : mode ≤ 8) (hB : B ≤ w.heap.size) :
    Calls Tryd.prog 76 #[.pointer (some ⟨q, 0, none⟩), .int .i64 mode, .bool true, .bool false] w (RDone w B q v (loads mode true false S) (.int .i64 (loadsN mode false S))) := by
  have HO := Lib.hid hO
  obtain ⟨a, x, y, s, p, pc, h, b⟩ := S
  have HAd := Lib.hid (raddress_any w B q v ⟨a, x, y, s, p, pc, h, b⟩ mode n H hO h0 h8 hB)
  have HuA := Lib.hid (adr_u16 mode hO)
  have HOA : Hid (Ok n (⟨a, x, y, s, p, adrPC mode (⟨a, x, y, s, p, pc, h, b⟩ : S14), h, adrB mode (⟨a, x, y, s, p, pc, h, b⟩ : S14)⟩ : S14)) := Lib.hid (Ok.mk' hO.a hO.x hO.y hO.s hO.pf (adrPC_u16 mode) (adrB_ok mode hO))
  obtain ⟨rd0, rd1⟩ := adr_rd mode (⟨a, x, y, s, p, pc, h, b⟩ : S14)
  have hS : loads mode true false (⟨a, x, y, s, p, pc, h, b⟩ : S14) = ⟨a, (Io.rv (adrB mode (⟨a, x, y, s, p, pc, h, b⟩ : S14)) (adr mode (⟨a, x, y, s, p, pc, h, b⟩ : S14)).ad), y, s, zn p (Io.rv (adrB mode (⟨a, x, y, s, p, pc, h, b⟩ : S14)) (adr mode (⟨a, x, y, s, p, pc, h, b⟩ : S14)).ad), adrPC mode (⟨a, x, y, s, p, pc, h, b⟩ : S14), h, adrB mode (⟨a, x, y, s, p, pc, h, b⟩ : S14)⟩ := rfl
  have hM : loadsN mode false (⟨a, x, y, s, p, pc, h, b⟩ : S14) = (adr mode (⟨a, x, y, s, p, pc, h, b⟩ : S14)).rd + cr1 (adr mode (⟨a, x, y, s, p, pc, h, b⟩ : S14)).cr := rfl
  rw [hS, hM]
  clear hS hM
  have hv : byte (Io.rv (adrB mode (⟨a, x, y, s, p, pc, h, b⟩ : S14)) (adr mode (⟨a, x, y, s, p, pc, h, b⟩ : S14)).ad) := Io.rv_ok _ (adrB_ok mode hO)
  have HHl := Lib.hid (foot_lt H)
  change Hid (Calls Tryd.prog 74 #[.pointer (some ⟨q, 0, none⟩), .int .i64 mode] w (RDone w B q v ⟨a, x, y, s, p, adrPC mode (⟨a, x, y, s, p, pc, h, b⟩ : S14), h, adrB mode (⟨a, x, y, s, p, pc, h, b⟩ : S14)⟩ (adV (adr mode (⟨a, x, y, s, p, pc, h, b⟩ : S14))))) at HAd
  generalize adrPC mode (⟨a, x, y, s, p, pc, h, b⟩ : S14) = PC at *
  generalize adrB mode (⟨a, x, y, s, p, pc, h, b⟩ : S14) = bb at *
  generalize adr mode (⟨a, x, y, s, p, pc, h, b⟩ : S14) = D at *
  obtain ⟨ad, cr, rd, put, chg⟩ := D
  simp only at rd0 rd1 HuA
  change Hid (Calls Tryd.prog 74 #[.pointer (some ⟨q, 0, none⟩), .int .i64 mode] w (RDone w B q v ⟨a, x, y, s, p, PC, h, bb⟩ (.agg #[.int .u16 ad, .bool cr, .int .i64 rd, .int .i64 put, .int .i64 chg]))) at HAd
  have HVM : Hid (bb.m ad = Io.rv bb ad) := Lib.hid rfl
  generalize Io.rv bb ad = M at *
  have HM := Lib.hid hv
  obtain ⟨N, hN⟩ : ∃ z, rd + cr1 cr = z := ⟨_, rfl⟩
  have HN0 : Hid (cr = false → N = rd) := Lib.hid (by rintro rfl; rw [← hN]; show rd + 0 = rd; omega)
  have HN1 : Hid (cr = true → N = rd + 1) := Lib.hid (by rintro rfl; exact hN.symm)
  simp only
  rw [hN]
  have HB0 := Lib.hid hB
  have m0 : 0 ≤ M := hv.1
  have m1 : M < 256 := hv.2
  clear hv hN H hO hB h0 h8 HHl
  go_enter Tryd.func76, Tryd.ntmps76
  go_wp2_with fail
  (with_reducible refine (HAd.out).mono ?_)
  intro e w1 hd
  obtain ⟨rfl, v1, hr, hf, hl⟩ := hd
  have hg : ∃ g, w1.heap.size = g := ⟨_, rfl⟩
  obtain ⟨g, hg⟩ := hg
  have hxb := Blk.fresh w1 99 #[.int .u16 ad, .bool cr, .int .i64 rd, .int .i64 put, .int .i64 chg]
  rw [hg] at hxb
  have hal : Fr [] w1 (w1.alloc (.cells #[.int .u16 ad, .bool cr, .int .i64 rd, .int .i64 put, .int .i64 chg] 99)) := (Fr.refl [] w1).alloc _
  have HX := Lib.hid hxb
  have HXf : Hid (g ∉ foot q v1) := Lib.hid (fun hm => by have := foot_lt hr g hm; omega)
  have HR1 := Lib.hid (hr.fr hal (by simp))
  have HW1 : Hid (Fr (foot q v) w (w1.alloc (.cells #[.int .u16 ad, .bool cr, .int .i64 rd, .int .i64 put, .int .i64 chg] 99))) := Lib.hid (hf.tr hal.nil)
  have HWL := Lib.hid hl
  have HF1 : Hid (Fr (foot q v1) (w1.alloc (.cells #[.int .u16 ad, .bool cr, .int .i64 rd, .int .i64 put, .int .i64 chg] 99)) (w1.alloc (.cells #[.int .u16 ad, .bool cr, .int .i64 rd, .int .i64 put, .int .i64 chg] 99))) := Lib.hid (Fr.refl _ _)
  have HL1 : Hid (Lies (w1.alloc (.cells #[.int .u16 ad, .bool cr, .int .i64 rd, .int .i64 put, .int .i64 chg] 99)) v1 v1) := Lib.hid (Lies.refl _ _)
  have HB1 := Lib.hid (Nat.le_trans HB0.out HW1.out.size)
  clear hr hf hl hxb hal HAd
  go_upto_region 8 with fail
  generalize w1.alloc _ = wA at *
  clear hg HB0
  have HB0 := HB1
  obtain ⟨e0, e1, e2, e3, e4⟩ := blk5 HX.out
  clear e1 e2 e3 e4
  go_wp2_with fail
  (with_reducible refine (rread_any wA B q v1 ⟨a, x, y, s, p, PC, h, bb⟩ ad HR1.out HuA.out).mono ?_)
  rintro e wq ⟨rfl, rfl⟩
  rw [show (St.b (⟨a, x, y, s, p, PC, h, bb⟩ : S14)).m ad = M from HVM.out]
  clear e0
  obtain ⟨c0, c1, c2, c3, c4, c5, c6⟩ := regs HR1.out
  have f1 := RefAt.frozen HR1.out 1
  clear c0 c2 c3 c4 c5 c6
  have HR2 : Hid (RefAt (wA.setCell ⟨q, 1, none⟩ (.int .u8 (M))) B q v1 ⟨a, M, y, s, p, PC, h, bb⟩) := Lib.hid (put_x HR1.out _)
  have HF2 : Hid (Fr (foot q v1) wA (wA.setCell ⟨q, 1, none⟩ (.int .u8 (M)))) := Lib.hid (HF1.out.setCell (by simp [foot]) _)
  have HL2 := Lib.hid HL1.out
  have HB2 : Hid (B ≤ (wA.setCell ⟨q, 1, none⟩ (.int .u8 (M))).heap.size) := Lib.hid (Nat.le_trans HB0.out HF2.out.size)
  go_upto_region 12 with fail
  clear c1 f1
  generalize wA.setCell _ _ = w2 at *
  go_wp2_with fail
  (with_reducible refine (rzn_any w2 B q v1 ⟨a, M, y, s, p, PC, h, bb⟩ M HR2.out HOA.out.pf HM.out HB2.out).mono ?_)
  intro e w3 hd
  obtain ⟨rfl, v3, hr, hf, hl⟩ := rdone_tr HF2.out HL2.out hd
  change RefAt w3 B q v3 ⟨a, M, y, s, zn p M, PC, h, bb⟩ at hr
  have HR3 := Lib.hid hr
  have HF3 := Lib.hid hf
  have HL3 := Lib.hid hl
  have HB3 := Lib.hid (Nat.le_trans HB0.out hf.size)
  clear hd hr hf hl
  obtain ⟨e0, e1, e2, e3, e4⟩ := blk5 (HX.out.fr HF3.out HXf.out)
  clear e0 e3 e4
  cases cr
  · obtain rfl := HN0.out rfl
    go_wp2
    go_ret
    exact rdone_tr HW1.out HWL.out ⟨rfl, v3, HR3.out, HF3.out, HL3.out⟩
  · obtain rfl := HN1.out rfl
    go_wp2
    go_ret
    exact rdone_tr HW1.out HWL.out ⟨rfl, v3, HR3.out, HF3.out, HL3.out⟩

set_option maxRecDepth 100000 in
set_option maxHeartbeats 4000000 in
theorem rstoreY (w : World) (B q : Nat) (v : Value) (S : S14) (n : Nat) (mode : Int) (H : RefAt w B q v S) (hO : Ok n S) (hn : n + 2 < 1000000000) (h0 : 0 ≤ mode) (h8 : mode ≤ 8) (hB : B ≤ w.heap.size) :
    Calls Tryd.prog 76 #[.pointer (some ⟨q, 0, none⟩), .int .i64 mode, .bool false, .bool true] w (RDone w B q v (loads mode false true S) (.int .i64 (loadsN mode true S))) := by
  have HO := Lib.hid hO
  obtain ⟨a, x, y, s, p, pc, h, b⟩ := S
  have HAd := Lib.hid (raddress_any w B q v ⟨a, x, y, s, p, pc, h, b⟩ mode n H hO h0 h8 hB)
  have HuA := Lib.hid (adr_u16 mode hO)
  have HOA : Hid (Ok n (⟨a, x, y, s, p, adrPC mode (⟨a, x, y, s, p, pc, h, b⟩ : S14), h, adrB mode (⟨a, x, y, s, p, pc, h, b⟩ : S14)⟩ : S14)) := Lib.hid (Ok.mk' hO.a hO.x hO.y hO.s hO.pf (adrPC_u16 mode) (adrB_ok mode hO))
  obtain ⟨rd0, rd1⟩ := adr_rd mode (⟨a, x, y, s, p, pc, h, b⟩ : S14)
  have hS : loads mode false true (⟨a, x, y, s, p, pc, h, b⟩ : S14) = ⟨a, x, y, s, p, adrPC mode (⟨a, x, y, s, p, pc, h, b⟩ : S14), h, Io.wb (adrB mode (⟨a, x, y, s, p, pc, h, b⟩ : S14)) (adr mode (⟨a, x, y, s, p, pc, h, b⟩ : S14)).ad y⟩ := rfl
  have hM : loadsN mode true (⟨a, x, y, s, p, pc, h, b⟩ : S14) = (adr mode (⟨a, x, y, s, p, pc, h, b⟩ : S14)).put := rfl
  rw [hS, hM]
  clear hS hM
  have HHl := Lib.hid (foot_lt H)
  change Hid (Calls Tryd.prog 74 #[.pointer (some ⟨q, 0, none⟩), .int .i64 mode] w (RDone w B q v ⟨a, x, y, s, p, adrPC mode (⟨a, x, y, s, p, pc, h, b⟩ : S14), h, adrB mode (⟨a, x, y, s, p, pc, h, b⟩ : S14)⟩ (adV (adr mode (⟨a, x, y, s, p, pc, h, b⟩ : S14))))) at HAd
  generalize adrPC mode (⟨a, x, y, s, p, pc, h, b⟩ : S14) = PC at *
  generalize adrB mode (⟨a, x, y, s, p, pc, h, b⟩ : S14) = bb at *
  generalize adr mode (⟨a, x, y, s, p, pc, h, b⟩ : S14) = D at *
  obtain ⟨ad, cr, rd, put, chg⟩ := D
  simp only at rd0 rd1 HuA
  change Hid (Calls Tryd.prog 74 #[.pointer (some ⟨q, 0, none⟩), .int .i64 mode] w (RDone w B q v ⟨a, x, y, s, p, PC, h, bb⟩ (.agg #[.int .u16 ad, .bool cr, .int .i64 rd, .int .i64 put, .int .i64 chg]))) at HAd
  have HNn := Lib.hid hn
  have HB0 := Lib.hid hB
  obtain ⟨r0, r1⟩ : 0 ≤ y ∧ y < 256 := hO.y
  clear H hO hn hB h0 h8 HHl
  go_enter Tryd.func76, Tryd.ntmps76
  go_wp2_with fail
  (with_reducible refine (HAd.out).mono ?_)
  intro e w1 hd
  obtain ⟨rfl, v1, hr, hf, hl⟩ := hd
  have hg : ∃ g, w1.heap.size = g := ⟨_, rfl⟩
  obtain ⟨g, hg⟩ := hg
  have hxb := Blk.fresh w1 99 #[.int .u16 ad, .bool cr, .int .i64 rd, .int .i64 put, .int .i64 chg]
  rw [hg] at hxb
  have hal : Fr [] w1 (w1.alloc (.cells #[.int .u16 ad, .bool cr, .int .i64 rd, .int .i64 put, .int .i64 chg] 99)) := (Fr.refl [] w1).alloc _
  have HX := Lib.hid hxb
  have HXf : Hid (g ∉ foot q v1) := Lib.hid (fun hm => by have := foot_lt hr g hm; omega)
  have HR1 := Lib.hid (hr.fr hal (by simp))
  have HW1 : Hid (Fr (foot q v) w (w1.alloc (.cells #[.int .u16 ad, .bool cr, .int .i64 rd, .int .i64 put, .int .i64 chg] 99))) := Lib.hid (hf.tr hal.nil)
  have HWL := Lib.hid hl
  have HF1 : Hid (Fr (foot q v1) (w1.alloc (.cells #[.int .u16 ad, .bool cr, .int .i64 rd, .int .i64 put, .int .i64 chg] 99)) (w1.alloc (.cells #[.int .u16 ad, .bool cr, .int .i64 rd, .int .i64 put, .int .i64 chg] 99))) := Lib.hid (Fr.refl _ _)
  have HL1 : Hid (Lies (w1.alloc (.cells #[.int .u16 ad, .bool cr, .int .i64 rd, .int .i64 put, .int .i64 chg] 99)) v1 v1) := Lib.hid (Lies.refl _ _)
  have HB1 := Lib.hid (Nat.le_trans HB0.out HW1.out.size)
  clear hr hf hl hxb hal HAd
  go_upto_region 2 with fail
  generalize w1.alloc _ = wA at *
  clear hg HB0
  have HB0 := HB1
  obtain ⟨c0, c1, c2, c3, c4, c5, c6⟩ := regs HR1.out
  clear c0 c3 c4 c5 c6
  obtain ⟨e0, e1, e2, e3, e4⟩ := blk5 HX.out
  clear e1 e2 e3 e4
  go_wp2_with fail
  (with_reducible refine (rwrite_any wA B q v1 ⟨a, x, y, s, p, PC, h, bb⟩ ad y n HR1.out HuA.out HOA.out.y HOA.out (by have := HNn.out; omega) HB1.out).mono ?_)
  intro e w2 hd
  obtain ⟨rfl, v2, hr, hf, hl⟩ := rdone_tr HF1.out HL1.out hd
  change RefAt w2 B q v2 ⟨a, x, y, s, p, PC, h, Io.wb bb ad y⟩ at hr
  have HR2 := Lib.hid hr
  have HF2 := Lib.hid hf
  have HL2 := Lib.hid hl
  have HB2 := Lib.hid (Nat.le_trans HB0.out hf.size)
  clear hd hr hf hl
  clear c1 c2 e0
  obtain ⟨e0, e1, e2, e3, e4⟩ := blk5 (HX.out.fr HF2.out HXf.out)
  clear e0 e1 e2 e4
  go_wp2
  go_ret
  exact rdone_tr HW1.out HWL.out ⟨rfl, v2, HR2.out, HF2.out, HL2.out⟩

set_option maxRecDepth 100000 in
set_option maxHeartbeats 4000000 in
theorem rloadY (w : World) (B q : Nat) (v : Value) (S : S14) (n : Nat) (mode : Int) (H : RefAt w B q v S) (hO : Ok n S) (h0 : 0 ≤ mode) (h8 : mode ≤ 8) (hB : B ≤ w.heap.size) :
    Calls Tryd.prog 76 #[.pointer (some ⟨q, 0, none⟩), .int .i64 mode, .bool false, .bool false] w (RDone w B q v (loads mode false false S) (.int .i64 (loadsN mode false S))) := by
  have HO := Lib.hid hO
  obtain ⟨a, x, y, s, p, pc, h, b⟩ := S
  have HAd := Lib.hid (raddress_any w B q v ⟨a, x, y, s, p, pc, h, b⟩ mode n H hO h0 h8 hB)
  have HuA := Lib.hid (adr_u16 mode hO)
  have HOA : Hid (Ok n (⟨a, x, y, s, p, adrPC mode (⟨a, x, y, s, p, pc, h, b⟩ : S14), h, adrB mode (⟨a, x, y, s, p, pc, h, b⟩ : S14)⟩ : S14)) := Lib.hid (Ok.mk' hO.a hO.x hO.y hO.s hO.pf (adrPC_u16 mode) (adrB_ok mode hO))
  obtain ⟨rd0, rd1⟩ := adr_rd mode (⟨a, x, y, s, p, pc, h, b⟩ : S14)
  have hS : loads mode false false (⟨a, x, y, s, p, pc, h, b⟩ : S14) = ⟨a, x, (Io.rv (adrB mode (⟨a, x, y, s, p, pc, h, b⟩ : S14)) (adr mode (⟨a, x, y, s, p, pc, h, b⟩ : S14)).ad), s, zn p (Io.rv (adrB mode (⟨a, x, y, s, p, pc, h, b⟩ : S14)) (adr mode (⟨a, x, y, s, p, pc, h, b⟩ : S14)).ad), adrPC mode (⟨a, x, y, s, p, pc, h, b⟩ : S14), h, adrB mode (⟨a, x, y, s, p, pc, h, b⟩ : S14)⟩ := rfl
  have hM : loadsN mode false (⟨a, x, y, s, p, pc, h, b⟩ : S14) = (adr mode (⟨a, x, y, s, p, pc, h, b⟩ : S14)).rd + cr1 (adr mode (⟨a, x, y, s, p, pc, h, b⟩ : S14)).cr := rfl
  rw [hS, hM]
  clear hS hM
  have hv : byte (Io.rv (adrB mode (⟨a, x, y, s, p, pc, h, b⟩ : S14)) (adr mode (⟨a, x, y, s, p, pc, h, b⟩ : S14)).ad) := Io.rv_ok _ (adrB_ok mode hO)
  have HHl := Lib.hid (foot_lt H)
  change Hid (Calls Tryd.prog 74 #[.pointer (some ⟨q, 0, none⟩), .int .i64 mode] w (RDone w B q v ⟨a, x, y, s, p, adrPC mode (⟨a, x, y, s, p, pc, h, b⟩ : S14), h, adrB mode (⟨a, x, y, s, p, pc, h, b⟩ : S14)⟩ (adV (adr mode (⟨a, x, y, s, p, pc, h, b⟩ : S14))))) at HAd
  generalize adrPC mode (⟨a, x, y, s, p, pc, h, b⟩ : S14) = PC at *
  generalize adrB mode (⟨a, x, y, s, p, pc, h, b⟩ : S14) = bb at *
  generalize adr mode (⟨a, x, y, s, p, pc, h, b⟩ : S14) = D at *
  obtain ⟨ad, cr, rd, put, chg⟩ := D
  simp only at rd0 rd1 HuA
  change Hid (Calls Tryd.prog 74 #[.pointer (some ⟨q, 0, none⟩), .int .i64 mode] w (RDone w B q v ⟨a, x, y, s, p, PC, h, bb⟩ (.agg #[.int .u16 ad, .bool cr, .int .i64 rd, .int .i64 put, .int .i64 chg]))) at HAd
  have HVM : Hid (bb.m ad = Io.rv bb ad) := Lib.hid rfl
  generalize Io.rv bb ad = M at *
  have HM := Lib.hid hv
  obtain ⟨N, hN⟩ : ∃ z, rd + cr1 cr = z := ⟨_, rfl⟩
  have HN0 : Hid (cr = false → N = rd) := Lib.hid (by rintro rfl; rw [← hN]; show rd + 0 = rd; omega)
  have HN1 : Hid (cr = true → N = rd + 1) := Lib.hid (by rintro rfl; exact hN.symm)
  simp only
  rw [hN]
  have HB0 := Lib.hid hB
  have m0 : 0 ≤ M := hv.1
  have m1 : M < 256 := hv.2
  clear hv hN H hO hB h0 h8 HHl
  go_enter Tryd.func76, Tryd.ntmps76
  go_wp2_with fail
  (with_reducible refine (HAd.out).mono ?_)
  intro e w1 hd
  obtain ⟨rfl, v1, hr, hf, hl⟩ := hd
  have hg : ∃ g, w1.heap.size = g := ⟨_, rfl⟩
  obtain ⟨g, hg⟩ := hg
  have hxb := Blk.fresh w1 99 #[.int .u16 ad, .bool cr, .int .i64 rd, .int .i64 put, .int .i64 chg]
  rw [hg] at hxb
  have hal : Fr [] w1 (w1.alloc (.cells #[.int .u16 ad, .bool cr, .int .i64 rd, .int .i64 put, .int .i64 chg] 99)) := (Fr.refl [] w1).alloc _
  have HX := Lib.hid hxb
  have HXf : Hid (g ∉ foot q v1) := Lib.hid (fun hm => by have := foot_lt hr g hm; omega)
  have HR1 := Lib.hid (hr.fr hal (by simp))
  have HW1 : Hid (Fr (foot q v) w (w1.alloc (.cells #[.int .u16 ad, .bool cr, .int .i64 rd, .int .i64 put, .int .i64 chg] 99))) := Lib.hid (hf.tr hal.nil)
  have HWL := Lib.hid hl
  have HF1 : Hid (Fr (foot q v1) (w1.alloc (.cells #[.int .u16 ad, .bool cr, .int .i64 rd, .int .i64 put, .int .i64 chg] 99)) (w1.alloc (.cells #[.int .u16 ad, .bool cr, .int .i64 rd, .int .i64 put, .int .i64 chg] 99))) := Lib.hid (Fr.refl _ _)
  have HL1 : Hid (Lies (w1.alloc (.cells #[.int .u16 ad, .bool cr, .int .i64 rd, .int .i64 put, .int .i64 chg] 99)) v1 v1) := Lib.hid (Lies.refl _ _)
  have HB1 := Lib.hid (Nat.le_trans HB0.out HW1.out.size)
  clear hr hf hl hxb hal HAd
  go_upto_region 8 with fail
  generalize w1.alloc _ = wA at *
  clear hg HB0
  have HB0 := HB1
  obtain ⟨e0, e1, e2, e3, e4⟩ := blk5 HX.out
  clear e1 e2 e3 e4
  go_wp2_with fail
  (with_reducible refine (rread_any wA B q v1 ⟨a, x, y, s, p, PC, h, bb⟩ ad HR1.out HuA.out).mono ?_)
  rintro e wq ⟨rfl, rfl⟩
  rw [show (St.b (⟨a, x, y, s, p, PC, h, bb⟩ : S14)).m ad = M from HVM.out]
  clear e0
  obtain ⟨c0, c1, c2, c3, c4, c5, c6⟩ := regs HR1.out
  have f2 := RefAt.frozen HR1.out 2
  clear c0 c1 c3 c4 c5 c6
  have HR2 : Hid (RefAt (wA.setCell ⟨q, 2, none⟩ (.int .u8 (M))) B q v1 ⟨a, x, M, s, p, PC, h, bb⟩) := Lib.hid (put_y HR1.out _)
  have HF2 : Hid (Fr (foot q v1) wA (wA.setCell ⟨q, 2, none⟩ (.int .u8 (M)))) := Lib.hid (HF1.out.setCell (by simp [foot]) _)
  have HL2 := Lib.hid HL1.out
  have HB2 : Hid (B ≤ (wA.setCell ⟨q, 2, none⟩ (.int .u8 (M))).heap.size) := Lib.hid (Nat.le_trans HB0.out HF2.out.size)
  go_upto_region 12 with fail
  clear c2 f2
  generalize wA.setCell _ _ = w2 at *
  go_wp2_with fail
  (with_reducible refine (rzn_any w2 B q v1 ⟨a, x, M, s, p, PC, h, bb⟩ M HR2.out HOA.out.pf HM.out HB2.out).mono ?_)
  intro e w3 hd
  obtain ⟨rfl, v3, hr, hf, hl⟩ := rdone_tr HF2.out HL2.out hd
  change RefAt w3 B q v3 ⟨a, x, M, s, zn p M, PC, h, bb⟩ at hr
  have HR3 := Lib.hid hr
  have HF3 := Lib.hid hf
  have HL3 := Lib.hid hl
  have HB3 := Lib.hid (Nat.le_trans HB0.out hf.size)
  clear hd hr hf hl
  obtain ⟨e0, e1, e2, e3, e4⟩ := blk5 (HX.out.fr HF3.out HXf.out)
  clear e0 e3 e4
  cases cr
  · obtain rfl := HN0.out rfl
    go_wp2
    go_ret
    exact rdone_tr HW1.out HWL.out ⟨rfl, v3, HR3.out, HF3.out, HL3.out⟩
  · obtain rfl := HN1.out rfl
    go_wp2
    go_ret
    exact rdone_tr HW1.out HWL.out ⟨rfl, v3, HR3.out, HF3.out, HL3.out⟩

theorem rloads_any (w : World) (B q : Nat) (v : Value) (S : S14) (n : Nat) (mode : Int) (isX store : Bool) (H : RefAt w B q v S) (hO : Ok n S) (hn : n + 2 < 1000000000) (h0 : 0 ≤ mode) (h8 : mode ≤ 8) (hB : B ≤ w.heap.size) :
    Calls Tryd.prog 76 #[.pointer (some ⟨q, 0, none⟩), .int .i64 mode, .bool isX, .bool store] w (RDone w B q v (loads mode isX store S) (.int .i64 (loadsN mode store S))) := by
  cases isX <;> cases store
  · exact rloadY w B q v S n mode H hO h0 h8 hB
  · exact rstoreY w B q v S n mode H hO hn h0 h8 hB
  · exact rloadX w B q v S n mode H hO h0 h8 hB
  · exact rstoreX w B q v S n mode H hO hn h0 h8 hB
theorem rsingle_any (w : World) (B q : Nat) (v : Value) (S : S14) (n : Nat) (what : Int) (stack : Bool) (H : RefAt w B q v S) (hO : Ok n S) (hk : stack = true → what = 4 ∨ what = 5) (h4 : 4 ≤ what) (h7 : what ≤ 7) (hB : B ≤ w.heap.size) :
    Calls Tryd.prog 83 #[.pointer (some ⟨q, 0, none⟩), .int .i64 what, .bool stack] w (RDone w B q v (single what stack S) (.int .i64 2)) := by
  cases stack
  · have : what = 4 ∨ what = 5 ∨ what = 6 ∨ what = 7 := by omega
    rcases this with rfl | rfl | rfl | rfl
    · exact rsingle4 w B q v S n H hO hB
    · exact rsingle5 w B q v S n H hO hB
    · exact rsingle6 w B q v S n H hO hB
    · exact rsingle7 w B q v S n H hO hB
  · rcases hk rfl with rfl | rfl
    · exact rsingle4s w B q v S n H hO hB
    · exact rsingle5s w B q v S n H hO hB
theorem rchanged_any (w : World) (B q : Nat) (v : Value) (S : S14) (what u : Int) (H : RefAt w B q v S) (hO : fl S.p) (hu : byte u) (hw : what = 0 ∨ what = 1 ∨ what = 2 ∨ what = 3 ∨ what = 6 ∨ what = 7) (hB : B ≤ w.heap.size) :
    Calls Tryd.prog 82 #[.pointer (some ⟨q, 0, none⟩), .int .i64 what, .int .u8 u] w (RDone w B q v (withP S (chP what S.p u)) (.int .u8 (chV what S.p u))) := by
  rcases hw with rfl | rfl | rfl | rfl | rfl | rfl
  · exact rchanged0 w B q v S u H hO hu hB
  · exact rchanged1 w B q v S u H hO hu hB
  · exact rchanged2 w B q v S u H hO hu hB
  · exact rchanged3 w B q v S u H hO hu hB
  · exact rchanged6 w B q v S u H hO hu hB
  · exact rchanged7 w B q v S u H hO hu hB

set_option maxRecDepth 100000 in
set_option maxHeartbeats 4000000 in
theorem rsecond_0 (w : World) (B q : Nat) (v : Value) (S : S14) (n : Nat) (H : RefAt w B q v S) (hO : Ok n S) (hn : n + 2 < 1000000000) (hB : B ≤ w.heap.size) :
    Calls Tryd.prog 49 #[.pointer (some ⟨q, 0, none⟩), .int .i64 5, .int .i64 0] w (RDone w B q v (second 5 0 S) (.int .i64 (secondN 5 0 S))) := by
  have HO := Lib.hid hO
  have HN := Lib.hid hn
  obtain ⟨a, x, y, s, p, pc, h, b⟩ := S
  have HR0 := Lib.hid H
  have HF0 : Hid (Fr (foot q v) w w) := Lib.hid (Fr.refl _ w)
  have HL0 : Hid (Lies w v v) := Lib.hid (Lies.refl w v)
  have HB0 := Lib.hid hB
  have hE : second 5 0 (⟨a, x, y, s, p, pc, h, b⟩ : S14) = loads 2 true false (⟨a, x, y, s, p, pc, h, b⟩ : S14) := rfl
  have hM : loadsN 2 false (⟨a, x, y, s, p, pc, h, b⟩ : S14) = 2 := rfl
  have HC : Hid (∀ W V, RefAt W B q V (⟨a, x, y, s, p, pc, h, b⟩ : S14) → B ≤ W.heap.size → Calls Tryd.prog 76 #[.pointer (some ⟨q, 0, none⟩), .int .i64 2, .bool true, .bool false] W (RDone W B q V (loads 2 true false (⟨a, x, y, s, p, pc, h, b⟩ : S14)) (.int .i64 2))) := Lib.hid (fun W V hr hb => rloads_any W B q V (⟨a, x, y, s, p, pc, h, b⟩ : S14) n 2 true false hr HO.out HN.out (by omega) (by omega) hb)
  show Calls _ _ _ _ (RDone w B q v (loads 2 true false (⟨a, x, y, s, p, pc, h, b⟩ : S14)) (.int .i64 2))
  generalize loads 2 true false (⟨a, x, y, s, p, pc, h, b⟩ : S14) = T at *
  clear H hO hB hn hE hM
  go_enter Tryd.func49, Tryd.ntmps49
  go_wp2_with fail
  (with_reducible refine (HC.out w v HR0.out HB0.out).mono ?_)
  intro e w1 hd
  obtain ⟨rfl, v1, hr, hf, hl⟩ := rdone_tr HF0.out HL0.out hd
  change RefAt w1 B q v1 T at hr
  have HR1 := Lib.hid hr
  have HF1 := Lib.hid hf
  have HL1 := Lib.hid hl
  have HB1 := Lib.hid (Nat.le_trans HB0.out hf.size)
  clear hd hr hf hl
  go_wp2
  go_ret
  exact ⟨rfl, v1, HR1.out, HF1.out, HL1.out⟩

set_option maxRecDepth 100000 in
set_option maxHeartbeats 4000000 in
theorem rsecond_2 (w : World) (B q : Nat) (v : Value) (S : S14) (n : Nat) (what : Int) (H : RefAt w B q v S) (hO : Ok n S) (hn : n + 2 < 1000000000) (hw0 : 0 ≤ what) (hw4 : what < 4) (hB : B ≤ w.heap.size) :
    Calls Tryd.prog 49 #[.pointer (some ⟨q, 0, none⟩), .int .i64 what, .int .i64 2] w (RDone w B q v (second what 2 S) (.int .i64 (secondN what 2 S))) := by
  have HO := Lib.hid hO
  obtain ⟨a, x, y, s, p, pc, h, b⟩ := S
  obtain ⟨a0, a1⟩ : 0 ≤ a ∧ a < 256 := hO.a
  have HR0 := Lib.hid H
  have HF0 : Hid (Fr (foot q v) w w) := Lib.hid (Fr.refl _ w)
  have HL0 : Hid (Lies w v v) := Lib.hid (Lies.refl w v)
  have HB0 := Lib.hid hB
  have hE : second what 2 (⟨a, x, y, s, p, pc, h, b⟩ : S14) = ⟨chV what p a, x, y, s, chP what p a, pc, h, b⟩ := by unfold second; rw [if_neg (by omega), if_pos ⟨rfl, hw4⟩]
  have hM : secondN what 2 (⟨a, x, y, s, p, pc, h, b⟩ : S14) = 2 := rfl
  rw [hE, hM]
  have hcb := chV_byte what p a HO.out.a
  have HC : Hid (∀ W V, RefAt W B q V (⟨a, x, y, s, p, pc, h, b⟩ : S14) → B ≤ W.heap.size → Calls Tryd.prog 82 #[.pointer (some ⟨q, 0, none⟩), .int .i64 what, .int .u8 a] W (RDone W B q V ⟨a, x, y, s, chP what p a, pc, h, b⟩ (.int .u8 (chV what p a)))) := Lib.hid (fun W V hr hb => rchanged_any W B q V (⟨a, x, y, s, p, pc, h, b⟩ : S14) what a hr HO.out.pf HO.out.a (by omega) hb)
  generalize chV what p a = R at *
  generalize chP what p a = P at *
  obtain ⟨r0, r1⟩ := hcb
  clear H hO hB hn hE hM
  go_enter Tryd.func49, Tryd.ntmps49
  obtain ⟨c0, c1, c2, c3, c4, c5, c6⟩ := regs HR0.out
  clear c1 c2 c3 c4 c5 c6
  go_wp2_with fail
  (with_reducible refine (HC.out w v HR0.out HB0.out).mono ?_)
  intro e w1 hd
  obtain ⟨rfl, v1, hr, hf, hl⟩ := rdone_tr HF0.out HL0.out hd
  change RefAt w1 B q v1 ⟨a, x, y, s, P, pc, h, b⟩ at hr
  have HR1 := Lib.hid hr
  have HF1 := Lib.hid hf
  have HL1 := Lib.hid hl
  have HB1 := Lib.hid (Nat.le_trans HB0.out hf.size)
  clear hd hr hf hl
  clear c0
  obtain ⟨c0, c1, c2, c3, c4, c5, c6⟩ := regs HR1.out
  have f0 := RefAt.frozen HR1.out 0
  clear c1 c2 c3 c4 c5 c6
  go_wp2
  go_ret
  exact rdone_set _ HF1.out HL1.out (put_a HR1.out _)

set_option maxRecDepth 100000 in
set_option maxHeartbeats 4000000 in
theorem rsecond_102 (w : World) (B q : Nat) (v : Value) (S : S14) (n : Nat) (what : Int) (H : RefAt w B q v S) (hO : Ok n S) (hn : n + 2 < 1000000000) (hw0 : 4 ≤ what) (hw4 : what ≤ 7) (hB : B ≤ w.heap.size) :
    Calls Tryd.prog 49 #[.pointer (some ⟨q, 0, none⟩), .int .i64 what, .int .i64 2] w (RDone w B q v (second what 2 S) (.int .i64 (secondN what 2 S))) := by
  have HO := Lib.hid hO
  obtain ⟨a, x, y, s, p, pc, h, b⟩ := S
  have HR0 := Lib.hid H
  have HF0 : Hid (Fr (foot q v) w w) := Lib.hid (Fr.refl _ w)
  have HL0 : Hid (Lies w v v) := Lib.hid (Lies.refl w v)
  have HB0 := Lib.hid hB
  have hE : second what 2 (⟨a, x, y, s, p, pc, h, b⟩ : S14) = single what false (⟨a, x, y, s, p, pc, h, b⟩ : S14) := by unfold second; rw [if_neg (by omega), if_neg (by omega), if_pos (by omega)]; rfl
  have hM : secondN what 2 (⟨a, x, y, s, p, pc, h, b⟩ : S14) = 2 := rfl
  rw [hE, hM]
  have HC : Hid (∀ W V, RefAt W B q V (⟨a, x, y, s, p, pc, h, b⟩ : S14) → B ≤ W.heap.size → Calls Tryd.prog 83 #[.pointer (some ⟨q, 0, none⟩), .int .i64 what, .bool false] W (RDone W B q V (single what false (⟨a, x, y, s, p, pc, h, b⟩ : S14)) (.int .i64 2))) := Lib.hid (fun W V hr hb => rsingle_any W B q V (⟨a, x, y, s, p, pc, h, b⟩ : S14) n what false hr HO.out (fun e => by cases e) (by omega) (by omega) hb)
  generalize single what false (⟨a, x, y, s, p, pc, h, b⟩ : S14) = T at *
  clear H hO hB hn hE hM
  go_enter Tryd.func49, Tryd.ntmps49
  go_wp2_with fail
  (with_reducible refine (HC.out w v HR0.out HB0.out).mono ?_)
  intro e w1 hd
  obtain ⟨rfl, v1, hr, hf, hl⟩ := rdone_tr HF0.out HL0.out hd
  change RefAt w1 B q v1 T at hr
  have HR1 := Lib.hid hr
  have HF1 := Lib.hid hf
  have HL1 := Lib.hid hl
  have HB1 := Lib.hid (Nat.le_trans HB0.out hf.size)
  clear hd hr hf hl
  go_wp2
  go_ret
  exact ⟨rfl, v1, HR1.out, HF1.out, HL1.out⟩

set_option maxRecDepth 100000 in
set_option maxHeartbeats 4000000 in
theorem rsecond_6 (w : World) (B q : Nat) (v : Value) (S : S14) (n : Nat) (what : Int) (H : RefAt w B q v S) (hO : Ok n S) (hn : n + 2 < 1000000000) (hw : what = 4 ∨ what = 5) (hB : B ≤ w.heap.size) :
    Calls Tryd.prog 49 #[.pointer (some ⟨q, 0, none⟩), .int .i64 what, .int .i64 6] w (RDone w B q v (second what 6 S) (.int .i64 (secondN what 6 S))) := by
  have HO := Lib.hid hO
  obtain ⟨a, x, y, s, p, pc, h, b⟩ := S
  have HR0 := Lib.hid H
  have HF0 : Hid (Fr (foot q v) w w) := Lib.hid (Fr.refl _ w)
  have HL0 : Hid (Lies w v v) := Lib.hid (Lies.refl w v)
  have HB0 := Lib.hid hB
  have hE : second what 6 (⟨a, x, y, s, p, pc, h, b⟩ : S14) = single what true (⟨a, x, y, s, p, pc, h, b⟩ : S14) := by unfold second; rw [if_neg (by omega), if_neg (by omega), if_pos (by omega)]; rfl
  have hM : secondN what 6 (⟨a, x, y, s, p, pc, h, b⟩ : S14) = 2 := rfl
  rw [hE, hM]
  have HC : Hid (∀ W V, RefAt W B q V (⟨a, x, y, s, p, pc, h, b⟩ : S14) → B ≤ W.heap.size → Calls Tryd.prog 83 #[.pointer (some ⟨q, 0, none⟩), .int .i64 what, .bool true] W (RDone W B q V (single what true (⟨a, x, y, s, p, pc, h, b⟩ : S14)) (.int .i64 2))) := Lib.hid (fun W V hr hb => rsingle_any W B q V (⟨a, x, y, s, p, pc, h, b⟩ : S14) n what true hr HO.out (fun _ => hw) (by omega) (by omega) hb)
  generalize single what true (⟨a, x, y, s, p, pc, h, b⟩ : S14) = T at *
  clear H hO hB hn hE hM
  go_enter Tryd.func49, Tryd.ntmps49
  go_wp2_with fail
  (with_reducible refine (HC.out w v HR0.out HB0.out).mono ?_)
  intro e w1 hd
  obtain ⟨rfl, v1, hr, hf, hl⟩ := rdone_tr HF0.out HL0.out hd
  change RefAt w1 B q v1 T at hr
  have HR1 := Lib.hid hr
  have HF1 := Lib.hid hf
  have HL1 := Lib.hid hl
  have HB1 := Lib.hid (Nat.le_trans HB0.out hf.size)
  clear hd hr hf hl
  go_wp2
  go_ret
  exact ⟨rfl, v1, HR1.out, HF1.out, HL1.out⟩

set_option maxRecDepth 100000 in
set_option maxHeartbeats 4000000 in
theorem rsecond_L41 (w : World) (B q : Nat) (v : Value) (S : S14) (n : Nat) (H : RefAt w B q v S) (hO : Ok n S) (hn : n + 2 < 1000000000) (hB : B ≤ w.heap.size) :
    Calls Tryd.prog 49 #[.pointer (some ⟨q, 0, none⟩), .int .i64 4, .int .i64 1] w (RDone w B q v (second 4 1 S) (.int .i64 (secondN 4 1 S))) := by
  have HO := Lib.hid hO
  have HN := Lib.hid hn
  obtain ⟨a, x, y, s, p, pc, h, b⟩ := S
  have HR0 := Lib.hid H
  have HF0 : Hid (Fr (foot q v) w w) := Lib.hid (Fr.refl _ w)
  have HL0 : Hid (Lies w v v) := Lib.hid (Lies.refl w v)
  have HB0 := Lib.hid hB
  have HC : Hid (∀ W V, RefAt W B q V (⟨a, x, y, s, p, pc, h, b⟩ : S14) → B ≤ W.heap.size → Calls Tryd.prog 76 #[.pointer (some ⟨q, 0, none⟩), .int .i64 1, .bool true, .bool true] W (RDone W B q V (loads 1 true true (⟨a, x, y, s, p, pc, h, b⟩ : S14)) (.int .i64 (loadsN 1 true (⟨a, x, y, s, p, pc, h, b⟩ : S14))))) := Lib.hid (fun W V hr hb => rloads_any W B q V (⟨a, x, y, s, p, pc, h, b⟩ : S14) n 1 true true hr HO.out HN.out (by omega) (by omega) hb)
  show Calls _ _ _ _ (RDone w B q v (loads 1 true true (⟨a, x, y, s, p, pc, h, b⟩ : S14)) (.int .i64 (loadsN 1 true (⟨a, x, y, s, p, pc, h, b⟩ : S14))))
  generalize loads 1 true true (⟨a, x, y, s, p, pc, h, b⟩ : S14) = T at *
  generalize loadsN 1 true (⟨a, x, y, s, p, pc, h, b⟩ : S14) = N at *
  clear H hO hB hn
  go_enter Tryd.func49, Tryd.ntmps49
  go_wp2_with fail
  (with_reducible refine (HC.out w v HR0.out HB0.out).mono ?_)
  intro e w1 hd
  obtain ⟨rfl, v1, hr, hf, hl⟩ := rdone_tr HF0.out HL0.out hd
  change RefAt w1 B q v1 T at hr
  have HR1 := Lib.hid hr
  have HF1 := Lib.hid hf
  have HL1 := Lib.hid hl
  have HB1 := Lib.hid (Nat.le_trans HB0.out hf.size)
  clear hd hr hf hl
  go_wp2
  go_ret
  exact ⟨rfl, v1, HR1.out, HF1.out, HL1.out⟩

set_option maxRecDepth 100000 in
set_option maxHeartbeats 4000000 in
theorem rsecond_L43 (w : World) (B q : Nat) (v : Value) (S : S14) (n : Nat) (H : RefAt w B q v S) (hO : Ok n S) (hn : n + 2 < 1000000000) (hB : B ≤ w.heap.size) :
    Calls Tryd.prog 49 #[.pointer (some ⟨q, 0, none⟩), .int .i64 4, .int .i64 3] w (RDone w B q v (second 4 3 S) (.int .i64 (secondN 4 3 S))) := by
  have HO := Lib.hid hO
  have HN := Lib.hid hn
  obtain ⟨a, x, y, s, p, pc, h, b⟩ := S
  have HR0 := Lib.hid H
  have HF0 : Hid (Fr (foot q v) w w) := Lib.hid (Fr.refl _ w)
  have HL0 : Hid (Lies w v v) := Lib.hid (Lies.refl w v)
  have HB0 := Lib.hid hB
  have HC : Hid (∀ W V, RefAt W B q V (⟨a, x, y, s, p, pc, h, b⟩ : S14) → B ≤ W.heap.size → Calls Tryd.prog 76 #[.pointer (some ⟨q, 0, none⟩), .int .i64 3, .bool true, .bool true] W (RDone W B q V (loads 3 true true (⟨a, x, y, s, p, pc, h, b⟩ : S14)) (.int .i64 (loadsN 3 true (⟨a, x, y, s, p, pc, h, b⟩ : S14))))) := Lib.hid (fun W V hr hb => rloads_any W B q V (⟨a, x, y, s, p, pc, h, b⟩ : S14) n 3 true true hr HO.out HN.out (by omega) (by omega) hb)
  show Calls _ _ _ _ (RDone w B q v (loads 3 true true (⟨a, x, y, s, p, pc, h, b⟩ : S14)) (.int .i64 (loadsN 3 true (⟨a, x, y, s, p, pc, h, b⟩ : S14))))
  generalize loads 3 true true (⟨a, x, y, s, p, pc, h, b⟩ : S14) = T at *
  generalize loadsN 3 true (⟨a, x, y, s, p, pc, h, b⟩ : S14) = N at *
  clear H hO hB hn
  go_enter Tryd.func49, Tryd.ntmps49
  go_wp2_with fail
  (with_reducible refine (HC.out w v HR0.out HB0.out).mono ?_)
  intro e w1 hd
  obtain ⟨rfl, v1, hr, hf, hl⟩ := rdone_tr HF0.out HL0.out hd
  change RefAt w1 B q v1 T at hr
  have HR1 := Lib.hid hr
  have HF1 := Lib.hid hf
  have HL1 := Lib.hid hl
  have HB1 := Lib.hid (Nat.le_trans HB0.out hf.size)
  clear hd hr hf hl
  go_wp2
  go_ret
  exact ⟨rfl, v1, HR1.out, HF1.out, HL1.out⟩

set_option maxRecDepth 100000 in
set_option maxHeartbeats 4000000 in
theorem rsecond_L45 (w : World) (B q : Nat) (v : Value) (S : S14) (n : Nat) (H : RefAt w B q v S) (hO : Ok n S) (hn : n + 2 < 1000000000) (hB : B ≤ w.heap.size) :
    Calls Tryd.prog 49 #[.pointer (some ⟨q, 0, none⟩), .int .i64 4, .int .i64 5] w (RDone w B q v (second 4 5 S) (.int .i64 (secondN 4 5 S))) := by
  have HO := Lib.hid hO
  have HN := Lib.hid hn
  obtain ⟨a, x, y, s, p, pc, h, b⟩ := S
  have HR0 := Lib.hid H
  have HF0 : Hid (Fr (foot q v) w w) := Lib.hid (Fr.refl _ w)
  have HL0 : Hid (Lies w v v) := Lib.hid (Lies.refl w v)
  have HB0 := Lib.hid hB
  have HC : Hid (∀ W V, RefAt W B q V (⟨a, x, y, s, p, pc, h, b⟩ : S14) → B ≤ W.heap.size → Calls Tryd.prog 76 #[.pointer (some ⟨q, 0, none⟩), .int .i64 8, .bool true, .bool true] W (RDone W B q V (loads 8 true true (⟨a, x, y, s, p, pc, h, b⟩ : S14)) (.int .i64 (loadsN 8 true (⟨a, x, y, s, p, pc, h, b⟩ : S14))))) := Lib.hid (fun W V hr hb => rloads_any W B q V (⟨a, x, y, s, p, pc, h, b⟩ : S14) n 8 true true hr HO.out HN.out (by omega) (by omega) hb)
  show Calls _ _ _ _ (RDone w B q v (loads 8 true true (⟨a, x, y, s, p, pc, h, b⟩ : S14)) (.int .i64 (loadsN 8 true (⟨a, x, y, s, p, pc, h, b⟩ : S14))))
  generalize loads 8 true true (⟨a, x, y, s, p, pc, h, b⟩ : S14) = T at *
  generalize loadsN 8 true (⟨a, x, y, s, p, pc, h, b⟩ : S14) = N at *
  clear H hO hB hn
  go_enter Tryd.func49, Tryd.ntmps49
  go_wp2_with fail
  (with_reducible refine (HC.out w v HR0.out HB0.out).mono ?_)
  intro e w1 hd
  obtain ⟨rfl, v1, hr, hf, hl⟩ := rdone_tr HF0.out HL0.out hd
  change RefAt w1 B q v1 T at hr
  have HR1 := Lib.hid hr
  have HF1 := Lib.hid hf
  have HL1 := Lib.hid hl
  have HB1 := Lib.hid (Nat.le_trans HB0.out hf.size)
  clear hd hr hf hl
  go_wp2
  go_ret
  exact ⟨rfl, v1, HR1.out, HF1.out, HL1.out⟩

set_option maxRecDepth 100000 in
set_option maxHeartbeats 4000000 in
theorem rsecond_L51 (w : World) (B q : Nat) (v : Value) (S : S14) (n : Nat) (H : RefAt w B q v S) (hO : Ok n S) (hn : n + 2 < 1000000000) (hB : B ≤ w.heap.size) :
    Calls Tryd.prog 49 #[.pointer (some ⟨q, 0, none⟩), .int .i64 5, .int .i64 1] w (RDone w B q v (second 5 1 S) (.int .i64 (secondN 5 1 S))) := by
  have HO := Lib.hid hO
  have HN := Lib.hid hn
  obtain ⟨a, x, y, s, p, pc, h, b⟩ := S
  have HR0 := Lib.hid H
  have HF0 : Hid (Fr (foot q v) w w) := Lib.hid (Fr.refl _ w)
  have HL0 : Hid (Lies w v v) := Lib.hid (Lies.refl w v)
  have HB0 := Lib.hid hB
  have HC : Hid (∀ W V, RefAt W B q V (⟨a, x, y, s, p, pc, h, b⟩ : S14) → B ≤ W.heap.size → Calls Tryd.prog 76 #[.pointer (some ⟨q, 0, none⟩), .int .i64 1, .bool true, .bool false] W (RDone W B q V (loads 1 true false (⟨a, x, y, s, p, pc, h, b⟩ : S14)) (.int .i64 (loadsN 1 false (⟨a, x, y, s, p, pc, h, b⟩ : S14))))) := Lib.hid (fun W V hr hb => rloads_any W B q V (⟨a, x, y, s, p, pc, h, b⟩ : S14) n 1 true false hr HO.out HN.out (by omega) (by omega) hb)
  show Calls _ _ _ _ (RDone w B q v (loads 1 true false (⟨a, x, y, s, p, pc, h, b⟩ : S14)) (.int .i64 (loadsN 1 false (⟨a, x, y, s, p, pc, h, b⟩ : S14))))
  generalize loads 1 true false (⟨a, x, y, s, p, pc, h, b⟩ : S14) = T at *
  generalize loadsN 1 false (⟨a, x, y, s, p, pc, h, b⟩ : S14) = N at *
  clear H hO hB hn
  go_enter Tryd.func49, Tryd.ntmps49
  go_wp2_with fail
  (with_reducible refine (HC.out w v HR0.out HB0.out).mono ?_)
  intro e w1 hd
  obtain ⟨rfl, v1, hr, hf, hl⟩ := rdone_tr HF0.out HL0.out hd
  change RefAt w1 B q v1 T at hr
  have HR1 := Lib.hid hr
  have HF1 := Lib.hid hf
  have HL1 := Lib.hid hl
  have HB1 := Lib.hid (Nat.le_trans HB0.out hf.size)
  clear hd hr hf hl
  go_wp2
  go_ret
  exact ⟨rfl, v1, HR1.out, HF1.out, HL1.out⟩

set_option maxRecDepth 100000 in
set_option maxHeartbeats 4000000 in
theorem rsecond_L53 (w : World) (B q : Nat) (v : Value) (S : S14) (n : Nat) (H : RefAt w B q v S) (hO : Ok n S) (hn : n + 2 < 1000000000) (hB : B ≤ w.heap.size) :
    Calls Tryd.prog 49 #[.pointer (some ⟨q, 0, none⟩), .int .i64 5, .int .i64 3] w (RDone w B q v (second 5 3 S) (.int .i64 (secondN 5 3 S))) := by
  have HO := Lib.hid hO
  have HN := Lib.hid hn
  obtain ⟨a, x, y, s, p, pc, h, b⟩ := S
  have HR0 := Lib.hid H
  have HF0 : Hid (Fr (foot q v) w w) := Lib.hid (Fr.refl _ w)
  have HL0 : Hid (Lies w v v) := Lib.hid (Lies.refl w v)
  have HB0 := Lib.hid hB
  have HC : Hid (∀ W V, RefAt W B q V (⟨a, x, y, s, p, pc, h, b⟩ : S14) → B ≤ W.heap.size → Calls Tryd.prog 76 #[.pointer (some ⟨q, 0, none⟩), .int .i64 3, .bool true, .bool false] W (RDone W B q V (loads 3 true false (⟨a, x, y, s, p, pc, h, b⟩ : S14)) (.int .i64 (loadsN 3 false (⟨a, x, y, s, p, pc, h, b⟩ : S14))))) := Lib.hid (fun W V hr hb => rloads_any W B q V (⟨a, x, y, s, p, pc, h, b⟩ : S14) n 3 true false hr HO.out HN.out (by omega) (by omega) hb)
  show Calls _ _ _ _ (RDone w B q v (loads 3 true false (⟨a, x, y, s, p, pc, h, b⟩ : S14)) (.int .i64 (loadsN 3 false (⟨a, x, y, s, p, pc, h, b⟩ : S14))))
  generalize loads 3 true false (⟨a, x, y, s, p, pc, h, b⟩ : S14) = T at *
  generalize loadsN 3 false (⟨a, x, y, s, p, pc, h, b⟩ : S14) = N at *
  clear H hO hB hn
  go_enter Tryd.func49, Tryd.ntmps49
  go_wp2_with fail
  (with_reducible refine (HC.out w v HR0.out HB0.out).mono ?_)
  intro e w1 hd
  obtain ⟨rfl, v1, hr, hf, hl⟩ := rdone_tr HF0.out HL0.out hd
  change RefAt w1 B q v1 T at hr
  have HR1 := Lib.hid hr
  have HF1 := Lib.hid hf
  have HL1 := Lib.hid hl
  have HB1 := Lib.hid (Nat.le_trans HB0.out hf.size)
  clear hd hr hf hl
  go_wp2
  go_ret
  exact ⟨rfl, v1, HR1.out, HF1.out, HL1.out⟩

set_option maxRecDepth 100000 in
set_option maxHeartbeats 4000000 in
theorem rsecond_L55 (w : World) (B q : Nat) (v : Value) (S : S14) (n : Nat) (H : RefAt w B q v S) (hO : Ok n S) (hn : n + 2 < 1000000000) (hB : B ≤ w.heap.size) :
    Calls Tryd.prog 49 #[.pointer (some ⟨q, 0, none⟩), .int .i64 5, .int .i64 5] w (RDone w B q v (second 5 5 S) (.int .i64 (secondN 5 5 S))) := by
  have HO := Lib.hid hO
  have HN := Lib.hid hn
  obtain ⟨a, x, y, s, p, pc, h, b⟩ := S
  have HR0 := Lib.hid H
  have HF0 : Hid (Fr (foot q v) w w) := Lib.hid (Fr.refl _ w)
  have HL0 : Hid (Lies w v v) := Lib.hid (Lies.refl w v)
  have HB0 := Lib.hid hB
  have HC : Hid (∀ W V, RefAt W B q V (⟨a, x, y, s, p, pc, h, b⟩ : S14) → B ≤ W.heap.size → Calls Tryd.prog 76 #[.pointer (some ⟨q, 0, none⟩), .int .i64 8, .bool true, .bool false] W (RDone W B q V (loads 8 true false (⟨a, x, y, s, p, pc, h, b⟩ : S14)) (.int .i64 (loadsN 8 false (⟨a, x, y, s, p, pc, h, b⟩ : S14))))) := Lib.hid (fun W V hr hb => rloads_any W B q V (⟨a, x, y, s, p, pc, h, b⟩ : S14) n 8 true false hr HO.out HN.out (by omega) (by omega) hb)
  show Calls _ _ _ _ (RDone w B q v (loads 8 true false (⟨a, x, y, s, p, pc, h, b⟩ : S14)) (.int .i64 (loadsN 8 false (⟨a, x, y, s, p, pc, h, b⟩ : S14))))
  generalize loads 8 true false (⟨a, x, y, s, p, pc, h, b⟩ : S14) = T at *
  generalize loadsN 8 false (⟨a, x, y, s, p, pc, h, b⟩ : S14) = N at *
  clear H hO hB hn
  go_enter Tryd.func49, Tryd.ntmps49
  go_wp2_with fail
  (with_reducible refine (HC.out w v HR0.out HB0.out).mono ?_)
  intro e w1 hd
  obtain ⟨rfl, v1, hr, hf, hl⟩ := rdone_tr HF0.out HL0.out hd
  change RefAt w1 B q v1 T at hr
  have HR1 := Lib.hid hr
  have HF1 := Lib.hid hf
  have HL1 := Lib.hid hl
  have HB1 := Lib.hid (Nat.le_trans HB0.out hf.size)
  clear hd hr hf hl
  go_wp2
  go_ret
  exact ⟨rfl, v1, HR1.out, HF1.out, HL1.out⟩

set_option maxRecDepth 100000 in
set_option maxHeartbeats 4000000 in
theorem rsecond_L57 (w : World) (B q : Nat) (v : Value) (S : S14) (n : Nat) (H : RefAt w B q v S) (hO : Ok n S) (hn : n + 2 < 1000000000) (hB : B ≤ w.heap.size) :
    Calls Tryd.prog 49 #[.pointer (some ⟨q, 0, none⟩), .int .i64 5, .int .i64 7] w (RDone w B q v (second 5 7 S) (.int .i64 (secondN 5 7 S))) := by
  have HO := Lib.hid hO
  have HN := Lib.hid hn
  obtain ⟨a, x, y, s, p, pc, h, b⟩ := S
  have HR0 := Lib.hid H
  have HF0 : Hid (Fr (foot q v) w w) := Lib.hid (Fr.refl _ w)
  have HL0 : Hid (Lies w v v) := Lib.hid (Lies.refl w v)
  have HB0 := Lib.hid hB
  have HC : Hid (∀ W V, RefAt W B q V (⟨a, x, y, s, p, pc, h, b⟩ : S14) → B ≤ W.heap.size → Calls Tryd.prog 76 #[.pointer (some ⟨q, 0, none⟩), .int .i64 6, .bool true, .bool false] W (RDone W B q V (loads 6 true false (⟨a, x, y, s, p, pc, h, b⟩ : S14)) (.int .i64 (loadsN 6 false (⟨a, x, y, s, p, pc, h, b⟩ : S14))))) := Lib.hid (fun W V hr hb => rloads_any W B q V (⟨a, x, y, s, p, pc, h, b⟩ : S14) n 6 true false hr HO.out HN.out (by omega) (by omega) hb)
  show Calls _ _ _ _ (RDone w B q v (loads 6 true false (⟨a, x, y, s, p, pc, h, b⟩ : S14)) (.int .i64 (loadsN 6 false (⟨a, x, y, s, p, pc, h, b⟩ : S14))))
  generalize loads 6 true false (⟨a, x, y, s, p, pc, h, b⟩ : S14) = T at *
  generalize loadsN 6 false (⟨a, x, y, s, p, pc, h, b⟩ : S14) = N at *
  clear H hO hB hn
  go_enter Tryd.func49, Tryd.ntmps49
  go_wp2_with fail
  (with_reducible refine (HC.out w v HR0.out HB0.out).mono ?_)
  intro e w1 hd
  obtain ⟨rfl, v1, hr, hf, hl⟩ := rdone_tr HF0.out HL0.out hd
  change RefAt w1 B q v1 T at hr
  have HR1 := Lib.hid hr
  have HF1 := Lib.hid hf
  have HL1 := Lib.hid hl
  have HB1 := Lib.hid (Nat.le_trans HB0.out hf.size)
  clear hd hr hf hl
  go_wp2
  go_ret
  exact ⟨rfl, v1, HR1.out, HF1.out, HL1.out⟩

set_option maxRecDepth 100000 in
set_option maxHeartbeats 4000000 in
theorem rsecond_C1 (w : World) (B q : Nat) (v : Value) (S : S14) (n : Nat) (what : Int) (H : RefAt w B q v S) (hO : Ok n S) (hn : n + 2 < 1000000000) (hw : what = 0 ∨ what = 1 ∨ what = 2 ∨ what = 3 ∨ what = 6 ∨ what = 7) (hB : B ≤ w.heap.size) :
    Calls Tryd.prog 49 #[.pointer (some ⟨q, 0, none⟩), .int .i64 what, .int .i64 1] w (RDone w B q v (second what 1 S) (.int .i64 (secondN what 1 S))) := by
  have HO := Lib.hid hO
  obtain ⟨a, x, y, s, p, pc, h, b⟩ := S
  have HAd := Lib.hid (raddress_any w B q v ⟨a, x, y, s, p, pc, h, b⟩ 1 n H hO (by omega) (by omega) hB)
  have HuA := Lib.hid (adr_u16 1 hO)
  have HOA : Hid (Ok n (⟨a, x, y, s, p, adrPC 1 (⟨a, x, y, s, p, pc, h, b⟩ : S14), h, adrB 1 (⟨a, x, y, s, p, pc, h, b⟩ : S14)⟩ : S14)) := Lib.hid (Ok.mk' hO.a hO.x hO.y hO.s hO.pf (adrPC_u16 1) (adrB_ok 1 hO))
  obtain ⟨rd0, rd1⟩ := adr_rd 1 (⟨a, x, y, s, p, pc, h, b⟩ : S14)
  have hS : second what 1 (⟨a, x, y, s, p, pc, h, b⟩ : S14) = ⟨a, x, y, s, chP what p (Io.rv (adrB 1 (⟨a, x, y, s, p, pc, h, b⟩ : S14)) (adr 1 (⟨a, x, y, s, p, pc, h, b⟩ : S14)).ad), adrPC 1 (⟨a, x, y, s, p, pc, h, b⟩ : S14), h, Io.wb (adrB 1 (⟨a, x, y, s, p, pc, h, b⟩ : S14)) (adr 1 (⟨a, x, y, s, p, pc, h, b⟩ : S14)).ad (chV what p (Io.rv (adrB 1 (⟨a, x, y, s, p, pc, h, b⟩ : S14)) (adr 1 (⟨a, x, y, s, p, pc, h, b⟩ : S14)).ad))⟩ := by
    unfold second
    rw [if_neg (by omega), if_neg (by omega), if_neg (by omega), if_neg (by omega)]
    rfl
  have hM : secondN what 1 (⟨a, x, y, s, p, pc, h, b⟩ : S14) = (adr 1 (⟨a, x, y, s, p, pc, h, b⟩ : S14)).chg := by
    unfold secondN
    rw [if_neg (by omega), if_neg (by omega), if_neg (by omega)]
  rw [hS, hM]
  have hv : byte (Io.rv (adrB 1 (⟨a, x, y, s, p, pc, h, b⟩ : S14)) (adr 1 (⟨a, x, y, s, p, pc, h, b⟩ : S14)).ad) := Io.rv_ok _ (adrB_ok 1 hO)
  clear hS hM
  have HHl := Lib.hid (foot_lt H)
  change Hid (Calls Tryd.prog 74 #[.pointer (some ⟨q, 0, none⟩), .int .i64 1] w (RDone w B q v ⟨a, x, y, s, p, adrPC 1 (⟨a, x, y, s, p, pc, h, b⟩ : S14), h, adrB 1 (⟨a, x, y, s, p, pc, h, b⟩ : S14)⟩ (adV (adr 1 (⟨a, x, y, s, p, pc, h, b⟩ : S14))))) at HAd
  generalize adrPC 1 (⟨a, x, y, s, p, pc, h, b⟩ : S14) = PC at *
  generalize adrB 1 (⟨a, x, y, s, p, pc, h, b⟩ : S14) = bb at *
  generalize adr 1 (⟨a, x, y, s, p, pc, h, b⟩ : S14) = D at *
  obtain ⟨ad, cr, rd, put, chg⟩ := D
  simp only at rd0 rd1 HuA
  change Hid (Calls Tryd.prog 74 #[.pointer (some ⟨q, 0, none⟩), .int .i64 1] w (RDone w B q v ⟨a, x, y, s, p, PC, h, bb⟩ (.agg #[.int .u16 ad, .bool cr, .int .i64 rd, .int .i64 put, .int .i64 chg]))) at HAd
  have HVM : Hid (bb.m ad = Io.rv bb ad) := Lib.hid rfl
  generalize Io.rv bb ad = M at *
  have HM := Lib.hid hv
  have HNn := Lib.hid hn
  have HB0 := Lib.hid hB
  have hcb := chV_byte what p M hv
  have HC : Hid (∀ W V, RefAt W B q V (⟨a, x, y, s, p, PC, h, bb⟩ : S14) → B ≤ W.heap.size → Calls Tryd.prog 82 #[.pointer (some ⟨q, 0, none⟩), .int .i64 what, .int .u8 M] W (RDone W B q V ⟨a, x, y, s, chP what p M, PC, h, bb⟩ (.int .u8 (chV what p M)))) := Lib.hid (fun W V hr hb => rchanged_any W B q V ⟨a, x, y, s, p, PC, h, bb⟩ what M hr HOA.out.pf HM.out hw hb)
  have hOC : Ok n (⟨a, x, y, s, chP what p M, PC, h, bb⟩ : S14) := ok_withP _ HOA.out (fl_chP _ _ _ HOA.out.pf)
  generalize chV what p M = R at *
  generalize chP what p M = P at *
  have HRb := Lib.hid hcb
  have HOC := Lib.hid hOC
  obtain ⟨m0, m1⟩ := hv
  obtain ⟨r0, r1⟩ := hcb
  simp only
  have w4 : (what == 4) = false := by rw [beq_eq_false_iff_ne]; omega
  have w5 : (what == 5) = false := by rw [beq_eq_false_iff_ne]; omega
  clear H hO hn hB HHl hOC hw
  go_enter Tryd.func49, Tryd.ntmps49
  go_wp2_with fail
  (with_reducible refine (HAd.out).mono ?_)
  intro e w1 hd
  obtain ⟨rfl, v1, hr, hf, hl⟩ := hd
  have hg : ∃ g, w1.heap.size = g := ⟨_, rfl⟩
  obtain ⟨g, hg⟩ := hg
  have hxb := Blk.fresh w1 99 #[.int .u16 ad, .bool cr, .int .i64 rd, .int .i64 put, .int .i64 chg]
  rw [hg] at hxb
  have hal : Fr [] w1 (w1.alloc (.cells #[.int .u16 ad, .bool cr, .int .i64 rd, .int .i64 put, .int .i64 chg] 99)) := (Fr.refl [] w1).alloc _
  have HX := Lib.hid hxb
  have HXf : Hid (g ∉ foot q v1) := Lib.hid (fun hm => by have := foot_lt hr g hm; omega)
  have HR1 := Lib.hid (hr.fr hal (by simp))
  have HW1 : Hid (Fr (foot q v) w (w1.alloc (.cells #[.int .u16 ad, .bool cr, .int .i64 rd, .int .i64 put, .int .i64 chg] 99))) := Lib.hid (hf.tr hal.nil)
  have HWL := Lib.hid hl
  have HF1 : Hid (Fr (foot q v1) (w1.alloc (.cells #[.int .u16 ad, .bool cr, .int .i64 rd, .int .i64 put, .int .i64 chg] 99)) (w1.alloc (.cells #[.int .u16 ad, .bool cr, .int .i64 rd, .int .i64 put, .int .i64 chg] 99))) := Lib.hid (Fr.refl _ _)
  have HL1 : Hid (Lies (w1.alloc (.cells #[.int .u16 ad, .bool cr, .int .i64 rd, .int .i64 put, .int .i64 chg] 99)) v1 v1) := Lib.hid (Lies.refl _ _)
  have HB1 := Lib.hid (Nat.le_trans HB0.out HW1.out.size)
  clear hr hf hl hxb hal HAd
  go_upto_region 21 with fail
  generalize w1.alloc _ = wA at *
  clear hg HB0
  have HB0 := HB1
  obtain ⟨e0, e1, e2, e3, e4⟩ := blk5 HX.out
  clear e1 e2 e3 e4
  have HRq : Hid (Calls Tryd.prog 24 #[.pointer (some ⟨q, 0, none⟩), .int .u16 ad] wA.drew fun e w' => e = .returned (.int .u8 M) ∧ wA.drew = w') := Lib.hid (by
    have hh := rread_any wA.drew B q v1 ⟨a, x, y, s, p, PC, h, bb⟩ ad (HR1.out.fr (Fr.refl [] wA).drew (by simp)) HuA.out
    rw [show (St.b (⟨a, x, y, s, p, PC, h, bb⟩ : S14)).m ad = M from HVM.out] at hh
    exact hh)
  have HR2 := Lib.hid (HR1.out.fr (Fr.refl [] wA).drew (by simp))
  have HF2 : Hid (Fr (foot q v1) wA wA.drew) := Lib.hid HF1.out.drew
  have HL2 := Lib.hid HL1.out
  have HB2 : Hid (B ≤ wA.drew.heap.size) := HB1
  have HNl : Hid (n < 1000000000) := Lib.hid (by have := HNn.out; omega)
  go_region_law (go_simp; first
    | (go_at_call 53; (with_reducible refine (rwrite_any w3 B q v3 ⟨a, x, y, s, P, PC, h, bb⟩ ad R n HR3.out HuA.out HRb.out HOC.out HNl.out HB3.out).mono ?_); intro e w4 hd; obtain ⟨rfl, v4, hr, hf, hl⟩ := rdone_tr HF3.out HL3.out hd; have HR4 := Lib.hid hr; have HF4 := Lib.hid hf; have HL4 := Lib.hid hl; clear hd hr hf hl)
    | (go_at_call 82; (with_reducible refine (HC.out wA.drew v1 HR2.out HB2.out).mono ?_); intro e w3 hd; obtain ⟨rfl, v3, hr, hf, hl⟩ := rdone_tr HF2.out HL2.out hd; have HR3 := Lib.hid hr; have HF3 := Lib.hid hf; have HL3 := Lib.hid hl; have HB3 := Lib.hid (Nat.le_trans HB0.out hf.size); have x0 := (blk5 (HX.out.fr HF3.out HXf.out)).1; clear hd hr hf hl)
    | (go_at_call 24; (with_reducible refine (HRq.out).mono ?_); rintro e wq ⟨rfl, rfl⟩))
  all_goals
    clear e0
    try clear x0
    have e4 := (blk5 (HX.out.fr HF4.out HXf.out)).2.2.2.2
    go_wp2
    go_ret
    exact rdone_tr HW1.out HWL.out ⟨rfl, v4, HR4.out, HF4.out, HL4.out⟩

set_option maxRecDepth 100000 in
set_option maxHeartbeats 4000000 in
theorem rsecond_C3 (w : World) (B q : Nat) (v : Value) (S : S14) (n : Nat) (what : Int) (H : RefAt w B q v S) (hO : Ok n S) (hn : n + 2 < 1000000000) (hw : what = 0 ∨ what = 1 ∨ what = 2 ∨ what = 3 ∨ what = 6 ∨ what = 7) (hB : B ≤ w.heap.size) :
    Calls Tryd.prog 49 #[.pointer (some ⟨q, 0, none⟩), .int .i64 what, .int .i64 3] w (RDone w B q v (second what 3 S) (.int .i64 (secondN what 3 S))) := by
  have HO := Lib.hid hO
  obtain ⟨a, x, y, s, p, pc, h, b⟩ := S
  have HAd := Lib.hid (raddress_any w B q v ⟨a, x, y, s, p, pc, h, b⟩ 3 n H hO (by omega) (by omega) hB)
  have HuA := Lib.hid (adr_u16 3 hO)
  have HOA : Hid (Ok n (⟨a, x, y, s, p, adrPC 3 (⟨a, x, y, s, p, pc, h, b⟩ : S14), h, adrB 3 (⟨a, x, y, s, p, pc, h, b⟩ : S14)⟩ : S14)) := Lib.hid (Ok.mk' hO.a hO.x hO.y hO.s hO.pf (adrPC_u16 3) (adrB_ok 3 hO))
  obtain ⟨rd0, rd1⟩ := adr_rd 3 (⟨a, x, y, s, p, pc, h, b⟩ : S14)
  have hS : second what 3 (⟨a, x, y, s, p, pc, h, b⟩ : S14) = ⟨a, x, y, s, chP what p (Io.rv (adrB 3 (⟨a, x, y, s, p, pc, h, b⟩ : S14)) (adr 3 (⟨a, x, y, s, p, pc, h, b⟩ : S14)).ad), adrPC 3 (⟨a, x, y, s, p, pc, h, b⟩ : S14), h, Io.wb (adrB 3 (⟨a, x, y, s, p, pc, h, b⟩ : S14)) (adr 3 (⟨a, x, y, s, p, pc, h, b⟩ : S14)).ad (chV what p (Io.rv (adrB 3 (⟨a, x, y, s, p, pc, h, b⟩ : S14)) (adr 3 (⟨a, x, y, s, p, pc, h, b⟩ : S14)).ad))⟩ := by
    unfold second
    rw [if_neg (by omega), if_neg (by omega), if_neg (by omega), if_neg (by omega)]
    rfl
  have hM : secondN what 3 (⟨a, x, y, s, p, pc, h, b⟩ : S14) = (adr 3 (⟨a, x, y, s, p, pc, h, b⟩ : S14)).chg := by
    unfold secondN
    rw [if_neg (by omega), if_neg (by omega), if_neg (by omega)]
  rw [hS, hM]
  have hv : byte (Io.rv (adrB 3 (⟨a, x, y, s, p, pc, h, b⟩ : S14)) (adr 3 (⟨a, x, y, s, p, pc, h, b⟩ : S14)).ad) := Io.rv_ok _ (adrB_ok 3 hO)
  clear hS hM
  have HHl := Lib.hid (foot_lt H)
  change Hid (Calls Tryd.prog 74 #[.pointer (some ⟨q, 0, none⟩), .int .i64 3] w (RDone w B q v ⟨a, x, y, s, p, adrPC 3 (⟨a, x, y, s, p, pc, h, b⟩ : S14), h, adrB 3 (⟨a, x, y, s, p, pc, h, b⟩ : S14)⟩ (adV (adr 3 (⟨a, x, y, s, p, pc, h, b⟩ : S14))))) at HAd
  generalize adrPC 3 (⟨a, x, y, s, p, pc, h, b⟩ : S14) = PC at *
  generalize adrB 3 (⟨a, x, y, s, p, pc, h, b⟩ : S14) = bb at *
  generalize adr 3 (⟨a, x, y, s, p, pc, h, b⟩ : S14) = D at *
  obtain ⟨ad, cr, rd, put, chg⟩ := D
  simp only at rd0 rd1 HuA
  change Hid (Calls Tryd.prog 74 #[.pointer (some ⟨q, 0, none⟩), .int .i64 3] w (RDone w B q v ⟨a, x, y, s, p, PC, h, bb⟩ (.agg #[.int .u16 ad, .bool cr, .int .i64 rd, .int .i64 put, .int .i64 chg]))) at HAd
  have HVM : Hid (bb.m ad = Io.rv bb ad) := Lib.hid rfl
  generalize Io.rv bb ad = M at *
  have HM := Lib.hid hv
  have HNn := Lib.hid hn
  have HB0 := Lib.hid hB
  have hcb := chV_byte what p M hv
  have HC : Hid (∀ W V, RefAt W B q V (⟨a, x, y, s, p, PC, h, bb⟩ : S14) → B ≤ W.heap.size → Calls Tryd.prog 82 #[.pointer (some ⟨q, 0, none⟩), .int .i64 what, .int .u8 M] W (RDone W B q V ⟨a, x, y, s, chP what p M, PC, h, bb⟩ (.int .u8 (chV what p M)))) := Lib.hid (fun W V hr hb => rchanged_any W B q V ⟨a, x, y, s, p, PC, h, bb⟩ what M hr HOA.out.pf HM.out hw hb)
  have hOC : Ok n (⟨a, x, y, s, chP what p M, PC, h, bb⟩ : S14) := ok_withP _ HOA.out (fl_chP _ _ _ HOA.out.pf)
  generalize chV what p M = R at *
  generalize chP what p M = P at *
  have HRb := Lib.hid hcb
  have HOC := Lib.hid hOC
  obtain ⟨m0, m1⟩ := hv
  obtain ⟨r0, r1⟩ := hcb
  simp only
  have w4 : (what == 4) = false := by rw [beq_eq_false_iff_ne]; omega
  have w5 : (what == 5) = false := by rw [beq_eq_false_iff_ne]; omega
  clear H hO hn hB HHl hOC hw
  go_enter Tryd.func49, Tryd.ntmps49
  go_wp2_with fail
  (with_reducible refine (HAd.out).mono ?_)
  intro e w1 hd
  obtain ⟨rfl, v1, hr, hf, hl⟩ := hd
  have hg : ∃ g, w1.heap.size = g := ⟨_, rfl⟩
  obtain ⟨g, hg⟩ := hg
  have hxb := Blk.fresh w1 99 #[.int .u16 ad, .bool cr, .int .i64 rd, .int .i64 put, .int .i64 chg]
  rw [hg] at hxb
  have hal : Fr [] w1 (w1.alloc (.cells #[.int .u16 ad, .bool cr, .int .i64 rd, .int .i64 put, .int .i64 chg] 99)) := (Fr.refl [] w1).alloc _
  have HX := Lib.hid hxb
  have HXf : Hid (g ∉ foot q v1) := Lib.hid (fun hm => by have := foot_lt hr g hm; omega)
  have HR1 := Lib.hid (hr.fr hal (by simp))
  have HW1 : Hid (Fr (foot q v) w (w1.alloc (.cells #[.int .u16 ad, .bool cr, .int .i64 rd, .int .i64 put, .int .i64 chg] 99))) := Lib.hid (hf.tr hal.nil)
  have HWL := Lib.hid hl
  have HF1 : Hid (Fr (foot q v1) (w1.alloc (.cells #[.int .u16 ad, .bool cr, .int .i64 rd, .int .i64 put, .int .i64 chg] 99)) (w1.alloc (.cells #[.int .u16 ad, .bool cr, .int .i64 rd, .int .i64 put, .int .i64 chg] 99))) := Lib.hid (Fr.refl _ _)
  have HL1 : Hid (Lies (w1.alloc (.cells #[.int .u16 ad, .bool cr, .int .i64 rd, .int .i64 put, .int .i64 chg] 99)) v1 v1) := Lib.hid (Lies.refl _ _)
  have HB1 := Lib.hid (Nat.le_trans HB0.out HW1.out.size)
  clear hr hf hl hxb hal HAd
  go_upto_region 21 with fail
  generalize w1.alloc _ = wA at *
  clear hg HB0
  have HB0 := HB1
  obtain ⟨e0, e1, e2, e3, e4⟩ := blk5 HX.out
  clear e1 e2 e3 e4
  have HRq : Hid (Calls Tryd.prog 24 #[.pointer (some ⟨q, 0, none⟩), .int .u16 ad] wA.drew fun e w' => e = .returned (.int .u8 M) ∧ wA.drew = w') := Lib.hid (by
    have hh := rread_any wA.drew B q v1 ⟨a, x, y, s, p, PC, h, bb⟩ ad (HR1.out.fr (Fr.refl [] wA).drew (by simp)) HuA.out
    rw [show (St.b (⟨a, x, y, s, p, PC, h, bb⟩ : S14)).m ad = M from HVM.out] at hh
    exact hh)
  have HR2 := Lib.hid (HR1.out.fr (Fr.refl [] wA).drew (by simp))
  have HF2 : Hid (Fr (foot q v1) wA wA.drew) := Lib.hid HF1.out.drew
  have HL2 := Lib.hid HL1.out
  have HB2 : Hid (B ≤ wA.drew.heap.size) := HB1
  have HNl : Hid (n < 1000000000) := Lib.hid (by have := HNn.out; omega)
  go_region_law (go_simp; first
    | (go_at_call 53; (with_reducible refine (rwrite_any w3 B q v3 ⟨a, x, y, s, P, PC, h, bb⟩ ad R n HR3.out HuA.out HRb.out HOC.out HNl.out HB3.out).mono ?_); intro e w4 hd; obtain ⟨rfl, v4, hr, hf, hl⟩ := rdone_tr HF3.out HL3.out hd; have HR4 := Lib.hid hr; have HF4 := Lib.hid hf; have HL4 := Lib.hid hl; clear hd hr hf hl)
    | (go_at_call 82; (with_reducible refine (HC.out wA.drew v1 HR2.out HB2.out).mono ?_); intro e w3 hd; obtain ⟨rfl, v3, hr, hf, hl⟩ := rdone_tr HF2.out HL2.out hd; have HR3 := Lib.hid hr; have HF3 := Lib.hid hf; have HL3 := Lib.hid hl; have HB3 := Lib.hid (Nat.le_trans HB0.out hf.size); have x0 := (blk5 (HX.out.fr HF3.out HXf.out)).1; clear hd hr hf hl)
    | (go_at_call 24; (with_reducible refine (HRq.out).mono ?_); rintro e wq ⟨rfl, rfl⟩))
  all_goals
    clear e0
    try clear x0
    have e4 := (blk5 (HX.out.fr HF4.out HXf.out)).2.2.2.2
    go_wp2
    go_ret
    exact rdone_tr HW1.out HWL.out ⟨rfl, v4, HR4.out, HF4.out, HL4.out⟩

set_option maxRecDepth 100000 in
set_option maxHeartbeats 4000000 in
theorem rsecond_C5 (w : World) (B q : Nat) (v : Value) (S : S14) (n : Nat) (what : Int) (H : RefAt w B q v S) (hO : Ok n S) (hn : n + 2 < 1000000000) (hw : what = 0 ∨ what = 1 ∨ what = 2 ∨ what = 3 ∨ what = 6 ∨ what = 7) (hB : B ≤ w.heap.size) :
    Calls Tryd.prog 49 #[.pointer (some ⟨q, 0, none⟩), .int .i64 what, .int .i64 5] w (RDone w B q v (second what 5 S) (.int .i64 (secondN what 5 S))) := by
  have HO := Lib.hid hO
  obtain ⟨a, x, y, s, p, pc, h, b⟩ := S
  have HAd := Lib.hid (raddress_any w B q v ⟨a, x, y, s, p, pc, h, b⟩ 5 n H hO (by omega) (by omega) hB)
  have HuA := Lib.hid (adr_u16 5 hO)
  have HOA : Hid (Ok n (⟨a, x, y, s, p, adrPC 5 (⟨a, x, y, s, p, pc, h, b⟩ : S14), h, adrB 5 (⟨a, x, y, s, p, pc, h, b⟩ : S14)⟩ : S14)) := Lib.hid (Ok.mk' hO.a hO.x hO.y hO.s hO.pf (adrPC_u16 5) (adrB_ok 5 hO))
  obtain ⟨rd0, rd1⟩ := adr_rd 5 (⟨a, x, y, s, p, pc, h, b⟩ : S14)
  have hS : second what 5 (⟨a, x, y, s, p, pc, h, b⟩ : S14) = ⟨a, x, y, s, chP what p (Io.rv (adrB 5 (⟨a, x, y, s, p, pc, h, b⟩ : S14)) (adr 5 (⟨a, x, y, s, p, pc, h, b⟩ : S14)).ad), adrPC 5 (⟨a, x, y, s, p, pc, h, b⟩ : S14), h, Io.wb (adrB 5 (⟨a, x, y, s, p, pc, h, b⟩ : S14)) (adr 5 (⟨a, x, y, s, p, pc, h, b⟩ : S14)).ad (chV what p (Io.rv (adrB 5 (⟨a, x, y, s, p, pc, h, b⟩ : S14)) (adr 5 (⟨a, x, y, s, p, pc, h, b⟩ : S14)).ad))⟩ := by
    unfold second
    rw [if_neg (by omega), if_neg (by omega), if_neg (by omega), if_neg (by omega)]
    rfl
  have hM : secondN what 5 (⟨a, x, y, s, p, pc, h, b⟩ : S14) = (adr 5 (⟨a, x, y, s, p, pc, h, b⟩ : S14)).chg := by
    unfold secondN
    rw [if_neg (by omega), if_neg (by omega), if_neg (by omega)]
  rw [hS, hM]
  have hv : byte (Io.rv (adrB 5 (⟨a, x, y, s, p, pc, h, b⟩ : S14)) (adr 5 (⟨a, x, y, s, p, pc, h, b⟩ : S14)).ad) := Io.rv_ok _ (adrB_ok 5 hO)
  clear hS hM
  have HHl := Lib.hid (foot_lt H)
  change Hid (Calls Tryd.prog 74 #[.pointer (some ⟨q, 0, none⟩), .int .i64 5] w (RDone w B q v ⟨a, x, y, s, p, adrPC 5 (⟨a, x, y, s, p, pc, h, b⟩ : S14), h, adrB 5 (⟨a, x, y, s, p, pc, h, b⟩ : S14)⟩ (adV (adr 5 (⟨a, x, y, s, p, pc, h, b⟩ : S14))))) at HAd
  generalize adrPC 5 (⟨a, x, y, s, p, pc, h, b⟩ : S14) = PC at *
  generalize adrB 5 (⟨a, x, y, s, p, pc, h, b⟩ : S14) = bb at *
  generalize adr 5 (⟨a, x, y, s, p, pc, h, b⟩ : S14) = D at *
  obtain ⟨ad, cr, rd, put, chg⟩ := D
  simp only at rd0 rd1 HuA
  change Hid (Calls Tryd.prog 74 #[.pointer (some ⟨q, 0, none⟩), .int .i64 5] w (RDone w B q v ⟨a, x, y, s, p, PC, h, bb⟩ (.agg #[.int .u16 ad, .bool cr, .int .i64 rd, .int .i64 put, .int .i64 chg]))) at HAd
  have HVM : Hid (bb.m ad = Io.rv bb ad) := Lib.hid rfl
  generalize Io.rv bb ad = M at *
  have HM := Lib.hid hv
  have HNn := Lib.hid hn
  have HB0 := Lib.hid hB
  have hcb := chV_byte what p M hv
  have HC : Hid (∀ W V, RefAt W B q V (⟨a, x, y, s, p, PC, h, bb⟩ : S14) → B ≤ W.heap.size → Calls Tryd.prog 82 #[.pointer (some ⟨q, 0, none⟩), .int .i64 what, .int .u8 M] W (RDone W B q V ⟨a, x, y, s, chP what p M, PC, h, bb⟩ (.int .u8 (chV what p M)))) := Lib.hid (fun W V hr hb => rchanged_any W B q V ⟨a, x, y, s, p, PC, h, bb⟩ what M hr HOA.out.pf HM.out hw hb)
  have hOC : Ok n (⟨a, x, y, s, chP what p M, PC, h, bb⟩ : S14) := ok_withP _ HOA.out (fl_chP _ _ _ HOA.out.pf)
  generalize chV what p M = R at *
  generalize chP what p M = P at *
  have HRb := Lib.hid hcb
  have HOC := Lib.hid hOC
  obtain ⟨m0, m1⟩ := hv
  obtain ⟨r0, r1⟩ := hcb
  simp only
  have w4 : (what == 4) = false := by rw [beq_eq_false_iff_ne]; omega
  have w5 : (what == 5) = false := by rw [beq_eq_false_iff_ne]; omega
  clear H hO hn hB HHl hOC hw
  go_enter Tryd.func49, Tryd.ntmps49
  go_wp2_with fail
  (with_reducible refine (HAd.out).mono ?_)
  intro e w1 hd
  obtain ⟨rfl, v1, hr, hf, hl⟩ := hd
  have hg : ∃ g, w1.heap.size = g := ⟨_, rfl⟩
  obtain ⟨g, hg⟩ := hg
  have hxb := Blk.fresh w1 99 #[.int .u16 ad, .bool cr, .int .i64 rd, .int .i64 put, .int .i64 chg]
  rw [hg] at hxb
  have hal : Fr [] w1 (w1.alloc (.cells #[.int .u16 ad, .bool cr, .int .i64 rd, .int .i64 put, .int .i64 chg] 99)) := (Fr.refl [] w1).alloc _
  have HX := Lib.hid hxb
  have HXf : Hid (g ∉ foot q v1) := Lib.hid (fun hm => by have := foot_lt hr g hm; omega)
  have HR1 := Lib.hid (hr.fr hal (by simp))
  have HW1 : Hid (Fr (foot q v) w (w1.alloc (.cells #[.int .u16 ad, .bool cr, .int .i64 rd, .int .i64 put, .int .i64 chg] 99))) := Lib.hid (hf.tr hal.nil)
  have HWL := Lib.hid hl
  have HF1 : Hid (Fr (foot q v1) (w1.alloc (.cells #[.int .u16 ad, .bool cr, .int .i64 rd, .int .i64 put, .int .i64 chg] 99)) (w1.alloc (.cells #[.int .u16 ad, .bool cr, .int .i64 rd, .int .i64 put, .int .i64 chg] 99))) := Lib.hid (Fr.refl _ _)
  have HL1 : Hid (Lies (w1.alloc (.cells #[.int .u16 ad, .bool cr, .int .i64 rd, .int .i64 put, .int .i64 chg] 99)) v1 v1) := Lib.hid (Lies.refl _ _)
  have HB1 := Lib.hid (Nat.le_trans HB0.out HW1.out.size)
  clear hr hf hl hxb hal HAd
  go_upto_region 21 with fail
  generalize w1.alloc _ = wA at *
  clear hg HB0
  have HB0 := HB1
  obtain ⟨e0, e1, e2, e3, e4⟩ := blk5 HX.out
  clear e1 e2 e3 e4
  have HRq : Hid (Calls Tryd.prog 24 #[.pointer (some ⟨q, 0, none⟩), .int .u16 ad] wA.drew fun e w' => e = .returned (.int .u8 M) ∧ wA.drew = w') := Lib.hid (by
    have hh := rread_any wA.drew B q v1 ⟨a, x, y, s, p, PC, h, bb⟩ ad (HR1.out.fr (Fr.refl [] wA).drew (by simp)) HuA.out
    rw [show (St.b (⟨a, x, y, s, p, PC, h, bb⟩ : S14)).m ad = M from HVM.out] at hh
    exact hh)
  have HR2 := Lib.hid (HR1.out.fr (Fr.refl [] wA).drew (by simp))
  have HF2 : Hid (Fr (foot q v1) wA wA.drew) := Lib.hid HF1.out.drew
  have HL2 := Lib.hid HL1.out
  have HB2 : Hid (B ≤ wA.drew.heap.size) := HB1
  have HNl : Hid (n < 1000000000) := Lib.hid (by have := HNn.out; omega)
  go_region_law (go_simp; first
    | (go_at_call 53; (with_reducible refine (rwrite_any w3 B q v3 ⟨a, x, y, s, P, PC, h, bb⟩ ad R n HR3.out HuA.out HRb.out HOC.out HNl.out HB3.out).mono ?_); intro e w4 hd; obtain ⟨rfl, v4, hr, hf, hl⟩ := rdone_tr HF3.out HL3.out hd; have HR4 := Lib.hid hr; have HF4 := Lib.hid hf; have HL4 := Lib.hid hl; clear hd hr hf hl)
    | (go_at_call 82; (with_reducible refine (HC.out wA.drew v1 HR2.out HB2.out).mono ?_); intro e w3 hd; obtain ⟨rfl, v3, hr, hf, hl⟩ := rdone_tr HF2.out HL2.out hd; have HR3 := Lib.hid hr; have HF3 := Lib.hid hf; have HL3 := Lib.hid hl; have HB3 := Lib.hid (Nat.le_trans HB0.out hf.size); have x0 := (blk5 (HX.out.fr HF3.out HXf.out)).1; clear hd hr hf hl)
    | (go_at_call 24; (with_reducible refine (HRq.out).mono ?_); rintro e wq ⟨rfl, rfl⟩))
  all_goals
    clear e0
    try clear x0
    have e4 := (blk5 (HX.out.fr HF4.out HXf.out)).2.2.2.2
    go_wp2
    go_ret
    exact rdone_tr HW1.out HWL.out ⟨rfl, v4, HR4.out, HF4.out, HL4.out⟩

set_option maxRecDepth 100000 in
set_option maxHeartbeats 4000000 in
theorem rsecond_C7 (w : World) (B q : Nat) (v : Value) (S : S14) (n : Nat) (what : Int) (H : RefAt w B q v S) (hO : Ok n S) (hn : n + 2 < 1000000000) (hw : what = 0 ∨ what = 1 ∨ what = 2 ∨ what = 3 ∨ what = 6 ∨ what = 7) (hB : B ≤ w.heap.size) :
    Calls Tryd.prog 49 #[.pointer (some ⟨q, 0, none⟩), .int .i64 what, .int .i64 7] w (RDone w B q v (second what 7 S) (.int .i64 (secondN what 7 S))) := by
  have HO := Lib.hid hO
  obtain ⟨a, x, y, s, p, pc, h, b⟩ := S
  have HAd := Lib.hid (raddress_any w B q v ⟨a, x, y, s, p, pc, h, b⟩ 7 n H hO (by omega) (by omega) hB)
  have HuA := Lib.hid (adr_u16 7 hO)
  have HOA : Hid (Ok n (⟨a, x, y, s, p, adrPC 7 (⟨a, x, y, s, p, pc, h, b⟩ : S14), h, adrB 7 (⟨a, x, y, s, p, pc, h, b⟩ : S14)⟩ : S14)) := Lib.hid (Ok.mk' hO.a hO.x hO.y hO.s hO.pf (adrPC_u16 7) (adrB_ok 7 hO))
  obtain ⟨rd0, rd1⟩ := adr_rd 7 (⟨a, x, y, s, p, pc, h, b⟩ : S14)
  have hS : second what 7 (⟨a, x, y, s, p, pc, h, b⟩ : S14) = ⟨a, x, y, s, chP what p (Io.rv (adrB 7 (⟨a, x, y, s, p, pc, h, b⟩ : S14)) (adr 7 (⟨a, x, y, s, p, pc, h, b⟩ : S14)).ad), adrPC 7 (⟨a, x, y, s, p, pc, h, b⟩ : S14), h, Io.wb (adrB 7 (⟨a, x, y, s, p, pc, h, b⟩ : S14)) (adr 7 (⟨a, x, y, s, p, pc, h, b⟩ : S14)).ad (chV what p (Io.rv (adrB 7 (⟨a, x, y, s, p, pc, h, b⟩ : S14)) (adr 7 (⟨a, x, y, s, p, pc, h, b⟩ : S14)).ad))⟩ := by
    unfold second
    rw [if_neg (by omega), if_neg (by omega), if_neg (by omega), if_neg (by omega)]
    rfl
  have hM : secondN what 7 (⟨a, x, y, s, p, pc, h, b⟩ : S14) = (adr 7 (⟨a, x, y, s, p, pc, h, b⟩ : S14)).chg := by
    unfold secondN
    rw [if_neg (by omega), if_neg (by omega), if_neg (by omega)]
  rw [hS, hM]
  have hv : byte (Io.rv (adrB 7 (⟨a, x, y, s, p, pc, h, b⟩ : S14)) (adr 7 (⟨a, x, y, s, p, pc, h, b⟩ : S14)).ad) := Io.rv_ok _ (adrB_ok 7 hO)
  clear hS hM
  have HHl := Lib.hid (foot_lt H)
  change Hid (Calls Tryd.prog 74 #[.pointer (some ⟨q, 0, none⟩), .int .i64 7] w (RDone w B q v ⟨a, x, y, s, p, adrPC 7 (⟨a, x, y, s, p, pc, h, b⟩ : S14), h, adrB 7 (⟨a, x, y, s, p, pc, h, b⟩ : S14)⟩ (adV (adr 7 (⟨a, x, y, s, p, pc, h, b⟩ : S14))))) at HAd
  generalize adrPC 7 (⟨a, x, y, s, p, pc, h, b⟩ : S14) = PC at *
  generalize adrB 7 (⟨a, x, y, s, p, pc, h, b⟩ : S14) = bb at *
  generalize adr 7 (⟨a, x, y, s, p, pc, h, b⟩ : S14) = D at *
  obtain ⟨ad, cr, rd, put, chg⟩ := D
  simp only at rd0 rd1 HuA
  change Hid (Calls Tryd.prog 74 #[.pointer (some ⟨q, 0, none⟩), .int .i64 7] w (RDone w B q v ⟨a, x, y, s, p, PC, h, bb⟩ (.agg #[.int .u16 ad, .bool cr, .int .i64 rd, .int .i64 put, .int .i64 chg]))) at HAd
  have HVM : Hid (bb.m ad = Io.rv bb ad) := Lib.hid rfl
  generalize Io.rv bb ad = M at *
  have HM := Lib.hid hv
  have HNn := Lib.hid hn
  have HB0 := Lib.hid hB
  have hcb := chV_byte what p M hv
  have HC : Hid (∀ W V, RefAt W B q V (⟨a, x, y, s, p, PC, h, bb⟩ : S14) → B ≤ W.heap.size → Calls Tryd.prog 82 #[.pointer (some ⟨q, 0, none⟩), .int .i64 what, .int .u8 M] W (RDone W B q V ⟨a, x, y, s, chP what p M, PC, h, bb⟩ (.int .u8 (chV what p M)))) := Lib.hid (fun W V hr hb => rchanged_any W B q V ⟨a, x, y, s, p, PC, h, bb⟩ what M hr HOA.out.pf HM.out hw hb)
  have hOC : Ok n (⟨a, x, y, s, chP what p M, PC, h, bb⟩ : S14) := ok_withP _ HOA.out (fl_chP _ _ _ HOA.out.pf)
  generalize chV what p M = R at *
  generalize chP what p M = P at *
  have HRb := Lib.hid hcb
  have HOC := Lib.hid hOC
  obtain ⟨m0, m1⟩ := hv
  obtain ⟨r0, r1⟩ := hcb
  simp only
  have w4 : (what == 4) = false := by rw [beq_eq_false_iff_ne]; omega
  have w5 : (what == 5) = false := by rw [beq_eq_false_iff_ne]; omega
  clear H hO hn hB HHl hOC hw
  go_enter Tryd.func49, Tryd.ntmps49
  go_wp2_with fail
  (with_reducible refine (HAd.out).mono ?_)
  intro e w1 hd
  obtain ⟨rfl, v1, hr, hf, hl⟩ := hd
  have hg : ∃ g, w1.heap.size = g := ⟨_, rfl⟩
  obtain ⟨g, hg⟩ := hg
  have hxb := Blk.fresh w1 99 #[.int .u16 ad, .bool cr, .int .i64 rd, .int .i64 put, .int .i64 chg]
  rw [hg] at hxb
  have hal : Fr [] w1 (w1.alloc (.cells #[.int .u16 ad, .bool cr, .int .i64 rd, .int .i64 put, .int .i64 chg] 99)) := (Fr.refl [] w1).alloc _
  have HX := Lib.hid hxb
  have HXf : Hid (g ∉ foot q v1) := Lib.hid (fun hm => by have := foot_lt hr g hm; omega)
  have HR1 := Lib.hid (hr.fr hal (by simp))
  have HW1 : Hid (Fr (foot q v) w (w1.alloc (.cells #[.int .u16 ad, .bool cr, .int .i64 rd, .int .i64 put, .int .i64 chg] 99))) := Lib.hid (hf.tr hal.nil)
  have HWL := Lib.hid hl
  have HF1 : Hid (Fr (foot q v1) (w1.alloc (.cells #[.int .u16 ad, .bool cr, .int .i64 rd, .int .i64 put, .int .i64 chg] 99)) (w1.alloc (.cells #[.int .u16 ad, .bool cr, .int .i64 rd, .int .i64 put, .int .i64 chg] 99))) := Lib.hid (Fr.refl _ _)
  have HL1 : Hid (Lies (w1.alloc (.cells #[.int .u16 ad, .bool cr, .int .i64 rd, .int .i64 put, .int .i64 chg] 99)) v1 v1) := Lib.hid (Lies.refl _ _)
  have HB1 := Lib.hid (Nat.le_trans HB0.out HW1.out.size)
  clear hr hf hl hxb hal HAd
  go_upto_region 21 with fail
  generalize w1.alloc _ = wA at *
  clear hg HB0
  have HB0 := HB1
  obtain ⟨e0, e1, e2, e3, e4⟩ := blk5 HX.out
  clear e1 e2 e3 e4
  have HRq : Hid (Calls Tryd.prog 24 #[.pointer (some ⟨q, 0, none⟩), .int .u16 ad] wA.drew fun e w' => e = .returned (.int .u8 M) ∧ wA.drew = w') := Lib.hid (by
    have hh := rread_any wA.drew B q v1 ⟨a, x, y, s, p, PC, h, bb⟩ ad (HR1.out.fr (Fr.refl [] wA).drew (by simp)) HuA.out
    rw [show (St.b (⟨a, x, y, s, p, PC, h, bb⟩ : S14)).m ad = M from HVM.out] at hh
    exact hh)
  have HR2 := Lib.hid (HR1.out.fr (Fr.refl [] wA).drew (by simp))
  have HF2 : Hid (Fr (foot q v1) wA wA.drew) := Lib.hid HF1.out.drew
  have HL2 := Lib.hid HL1.out
  have HB2 : Hid (B ≤ wA.drew.heap.size) := HB1
  have HNl : Hid (n < 1000000000) := Lib.hid (by have := HNn.out; omega)
  go_region_law (go_simp; first
    | (go_at_call 53; (with_reducible refine (rwrite_any w3 B q v3 ⟨a, x, y, s, P, PC, h, bb⟩ ad R n HR3.out HuA.out HRb.out HOC.out HNl.out HB3.out).mono ?_); intro e w4 hd; obtain ⟨rfl, v4, hr, hf, hl⟩ := rdone_tr HF3.out HL3.out hd; have HR4 := Lib.hid hr; have HF4 := Lib.hid hf; have HL4 := Lib.hid hl; clear hd hr hf hl)
    | (go_at_call 82; (with_reducible refine (HC.out wA.drew v1 HR2.out HB2.out).mono ?_); intro e w3 hd; obtain ⟨rfl, v3, hr, hf, hl⟩ := rdone_tr HF2.out HL2.out hd; have HR3 := Lib.hid hr; have HF3 := Lib.hid hf; have HL3 := Lib.hid hl; have HB3 := Lib.hid (Nat.le_trans HB0.out hf.size); have x0 := (blk5 (HX.out.fr HF3.out HXf.out)).1; clear hd hr hf hl)
    | (go_at_call 24; (with_reducible refine (HRq.out).mono ?_); rintro e wq ⟨rfl, rfl⟩))
  all_goals
    clear e0
    try clear x0
    have e4 := (blk5 (HX.out.fr HF4.out HXf.out)).2.2.2.2
    go_wp2
    go_ret
    exact rdone_tr HW1.out HWL.out ⟨rfl, v4, HR4.out, HF4.out, HL4.out⟩

end Ms
end Go.Proofs.YtlnpadekgakghaaDoor
