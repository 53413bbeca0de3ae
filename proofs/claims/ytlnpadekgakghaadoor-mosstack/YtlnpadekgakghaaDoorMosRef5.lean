/-
  Contracts of the document's CPU: addresses, mode by mode. Conditions: the state is one that there is.
-/
import Derived.Test.YtlnpadekgakghaaDoorMosRef4
namespace Go.Proofs.YtlnpadekgakghaaDoor
open Go.RowKit
namespace Ms
open Al (byte of_byte)
set_option linter.unusedVariables false

set_option maxRecDepth 100000 in
set_option maxHeartbeats 4000000 in
theorem raddress2 (w : World) (B q : Nat) (v : Value) (S : S14) (n : Nat) (H : RefAt w B q v S) (hO : Ok n S) (hB : B ≤ w.heap.size) :
    Calls Tryd.prog 74 #[.pointer (some ⟨q, 0, none⟩), .int .i64 2] w (RDone w B q v (⟨S.a, S.x, S.y, S.s, S.p, adrPC 2 S, S.h, adrB 2 S⟩) (adV (adr 2 S))) := by
  have HO := Lib.hid hO
  obtain ⟨a, x, y, s, p, pc, h, b⟩ := S
  obtain ⟨pc0, pc1⟩ : 0 ≤ pc ∧ pc < 65536 := hO.pc
  obtain ⟨z, hz⟩ : ∃ z, w.heap.size = z := ⟨_, rfl⟩
  have hbz := Blk.fresh w 99 zeroAd
  rw [hz] at hbz
  have hal : Fr [] w (w.alloc (.cells zeroAd 99)) := (Fr.refl [] w).alloc _
  have HK1 : Hid (w.heap.size ≤ z) := Lib.hid (by omega)
  have HK2 := Lib.hid hbz.lt
  have HK3 : Hid (z ∉ foot q v) := Lib.hid (fun hm => by have := foot_lt H z hm; omega)
  have HK4 := Lib.hid hal
  have HK5 := Lib.hid hbz
  have HR0 := Lib.hid (H.fr hal (by simp))
  have HF0 : Hid (Fr (foot q v) (w.alloc (.cells zeroAd 99)) (w.alloc (.cells zeroAd 99))) := Lib.hid (Fr.refl _ _)
  have HL0 : Hid (Lies (w.alloc (.cells zeroAd 99)) v v) := Lib.hid (Lies.refl _ v)
  have HB0 := Lib.hid (Nat.le_trans hB hal.size)
  show Calls _ _ _ _ (RDone w B q v ⟨a, x, y, s, p, (pc + 1) % 65536, h, b⟩ (adV (⟨pc, false, 2, 0, 0⟩)))
  obtain ⟨k, hk⟩ : ∃ k, (pc + 1) % 65536 = k := ⟨_, rfl⟩
  have wk : IntKind.u16.wrap (pc + 1) = k := by rw [IntKind.wrap_u16]; exact hk
  have wj : IntKind.u16.wrap (k - 1) = pc := by rw [IntKind.wrap_u16]; omega
  have k0 : 0 ≤ k := by omega
  have k1 : k < 65536 := by omega
  rw [hk]
  clear hk
  clear hbz hal H hO hB
  go_enter Tryd.func74, Tryd.ntmps74
  go_upto_region 1 with fail
  generalize w.alloc _ = w0 at *
  clear hz
  obtain ⟨c0, c1, c2, c3, c4, c5, c6⟩ := regs HR0.out
  have f5 := RefAt.frozen HR0.out 5
  clear c0 c1 c2 c3 c4 c6
  have HR1 : Hid (RefAt (w0.setCell ⟨q, 5, none⟩ (.int .u16 k)) B q v ⟨a, x, y, s, p, k, h, b⟩) := Lib.hid (put_pc HR0.out k)
  have HF1 : Hid (Fr (foot q v) w0 (w0.setCell ⟨q, 5, none⟩ (.int .u16 k))) := Lib.hid ((Fr.refl _ w0).setCell (by simp [foot]) _)
  have HL1 := Lib.hid HL0.out
  go_upto_region 3 with fail
  clear c5 f5
  generalize w0.setCell _ _ = w1 at *
  obtain ⟨c0, c1, c2, c3, c4, c5, c6⟩ := regs HR1.out
  clear c0 c1 c2 c3 c4 c6
  have HE := Lib.hid (ad_done HK1.out HK2.out HK3.out HK4.out HF1.out HL1.out HR1.out HK5.out ⟨pc, false, 2, 0, 0⟩)
  have hbz := HK5.out.fr HF1.out HK3.out
  obtain ⟨e0, e1, e2, e3, e4⟩ := blk5 hbz
  have g0 := hbz.frozen 0
  have g1 := hbz.frozen 1
  have g2 := hbz.frozen 2
  have g3 := hbz.frozen 3
  have g4 := hbz.frozen 4
  clear hbz
  unfold adSet at HE
  go_wp2
  exact bodyPost_ret (v := adV ⟨pc, false, 2, 0, 0⟩) (results_cell_row Tryd.results74 _ _ z 99 (adC ⟨pc, false, 2, 0, 0⟩) (0, 0) _ rfl HE.out.2 Tryd.underlying99 rfl infoAd) rfl HE.out.1

set_option maxRecDepth 100000 in
set_option maxHeartbeats 4000000 in
theorem raddress3 (w : World) (B q : Nat) (v : Value) (S : S14) (n : Nat) (H : RefAt w B q v S) (hO : Ok n S) (hB : B ≤ w.heap.size) :
    Calls Tryd.prog 74 #[.pointer (some ⟨q, 0, none⟩), .int .i64 3] w (RDone w B q v (⟨S.a, S.x, S.y, S.s, S.p, adrPC 3 S, S.h, adrB 3 S⟩) (adV (adr 3 S))) := by
  have HO := Lib.hid hO
  obtain ⟨a, x, y, s, p, pc, h, b⟩ := S
  obtain ⟨z, hz⟩ : ∃ z, w.heap.size = z := ⟨_, rfl⟩
  have hbz := Blk.fresh w 99 zeroAd
  rw [hz] at hbz
  have hal : Fr [] w (w.alloc (.cells zeroAd 99)) := (Fr.refl [] w).alloc _
  have HK1 : Hid (w.heap.size ≤ z) := Lib.hid (by omega)
  have HK2 := Lib.hid hbz.lt
  have HK3 : Hid (z ∉ foot q v) := Lib.hid (fun hm => by have := foot_lt H z hm; omega)
  have HK4 := Lib.hid hal
  have HK5 := Lib.hid hbz
  have HR0 := Lib.hid (H.fr hal (by simp))
  have HF0 : Hid (Fr (foot q v) (w.alloc (.cells zeroAd 99)) (w.alloc (.cells zeroAd 99))) := Lib.hid (Fr.refl _ _)
  have HL0 : Hid (Lies (w.alloc (.cells zeroAd 99)) v v) := Lib.hid (Lies.refl _ v)
  have HB0 := Lib.hid (Nat.le_trans hB hal.size)
  show Calls _ _ _ _ (RDone w B q v ⟨a, x, y, s, p, ((pc + 1) % 65536 + 1) % 65536, h, b⟩ (adV (⟨(wordV (⟨a, x, y, s, p, pc, h, b⟩ : S14)), false, 4, 4, 6⟩)))
  have hv := wordV_u16 hO
  have HN := Lib.hid (fun W V (hr : RefAt W B q V (⟨a, x, y, s, p, pc, h, b⟩ : S14)) hb => rword_any W B q V (⟨a, x, y, s, p, pc, h, b⟩ : S14) n hr hO hb)
  generalize wordV (⟨a, x, y, s, p, pc, h, b⟩ : S14) = W at *
  obtain ⟨m0, m1⟩ := hv
  clear hbz hal H hO hB
  go_enter Tryd.func74, Tryd.ntmps74
  go_upto_region 1 with fail
  generalize w.alloc _ = w0 at *
  clear hz
  go_wp2_with fail
  (with_reducible refine (HN.out w0 v HR0.out HB0.out).mono ?_)
  intro e w1 hd
  obtain ⟨rfl, v1, hr, hf, hl⟩ := rdone_tr HF0.out HL0.out hd
  change RefAt w1 B q v1 ⟨a, x, y, s, p, ((pc + 1) % 65536 + 1) % 65536, h, b⟩ at hr
  have HR1 := Lib.hid hr
  have HF1 := Lib.hid hf
  have HL1 := Lib.hid hl
  have HB1 := Lib.hid (Nat.le_trans HB0.out hf.size)
  clear hd hr hf hl
  have HE := Lib.hid (ad_done HK1.out HK2.out HK3.out HK4.out HF1.out HL1.out HR1.out HK5.out ⟨W, false, 4, 4, 6⟩)
  have hbz := HK5.out.fr HF1.out HK3.out
  obtain ⟨e0, e1, e2, e3, e4⟩ := blk5 hbz
  have g0 := hbz.frozen 0
  have g1 := hbz.frozen 1
  have g2 := hbz.frozen 2
  have g3 := hbz.frozen 3
  have g4 := hbz.frozen 4
  clear hbz
  unfold adSet at HE
  go_wp2
  exact bodyPost_ret (v := adV ⟨W, false, 4, 4, 6⟩) (results_cell_row Tryd.results74 _ _ z 99 (adC ⟨W, false, 4, 4, 6⟩) (0, 0) _ rfl HE.out.2 Tryd.underlying99 rfl infoAd) rfl HE.out.1

set_option maxRecDepth 100000 in
set_option maxHeartbeats 4000000 in
theorem raddress6 (w : World) (B q : Nat) (v : Value) (S : S14) (n : Nat) (H : RefAt w B q v S) (hO : Ok n S) (hB : B ≤ w.heap.size) :
    Calls Tryd.prog 74 #[.pointer (some ⟨q, 0, none⟩), .int .i64 6] w (RDone w B q v (⟨S.a, S.x, S.y, S.s, S.p, adrPC 6 S, S.h, adrB 6 S⟩) (adV (adr 6 S))) := by
  have HO := Lib.hid hO
  obtain ⟨a, x, y, s, p, pc, h, b⟩ := S
  obtain ⟨z, hz⟩ : ∃ z, w.heap.size = z := ⟨_, rfl⟩
  have hbz := Blk.fresh w 99 zeroAd
  rw [hz] at hbz
  have hal : Fr [] w (w.alloc (.cells zeroAd 99)) := (Fr.refl [] w).alloc _
  have HK1 : Hid (w.heap.size ≤ z) := Lib.hid (by omega)
  have HK2 := Lib.hid hbz.lt
  have HK3 : Hid (z ∉ foot q v) := Lib.hid (fun hm => by have := foot_lt H z hm; omega)
  have HK4 := Lib.hid hal
  have HK5 := Lib.hid hbz
  have HR0 := Lib.hid (H.fr hal (by simp))
  have HF0 : Hid (Fr (foot q v) (w.alloc (.cells zeroAd 99)) (w.alloc (.cells zeroAd 99))) := Lib.hid (Fr.refl _ _)
  have HL0 : Hid (Lies (w.alloc (.cells zeroAd 99)) v v) := Lib.hid (Lies.refl _ v)
  have HB0 := Lib.hid (Nat.le_trans hB hal.size)
  show Calls _ _ _ _ (RDone w B q v ⟨a, x, y, s, p, ((pc + 1) % 65536 + 1) % 65536, h, b⟩ (adV (added (wordV (⟨a, x, y, s, p, pc, h, b⟩ : S14)) y 4 5 7)))
  have hv := wordV_u16 hO
  have HN := Lib.hid (fun W V (hr : RefAt W B q V (⟨a, x, y, s, p, pc, h, b⟩ : S14)) hb => rword_any W B q V (⟨a, x, y, s, p, pc, h, b⟩ : S14) n hr hO hb)
  have HY : Hid (byte y) := Lib.hid hO.y
  generalize wordV (⟨a, x, y, s, p, pc, h, b⟩ : S14) = W at *
  have HW := Lib.hid hv
  obtain ⟨m0, m1⟩ := hv
  have hA := fun w => radded_any w W y 4 5 7 HW.out HY.out
  obtain ⟨D, hD⟩ : ∃ D, added W y 4 5 7 = D := ⟨_, rfl⟩
  rw [hD] at hA ⊢
  have HA : Hid (∀ w, Calls Tryd.prog 93 #[.int .u16 W, .int .u8 y, .int .i64 4, .int .i64 5, .int .i64 7] w fun e w' => e = .returned (.agg #[.int .u16 D.ad, .bool D.cr, .int .i64 D.rd, .int .i64 D.put, .int .i64 D.chg]) ∧ Fr [] w w') := Lib.hid hA
  clear hA hD
  clear hbz hal H hO hB
  go_enter Tryd.func74, Tryd.ntmps74
  go_upto_region 1 with fail
  generalize w.alloc _ = w0 at *
  clear hz
  go_wp2_with fail
  (with_reducible refine (HN.out w0 v HR0.out HB0.out).mono ?_)
  intro e w1 hd
  obtain ⟨rfl, v1, hr, hf, hl⟩ := rdone_tr HF0.out HL0.out hd
  change RefAt w1 B q v1 ⟨a, x, y, s, p, ((pc + 1) % 65536 + 1) % 65536, h, b⟩ at hr
  have HR1 := Lib.hid hr
  have HF1 := Lib.hid hf
  have HL1 := Lib.hid hl
  have HB1 := Lib.hid (Nat.le_trans HB0.out hf.size)
  clear hd hr hf hl
  obtain ⟨c0, c1, c2, c3, c4, c5, c6⟩ := regs HR1.out
  clear c0 c1 c3 c4 c5 c6
  go_wp2_with fail
  (with_reducible refine (HA.out _).mono ?_)
  rintro e w2 ⟨rfl, hfa⟩
  have HR2 := Lib.hid (HR1.out.fr hfa (by simp))
  have HF2 : Hid (Fr (foot q v) w0 w2) := Lib.hid (HF1.out.tr hfa.nil)
  have HL2 := Lib.hid HL1.out
  clear hfa c2
  have HE := Lib.hid (ad_done HK1.out HK2.out HK3.out HK4.out HF2.out HL2.out HR2.out HK5.out D)
  have hbz := HK5.out.fr HF2.out HK3.out
  obtain ⟨e0, e1, e2, e3, e4⟩ := blk5 hbz
  have g0 := hbz.frozen 0
  have g1 := hbz.frozen 1
  have g2 := hbz.frozen 2
  have g3 := hbz.frozen 3
  have g4 := hbz.frozen 4
  clear hbz
  unfold adSet at HE
  go_wp2
  exact bodyPost_ret (v := adV D) (results_cell_row Tryd.results74 _ _ z 99 (adC D) (0, 0) _ rfl HE.out.2 Tryd.underlying99 rfl infoAd) rfl HE.out.1

set_option maxRecDepth 100000 in
set_option maxHeartbeats 4000000 in
theorem raddress7 (w : World) (B q : Nat) (v : Value) (S : S14) (n : Nat) (H : RefAt w B q v S) (hO : Ok n S) (hB : B ≤ w.heap.size) :
    Calls Tryd.prog 74 #[.pointer (some ⟨q, 0, none⟩), .int .i64 7] w (RDone w B q v (⟨S.a, S.x, S.y, S.s, S.p, adrPC 7 S, S.h, adrB 7 S⟩) (adV (adr 7 S))) := by
  have HO := Lib.hid hO
  obtain ⟨a, x, y, s, p, pc, h, b⟩ := S
  obtain ⟨z, hz⟩ : ∃ z, w.heap.size = z := ⟨_, rfl⟩
  have hbz := Blk.fresh w 99 zeroAd
  rw [hz] at hbz
  have hal : Fr [] w (w.alloc (.cells zeroAd 99)) := (Fr.refl [] w).alloc _
  have HK1 : Hid (w.heap.size ≤ z) := Lib.hid (by omega)
  have HK2 := Lib.hid hbz.lt
  have HK3 : Hid (z ∉ foot q v) := Lib.hid (fun hm => by have := foot_lt H z hm; omega)
  have HK4 := Lib.hid hal
  have HK5 := Lib.hid hbz
  have HR0 := Lib.hid (H.fr hal (by simp))
  have HF0 : Hid (Fr (foot q v) (w.alloc (.cells zeroAd 99)) (w.alloc (.cells zeroAd 99))) := Lib.hid (Fr.refl _ _)
  have HL0 : Hid (Lies (w.alloc (.cells zeroAd 99)) v v) := Lib.hid (Lies.refl _ v)
  have HB0 := Lib.hid (Nat.le_trans hB hal.size)
  show Calls _ _ _ _ (RDone w B q v ⟨a, x, y, s, p, ((pc + 1) % 65536 + 1) % 65536, h, b⟩ (adV (added (wordV (⟨a, x, y, s, p, pc, h, b⟩ : S14)) x 4 5 7)))
  have hv := wordV_u16 hO
  have HN := Lib.hid (fun W V (hr : RefAt W B q V (⟨a, x, y, s, p, pc, h, b⟩ : S14)) hb => rword_any W B q V (⟨a, x, y, s, p, pc, h, b⟩ : S14) n hr hO hb)
  have HY : Hid (byte x) := Lib.hid hO.x
  generalize wordV (⟨a, x, y, s, p, pc, h, b⟩ : S14) = W at *
  have HW := Lib.hid hv
  obtain ⟨m0, m1⟩ := hv
  have hA := fun w => radded_any w W x 4 5 7 HW.out HY.out
  obtain ⟨D, hD⟩ : ∃ D, added W x 4 5 7 = D := ⟨_, rfl⟩
  rw [hD] at hA ⊢
  have HA : Hid (∀ w, Calls Tryd.prog 93 #[.int .u16 W, .int .u8 x, .int .i64 4, .int .i64 5, .int .i64 7] w fun e w' => e = .returned (.agg #[.int .u16 D.ad, .bool D.cr, .int .i64 D.rd, .int .i64 D.put, .int .i64 D.chg]) ∧ Fr [] w w') := Lib.hid hA
  clear hA hD
  clear hbz hal H hO hB
  go_enter Tryd.func74, Tryd.ntmps74
  go_upto_region 1 with fail
  generalize w.alloc _ = w0 at *
  clear hz
  go_wp2_with fail
  (with_reducible refine (HN.out w0 v HR0.out HB0.out).mono ?_)
  intro e w1 hd
  obtain ⟨rfl, v1, hr, hf, hl⟩ := rdone_tr HF0.out HL0.out hd
  change RefAt w1 B q v1 ⟨a, x, y, s, p, ((pc + 1) % 65536 + 1) % 65536, h, b⟩ at hr
  have HR1 := Lib.hid hr
  have HF1 := Lib.hid hf
  have HL1 := Lib.hid hl
  have HB1 := Lib.hid (Nat.le_trans HB0.out hf.size)
  clear hd hr hf hl
  obtain ⟨c0, c1, c2, c3, c4, c5, c6⟩ := regs HR1.out
  clear c0 c2 c3 c4 c5 c6
  go_wp2_with fail
  (with_reducible refine (HA.out _).mono ?_)
  rintro e w2 ⟨rfl, hfa⟩
  have HR2 := Lib.hid (HR1.out.fr hfa (by simp))
  have HF2 : Hid (Fr (foot q v) w0 w2) := Lib.hid (HF1.out.tr hfa.nil)
  have HL2 := Lib.hid HL1.out
  clear hfa c1
  have HE := Lib.hid (ad_done HK1.out HK2.out HK3.out HK4.out HF2.out HL2.out HR2.out HK5.out D)
  have hbz := HK5.out.fr HF2.out HK3.out
  obtain ⟨e0, e1, e2, e3, e4⟩ := blk5 hbz
  have g0 := hbz.frozen 0
  have g1 := hbz.frozen 1
  have g2 := hbz.frozen 2
  have g3 := hbz.frozen 3
  have g4 := hbz.frozen 4
  clear hbz
  unfold adSet at HE
  go_wp2
  exact bodyPost_ret (v := adV D) (results_cell_row Tryd.results74 _ _ z 99 (adC D) (0, 0) _ rfl HE.out.2 Tryd.underlying99 rfl infoAd) rfl HE.out.1

set_option maxRecDepth 100000 in
set_option maxHeartbeats 4000000 in
theorem raddress1 (w : World) (B q : Nat) (v : Value) (S : S14) (n : Nat) (H : RefAt w B q v S) (hO : Ok n S) (hB : B ≤ w.heap.size) :
    Calls Tryd.prog 74 #[.pointer (some ⟨q, 0, none⟩), .int .i64 1] w (RDone w B q v (⟨S.a, S.x, S.y, S.s, S.p, adrPC 1 S, S.h, adrB 1 S⟩) (adV (adr 1 S))) := by
  have HO := Lib.hid hO
  obtain ⟨a, x, y, s, p, pc, h, b⟩ := S
  obtain ⟨z, hz⟩ : ∃ z, w.heap.size = z := ⟨_, rfl⟩
  have hbz := Blk.fresh w 99 zeroAd
  rw [hz] at hbz
  have hal : Fr [] w (w.alloc (.cells zeroAd 99)) := (Fr.refl [] w).alloc _
  have HK1 : Hid (w.heap.size ≤ z) := Lib.hid (by omega)
  have HK2 := Lib.hid hbz.lt
  have HK3 : Hid (z ∉ foot q v) := Lib.hid (fun hm => by have := foot_lt H z hm; omega)
  have HK4 := Lib.hid hal
  have HK5 := Lib.hid hbz
  have HR0 := Lib.hid (H.fr hal (by simp))
  have HF0 : Hid (Fr (foot q v) (w.alloc (.cells zeroAd 99)) (w.alloc (.cells zeroAd 99))) := Lib.hid (Fr.refl _ _)
  have HL0 : Hid (Lies (w.alloc (.cells zeroAd 99)) v v) := Lib.hid (Lies.refl _ v)
  have HB0 := Lib.hid (Nat.le_trans hB hal.size)
  show Calls _ _ _ _ (RDone w B q v ⟨a, x, y, s, p, (pc + 1) % 65536, h, b⟩ (adV (⟨nextV (⟨a, x, y, s, p, pc, h, b⟩ : S14), false, 3, 3, 5⟩)))
  have hv := nextV_byte hO
  have HN := Lib.hid (fun W V (hr : RefAt W B q V (⟨a, x, y, s, p, pc, h, b⟩ : S14)) hb => rnext_any W B q V (⟨a, x, y, s, p, pc, h, b⟩ : S14) n hr hO hb)
  generalize nextV (⟨a, x, y, s, p, pc, h, b⟩ : S14) = M at *
  obtain ⟨m0, m1⟩ := hv
  clear hbz hal H hO hB
  go_enter Tryd.func74, Tryd.ntmps74
  go_upto_region 1 with fail
  generalize w.alloc _ = w0 at *
  clear hz
  go_wp2_with fail
  (with_reducible refine (HN.out w0 v HR0.out HB0.out).mono ?_)
  intro e w1 hd
  obtain ⟨rfl, v1, hr, hf, hl⟩ := rdone_tr HF0.out HL0.out hd
  change RefAt w1 B q v1 ⟨a, x, y, s, p, (pc + 1) % 65536, h, b⟩ at hr
  have HR1 := Lib.hid hr
  have HF1 := Lib.hid hf
  have HL1 := Lib.hid hl
  have HB1 := Lib.hid (Nat.le_trans HB0.out hf.size)
  clear hd hr hf hl
  have HE := Lib.hid (ad_done HK1.out HK2.out HK3.out HK4.out HF1.out HL1.out HR1.out HK5.out ⟨M, false, 3, 3, 5⟩)
  have hbz := HK5.out.fr HF1.out HK3.out
  obtain ⟨e0, e1, e2, e3, e4⟩ := blk5 hbz
  have g0 := hbz.frozen 0
  have g1 := hbz.frozen 1
  have g2 := hbz.frozen 2
  have g3 := hbz.frozen 3
  have g4 := hbz.frozen 4
  clear hbz
  unfold adSet at HE
  go_wp2
  exact bodyPost_ret (v := adV ⟨M, false, 3, 3, 5⟩) (results_cell_row Tryd.results74 _ _ z 99 (adC ⟨M, false, 3, 3, 5⟩) (0, 0) _ rfl HE.out.2 Tryd.underlying99 rfl infoAd) rfl HE.out.1

set_option maxRecDepth 100000 in
set_option maxHeartbeats 4000000 in
theorem raddress5 (w : World) (B q : Nat) (v : Value) (S : S14) (n : Nat) (H : RefAt w B q v S) (hO : Ok n S) (hB : B ≤ w.heap.size) :
    Calls Tryd.prog 74 #[.pointer (some ⟨q, 0, none⟩), .int .i64 5] w (RDone w B q v (⟨S.a, S.x, S.y, S.s, S.p, adrPC 5 S, S.h, adrB 5 S⟩) (adV (adr 5 S))) := by
  have HO := Lib.hid hO
  obtain ⟨a, x, y, s, p, pc, h, b⟩ := S
  obtain ⟨x0, x1⟩ : 0 ≤ x ∧ x < 256 := hO.x
  obtain ⟨z, hz⟩ : ∃ z, w.heap.size = z := ⟨_, rfl⟩
  have hbz := Blk.fresh w 99 zeroAd
  rw [hz] at hbz
  have hal : Fr [] w (w.alloc (.cells zeroAd 99)) := (Fr.refl [] w).alloc _
  have HK1 : Hid (w.heap.size ≤ z) := Lib.hid (by omega)
  have HK2 := Lib.hid hbz.lt
  have HK3 : Hid (z ∉ foot q v) := Lib.hid (fun hm => by have := foot_lt H z hm; omega)
  have HK4 := Lib.hid hal
  have HK5 := Lib.hid hbz
  have HR0 := Lib.hid (H.fr hal (by simp))
  have HF0 : Hid (Fr (foot q v) (w.alloc (.cells zeroAd 99)) (w.alloc (.cells zeroAd 99))) := Lib.hid (Fr.refl _ _)
  have HL0 : Hid (Lies (w.alloc (.cells zeroAd 99)) v v) := Lib.hid (Lies.refl _ v)
  have HB0 := Lib.hid (Nat.le_trans hB hal.size)
  show Calls _ _ _ _ (RDone w B q v ⟨a, x, y, s, p, (pc + 1) % 65536, h, b⟩ (adV (⟨(nextV (⟨a, x, y, s, p, pc, h, b⟩ : S14) + x) % 256, false, 4, 4, 6⟩)))
  have hv := nextV_byte hO
  have HN := Lib.hid (fun W V (hr : RefAt W B q V (⟨a, x, y, s, p, pc, h, b⟩ : S14)) hb => rnext_any W B q V (⟨a, x, y, s, p, pc, h, b⟩ : S14) n hr hO hb)
  generalize nextV (⟨a, x, y, s, p, pc, h, b⟩ : S14) = M at *
  obtain ⟨m0, m1⟩ := hv
  obtain ⟨k, hk⟩ : ∃ k, (M + x) % 256 = k := ⟨_, rfl⟩
  have wk : IntKind.u8.wrap (M + x) = k := by rw [IntKind.wrap_u8]; exact hk
  have k0 : 0 ≤ k := by omega
  have k1 : k < 256 := by omega
  rw [hk]
  clear hk
  clear hbz hal H hO hB
  go_enter Tryd.func74, Tryd.ntmps74
  go_upto_region 1 with fail
  generalize w.alloc _ = w0 at *
  clear hz
  go_wp2_with fail
  (with_reducible refine (HN.out w0 v HR0.out HB0.out).mono ?_)
  intro e w1 hd
  obtain ⟨rfl, v1, hr, hf, hl⟩ := rdone_tr HF0.out HL0.out hd
  change RefAt w1 B q v1 ⟨a, x, y, s, p, (pc + 1) % 65536, h, b⟩ at hr
  have HR1 := Lib.hid hr
  have HF1 := Lib.hid hf
  have HL1 := Lib.hid hl
  have HB1 := Lib.hid (Nat.le_trans HB0.out hf.size)
  clear hd hr hf hl
  obtain ⟨c0, c1, c2, c3, c4, c5, c6⟩ := regs HR1.out
  clear c0 c2 c3 c4 c5 c6
  have HE := Lib.hid (ad_done HK1.out HK2.out HK3.out HK4.out HF1.out HL1.out HR1.out HK5.out ⟨k, false, 4, 4, 6⟩)
  have hbz := HK5.out.fr HF1.out HK3.out
  obtain ⟨e0, e1, e2, e3, e4⟩ := blk5 hbz
  have g0 := hbz.frozen 0
  have g1 := hbz.frozen 1
  have g2 := hbz.frozen 2
  have g3 := hbz.frozen 3
  have g4 := hbz.frozen 4
  clear hbz
  unfold adSet at HE
  go_wp2
  exact bodyPost_ret (v := adV ⟨k, false, 4, 4, 6⟩) (results_cell_row Tryd.results74 _ _ z 99 (adC ⟨k, false, 4, 4, 6⟩) (0, 0) _ rfl HE.out.2 Tryd.underlying99 rfl infoAd) rfl HE.out.1

set_option maxRecDepth 100000 in
set_option maxHeartbeats 4000000 in
theorem raddress8 (w : World) (B q : Nat) (v : Value) (S : S14) (n : Nat) (H : RefAt w B q v S) (hO : Ok n S) (hB : B ≤ w.heap.size) :
    Calls Tryd.prog 74 #[.pointer (some ⟨q, 0, none⟩), .int .i64 8] w (RDone w B q v (⟨S.a, S.x, S.y, S.s, S.p, adrPC 8 S, S.h, adrB 8 S⟩) (adV (adr 8 S))) := by
  have HO := Lib.hid hO
  obtain ⟨a, x, y, s, p, pc, h, b⟩ := S
  obtain ⟨y0, y1⟩ : 0 ≤ y ∧ y < 256 := hO.y
  obtain ⟨z, hz⟩ : ∃ z, w.heap.size = z := ⟨_, rfl⟩
  have hbz := Blk.fresh w 99 zeroAd
  rw [hz] at hbz
  have hal : Fr [] w (w.alloc (.cells zeroAd 99)) := (Fr.refl [] w).alloc _
  have HK1 : Hid (w.heap.size ≤ z) := Lib.hid (by omega)
  have HK2 := Lib.hid hbz.lt
  have HK3 : Hid (z ∉ foot q v) := Lib.hid (fun hm => by have := foot_lt H z hm; omega)
  have HK4 := Lib.hid hal
  have HK5 := Lib.hid hbz
  have HR0 := Lib.hid (H.fr hal (by simp))
  have HF0 : Hid (Fr (foot q v) (w.alloc (.cells zeroAd 99)) (w.alloc (.cells zeroAd 99))) := Lib.hid (Fr.refl _ _)
  have HL0 : Hid (Lies (w.alloc (.cells zeroAd 99)) v v) := Lib.hid (Lies.refl _ v)
  have HB0 := Lib.hid (Nat.le_trans hB hal.size)
  show Calls _ _ _ _ (RDone w B q v ⟨a, x, y, s, p, (pc + 1) % 65536, h, b⟩ (adV (⟨(nextV (⟨a, x, y, s, p, pc, h, b⟩ : S14) + y) % 256, false, 4, 4, 6⟩)))
  have hv := nextV_byte hO
  have HN := Lib.hid (fun W V (hr : RefAt W B q V (⟨a, x, y, s, p, pc, h, b⟩ : S14)) hb => rnext_any W B q V (⟨a, x, y, s, p, pc, h, b⟩ : S14) n hr hO hb)
  generalize nextV (⟨a, x, y, s, p, pc, h, b⟩ : S14) = M at *
  obtain ⟨m0, m1⟩ := hv
  obtain ⟨k, hk⟩ : ∃ k, (M + y) % 256 = k := ⟨_, rfl⟩
  have wk : IntKind.u8.wrap (M + y) = k := by rw [IntKind.wrap_u8]; exact hk
  have k0 : 0 ≤ k := by omega
  have k1 : k < 256 := by omega
  rw [hk]
  clear hk
  clear hbz hal H hO hB
  go_enter Tryd.func74, Tryd.ntmps74
  go_upto_region 1 with fail
  generalize w.alloc _ = w0 at *
  clear hz
  go_wp2_with fail
  (with_reducible refine (HN.out w0 v HR0.out HB0.out).mono ?_)
  intro e w1 hd
  obtain ⟨rfl, v1, hr, hf, hl⟩ := rdone_tr HF0.out HL0.out hd
  change RefAt w1 B q v1 ⟨a, x, y, s, p, (pc + 1) % 65536, h, b⟩ at hr
  have HR1 := Lib.hid hr
  have HF1 := Lib.hid hf
  have HL1 := Lib.hid hl
  have HB1 := Lib.hid (Nat.le_trans HB0.out hf.size)
  clear hd hr hf hl
  obtain ⟨c0, c1, c2, c3, c4, c5, c6⟩ := regs HR1.out
  clear c0 c1 c3 c4 c5 c6
  have HE := Lib.hid (ad_done HK1.out HK2.out HK3.out HK4.out HF1.out HL1.out HR1.out HK5.out ⟨k, false, 4, 4, 6⟩)
  have hbz := HK5.out.fr HF1.out HK3.out
  obtain ⟨e0, e1, e2, e3, e4⟩ := blk5 hbz
  have g0 := hbz.frozen 0
  have g1 := hbz.frozen 1
  have g2 := hbz.frozen 2
  have g3 := hbz.frozen 3
  have g4 := hbz.frozen 4
  clear hbz
  unfold adSet at HE
  go_wp2
  exact bodyPost_ret (v := adV ⟨k, false, 4, 4, 6⟩) (results_cell_row Tryd.results74 _ _ z 99 (adC ⟨k, false, 4, 4, 6⟩) (0, 0) _ rfl HE.out.2 Tryd.underlying99 rfl infoAd) rfl HE.out.1

set_option maxRecDepth 100000 in
set_option maxHeartbeats 4000000 in
theorem raddress0 (w : World) (B q : Nat) (v : Value) (S : S14) (n : Nat) (H : RefAt w B q v S) (hO : Ok n S) (hB : B ≤ w.heap.size) :
    Calls Tryd.prog 74 #[.pointer (some ⟨q, 0, none⟩), .int .i64 0] w (RDone w B q v (⟨S.a, S.x, S.y, S.s, S.p, adrPC 0 S, S.h, adrB 0 S⟩) (adV (adr 0 S))) := by
  have HO := Lib.hid hO
  obtain ⟨a, x, y, s, p, pc, h, b⟩ := S
  obtain ⟨x0, x1⟩ : 0 ≤ x ∧ x < 256 := hO.x
  obtain ⟨z, hz⟩ : ∃ z, w.heap.size = z := ⟨_, rfl⟩
  have hbz := Blk.fresh w 99 zeroAd
  rw [hz] at hbz
  have hal : Fr [] w (w.alloc (.cells zeroAd 99)) := (Fr.refl [] w).alloc _
  have HK1 : Hid (w.heap.size ≤ z) := Lib.hid (by omega)
  have HK2 := Lib.hid hbz.lt
  have HK3 : Hid (z ∉ foot q v) := Lib.hid (fun hm => by have := foot_lt H z hm; omega)
  have HK4 := Lib.hid hal
  have HK5 := Lib.hid hbz
  have HR0 := Lib.hid (H.fr hal (by simp))
  have HF0 : Hid (Fr (foot q v) (w.alloc (.cells zeroAd 99)) (w.alloc (.cells zeroAd 99))) := Lib.hid (Fr.refl _ _)
  have HL0 : Hid (Lies (w.alloc (.cells zeroAd 99)) v v) := Lib.hid (Lies.refl _ v)
  have HB0 := Lib.hid (Nat.le_trans hB hal.size)
  show Calls _ _ _ _ (RDone w B q v ⟨a, x, y, s, p, (pc + 1) % 65536, h, b⟩ (adV (⟨pairV b ((nextV (⟨a, x, y, s, p, pc, h, b⟩ : S14) + x) % 256) (((nextV (⟨a, x, y, s, p, pc, h, b⟩ : S14) + x) % 256 + 1) % 256), false, 6, 6, 0⟩)))
  have hv := nextV_byte hO
  have HN := Lib.hid (fun W V (hr : RefAt W B q V (⟨a, x, y, s, p, pc, h, b⟩ : S14)) hb => rnext_any W B q V (⟨a, x, y, s, p, pc, h, b⟩ : S14) n hr hO hb)
  generalize nextV (⟨a, x, y, s, p, pc, h, b⟩ : S14) = M at *
  obtain ⟨m0, m1⟩ := hv
  obtain ⟨j, hj⟩ : ∃ j, (M + x) % 256 = j := ⟨_, rfl⟩
  have wj : IntKind.u8.wrap (M + x) = j := by rw [IntKind.wrap_u8]; exact hj
  have j0 : 0 ≤ j := by omega
  have j1 : j < 256 := by omega
  rw [hj]
  obtain ⟨k, hk⟩ : ∃ k, (j + 1) % 256 = k := ⟨_, rfl⟩
  have wk : IntKind.u8.wrap (j + 1) = k := by rw [IntKind.wrap_u8]; exact hk
  have k0 : 0 ≤ k := by omega
  have k1 : k < 256 := by omega
  have HKb : Hid (byte k) := Lib.hid ⟨k0, k1⟩
  have HJb : Hid (byte j) := Lib.hid ⟨j0, j1⟩
  rw [hk]
  have hu : u16 (pairV b j k) := pairV_u16 _ _ HO.out.b
  have HPb : Hid (∀ W V, RefAt W B q V ⟨a, x, y, s, p, (pc + 1) % 65536, h, b⟩ → Calls Tryd.prog 30 #[.pointer (some ⟨q, 0, none⟩), .int .u16 j, .int .u16 k] W fun e w' => e = .returned (.int .u16 (pairV b j k)) ∧ W = w') := Lib.hid (fun W V hr => rpair_any W B q V ⟨a, x, y, s, p, (pc + 1) % 65536, h, b⟩ j k n hr (ok_next HO.out) (byte_u16 HJb.out) (byte_u16 HKb.out))
  generalize pairV b j k = P at *
  obtain ⟨u0, u1⟩ := hu
  clear hj hk
  clear hbz hal H hO hB
  go_enter Tryd.func74, Tryd.ntmps74
  go_upto_region 1 with fail
  generalize w.alloc _ = w0 at *
  clear hz
  go_wp2_with fail
  (with_reducible refine (HN.out w0 v HR0.out HB0.out).mono ?_)
  intro e w1 hd
  obtain ⟨rfl, v1, hr, hf, hl⟩ := rdone_tr HF0.out HL0.out hd
  change RefAt w1 B q v1 ⟨a, x, y, s, p, (pc + 1) % 65536, h, b⟩ at hr
  have HR1 := Lib.hid hr
  have HF1 := Lib.hid hf
  have HL1 := Lib.hid hl
  have HB1 := Lib.hid (Nat.le_trans HB0.out hf.size)
  clear hd hr hf hl
  obtain ⟨c0, c1, c2, c3, c4, c5, c6⟩ := regs HR1.out
  clear c0 c2 c3 c4 c5 c6
  have HPq := Lib.hid (HPb.out w1 v1 HR1.out)
  go_wp2_with fail
  (with_reducible refine (HPq.out).mono ?_)
  rintro e w2 ⟨rfl, rfl⟩
  have HE := Lib.hid (ad_done HK1.out HK2.out HK3.out HK4.out HF1.out HL1.out HR1.out HK5.out ⟨P, false, 6, 6, 0⟩)
  have hbz := HK5.out.fr HF1.out HK3.out
  obtain ⟨e0, e1, e2, e3, e4⟩ := blk5 hbz
  have g0 := hbz.frozen 0
  have g1 := hbz.frozen 1
  have g2 := hbz.frozen 2
  have g3 := hbz.frozen 3
  have g4 := hbz.frozen 4
  clear hbz
  unfold adSet at HE
  go_wp2
  exact bodyPost_ret (v := adV ⟨P, false, 6, 6, 0⟩) (results_cell_row Tryd.results74 _ _ z 99 (adC ⟨P, false, 6, 6, 0⟩) (0, 0) _ rfl HE.out.2 Tryd.underlying99 rfl infoAd) rfl HE.out.1

end Ms
end Go.Proofs.YtlnpadekgakghaaDoor
