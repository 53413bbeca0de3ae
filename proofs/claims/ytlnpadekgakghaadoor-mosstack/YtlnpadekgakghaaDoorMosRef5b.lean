/-
  Contracts of the document's CPU: the address through a pointer, and Y. Condition: the state is one that there is.
-/
import Derived.Test.YtlnpadekgakghaaDoorMosRef5
namespace Go.Proofs.YtlnpadekgakghaaDoor
open Go.RowKit
namespace Ms
open Al (byte of_byte)
set_option linter.unusedVariables false

set_option maxRecDepth 100000 in
set_option maxHeartbeats 4000000 in
theorem raddress4 (w : World) (B q : Nat) (v : Value) (S : S14) (n : Nat) (H : RefAt w B q v S) (hO : Ok n S) (hB : B ≤ w.heap.size) :
    Calls Tryd.prog 74 #[.pointer (some ⟨q, 0, none⟩), .int .i64 4] w (RDone w B q v (⟨S.a, S.x, S.y, S.s, S.p, adrPC 4 S, S.h, adrB 4 S⟩) (adV (adr 4 S))) := by
  have HO := Lib.hid hO
  obtain ⟨a, x, y, s, p, pc, h, b⟩ := S
  obtain ⟨z, hz⟩ : ∃ z, w.heap.size = z := ⟨_, rfl⟩
  have hbz := Blk.fresh w 99 zeroAd
  rw [hz] at hbz
  have hal : Fr [] w (w.alloc (.cells zeroAd 99)) := (Fr.refl [] w).alloc _
  have HK1 : Hid (w.heap.size ≤ z) := Lib.hid (by omega)
  have HK2 := Lib.hid hbz.lt
  have HK3 : Hid (z ∉ foot q v) := Lib.hid (fun hm => by have := foot_lt H z hm; omega)
  have HK4 := Lib.hid hal
  have HK5 := Lib.hid hbz
  have HR0 := Lib.hid (H.fr hal (by simp))
  have HF0 : Hid (Fr (foot q v) (w.alloc (.cells zeroAd 99)) (w.alloc (.cells zeroAd 99))) := Lib.hid (Fr.refl _ _)
  have HL0 : Hid (Lies (w.alloc (.cells zeroAd 99)) v v) := Lib.hid (Lies.refl _ v)
  have HB0 := Lib.hid (Nat.le_trans hB hal.size)
  show Calls _ _ _ _ (RDone w B q v ⟨a, x, y, s, p, (pc + 1) % 65536, h, b⟩ (adV (added (pairV b (nextV (⟨a, x, y, s, p, pc, h, b⟩ : S14)) ((nextV (⟨a, x, y, s, p, pc, h, b⟩ : S14) + 1) % 256)) y 5 6 0)))
  have hv := nextV_byte hO
  have HN := Lib.hid (fun W V (hr : RefAt W B q V (⟨a, x, y, s, p, pc, h, b⟩ : S14)) hb => rnext_any W B q V (⟨a, x, y, s, p, pc, h, b⟩ : S14) n hr hO hb)
  generalize nextV (⟨a, x, y, s, p, pc, h, b⟩ : S14) = M at *
  have HM := Lib.hid hv
  obtain ⟨m0, m1⟩ := hv
  obtain ⟨k, hk⟩ : ∃ k, (M + 1) % 256 = k := ⟨_, rfl⟩
  have wk : IntKind.u8.wrap (M + 1) = k := by rw [IntKind.wrap_u8]; exact hk
  have k0 : 0 ≤ k := by omega
  have k1 : k < 256 := by omega
  have wk16 : IntKind.u16.wrap k = k := by rw [IntKind.wrap_u16]; omega
  have wM16 : IntKind.u16.wrap M = M := by rw [IntKind.wrap_u16]; omega
  have HKb : Hid (byte k) := Lib.hid ⟨k0, k1⟩
  rw [hk]
  have HP := Lib.hid (fun W V (hr : RefAt W B q V ⟨a, x, y, s, p, (pc + 1) % 65536, h, b⟩) => rpair_any W B q V ⟨a, x, y, s, p, (pc + 1) % 65536, h, b⟩ M k n hr (ok_next HO.out) (byte_u16 HM.out) (byte_u16 HKb.out))
  have hu : u16 (pairV b M k) := pairV_u16 _ _ HO.out.b
  have HY : Hid (byte y) := Lib.hid HO.out.y
  have HPb : Hid (∀ W V, RefAt W B q V ⟨a, x, y, s, p, (pc + 1) % 65536, h, b⟩ → Calls Tryd.prog 30 #[.pointer (some ⟨q, 0, none⟩), .int .u16 M, .int .u16 k] W fun e w' => e = .returned (.int .u16 (pairV b M k)) ∧ W = w') := Lib.hid HP.out
  generalize pairV b M k = P at *
  have hA := fun w => radded_any w P y 5 6 0 hu HY.out
  obtain ⟨D, hD⟩ : ∃ D, added P y 5 6 0 = D := ⟨_, rfl⟩
  rw [hD] at hA ⊢
  have HA : Hid (∀ w, Calls Tryd.prog 93 #[.int .u16 P, .int .u8 y, .int .i64 5, .int .i64 6, .int .i64 0] w fun e w' => e = .returned (.agg #[.int .u16 D.ad, .bool D.cr, .int .i64 D.rd, .int .i64 D.put, .int .i64 D.chg]) ∧ Fr [] w w') := Lib.hid hA
  obtain ⟨u0, u1⟩ := hu
  clear hA hD hk HP
  clear hbz hal H hO hB
  go_enter Tryd.func74, Tryd.ntmps74
  go_upto_region 1 with fail
  generalize w.alloc _ = w0 at *
  clear hz
  go_wp2_with fail
  (with_reducible refine (HN.out w0 v HR0.out HB0.out).mono ?_)
  intro e w1 hd
  obtain ⟨rfl, v1, hr, hf, hl⟩ := rdone_tr HF0.out HL0.out hd
  change RefAt w1 B q v1 ⟨a, x, y, s, p, (pc + 1) % 65536, h, b⟩ at hr
  have HR1 := Lib.hid hr
  have HF1 := Lib.hid hf
  have HL1 := Lib.hid hl
  have HB1 := Lib.hid (Nat.le_trans HB0.out hf.size)
  clear hd hr hf hl
  go_upto_region 21 with fail
  have hcY := (regs HR1.out).2.2.1
  have HPq := Lib.hid (HPb.out w1.drew v1 (HR1.out.fr (Fr.refl [] w1).drew (by simp)))
  go_still_tail 11, (by kernel_rfl)
  repeat still_step
  still_call (HPq.out.mono fun e w' h => ⟨h.1, h.2.symm⟩)
  repeat still_step
  try refine wpStill_nil ?_
  change wpList _ _ _ _ _ w1.drew
  have HR2 := Lib.hid (HR1.out.fr (Fr.refl [] w1).drew (by simp))
  have HF2 : Hid (Fr (foot q v) w0 w1.drew) := Lib.hid HF1.out.drew
  have HL2 := Lib.hid HL1.out
  clear hcY HPq HPb
  generalize w1.drew = w2 at *
  go_wp2_with fail
  (with_reducible refine (HA.out _).mono ?_)
  rintro e w3 ⟨rfl, hfa⟩
  have HR3 := Lib.hid (HR2.out.fr hfa (by simp))
  have HF3 : Hid (Fr (foot q v) w0 w3) := Lib.hid (HF2.out.tr hfa.nil)
  have HL3 := Lib.hid HL2.out
  clear hfa
  have HE := Lib.hid (ad_done HK1.out HK2.out HK3.out HK4.out HF3.out HL3.out HR3.out HK5.out D)
  have hbz := HK5.out.fr HF3.out HK3.out
  obtain ⟨e0, e1, e2, e3, e4⟩ := blk5 hbz
  have g0 := hbz.frozen 0
  have g1 := hbz.frozen 1
  have g2 := hbz.frozen 2
  have g3 := hbz.frozen 3
  have g4 := hbz.frozen 4
  clear hbz
  unfold adSet at HE
  go_wp2
  exact bodyPost_ret (v := adV D) (results_cell_row Tryd.results74 _ _ z 99 (adC D) (0, 0) _ rfl HE.out.2 Tryd.underlying99 rfl infoAd) rfl HE.out.1

end Ms
end Go.Proofs.YtlnpadekgakghaaDoor
