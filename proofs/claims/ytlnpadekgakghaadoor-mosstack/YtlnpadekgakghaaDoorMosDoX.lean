/-
  What the program's step does: a change of a register or of memory. Conditions: the state is one that there is, few bytes were written.
-/
import Derived.Test.YtlnpadekgakghaaDoorMosDoB
namespace Go.Proofs.YtlnpadekgakghaaDoor
open Go.RowKit
namespace Ms
open Al (byte of_byte)
set_option linter.unusedVariables false

set_option maxRecDepth 100000 in
set_option maxHeartbeats 1000000 in
theorem schangeA (w : World) (B t q g : Nat) (v : Value) (S : S14) (n : Nat) (d cy ad : Int) (cr : Bool) (hd : isC d) (H : StAt w B t q g v S ⟨d, 16, cy, ad, cr⟩) (hO : Ok n S) (hn : n + 2 < 1000000000) (hB : B ≤ w.heap.size) :
    Calls Tryd.prog 41 #[.pointer (some ⟨t, 0, none⟩)] w (SDone w B t q g v (changeS d 16 ad S) ⟨d, 16, cy, ad, cr⟩ (.tuple #[])) := by
  obtain ⟨a, x, y, s, p, pc, h, b⟩ := S
  have HR0 := Lib.hid H
  have HF0 : Hid (Fr (sfoot t q g v) w w) := Lib.hid (Fr.refl _ w)
  have HL0 : Hid (Lies w v v) := Lib.hid (Lies.refl w v)
  have HB0 := Lib.hid hB
  change Calls _ _ _ _ (SDone w B t q g v ⟨chgV d p a, x, y, s, chgP d p a, pc, h, b⟩ ⟨d, 16, cy, ad, cr⟩ _)
  have HA := Lib.hid (fun W V (hr : StAt W B t q g V (⟨a, x, y, s, p, pc, h, b⟩ : S14) ⟨d, 16, cy, ad, cr⟩) hb => schanged_any W B t q g V (⟨a, x, y, s, p, pc, h, b⟩ : S14) n d 16 cy ad cr a hd hr hO hO.a hb)
  change Hid (∀ W V, _ → _ → Calls _ _ _ _ (SDone W B t q g V ⟨a, x, y, s, chgP d p a, pc, h, b⟩ _ (.int .u8 (chgV d p a)))) at HA
  obtain ⟨m0, m1⟩ := chgV_byte d p a hO.a
  obtain ⟨a0, a1⟩ : 0 ≤ a ∧ a < 256 := hO.a
  generalize chgV d p a = M1 at *
  generalize chgP d p a = P1 at *
  obtain ⟨c0, c1, c2, c3, c4, c5, c6, t0, t1⟩ := sregs HR0.out
  clear c1 c2 c3 c4 c5 c6 t1
  obtain ⟨t2, t3, t4, t5, t6⟩ := srow HR0.out
  clear t2 t4 t5 t6
  clear H hO hB hd hn
  go_enter Tryd.func41, Tryd.ntmps41
  go_upto_region 1 with fail
  have HRd := Lib.hid (HR0.out.fr (Fr.refl [] w).drew (by simp))
  have HFd : Hid (Fr (sfoot t q g v) w w.drew) := Lib.hid HF0.out.drew
  have HBd : Hid (B ≤ w.drew.heap.size) := HB0
  go_region_law (go_simp; first
    | (go_at_call 63; (with_reducible refine (HA.out w.drew v HRd.out HBd.out).mono ?_); intro e w1 hd; obtain ⟨rfl, v1, hr, hf, hl⟩ := sdone_tr HFd.out HL0.out hd; change StAt w1 B t q g v1 ⟨a, x, y, s, P1, pc, h, b⟩ ⟨d, 16, cy, ad, cr⟩ at hr; have HR1 := Lib.hid hr; have HF1 := Lib.hid hf; have HL1 := Lib.hid hl; have HB1 := Lib.hid (Nat.le_trans HB0.out hf.size); have t0x := HR1.out.st.cell 0; change _ = some (Value.pointer (some ⟨q, 0, none⟩)) at t0x; have f0x := HR1.out.frozen 0; have c0x := HR1.out.prog.regs.1; clear hd hr hf hl))
  all_goals
    go_wp2
    (first | go_end0 | refine bodyPost_ret (results_none rfl _ _ _) rfl ?_)
    exact sdone_set _ HF1.out HL1.out (HR1.out.put 0 _ _ rfl rfl)

set_option maxRecDepth 100000 in
set_option maxHeartbeats 8000000 in
theorem schangeM (w : World) (B t q g : Nat) (v : Value) (S : S14) (n : Nat) (d md cy ad : Int) (cr : Bool) (hd : isC d) (H : StAt w B t q g v S ⟨d, md, cy, ad, cr⟩) (hO : Ok n S) (hn : n + 2 < 1000000000) (h16 : md ≠ 16) (had : u16 ad) (hB : B ≤ w.heap.size) :
    Calls Tryd.prog 41 #[.pointer (some ⟨t, 0, none⟩)] w (SDone w B t q g v (changeS d md ad S) ⟨d, md, cy, ad, cr⟩ (.tuple #[])) := by
  obtain ⟨a, x, y, s, p, pc, h, b⟩ := S
  have HR0 := Lib.hid H
  have HF0 : Hid (Fr (sfoot t q g v) w w) := Lib.hid (Fr.refl _ w)
  have HL0 : Hid (Lies w v v) := Lib.hid (Lies.refl w v)
  have HB0 := Lib.hid hB
  have e : changeS d md ad (⟨a, x, y, s, p, pc, h, b⟩ : S14) = ⟨a, x, y, s, chgP d p (b.m ad), pc, h, Io.wb b ad (chgV d p (b.m ad))⟩ := by unfold changeS; rw [if_neg h16]; rfl
  rw [e]
  clear e
  have z16 : (md == 16) = false := by rw [beq_eq_false_iff_ne]; exact h16
  have hv : byte (b.m ad) := hO.b.1 ad
  obtain ⟨M1, hM⟩ : ∃ z, b.m ad = z := ⟨_, rfl⟩
  have HM := Lib.hid hM
  rw [hM] at hv ⊢
  have HA := Lib.hid (fun W V (hr : StAt W B t q g V (⟨a, x, y, s, p, pc, h, b⟩ : S14) ⟨d, md, cy, ad, cr⟩) hb => schanged_any W B t q g V (⟨a, x, y, s, p, pc, h, b⟩ : S14) n d md cy ad cr M1 hd hr hO hv hb)
  change Hid (∀ W V, _ → _ → Calls _ _ _ _ (SDone W B t q g V ⟨a, x, y, s, (chgP d p M1), pc, h, b⟩ _ (.int .u8 (chgV d p M1)))) at HA
  have HN := Lib.hid hn
  have HAD := Lib.hid had
  have hv2 := chgV_byte d p M1 hv
  have HV2 := Lib.hid hv2
  have hO2 : Ok n (⟨a, x, y, s, chgP d p M1, pc, h, b⟩ : S14) := ok_withP _ hO (by unfold chgP; rcases hd with rfl | rfl | rfl | rfl | rfl | rfl <;> first | exact fl_zn _ _ (fl_setF _ _ _ isF1 hO.pf) | exact fl_zn _ _ hO.pf)
  have HO2 := Lib.hid hO2
  obtain ⟨m0, m1⟩ := hv
  obtain ⟨k0, k1⟩ := hv2
  obtain ⟨ad0, ad1⟩ := had
  clear hO2
  generalize chgV d p M1 = M2 at *
  generalize chgP d p M1 = P1 at *
  have HW := Lib.hid (fun W V (hr : StAt W B t q g V ⟨a, x, y, s, P1, pc, h, b⟩ ⟨d, md, cy, ad, cr⟩) hb => swrite_any hr n ad M2 HAD.out HV2.out HO2.out (by have := HN.out; omega) hb)
  have hme := meth_read g
  have hmw := meth_write g
  obtain ⟨c0, c1, c2, c3, c4, c5, c6, t0, t1⟩ := sregs HR0.out
  clear c0 c1 c2 c3 c4 c5 c6 t0 t1
  obtain ⟨t2, t3, t4, t5, t6⟩ := srow HR0.out
  clear t2 t4 t6
  obtain ⟨cc0, cc1, cc2, cc3, cc4, cc5, cc6, u0, u1⟩ := sregs HR0.out
  clear cc0 cc1 cc2 cc3 cc4 cc5 cc6 u0 H hO hB hd hn hM h16
  go_enter Tryd.func41, Tryd.ntmps41
  go_upto_region 2 with fail
  have HRd := Lib.hid (HR0.out.fr (Fr.refl [] w).drew (by simp))
  have HFd : Hid (Fr (sfoot t q g v) w w.drew) := Lib.hid HF0.out.drew
  have HBd : Hid (B ≤ w.drew.heap.size) := HB0
  go_region_law (go_simp; first
    | (go_at_call 114; (with_reducible refine ((show Calls Tryd.prog 114 #[.pointer (some ⟨g, 0, none⟩), .int .u16 ad] w.drew (fun e w' => e = .returned (.int .u8 M1) ∧ w.drew = w') from by rw [← HM.out]; exact sread_any HRd.out ad HAD.out)).mono ?_); rintro e wq ⟨rfl, rfl⟩)
    | (go_at_call 63; (with_reducible refine (HA.out w.drew v HRd.out HBd.out).mono ?_); intro e w1 hd; obtain ⟨rfl, v1, hr, hf, hl⟩ := sdone_tr HFd.out HL0.out hd; change StAt w1 B t q g v1 ⟨a, x, y, s, P1, pc, h, b⟩ ⟨d, md, cy, ad, cr⟩ at hr; have HR1 := Lib.hid hr; have HF1 := Lib.hid hf; have HL1 := Lib.hid hl; have HB1 := Lib.hid (Nat.le_trans HB0.out hf.size); have t1x := HR1.out.st.cell 1; change _ = some (Value.iface 31 (.pointer (some ⟨g, 0, none⟩))) at t1x; have t5x := (srow HR1.out).2.2.2.1; clear hd hr hf hl)
    | (go_at_call 115; (with_reducible refine (HW.out w1 v1 HR1.out HB1.out).mono ?_); intro e w2 hd; obtain ⟨rfl, v2, hr, hf, hl⟩ := sdone_tr HF1.out HL1.out hd; change StAt w2 B t q g v2 ⟨a, x, y, s, P1, pc, h, Io.wb b ad M2⟩ ⟨d, md, cy, ad, cr⟩ at hr; have HR2 := Lib.hid hr; have HF2 := Lib.hid hf; have HL2 := Lib.hid hl; have HB2 := Lib.hid (Nat.le_trans HB0.out hf.size); clear hd hr hf hl))
  all_goals
    go_wp2
    (first | go_end0 | refine bodyPost_ret (results_none rfl _ _ _) rfl ?_)
    exact ⟨rfl, v2, HR2.out, HF2.out, HL2.out⟩

end Ms
end Go.Proofs.YtlnpadekgakghaaDoor
