/-
  The program's operand, mode by mode. Condition: the state is one that there is.
-/
import Derived.Test.YtlnpadekgakghaaDoorMosWords
namespace Go.Proofs.YtlnpadekgakghaaDoor
open Go.RowKit
namespace Ms
open Al (byte of_byte)
set_option linter.unusedVariables false

set_option maxRecDepth 100000 in
set_option maxHeartbeats 1000000 in
theorem soper0 (w : World) (B t q g : Nat) (v : Value) (S : S14) (n : Nat) (d cy : Int) (H : StAt w B t q g v S ⟨d, 0, cy, 0, false⟩) (hO : Ok n S) (hB : B ≤ w.heap.size) (hcy : 0 ≤ cy ∧ cy < 100) :
    Calls Tryd.prog 22 #[.pointer (some ⟨t, 0, none⟩)] w (SDone w B t q g v (S) ⟨d, 0, cy, 0, false⟩ (.tuple #[])) := by
  obtain ⟨y0, y1⟩ := hcy
  have HO := Lib.hid hO
  obtain ⟨a, x, y, s, p, pc, h, b⟩ := S
  have HR0 := Lib.hid H
  have HF0 : Hid (Fr (sfoot t q g v) w w) := Lib.hid (Fr.refl _ w)
  have HL0 : Hid (Lies w v v) := Lib.hid (Lies.refl w v)
  have HB0 := Lib.hid hB
  obtain ⟨c0, c1, c2, c3, c4, c5, c6, t0, t1⟩ := sregs HR0.out
  clear c0 c1 c2 c3 c4 c5 c6 t0 t1
  obtain ⟨t2, t3, t4, t5, t6⟩ := srow HR0.out
  clear t2 t4 t5
  clear H hO hB
  go_enter Tryd.func22, Tryd.ntmps22
  go_wp2
  (first | go_end0 | refine bodyPost_ret (results_none rfl _ _ _) rfl ?_)
  exact ⟨rfl, v, HR0.out, HF0.out, HL0.out⟩

set_option maxRecDepth 100000 in
set_option maxHeartbeats 1000000 in
theorem soper16 (w : World) (B t q g : Nat) (v : Value) (S : S14) (n : Nat) (d cy : Int) (H : StAt w B t q g v S ⟨d, 16, cy, 0, false⟩) (hO : Ok n S) (hB : B ≤ w.heap.size) (hcy : 0 ≤ cy ∧ cy < 100) :
    Calls Tryd.prog 22 #[.pointer (some ⟨t, 0, none⟩)] w (SDone w B t q g v (S) ⟨d, 16, cy, 0, false⟩ (.tuple #[])) := by
  obtain ⟨y0, y1⟩ := hcy
  have HO := Lib.hid hO
  obtain ⟨a, x, y, s, p, pc, h, b⟩ := S
  have HR0 := Lib.hid H
  have HF0 : Hid (Fr (sfoot t q g v) w w) := Lib.hid (Fr.refl _ w)
  have HL0 : Hid (Lies w v v) := Lib.hid (Lies.refl w v)
  have HB0 := Lib.hid hB
  obtain ⟨c0, c1, c2, c3, c4, c5, c6, t0, t1⟩ := sregs HR0.out
  clear c0 c1 c2 c3 c4 c5 c6 t0 t1
  obtain ⟨t2, t3, t4, t5, t6⟩ := srow HR0.out
  clear t2 t4 t5
  clear H hO hB
  go_enter Tryd.func22, Tryd.ntmps22
  go_wp2
  (first | go_end0 | refine bodyPost_ret (results_none rfl _ _ _) rfl ?_)
  exact ⟨rfl, v, HR0.out, HF0.out, HL0.out⟩

set_option maxRecDepth 100000 in
set_option maxHeartbeats 1000000 in
theorem soper32 (w : World) (B t q g : Nat) (v : Value) (S : S14) (n : Nat) (d cy : Int) (H : StAt w B t q g v S ⟨d, 32, cy, 0, false⟩) (hO : Ok n S) (hB : B ≤ w.heap.size) (hcy : 0 ≤ cy ∧ cy < 100) :
    Calls Tryd.prog 22 #[.pointer (some ⟨t, 0, none⟩)] w (SDone w B t q g v (withPC S ((S.pc + 1) % 65536)) ⟨d, 32, cy, S.pc, false⟩ (.tuple #[])) := by
  obtain ⟨y0, y1⟩ := hcy
  have HO := Lib.hid hO
  obtain ⟨a, x, y, s, p, pc, h, b⟩ := S
  obtain ⟨pc0, pc1⟩ : 0 ≤ pc ∧ pc < 65536 := hO.pc
  have HR0 := Lib.hid H
  have HF0 : Hid (Fr (sfoot t q g v) w w) := Lib.hid (Fr.refl _ w)
  have HL0 : Hid (Lies w v v) := Lib.hid (Lies.refl w v)
  have HB0 := Lib.hid hB
  obtain ⟨c0, c1, c2, c3, c4, c5, c6, t0, t1⟩ := sregs HR0.out
  clear c0 c1 c2 c3 c4 c6 t1
  obtain ⟨t2, t3, t4, t5, t6⟩ := srow HR0.out
  clear t2 t4 t6
  have e5 := HR0.out.ofrozen 5
  show Calls _ _ _ _ (SDone w B t q g v ⟨a, x, y, s, p, (pc + 1) % 65536, h, b⟩ ⟨d, 32, cy, pc, false⟩ _)
  obtain ⟨A, hA⟩ : ∃ A, (pc + 1) % 65536 = A := ⟨_, rfl⟩
  have wA : IntKind.u16.wrap (pc + 1) = A := by rw [IntKind.wrap_u16]; exact hA
  rw [hA]
  clear H hO hB hA
  go_enter Tryd.func22, Tryd.ntmps22
  have HR1 : Hid (StAt (w.setCell ⟨t, 5, none⟩ (.int .u16 (pc))) B t q g v ⟨a, x, y, s, p, pc, h, b⟩ ⟨d, 32, cy, pc, false⟩) := Lib.hid (sput_ad HR0.out _)
  have HF1 : Hid (Fr (sfoot t q g v) w (w.setCell ⟨t, 5, none⟩ (.int .u16 (pc)))) := Lib.hid (HF0.out.setCell (by simp [sfoot, pfoot]) _)
  have HL1 := Lib.hid HL0.out
  have HB1 : Hid (B ≤ (w.setCell ⟨t, 5, none⟩ (.int .u16 (pc))).heap.size) := Lib.hid (Nat.le_trans HB0.out HF1.out.size)
  go_upto_region 3 with fail
  clear c5 t0 t3 t5 e5
  generalize w.setCell _ _ = w1 at *
  obtain ⟨c0, c1, c2, c3, c4, c5, c6, t0, t1⟩ := sregs HR1.out
  clear c0 c1 c2 c3 c4 c6 t1
  have f5 := HR1.out.frozen 5
  have HR2 : Hid (StAt (w1.setCell ⟨q, 5, none⟩ (.int .u16 (A))) B t q g v ⟨a, x, y, s, p, A, h, b⟩ ⟨d, 32, cy, pc, false⟩) := Lib.hid (sput_pc HR1.out _)
  have HF2 : Hid (Fr (sfoot t q g v) w (w1.setCell ⟨q, 5, none⟩ (.int .u16 (A)))) := Lib.hid (HF1.out.setCell (by simp [sfoot, pfoot]) _)
  have HL2 := Lib.hid HL1.out
  have HB2 : Hid (B ≤ (w1.setCell ⟨q, 5, none⟩ (.int .u16 (A))).heap.size) := Lib.hid (Nat.le_trans HB0.out HF2.out.size)
  go_upto_region 25 with fail
  clear c5 t0 f5
  generalize w1.setCell _ _ = w2 at *
  obtain ⟨c0, c1, c2, c3, c4, c5, c6, t0, t1⟩ := sregs HR2.out
  clear c0 c1 c2 c3 c4 c5 c6 t0 t1
  obtain ⟨t2, t3, t4, t5, t6⟩ := srow HR2.out
  clear t2 t3 t4 t5
  go_wp2
  (first | go_end0 | refine bodyPost_ret (results_none rfl _ _ _) rfl ?_)
  exact ⟨rfl, v, HR2.out, HF2.out, HL2.out⟩

set_option maxRecDepth 100000 in
set_option maxHeartbeats 1000000 in
theorem soper48 (w : World) (B t q g : Nat) (v : Value) (S : S14) (n : Nat) (d cy : Int) (H : StAt w B t q g v S ⟨d, 48, cy, 0, false⟩) (hO : Ok n S) (hB : B ≤ w.heap.size) (hcy : 0 ≤ cy ∧ cy < 100) :
    Calls Tryd.prog 22 #[.pointer (some ⟨t, 0, none⟩)] w (SDone w B t q g v (next S) ⟨d, 48, cy, nextV S, false⟩ (.tuple #[])) := by
  obtain ⟨y0, y1⟩ := hcy
  have HO := Lib.hid hO
  obtain ⟨a, x, y, s, p, pc, h, b⟩ := S
  have HR0 := Lib.hid H
  have HF0 : Hid (Fr (sfoot t q g v) w w) := Lib.hid (Fr.refl _ w)
  have HL0 : Hid (Lies w v v) := Lib.hid (Lies.refl w v)
  have HB0 := Lib.hid hB
  obtain ⟨c0, c1, c2, c3, c4, c5, c6, t0, t1⟩ := sregs HR0.out
  clear c0 c1 c2 c3 c4 c5 c6 t0 t1
  obtain ⟨t2, t3, t4, t5, t6⟩ := srow HR0.out
  clear t2 t4 t5 t6
  have hv := nextV_byte hO
  have H1 := Lib.hid (snext_any w B t q g v (⟨a, x, y, s, p, pc, h, b⟩ : S14) ⟨d, 48, cy, 0, false⟩ n H hO hB)
  generalize nextV (⟨a, x, y, s, p, pc, h, b⟩ : S14) = M1 at *
  obtain ⟨m0, m1⟩ := hv
  clear H hO hB
  go_enter Tryd.func22, Tryd.ntmps22
  go_wp2_with fail
  (with_reducible refine (H1.out).mono ?_)
  intro e w1 hd
  obtain ⟨rfl, v1, hr, hf, hl⟩ := sdone_tr HF0.out HL0.out hd
  change StAt w1 B t q g v1 (next (⟨a, x, y, s, p, pc, h, b⟩ : S14)) ⟨d, 48, cy, 0, false⟩ at hr
  have HR1 := Lib.hid hr
  have HF1 := Lib.hid hf
  have HL1 := Lib.hid hl
  have HB1 := Lib.hid (Nat.le_trans HB0.out hf.size)
  clear hd hr hf hl
  clear t3
  obtain ⟨c0, c1, c2, c3, c4, c5, c6, t0, t1⟩ := sregs HR1.out
  clear c0 c1 c2 c3 c4 c5 c6 t0 t1
  obtain ⟨t2, t3, t4, t5, t6⟩ := srow HR1.out
  clear t2 t3 t4 t6
  have e5 := HR1.out.ofrozen 5
  have HR2 : Hid (StAt (w1.setCell ⟨t, 5, none⟩ (.int .u16 (M1))) B t q g v1 (next (⟨a, x, y, s, p, pc, h, b⟩ : S14)) ⟨d, 48, cy, M1, false⟩) := Lib.hid (sput_ad HR1.out _)
  have HF2 : Hid (Fr (sfoot t q g v) w (w1.setCell ⟨t, 5, none⟩ (.int .u16 (M1)))) := Lib.hid (HF1.out.setCell (by simp [sfoot, pfoot]) _)
  have HL2 := Lib.hid HL1.out
  have HB2 : Hid (B ≤ (w1.setCell ⟨t, 5, none⟩ (.int .u16 (M1))).heap.size) := Lib.hid (Nat.le_trans HB0.out HF2.out.size)
  go_upto_region 25 with fail
  clear t5 e5
  generalize w1.setCell _ _ = w2 at *
  obtain ⟨c0, c1, c2, c3, c4, c5, c6, t0, t1⟩ := sregs HR2.out
  clear c0 c1 c2 c3 c4 c5 c6 t0 t1
  obtain ⟨t2, t3, t4, t5, t6⟩ := srow HR2.out
  clear t2 t3 t4 t5
  go_wp2
  (first | go_end0 | refine bodyPost_ret (results_none rfl _ _ _) rfl ?_)
  exact ⟨rfl, v1, HR2.out, HF2.out, HL2.out⟩

set_option maxRecDepth 100000 in
set_option maxHeartbeats 1000000 in
theorem soper64 (w : World) (B t q g : Nat) (v : Value) (S : S14) (n : Nat) (d cy : Int) (H : StAt w B t q g v S ⟨d, 64, cy, 0, false⟩) (hO : Ok n S) (hB : B ≤ w.heap.size) (hcy : 0 ≤ cy ∧ cy < 100) :
    Calls Tryd.prog 22 #[.pointer (some ⟨t, 0, none⟩)] w (SDone w B t q g v (next S) ⟨d, 64, cy, (nextV S + S.x) % 256, false⟩ (.tuple #[])) := by
  obtain ⟨y0, y1⟩ := hcy
  have HO := Lib.hid hO
  obtain ⟨a, x, y, s, p, pc, h, b⟩ := S
  obtain ⟨r0, r1⟩ : 0 ≤ x ∧ x < 256 := hO.x
  have HR0 := Lib.hid H
  have HF0 : Hid (Fr (sfoot t q g v) w w) := Lib.hid (Fr.refl _ w)
  have HL0 : Hid (Lies w v v) := Lib.hid (Lies.refl w v)
  have HB0 := Lib.hid hB
  obtain ⟨c0, c1, c2, c3, c4, c5, c6, t0, t1⟩ := sregs HR0.out
  clear c0 c2 c3 c4 c5 c6 t1
  obtain ⟨t2, t3, t4, t5, t6⟩ := srow HR0.out
  clear t2 t4 t5 t6
  have hv := nextV_byte hO
  have H1 := Lib.hid (fun W V (hr : StAt W B t q g V (⟨a, x, y, s, p, pc, h, b⟩ : S14) ⟨d, 64, cy, 0, false⟩) hb => snext_any W B t q g V (⟨a, x, y, s, p, pc, h, b⟩ : S14) ⟨d, 64, cy, 0, false⟩ n hr hO hb)
  change Calls _ _ _ _ (SDone w B t q g v _ ⟨d, 64, cy, (nextV (⟨a, x, y, s, p, pc, h, b⟩ : S14) + x) % 256, false⟩ _)
  generalize nextV (⟨a, x, y, s, p, pc, h, b⟩ : S14) = M1 at *
  obtain ⟨m0, m1⟩ := hv
  obtain ⟨A, hA⟩ : ∃ A, (M1 + x) % 256 = A := ⟨_, rfl⟩
  have wA : IntKind.u8.wrap (M1 + x) = A := by rw [IntKind.wrap_u8]; exact hA
  have A0 : 0 ≤ A := by omega
  have A1 : A < 256 := by omega
  have wA16 : IntKind.u16.wrap A = A := by rw [IntKind.wrap_u16]; omega
  rw [hA]
  clear H hO hB hA
  go_enter Tryd.func22, Tryd.ntmps22
  go_upto_region 7 with fail
  have HRd := Lib.hid (HR0.out.fr (Fr.refl [] w).drew (by simp))
  have HFd : Hid (Fr (sfoot t q g v) w w.drew) := Lib.hid HF0.out.drew
  have HBd : Hid (B ≤ w.drew.heap.size) := HB0
  go_region_law (go_simp; first
    | (go_at_call 34; (with_reducible refine (H1.out w.drew v HRd.out HBd.out).mono ?_); intro e w1 hd; obtain ⟨rfl, v1, hr, hf, hl⟩ := sdone_tr HFd.out HL0.out hd; change StAt w1 B t q g v1 (next (⟨a, x, y, s, p, pc, h, b⟩ : S14)) ⟨d, 64, cy, 0, false⟩ at hr; have HR1 := Lib.hid hr; have HF1 := Lib.hid hf; have HL1 := Lib.hid hl; have HB1 := Lib.hid (Nat.le_trans HB0.out hf.size); have t0x := HR1.out.st.cell 0; change _ = some (Value.pointer (some ⟨q, 0, none⟩)) at t0x; have c1y := HR1.out.prog.regs.2.1; change _ = some (Value.int IntKind.u8 x) at c1y; have t5y := (srow HR1.out).2.2.2.1; have e5y := HR1.out.ofrozen 5; clear hd hr hf hl))
  all_goals
    have HR2 : Hid (StAt (w1.setCell ⟨t, 5, none⟩ (.int .u16 (A))) B t q g v1 (next (⟨a, x, y, s, p, pc, h, b⟩ : S14)) ⟨d, 64, cy, A, false⟩) := Lib.hid (sput_ad HR1.out _)
    have HF2 : Hid (Fr (sfoot t q g v) w (w1.setCell ⟨t, 5, none⟩ (.int .u16 (A)))) := Lib.hid (HF1.out.setCell (by simp [sfoot, pfoot]) _)
    have HL2 := Lib.hid HL1.out
    have HB2 : Hid (B ≤ (w1.setCell ⟨t, 5, none⟩ (.int .u16 (A))).heap.size) := Lib.hid (Nat.le_trans HB0.out HF2.out.size)
    go_upto_region 25 with fail
    generalize w1.setCell _ _ = w2 at *
    obtain ⟨c0, c1, c2, c3, c4, c5, c6, t0, t1⟩ := sregs HR2.out
    clear c0 c1 c2 c3 c4 c5 c6 t0 t1
    obtain ⟨t2, t3, t4, t5, t6⟩ := srow HR2.out
    clear t2 t3 t4 t5
    go_wp2
    (first | go_end0 | refine bodyPost_ret (results_none rfl _ _ _) rfl ?_)
    exact ⟨rfl, v1, HR2.out, HF2.out, HL2.out⟩

set_option maxRecDepth 100000 in
set_option maxHeartbeats 1000000 in
theorem soper80 (w : World) (B t q g : Nat) (v : Value) (S : S14) (n : Nat) (d cy : Int) (H : StAt w B t q g v S ⟨d, 80, cy, 0, false⟩) (hO : Ok n S) (hB : B ≤ w.heap.size) (hcy : 0 ≤ cy ∧ cy < 100) :
    Calls Tryd.prog 22 #[.pointer (some ⟨t, 0, none⟩)] w (SDone w B t q g v (next S) ⟨d, 80, cy, (nextV S + S.y) % 256, false⟩ (.tuple #[])) := by
  obtain ⟨y0, y1⟩ := hcy
  have HO := Lib.hid hO
  obtain ⟨a, x, y, s, p, pc, h, b⟩ := S
  obtain ⟨r0, r1⟩ : 0 ≤ y ∧ y < 256 := hO.y
  have HR0 := Lib.hid H
  have HF0 : Hid (Fr (sfoot t q g v) w w) := Lib.hid (Fr.refl _ w)
  have HL0 : Hid (Lies w v v) := Lib.hid (Lies.refl w v)
  have HB0 := Lib.hid hB
  obtain ⟨c0, c1, c2, c3, c4, c5, c6, t0, t1⟩ := sregs HR0.out
  clear c0 c1 c3 c4 c5 c6 t1
  obtain ⟨t2, t3, t4, t5, t6⟩ := srow HR0.out
  clear t2 t4 t5 t6
  have hv := nextV_byte hO
  have H1 := Lib.hid (fun W V (hr : StAt W B t q g V (⟨a, x, y, s, p, pc, h, b⟩ : S14) ⟨d, 80, cy, 0, false⟩) hb => snext_any W B t q g V (⟨a, x, y, s, p, pc, h, b⟩ : S14) ⟨d, 80, cy, 0, false⟩ n hr hO hb)
  change Calls _ _ _ _ (SDone w B t q g v _ ⟨d, 80, cy, (nextV (⟨a, x, y, s, p, pc, h, b⟩ : S14) + y) % 256, false⟩ _)
  generalize nextV (⟨a, x, y, s, p, pc, h, b⟩ : S14) = M1 at *
  obtain ⟨m0, m1⟩ := hv
  obtain ⟨A, hA⟩ : ∃ A, (M1 + y) % 256 = A := ⟨_, rfl⟩
  have wA : IntKind.u8.wrap (M1 + y) = A := by rw [IntKind.wrap_u8]; exact hA
  have A0 : 0 ≤ A := by omega
  have A1 : A < 256 := by omega
  have wA16 : IntKind.u16.wrap A = A := by rw [IntKind.wrap_u16]; omega
  rw [hA]
  clear H hO hB hA
  go_enter Tryd.func22, Tryd.ntmps22
  go_upto_region 9 with fail
  have HRd := Lib.hid (HR0.out.fr (Fr.refl [] w).drew (by simp))
  have HFd : Hid (Fr (sfoot t q g v) w w.drew) := Lib.hid HF0.out.drew
  have HBd : Hid (B ≤ w.drew.heap.size) := HB0
  go_region_law (go_simp; first
    | (go_at_call 34; (with_reducible refine (H1.out w.drew v HRd.out HBd.out).mono ?_); intro e w1 hd; obtain ⟨rfl, v1, hr, hf, hl⟩ := sdone_tr HFd.out HL0.out hd; change StAt w1 B t q g v1 (next (⟨a, x, y, s, p, pc, h, b⟩ : S14)) ⟨d, 80, cy, 0, false⟩ at hr; have HR1 := Lib.hid hr; have HF1 := Lib.hid hf; have HL1 := Lib.hid hl; have HB1 := Lib.hid (Nat.le_trans HB0.out hf.size); have t0x := HR1.out.st.cell 0; change _ = some (Value.pointer (some ⟨q, 0, none⟩)) at t0x; have c2y := HR1.out.prog.regs.2.2.1; change _ = some (Value.int IntKind.u8 y) at c2y; have t5y := (srow HR1.out).2.2.2.1; have e5y := HR1.out.ofrozen 5; clear hd hr hf hl))
  all_goals
    have HR2 : Hid (StAt (w1.setCell ⟨t, 5, none⟩ (.int .u16 (A))) B t q g v1 (next (⟨a, x, y, s, p, pc, h, b⟩ : S14)) ⟨d, 80, cy, A, false⟩) := Lib.hid (sput_ad HR1.out _)
    have HF2 : Hid (Fr (sfoot t q g v) w (w1.setCell ⟨t, 5, none⟩ (.int .u16 (A)))) := Lib.hid (HF1.out.setCell (by simp [sfoot, pfoot]) _)
    have HL2 := Lib.hid HL1.out
    have HB2 : Hid (B ≤ (w1.setCell ⟨t, 5, none⟩ (.int .u16 (A))).heap.size) := Lib.hid (Nat.le_trans HB0.out HF2.out.size)
    go_upto_region 25 with fail
    generalize w1.setCell _ _ = w2 at *
    obtain ⟨c0, c1, c2, c3, c4, c5, c6, t0, t1⟩ := sregs HR2.out
    clear c0 c1 c2 c3 c4 c5 c6 t0 t1
    obtain ⟨t2, t3, t4, t5, t6⟩ := srow HR2.out
    clear t2 t3 t4 t5
    go_wp2
    (first | go_end0 | refine bodyPost_ret (results_none rfl _ _ _) rfl ?_)
    exact ⟨rfl, v1, HR2.out, HF2.out, HL2.out⟩

set_option maxRecDepth 100000 in
set_option maxHeartbeats 1000000 in
theorem soper96 (w : World) (B t q g : Nat) (v : Value) (S : S14) (n : Nat) (d cy : Int) (H : StAt w B t q g v S ⟨d, 96, cy, 0, false⟩) (hO : Ok n S) (hB : B ≤ w.heap.size) (hcy : 0 ≤ cy ∧ cy < 100) :
    Calls Tryd.prog 22 #[.pointer (some ⟨t, 0, none⟩)] w (SDone w B t q g v (word S) ⟨d, 96, cy, wordV S, false⟩ (.tuple #[])) := by
  obtain ⟨y0, y1⟩ := hcy
  have HO := Lib.hid hO
  obtain ⟨a, x, y, s, p, pc, h, b⟩ := S
  have HR0 := Lib.hid H
  have HF0 : Hid (Fr (sfoot t q g v) w w) := Lib.hid (Fr.refl _ w)
  have HL0 : Hid (Lies w v v) := Lib.hid (Lies.refl w v)
  have HB0 := Lib.hid hB
  obtain ⟨c0, c1, c2, c3, c4, c5, c6, t0, t1⟩ := sregs HR0.out
  clear c0 c1 c2 c3 c4 c5 c6 t0 t1
  obtain ⟨t2, t3, t4, t5, t6⟩ := srow HR0.out
  clear t2 t4 t5 t6
  have hv := wordV_u16 hO
  have H1 := Lib.hid (snextWord_any w B t q g v (⟨a, x, y, s, p, pc, h, b⟩ : S14) ⟨d, 96, cy, 0, false⟩ n H hO hB)
  generalize wordV (⟨a, x, y, s, p, pc, h, b⟩ : S14) = M1 at *
  obtain ⟨m0, m1⟩ := hv
  clear H hO hB
  go_enter Tryd.func22, Tryd.ntmps22
  go_wp2_with fail
  (with_reducible refine (H1.out).mono ?_)
  intro e w1 hd
  obtain ⟨rfl, v1, hr, hf, hl⟩ := sdone_tr HF0.out HL0.out hd
  change StAt w1 B t q g v1 (word (⟨a, x, y, s, p, pc, h, b⟩ : S14)) ⟨d, 96, cy, 0, false⟩ at hr
  have HR1 := Lib.hid hr
  have HF1 := Lib.hid hf
  have HL1 := Lib.hid hl
  have HB1 := Lib.hid (Nat.le_trans HB0.out hf.size)
  clear hd hr hf hl
  clear t3
  obtain ⟨c0, c1, c2, c3, c4, c5, c6, t0, t1⟩ := sregs HR1.out
  clear c0 c1 c2 c3 c4 c5 c6 t0 t1
  obtain ⟨t2, t3, t4, t5, t6⟩ := srow HR1.out
  clear t2 t3 t4 t6
  have e5 := HR1.out.ofrozen 5
  have HR2 : Hid (StAt (w1.setCell ⟨t, 5, none⟩ (.int .u16 (M1))) B t q g v1 (word (⟨a, x, y, s, p, pc, h, b⟩ : S14)) ⟨d, 96, cy, M1, false⟩) := Lib.hid (sput_ad HR1.out _)
  have HF2 : Hid (Fr (sfoot t q g v) w (w1.setCell ⟨t, 5, none⟩ (.int .u16 (M1)))) := Lib.hid (HF1.out.setCell (by simp [sfoot, pfoot]) _)
  have HL2 := Lib.hid HL1.out
  have HB2 : Hid (B ≤ (w1.setCell ⟨t, 5, none⟩ (.int .u16 (M1))).heap.size) := Lib.hid (Nat.le_trans HB0.out HF2.out.size)
  go_upto_region 25 with fail
  clear t5 e5
  generalize w1.setCell _ _ = w2 at *
  obtain ⟨c0, c1, c2, c3, c4, c5, c6, t0, t1⟩ := sregs HR2.out
  clear c0 c1 c2 c3 c4 c5 c6 t0 t1
  obtain ⟨t2, t3, t4, t5, t6⟩ := srow HR2.out
  clear t2 t3 t4 t5
  go_wp2
  (first | go_end0 | refine bodyPost_ret (results_none rfl _ _ _) rfl ?_)
  exact ⟨rfl, v1, HR2.out, HF2.out, HL2.out⟩

set_option maxRecDepth 100000 in
set_option maxHeartbeats 1000000 in
theorem soper112 (w : World) (B t q g : Nat) (v : Value) (S : S14) (n : Nat) (d cy : Int) (H : StAt w B t q g v S ⟨d, 112, cy, 0, false⟩) (hO : Ok n S) (hB : B ≤ w.heap.size) (hcy : 0 ≤ cy ∧ cy < 100) :
    Calls Tryd.prog 22 #[.pointer (some ⟨t, 0, none⟩)] w (SDone w B t q g v (word S) ⟨d, 112, cy + (if crossed ((wordV S + S.x) % 65536) (wordV S) && waitB d then 1 else 0), (wordV S + S.x) % 65536, crossed ((wordV S + S.x) % 65536) (wordV S)⟩ (.tuple #[])) := by
  obtain ⟨y0, y1⟩ := hcy
  have HO := Lib.hid hO
  obtain ⟨a, x, y, s, p, pc, h, b⟩ := S
  obtain ⟨r0, r1⟩ : 0 ≤ x ∧ x < 256 := hO.x
  have HRr : Hid (u16 x) := Lib.hid (byte_u16 hO.x)
  have HR0 := Lib.hid H
  have HF0 : Hid (Fr (sfoot t q g v) w w) := Lib.hid (Fr.refl _ w)
  have HL0 : Hid (Lies w v v) := Lib.hid (Lies.refl w v)
  have HB0 := Lib.hid hB
  obtain ⟨c0, c1, c2, c3, c4, c5, c6, t0, t1⟩ := sregs HR0.out
  clear c0 c2 c3 c4 c5 c6 t1
  obtain ⟨t2, t3, t4, t5, t6⟩ := srow HR0.out
  clear t2 t4 t5 t6
  have hv := wordV_u16 hO
  have HV := Lib.hid hv
  have H1 := Lib.hid (fun W V (hr : StAt W B t q g V (⟨a, x, y, s, p, pc, h, b⟩ : S14) ⟨d, 112, cy, 0, false⟩) hb => snextWord_any W B t q g V (⟨a, x, y, s, p, pc, h, b⟩ : S14) ⟨d, 112, cy, 0, false⟩ n hr hO hb)
  change Calls _ _ _ _ (SDone w B t q g v _ ⟨d, 112, cy + (if crossed ((wordV (⟨a, x, y, s, p, pc, h, b⟩ : S14) + x) % 65536) (wordV (⟨a, x, y, s, p, pc, h, b⟩ : S14)) && waitB d then 1 else 0), (wordV (⟨a, x, y, s, p, pc, h, b⟩ : S14) + x) % 65536, crossed ((wordV (⟨a, x, y, s, p, pc, h, b⟩ : S14) + x) % 65536) (wordV (⟨a, x, y, s, p, pc, h, b⟩ : S14))⟩ _)
  generalize wordV (⟨a, x, y, s, p, pc, h, b⟩ : S14) = M1 at *
  obtain ⟨m0, m1⟩ := hv
  have w16r : IntKind.u16.wrap x = x := by rw [IntKind.wrap_u16]; omega
  have H2 := Lib.hid (fun W V (hr : StAt W B t q g V (word (⟨a, x, y, s, p, pc, h, b⟩ : S14)) ⟨d, 112, cy, 0, false⟩) hb => sreach_any W B t q g V (word (⟨a, x, y, s, p, pc, h, b⟩ : S14)) d 112 cy 0 false M1 x hr HV.out HRr.out hb)
  generalize crossed ((M1 + x) % 65536) M1 = z at *
  generalize (M1 + x) % 65536 = A at *
  obtain ⟨wb, hwb⟩ : ∃ z, waitB d = z := ⟨_, rfl⟩
  have HW := Lib.hid (fun W => waits_any W d)
  rw [hwb] at HW ⊢
  clear hwb
  obtain ⟨CY, hCY⟩ : ∃ c, cy + (if (z && wb) = true then 1 else 0) = c := ⟨_, rfl⟩
  rw [hCY]
  have HCY := Lib.hid hCY
  clear hCY
  clear H hO hB
  go_enter Tryd.func22, Tryd.ntmps22
  go_upto_region 13 with fail
  have HRd := Lib.hid (HR0.out.fr (Fr.refl [] w).drew (by simp))
  have HFd : Hid (Fr (sfoot t q g v) w w.drew) := Lib.hid HF0.out.drew
  have HBd : Hid (B ≤ w.drew.heap.size) := HB0
  go_region_law (go_simp; first
    | (go_at_call 35; (with_reducible refine (H1.out w.drew v HRd.out HBd.out).mono ?_); intro e w1 hd; obtain ⟨rfl, v1, hr, hf, hl⟩ := sdone_tr HFd.out HL0.out hd; change StAt w1 B t q g v1 (word (⟨a, x, y, s, p, pc, h, b⟩ : S14)) ⟨d, 112, cy, 0, false⟩ at hr; have HR1 := Lib.hid hr; have HF1 := Lib.hid hf; have HL1 := Lib.hid hl; have HB1 := Lib.hid (Nat.le_trans HB0.out hf.size); have t0x := HR1.out.st.cell 0; change _ = some (Value.pointer (some ⟨q, 0, none⟩)) at t0x; have c1y := HR1.out.prog.regs.2.1; change _ = some (Value.int IntKind.u8 x) at c1y; clear hd hr hf hl)
    | (go_at_call 36; (with_reducible refine (H2.out w1 v1 HR1.out HB1.out).mono ?_); intro e w2 hd; obtain ⟨rfl, v2, hr, hf, hl⟩ := sdone_tr HF1.out HL1.out hd; change StAt w2 B t q g v2 (word (⟨a, x, y, s, p, pc, h, b⟩ : S14)) ⟨d, 112, cy, A, z⟩ at hr; have HR2 := Lib.hid hr; have HF2 := Lib.hid hf; have HL2 := Lib.hid hl; have HB2 := Lib.hid (Nat.le_trans HB0.out hf.size); clear hd hr hf hl))
  all_goals
    go_upto_region 25 with fail
    cases z
    · skip
      obtain ⟨c0, c1, c2, c3, c4, c5, c6, t0, t1⟩ := sregs HR2.out
      clear c0 c1 c2 c3 c4 c5 c6 t0 t1
      obtain ⟨t2, t3, t4, t5, t6⟩ := srow HR2.out
      clear t3 t4 t5
      go_wp2
      (first | go_end0 | refine bodyPost_ret (results_none rfl _ _ _) rfl ?_)
      rw [show CY = cy by rw [← HCY.out]; simp]
      exact ⟨rfl, v2, HR2.out, HF2.out, HL2.out⟩
    · cases wb
      · skip
        obtain ⟨c0, c1, c2, c3, c4, c5, c6, t0, t1⟩ := sregs HR2.out
        clear c0 c1 c2 c3 c4 c5 c6 t0 t1
        obtain ⟨t2, t3, t4, t5, t6⟩ := srow HR2.out
        clear t3 t5
        have e4 := HR2.out.ofrozen 4
        go_wp2_with fail
        (with_reducible refine (HW.out _).mono ?_)
        rintro e wq ⟨rfl, rfl⟩
        go_wp2
        (first | go_end0 | refine bodyPost_ret (results_none rfl _ _ _) rfl ?_)
        rw [show CY = cy by rw [← HCY.out]; simp]
        exact ⟨rfl, v2, HR2.out, HF2.out, HL2.out⟩
      · skip
        obtain ⟨c0, c1, c2, c3, c4, c5, c6, t0, t1⟩ := sregs HR2.out
        clear c0 c1 c2 c3 c4 c5 c6 t0 t1
        obtain ⟨t2, t3, t4, t5, t6⟩ := srow HR2.out
        clear t3 t5
        have e4 := HR2.out.ofrozen 4
        go_wp2_with fail
        (with_reducible refine (HW.out _).mono ?_)
        rintro e wq ⟨rfl, rfl⟩
        go_wp2
        (first | go_end0 | refine bodyPost_ret (results_none rfl _ _ _) rfl ?_)
        rw [show CY = cy + 1 by rw [← HCY.out]; simp]
        exact sdone_own _ HF2.out HL2.out (sput_cy HR2.out _)

set_option maxRecDepth 100000 in
set_option maxHeartbeats 1000000 in
theorem soper128 (w : World) (B t q g : Nat) (v : Value) (S : S14) (n : Nat) (d cy : Int) (H : StAt w B t q g v S ⟨d, 128, cy, 0, false⟩) (hO : Ok n S) (hB : B ≤ w.heap.size) (hcy : 0 ≤ cy ∧ cy < 100) :
    Calls Tryd.prog 22 #[.pointer (some ⟨t, 0, none⟩)] w (SDone w B t q g v (word S) ⟨d, 128, cy + (if crossed ((wordV S + S.y) % 65536) (wordV S) && waitB d then 1 else 0), (wordV S + S.y) % 65536, crossed ((wordV S + S.y) % 65536) (wordV S)⟩ (.tuple #[])) := by
  obtain ⟨y0, y1⟩ := hcy
  have HO := Lib.hid hO
  obtain ⟨a, x, y, s, p, pc, h, b⟩ := S
  obtain ⟨r0, r1⟩ : 0 ≤ y ∧ y < 256 := hO.y
  have HRr : Hid (u16 y) := Lib.hid (byte_u16 hO.y)
  have HR0 := Lib.hid H
  have HF0 : Hid (Fr (sfoot t q g v) w w) := Lib.hid (Fr.refl _ w)
  have HL0 : Hid (Lies w v v) := Lib.hid (Lies.refl w v)
  have HB0 := Lib.hid hB
  obtain ⟨c0, c1, c2, c3, c4, c5, c6, t0, t1⟩ := sregs HR0.out
  clear c0 c1 c3 c4 c5 c6 t1
  obtain ⟨t2, t3, t4, t5, t6⟩ := srow HR0.out
  clear t2 t4 t5 t6
  have hv := wordV_u16 hO
  have HV := Lib.hid hv
  have H1 := Lib.hid (fun W V (hr : StAt W B t q g V (⟨a, x, y, s, p, pc, h, b⟩ : S14) ⟨d, 128, cy, 0, false⟩) hb => snextWord_any W B t q g V (⟨a, x, y, s, p, pc, h, b⟩ : S14) ⟨d, 128, cy, 0, false⟩ n hr hO hb)
  change Calls _ _ _ _ (SDone w B t q g v _ ⟨d, 128, cy + (if crossed ((wordV (⟨a, x, y, s, p, pc, h, b⟩ : S14) + y) % 65536) (wordV (⟨a, x, y, s, p, pc, h, b⟩ : S14)) && waitB d then 1 else 0), (wordV (⟨a, x, y, s, p, pc, h, b⟩ : S14) + y) % 65536, crossed ((wordV (⟨a, x, y, s, p, pc, h, b⟩ : S14) + y) % 65536) (wordV (⟨a, x, y, s, p, pc, h, b⟩ : S14))⟩ _)
  generalize wordV (⟨a, x, y, s, p, pc, h, b⟩ : S14) = M1 at *
  obtain ⟨m0, m1⟩ := hv
  have w16r : IntKind.u16.wrap y = y := by rw [IntKind.wrap_u16]; omega
  have H2 := Lib.hid (fun W V (hr : StAt W B t q g V (word (⟨a, x, y, s, p, pc, h, b⟩ : S14)) ⟨d, 128, cy, 0, false⟩) hb => sreach_any W B t q g V (word (⟨a, x, y, s, p, pc, h, b⟩ : S14)) d 128 cy 0 false M1 y hr HV.out HRr.out hb)
  generalize crossed ((M1 + y) % 65536) M1 = z at *
  generalize (M1 + y) % 65536 = A at *
  obtain ⟨wb, hwb⟩ : ∃ z, waitB d = z := ⟨_, rfl⟩
  have HW := Lib.hid (fun W => waits_any W d)
  rw [hwb] at HW ⊢
  clear hwb
  obtain ⟨CY, hCY⟩ : ∃ c, cy + (if (z && wb) = true then 1 else 0) = c := ⟨_, rfl⟩
  rw [hCY]
  have HCY := Lib.hid hCY
  clear hCY
  clear H hO hB
  go_enter Tryd.func22, Tryd.ntmps22
  go_upto_region 15 with fail
  have HRd := Lib.hid (HR0.out.fr (Fr.refl [] w).drew (by simp))
  have HFd : Hid (Fr (sfoot t q g v) w w.drew) := Lib.hid HF0.out.drew
  have HBd : Hid (B ≤ w.drew.heap.size) := HB0
  go_region_law (go_simp; first
    | (go_at_call 35; (with_reducible refine (H1.out w.drew v HRd.out HBd.out).mono ?_); intro e w1 hd; obtain ⟨rfl, v1, hr, hf, hl⟩ := sdone_tr HFd.out HL0.out hd; change StAt w1 B t q g v1 (word (⟨a, x, y, s, p, pc, h, b⟩ : S14)) ⟨d, 128, cy, 0, false⟩ at hr; have HR1 := Lib.hid hr; have HF1 := Lib.hid hf; have HL1 := Lib.hid hl; have HB1 := Lib.hid (Nat.le_trans HB0.out hf.size); have t0x := HR1.out.st.cell 0; change _ = some (Value.pointer (some ⟨q, 0, none⟩)) at t0x; have c2y := HR1.out.prog.regs.2.2.1; change _ = some (Value.int IntKind.u8 y) at c2y; clear hd hr hf hl)
    | (go_at_call 36; (with_reducible refine (H2.out w1 v1 HR1.out HB1.out).mono ?_); intro e w2 hd; obtain ⟨rfl, v2, hr, hf, hl⟩ := sdone_tr HF1.out HL1.out hd; change StAt w2 B t q g v2 (word (⟨a, x, y, s, p, pc, h, b⟩ : S14)) ⟨d, 128, cy, A, z⟩ at hr; have HR2 := Lib.hid hr; have HF2 := Lib.hid hf; have HL2 := Lib.hid hl; have HB2 := Lib.hid (Nat.le_trans HB0.out hf.size); clear hd hr hf hl))
  all_goals
    go_upto_region 25 with fail
    cases z
    · skip
      obtain ⟨c0, c1, c2, c3, c4, c5, c6, t0, t1⟩ := sregs HR2.out
      clear c0 c1 c2 c3 c4 c5 c6 t0 t1
      obtain ⟨t2, t3, t4, t5, t6⟩ := srow HR2.out
      clear t3 t4 t5
      go_wp2
      (first | go_end0 | refine bodyPost_ret (results_none rfl _ _ _) rfl ?_)
      rw [show CY = cy by rw [← HCY.out]; simp]
      exact ⟨rfl, v2, HR2.out, HF2.out, HL2.out⟩
    · cases wb
      · skip
        obtain ⟨c0, c1, c2, c3, c4, c5, c6, t0, t1⟩ := sregs HR2.out
        clear c0 c1 c2 c3 c4 c5 c6 t0 t1
        obtain ⟨t2, t3, t4, t5, t6⟩ := srow HR2.out
        clear t3 t5
        have e4 := HR2.out.ofrozen 4
        go_wp2_with fail
        (with_reducible refine (HW.out _).mono ?_)
        rintro e wq ⟨rfl, rfl⟩
        go_wp2
        (first | go_end0 | refine bodyPost_ret (results_none rfl _ _ _) rfl ?_)
        rw [show CY = cy by rw [← HCY.out]; simp]
        exact ⟨rfl, v2, HR2.out, HF2.out, HL2.out⟩
      · skip
        obtain ⟨c0, c1, c2, c3, c4, c5, c6, t0, t1⟩ := sregs HR2.out
        clear c0 c1 c2 c3 c4 c5 c6 t0 t1
        obtain ⟨t2, t3, t4, t5, t6⟩ := srow HR2.out
        clear t3 t5
        have e4 := HR2.out.ofrozen 4
        go_wp2_with fail
        (with_reducible refine (HW.out _).mono ?_)
        rintro e wq ⟨rfl, rfl⟩
        go_wp2
        (first | go_end0 | refine bodyPost_ret (results_none rfl _ _ _) rfl ?_)
        rw [show CY = cy + 1 by rw [← HCY.out]; simp]
        exact sdone_own _ HF2.out HL2.out (sput_cy HR2.out _)

set_option maxRecDepth 100000 in
set_option maxHeartbeats 1000000 in
theorem soper144 (w : World) (B t q g : Nat) (v : Value) (S : S14) (n : Nat) (d cy : Int) (H : StAt w B t q g v S ⟨d, 144, cy, 0, false⟩) (hO : Ok n S) (hB : B ≤ w.heap.size) (hcy : 0 ≤ cy ∧ cy < 100) :
    Calls Tryd.prog 22 #[.pointer (some ⟨t, 0, none⟩)] w (SDone w B t q g v (wip (word S) (wordV S)) ⟨d, 144, cy, wipV (word S) (wordV S), false⟩ (.tuple #[])) := by
  obtain ⟨y0, y1⟩ := hcy
  have HO := Lib.hid hO
  obtain ⟨a, x, y, s, p, pc, h, b⟩ := S
  have HR0 := Lib.hid H
  have HF0 : Hid (Fr (sfoot t q g v) w w) := Lib.hid (Fr.refl _ w)
  have HL0 : Hid (Lies w v v) := Lib.hid (Lies.refl w v)
  have HB0 := Lib.hid hB
  obtain ⟨c0, c1, c2, c3, c4, c5, c6, t0, t1⟩ := sregs HR0.out
  clear c0 c1 c2 c3 c4 c5 c6 t0 t1
  obtain ⟨t2, t3, t4, t5, t6⟩ := srow HR0.out
  clear t2 t4 t5 t6
  have HV := Lib.hid (wordV_u16 hO)
  have hv := wordV_u16 hO
  have HO1 := Lib.hid (ok_word hO)
  have H1 := Lib.hid (snextWord_any w B t q g v (⟨a, x, y, s, p, pc, h, b⟩ : S14) ⟨d, 144, cy, 0, false⟩ n H hO hB)
  obtain ⟨M1, hM⟩ : ∃ z, wordV (⟨a, x, y, s, p, pc, h, b⟩ : S14) = z := ⟨_, rfl⟩
  rw [hM] at hv HV H1 ⊢
  have hv2 := pairV_u16 (b := (word (⟨a, x, y, s, p, pc, h, b⟩ : S14)).b) M1 (inPage M1) HO1.out.b
  obtain ⟨m0, m1⟩ := hv
  change Calls _ _ _ _ (SDone w B t q g v (word (⟨a, x, y, s, p, pc, h, b⟩ : S14)) ⟨d, 144, cy, pairV (word (⟨a, x, y, s, p, pc, h, b⟩ : S14)).b M1 (inPage M1), false⟩ _)
  have H2 := Lib.hid (fun W V (hr : StAt W B t q g V (word (⟨a, x, y, s, p, pc, h, b⟩ : S14)) ⟨d, 144, cy, 0, false⟩) => swordInPage_any hr n M1 HO1.out HV.out)
  generalize pairV (word (⟨a, x, y, s, p, pc, h, b⟩ : S14)).b M1 (inPage M1) = M2 at *
  obtain ⟨k0, k1⟩ := hv2
  clear H hO hB hM
  go_enter Tryd.func22, Tryd.ntmps22
  go_wp2_with fail
  (with_reducible refine (H1.out).mono ?_)
  intro e w1 hd
  obtain ⟨rfl, v1, hr, hf, hl⟩ := sdone_tr HF0.out HL0.out hd
  change StAt w1 B t q g v1 (word (⟨a, x, y, s, p, pc, h, b⟩ : S14)) ⟨d, 144, cy, 0, false⟩ at hr
  have HR1 := Lib.hid hr
  have HF1 := Lib.hid hf
  have HL1 := Lib.hid hl
  have HB1 := Lib.hid (Nat.le_trans HB0.out hf.size)
  clear hd hr hf hl
  clear t3
  go_wp2_with fail
  (with_reducible refine (H2.out w1 v1 HR1.out).mono ?_)
  rintro e wq ⟨rfl, rfl⟩
  obtain ⟨c0, c1, c2, c3, c4, c5, c6, t0, t1⟩ := sregs HR1.out
  clear c0 c1 c2 c3 c4 c5 c6 t0 t1
  obtain ⟨t2, t3, t4, t5, t6⟩ := srow HR1.out
  clear t2 t3 t4 t6
  have e5 := HR1.out.ofrozen 5
  have HR2 : Hid (StAt (w1.setCell ⟨t, 5, none⟩ (.int .u16 (M2))) B t q g v1 (word (⟨a, x, y, s, p, pc, h, b⟩ : S14)) ⟨d, 144, cy, M2, false⟩) := Lib.hid (sput_ad HR1.out _)
  have HF2 : Hid (Fr (sfoot t q g v) w (w1.setCell ⟨t, 5, none⟩ (.int .u16 (M2)))) := Lib.hid (HF1.out.setCell (by simp [sfoot, pfoot]) _)
  have HL2 := Lib.hid HL1.out
  have HB2 : Hid (B ≤ (w1.setCell ⟨t, 5, none⟩ (.int .u16 (M2))).heap.size) := Lib.hid (Nat.le_trans HB0.out HF2.out.size)
  go_upto_region 25 with fail
  clear t5 e5
  generalize w1.setCell _ _ = w2 at *
  obtain ⟨c0, c1, c2, c3, c4, c5, c6, t0, t1⟩ := sregs HR2.out
  clear c0 c1 c2 c3 c4 c5 c6 t0 t1
  obtain ⟨t2, t3, t4, t5, t6⟩ := srow HR2.out
  clear t2 t3 t4 t5
  go_wp2
  (first | go_end0 | refine bodyPost_ret (results_none rfl _ _ _) rfl ?_)
  exact ⟨rfl, v1, HR2.out, HF2.out, HL2.out⟩

set_option maxRecDepth 100000 in
set_option maxHeartbeats 1000000 in
theorem soper160 (w : World) (B t q g : Nat) (v : Value) (S : S14) (n : Nat) (d cy : Int) (H : StAt w B t q g v S ⟨d, 160, cy, 0, false⟩) (hO : Ok n S) (hB : B ≤ w.heap.size) (hcy : 0 ≤ cy ∧ cy < 100) :
    Calls Tryd.prog 22 #[.pointer (some ⟨t, 0, none⟩)] w (SDone w B t q g v (wip (next S) ((nextV S + S.x) % 256)) ⟨d, 160, cy, wipV (next S) ((nextV S + S.x) % 256), false⟩ (.tuple #[])) := by
  obtain ⟨y0, y1⟩ := hcy
  have HO := Lib.hid hO
  obtain ⟨a, x, y, s, p, pc, h, b⟩ := S
  obtain ⟨r0, r1⟩ : 0 ≤ x ∧ x < 256 := hO.x
  have HR0 := Lib.hid H
  have HF0 : Hid (Fr (sfoot t q g v) w w) := Lib.hid (Fr.refl _ w)
  have HL0 : Hid (Lies w v v) := Lib.hid (Lies.refl w v)
  have HB0 := Lib.hid hB
  obtain ⟨c0, c1, c2, c3, c4, c5, c6, t0, t1⟩ := sregs HR0.out
  clear c0 c2 c3 c4 c5 c6 t1
  obtain ⟨t2, t3, t4, t5, t6⟩ := srow HR0.out
  clear t2 t4 t5 t6
  have hv := nextV_byte hO
  have HO1 := Lib.hid (ok_next hO)
  have H1 := Lib.hid (fun W V (hr : StAt W B t q g V (⟨a, x, y, s, p, pc, h, b⟩ : S14) ⟨d, 160, cy, 0, false⟩) hb => snext_any W B t q g V (⟨a, x, y, s, p, pc, h, b⟩ : S14) ⟨d, 160, cy, 0, false⟩ n hr hO hb)
  change Calls _ _ _ _ (SDone w B t q g v (next (⟨a, x, y, s, p, pc, h, b⟩ : S14)) ⟨d, 160, cy, pairV (next (⟨a, x, y, s, p, pc, h, b⟩ : S14)).b ((nextV (⟨a, x, y, s, p, pc, h, b⟩ : S14) + x) % 256) (inPage ((nextV (⟨a, x, y, s, p, pc, h, b⟩ : S14) + x) % 256)), false⟩ _)
  obtain ⟨M1, hM⟩ : ∃ z, nextV (⟨a, x, y, s, p, pc, h, b⟩ : S14) = z := ⟨_, rfl⟩
  rw [hM] at hv H1 ⊢
  obtain ⟨m0, m1⟩ := hv
  obtain ⟨A, hA⟩ : ∃ A, (M1 + x) % 256 = A := ⟨_, rfl⟩
  have wA : IntKind.u8.wrap (M1 + x) = A := by rw [IntKind.wrap_u8]; exact hA
  have A0 : 0 ≤ A := by omega
  have A1 : A < 256 := by omega
  have wA16 : IntKind.u16.wrap A = A := by rw [IntKind.wrap_u16]; omega
  rw [hA]
  have HV : Hid (u16 A) := Lib.hid ⟨by omega, by omega⟩
  have hv2 := pairV_u16 (b := (next (⟨a, x, y, s, p, pc, h, b⟩ : S14)).b) A (inPage A) HO1.out.b
  have H2 := Lib.hid (fun W V (hr : StAt W B t q g V (next (⟨a, x, y, s, p, pc, h, b⟩ : S14)) ⟨d, 160, cy, 0, false⟩) => swordInPage_any hr n A HO1.out HV.out)
  generalize pairV (next (⟨a, x, y, s, p, pc, h, b⟩ : S14)).b A (inPage A) = M2 at *
  obtain ⟨k0, k1⟩ := hv2
  clear H hO hB hM hA
  go_enter Tryd.func22, Tryd.ntmps22
  go_upto_region 19 with fail
  have HRd := Lib.hid (HR0.out.fr (Fr.refl [] w).drew (by simp))
  have HFd : Hid (Fr (sfoot t q g v) w w.drew) := Lib.hid HF0.out.drew
  have HBd : Hid (B ≤ w.drew.heap.size) := HB0
  go_region_law (go_simp; first
    | (go_at_call 34; (with_reducible refine (H1.out w.drew v HRd.out HBd.out).mono ?_); intro e w1 hd; obtain ⟨rfl, v1, hr, hf, hl⟩ := sdone_tr HFd.out HL0.out hd; change StAt w1 B t q g v1 (next (⟨a, x, y, s, p, pc, h, b⟩ : S14)) ⟨d, 160, cy, 0, false⟩ at hr; have HR1 := Lib.hid hr; have HF1 := Lib.hid hf; have HL1 := Lib.hid hl; have HB1 := Lib.hid (Nat.le_trans HB0.out hf.size); have t0x := HR1.out.st.cell 0; change _ = some (Value.pointer (some ⟨q, 0, none⟩)) at t0x; have c1y := HR1.out.prog.regs.2.1; change _ = some (Value.int IntKind.u8 x) at c1y; have t5y := (srow HR1.out).2.2.2.1; have e5y := HR1.out.ofrozen 5; clear hd hr hf hl)
    | (go_at_call 37; (with_reducible refine (H2.out w1 v1 HR1.out).mono ?_); rintro e wq ⟨rfl, rfl⟩))
  all_goals
    have HR2 : Hid (StAt (w1.setCell ⟨t, 5, none⟩ (.int .u16 (M2))) B t q g v1 (next (⟨a, x, y, s, p, pc, h, b⟩ : S14)) ⟨d, 160, cy, M2, false⟩) := Lib.hid (sput_ad HR1.out _)
    have HF2 : Hid (Fr (sfoot t q g v) w (w1.setCell ⟨t, 5, none⟩ (.int .u16 (M2)))) := Lib.hid (HF1.out.setCell (by simp [sfoot, pfoot]) _)
    have HL2 := Lib.hid HL1.out
    have HB2 : Hid (B ≤ (w1.setCell ⟨t, 5, none⟩ (.int .u16 (M2))).heap.size) := Lib.hid (Nat.le_trans HB0.out HF2.out.size)
    go_upto_region 25 with fail
    generalize w1.setCell _ _ = w2 at *
    obtain ⟨c0, c1, c2, c3, c4, c5, c6, t0, t1⟩ := sregs HR2.out
    clear c0 c1 c2 c3 c4 c5 c6 t0 t1
    obtain ⟨t2, t3, t4, t5, t6⟩ := srow HR2.out
    clear t2 t3 t4 t5
    go_wp2
    (first | go_end0 | refine bodyPost_ret (results_none rfl _ _ _) rfl ?_)
    exact ⟨rfl, v1, HR2.out, HF2.out, HL2.out⟩

set_option maxRecDepth 100000 in
set_option maxHeartbeats 1000000 in
theorem soper176 (w : World) (B t q g : Nat) (v : Value) (S : S14) (n : Nat) (d cy : Int) (H : StAt w B t q g v S ⟨d, 176, cy, 0, false⟩) (hO : Ok n S) (hB : B ≤ w.heap.size) (hcy : 0 ≤ cy ∧ cy < 100) :
    Calls Tryd.prog 22 #[.pointer (some ⟨t, 0, none⟩)] w (SDone w B t q g v (wip (next S) (nextV S)) ⟨d, 176, cy + (if crossed ((wipV (next S) (nextV S) + S.y) % 65536) (wipV (next S) (nextV S)) && waitB d then 1 else 0), (wipV (next S) (nextV S) + S.y) % 65536, crossed ((wipV (next S) (nextV S) + S.y) % 65536) (wipV (next S) (nextV S))⟩ (.tuple #[])) := by
  obtain ⟨y0, y1⟩ := hcy
  have HO := Lib.hid hO
  obtain ⟨a, x, y, s, p, pc, h, b⟩ := S
  obtain ⟨r0, r1⟩ : 0 ≤ y ∧ y < 256 := hO.y
  have HRr : Hid (u16 y) := Lib.hid (byte_u16 hO.y)
  have HR0 := Lib.hid H
  have HF0 : Hid (Fr (sfoot t q g v) w w) := Lib.hid (Fr.refl _ w)
  have HL0 : Hid (Lies w v v) := Lib.hid (Lies.refl w v)
  have HB0 := Lib.hid hB
  obtain ⟨c0, c1, c2, c3, c4, c5, c6, t0, t1⟩ := sregs HR0.out
  clear c0 c1 c3 c4 c5 c6 t1
  obtain ⟨t2, t3, t4, t5, t6⟩ := srow HR0.out
  clear t2 t4 t5 t6
  have hv := nextV_byte hO
  have HO1 := Lib.hid (ok_next hO)
  have H1 := Lib.hid (fun W V (hr : StAt W B t q g V (⟨a, x, y, s, p, pc, h, b⟩ : S14) ⟨d, 176, cy, 0, false⟩) hb => snext_any W B t q g V (⟨a, x, y, s, p, pc, h, b⟩ : S14) ⟨d, 176, cy, 0, false⟩ n hr hO hb)
  change Calls _ _ _ _ (SDone w B t q g v (next (⟨a, x, y, s, p, pc, h, b⟩ : S14)) ⟨d, 176, cy + (if crossed ((pairV (next (⟨a, x, y, s, p, pc, h, b⟩ : S14)).b (nextV (⟨a, x, y, s, p, pc, h, b⟩ : S14)) (inPage (nextV (⟨a, x, y, s, p, pc, h, b⟩ : S14))) + y) % 65536) (pairV (next (⟨a, x, y, s, p, pc, h, b⟩ : S14)).b (nextV (⟨a, x, y, s, p, pc, h, b⟩ : S14)) (inPage (nextV (⟨a, x, y, s, p, pc, h, b⟩ : S14)))) && waitB d then 1 else 0), (pairV (next (⟨a, x, y, s, p, pc, h, b⟩ : S14)).b (nextV (⟨a, x, y, s, p, pc, h, b⟩ : S14)) (inPage (nextV (⟨a, x, y, s, p, pc, h, b⟩ : S14))) + y) % 65536, crossed ((pairV (next (⟨a, x, y, s, p, pc, h, b⟩ : S14)).b (nextV (⟨a, x, y, s, p, pc, h, b⟩ : S14)) (inPage (nextV (⟨a, x, y, s, p, pc, h, b⟩ : S14))) + y) % 65536) (pairV (next (⟨a, x, y, s, p, pc, h, b⟩ : S14)).b (nextV (⟨a, x, y, s, p, pc, h, b⟩ : S14)) (inPage (nextV (⟨a, x, y, s, p, pc, h, b⟩ : S14))))⟩ _)
  obtain ⟨M1, hM⟩ : ∃ z, nextV (⟨a, x, y, s, p, pc, h, b⟩ : S14) = z := ⟨_, rfl⟩
  rw [hM] at hv H1 ⊢
  have HV : Hid (u16 M1) := Lib.hid (byte_u16 hv)
  have hv2 := pairV_u16 (b := (next (⟨a, x, y, s, p, pc, h, b⟩ : S14)).b) M1 (inPage M1) HO1.out.b
  obtain ⟨m0, m1⟩ := hv
  have w16m : IntKind.u16.wrap M1 = M1 := by rw [IntKind.wrap_u16]; omega
  have w16r : IntKind.u16.wrap y = y := by rw [IntKind.wrap_u16]; omega
  have H2 := Lib.hid (fun W V (hr : StAt W B t q g V (next (⟨a, x, y, s, p, pc, h, b⟩ : S14)) ⟨d, 176, cy, 0, false⟩) => swordInPage_any hr n M1 HO1.out HV.out)
  generalize pairV (next (⟨a, x, y, s, p, pc, h, b⟩ : S14)).b M1 (inPage M1) = M2 at *
  have HV2 := Lib.hid hv2
  obtain ⟨k0, k1⟩ := hv2
  have H3 := Lib.hid (fun W V (hr : StAt W B t q g V (next (⟨a, x, y, s, p, pc, h, b⟩ : S14)) ⟨d, 176, cy, 0, false⟩) hb => sreach_any W B t q g V (next (⟨a, x, y, s, p, pc, h, b⟩ : S14)) d 176 cy 0 false M2 y hr HV2.out HRr.out hb)
  generalize crossed ((M2 + y) % 65536) M2 = z at *
  generalize (M2 + y) % 65536 = A at *
  obtain ⟨wb, hwb⟩ : ∃ z, waitB d = z := ⟨_, rfl⟩
  have HW := Lib.hid (fun W => waits_any W d)
  rw [hwb] at HW ⊢
  clear hwb
  obtain ⟨CY, hCY⟩ : ∃ c, cy + (if (z && wb) = true then 1 else 0) = c := ⟨_, rfl⟩
  rw [hCY]
  have HCY := Lib.hid hCY
  clear hCY
  clear H hO hB hM
  go_enter Tryd.func22, Tryd.ntmps22
  go_upto_region 21 with fail
  have HRd := Lib.hid (HR0.out.fr (Fr.refl [] w).drew (by simp))
  have HFd : Hid (Fr (sfoot t q g v) w w.drew) := Lib.hid HF0.out.drew
  have HBd : Hid (B ≤ w.drew.heap.size) := HB0
  go_region_law (go_simp; first
    | (go_at_call 34; (with_reducible refine (H1.out w.drew v HRd.out HBd.out).mono ?_); intro e w1 hd; obtain ⟨rfl, v1, hr, hf, hl⟩ := sdone_tr HFd.out HL0.out hd; change StAt w1 B t q g v1 (next (⟨a, x, y, s, p, pc, h, b⟩ : S14)) ⟨d, 176, cy, 0, false⟩ at hr; have HR1 := Lib.hid hr; have HF1 := Lib.hid hf; have HL1 := Lib.hid hl; have HB1 := Lib.hid (Nat.le_trans HB0.out hf.size); have t0x := HR1.out.st.cell 0; change _ = some (Value.pointer (some ⟨q, 0, none⟩)) at t0x; have c2y := HR1.out.prog.regs.2.2.1; change _ = some (Value.int IntKind.u8 y) at c2y; clear hd hr hf hl)
    | (go_at_call 37; (with_reducible refine (H2.out w1 v1 HR1.out).mono ?_); rintro e wq ⟨rfl, rfl⟩)
    | (go_at_call 36; (with_reducible refine (H3.out w1 v1 HR1.out HB1.out).mono ?_); intro e w2 hd; obtain ⟨rfl, v2, hr, hf, hl⟩ := sdone_tr HF1.out HL1.out hd; change StAt w2 B t q g v2 (next (⟨a, x, y, s, p, pc, h, b⟩ : S14)) ⟨d, 176, cy, A, z⟩ at hr; have HR2 := Lib.hid hr; have HF2 := Lib.hid hf; have HL2 := Lib.hid hl; have HB2 := Lib.hid (Nat.le_trans HB0.out hf.size); clear hd hr hf hl))
  all_goals
    go_upto_region 25 with fail
    cases z
    · skip
      obtain ⟨c0, c1, c2, c3, c4, c5, c6, t0, t1⟩ := sregs HR2.out
      clear c0 c1 c2 c3 c4 c5 c6 t0 t1
      obtain ⟨t2, t3, t4, t5, t6⟩ := srow HR2.out
      clear t3 t4 t5
      go_wp2
      (first | go_end0 | refine bodyPost_ret (results_none rfl _ _ _) rfl ?_)
      rw [show CY = cy by rw [← HCY.out]; simp]
      exact ⟨rfl, v2, HR2.out, HF2.out, HL2.out⟩
    · cases wb
      · skip
        obtain ⟨c0, c1, c2, c3, c4, c5, c6, t0, t1⟩ := sregs HR2.out
        clear c0 c1 c2 c3 c4 c5 c6 t0 t1
        obtain ⟨t2, t3, t4, t5, t6⟩ := srow HR2.out
        clear t3 t5
        have e4 := HR2.out.ofrozen 4
        go_wp2_with fail
        (with_reducible refine (HW.out _).mono ?_)
        rintro e wq ⟨rfl, rfl⟩
        go_wp2
        (first | go_end0 | refine bodyPost_ret (results_none rfl _ _ _) rfl ?_)
        rw [show CY = cy by rw [← HCY.out]; simp]
        exact ⟨rfl, v2, HR2.out, HF2.out, HL2.out⟩
      · skip
        obtain ⟨c0, c1, c2, c3, c4, c5, c6, t0, t1⟩ := sregs HR2.out
        clear c0 c1 c2 c3 c4 c5 c6 t0 t1
        obtain ⟨t2, t3, t4, t5, t6⟩ := srow HR2.out
        clear t3 t5
        have e4 := HR2.out.ofrozen 4
        go_wp2_with fail
        (with_reducible refine (HW.out _).mono ?_)
        rintro e wq ⟨rfl, rfl⟩
        go_wp2
        (first | go_end0 | refine bodyPost_ret (results_none rfl _ _ _) rfl ?_)
        rw [show CY = cy + 1 by rw [← HCY.out]; simp]
        exact sdone_own _ HF2.out HL2.out (sput_cy HR2.out _)

set_option maxRecDepth 100000 in
set_option maxHeartbeats 1000000 in
theorem soper192 (w : World) (B t q g : Nat) (v : Value) (S : S14) (n : Nat) (d cy : Int) (H : StAt w B t q g v S ⟨d, 192, cy, 0, false⟩) (hO : Ok n S) (hB : B ≤ w.heap.size) (hcy : 0 ≤ cy ∧ cy < 100) :
    Calls Tryd.prog 22 #[.pointer (some ⟨t, 0, none⟩)] w (SDone w B t q g v (next S) ⟨d, 192, cy + (if crossed (goTo S) ((S.pc + 1) % 65536) && waitB d then 1 else 0), goTo S, crossed (goTo S) ((S.pc + 1) % 65536)⟩ (.tuple #[])) := by
  obtain ⟨y0, y1⟩ := hcy
  have HO := Lib.hid hO
  obtain ⟨a, x, y, s, p, pc, h, b⟩ := S
  have HR0 := Lib.hid H
  have HF0 : Hid (Fr (sfoot t q g v) w w) := Lib.hid (Fr.refl _ w)
  have HL0 : Hid (Lies w v v) := Lib.hid (Lies.refl w v)
  have HB0 := Lib.hid hB
  obtain ⟨c0, c1, c2, c3, c4, c5, c6, t0, t1⟩ := sregs HR0.out
  clear c0 c1 c2 c3 c4 c5 c6 t0 t1
  obtain ⟨t2, t3, t4, t5, t6⟩ := srow HR0.out
  clear t2 t4 t5 t6
  have hv := nextV_byte hO
  have hs := Al.i8_sg (nextV (⟨a, x, y, s, p, pc, h, b⟩ : S14)) hv
  obtain ⟨j0, j1⟩ := Al.sg_bd (nextV (⟨a, x, y, s, p, pc, h, b⟩ : S14)) hv
  have hg : goTo (⟨a, x, y, s, p, pc, h, b⟩ : S14) = ((pc + 1) % 65536 + Al.sg (nextV (⟨a, x, y, s, p, pc, h, b⟩ : S14)) % 65536) % 65536 := by unfold goTo; show ((pc + 1) % 65536 + Al.sg (nextV (⟨a, x, y, s, p, pc, h, b⟩ : S14))) % 65536 = _; omega
  change Calls _ _ _ _ (SDone w B t q g v ⟨a, x, y, s, p, (pc + 1) % 65536, h, b⟩ ⟨d, 192, cy + (if crossed (goTo (⟨a, x, y, s, p, pc, h, b⟩ : S14)) ((pc + 1) % 65536) && waitB d then 1 else 0), goTo (⟨a, x, y, s, p, pc, h, b⟩ : S14), crossed (goTo (⟨a, x, y, s, p, pc, h, b⟩ : S14)) ((pc + 1) % 65536)⟩ _)
  rw [hg]
  have H1 : Hid (Calls Tryd.prog 34 #[.pointer (some ⟨t, 0, none⟩)] w (SDone w B t q g v ⟨a, x, y, s, p, (pc + 1) % 65536, h, b⟩ ⟨d, 192, cy, 0, false⟩ (.int .u8 (nextV (⟨a, x, y, s, p, pc, h, b⟩ : S14))))) := Lib.hid (snext_any w B t q g v (⟨a, x, y, s, p, pc, h, b⟩ : S14) ⟨d, 192, cy, 0, false⟩ n H hO hB)
  clear hg
  generalize nextV (⟨a, x, y, s, p, pc, h, b⟩ : S14) = M1 at *
  have HPC : Hid (u16 ((pc + 1) % 65536)) := Lib.hid (mod_u16 _)
  have hpc := mod_u16 (pc + 1)
  generalize (pc + 1) % 65536 = PC at *
  obtain ⟨pc0, pc1⟩ := hpc
  generalize Al.sg M1 = j at *
  have HJ : Hid (u16 (j % 65536)) := Lib.hid (mod_u16 _)
  have hj := IntKind.wrap_u16 j
  have H2 := Lib.hid (fun W V (hr : StAt W B t q g V ⟨a, x, y, s, p, PC, h, b⟩ ⟨d, 192, cy, 0, false⟩) hb => sreach_any W B t q g V ⟨a, x, y, s, p, PC, h, b⟩ d 192 cy 0 false PC (j % 65536) hr HPC.out HJ.out hb)
  generalize (j % 65536) = J at *
  generalize crossed ((PC + J) % 65536) PC = z at *
  generalize (PC + J) % 65536 = A at *
  obtain ⟨wb, hwb⟩ : ∃ z, waitB d = z := ⟨_, rfl⟩
  have HW := Lib.hid (fun W => waits_any W d)
  rw [hwb] at HW ⊢
  clear hwb
  obtain ⟨CY, hCY⟩ : ∃ c, cy + (if (z && wb) = true then 1 else 0) = c := ⟨_, rfl⟩
  rw [hCY]
  have HCY := Lib.hid hCY
  clear hCY
  obtain ⟨m0, m1⟩ := hv
  clear H hO hB
  go_enter Tryd.func22, Tryd.ntmps22
  go_wp2_with fail
  (with_reducible refine (H1.out).mono ?_)
  intro e w1 hd
  obtain ⟨rfl, v1, hr, hf, hl⟩ := sdone_tr HF0.out HL0.out hd
  change StAt w1 B t q g v1 ⟨a, x, y, s, p, PC, h, b⟩ ⟨d, 192, cy, 0, false⟩ at hr
  have HR1 := Lib.hid hr
  have HF1 := Lib.hid hf
  have HL1 := Lib.hid hl
  have HB1 := Lib.hid (Nat.le_trans HB0.out hf.size)
  clear hd hr hf hl
  clear t3
  obtain ⟨c0, c1, c2, c3, c4, c5, c6, t0, t1⟩ := sregs HR1.out
  clear c0 c1 c2 c3 c4 c6 t1
  go_wp2_with fail
  (with_reducible refine (H2.out w1 v1 HR1.out HB1.out).mono ?_)
  intro e w2 hd
  obtain ⟨rfl, v2, hr, hf, hl⟩ := sdone_tr HF1.out HL1.out hd
  change StAt w2 B t q g v2 ⟨a, x, y, s, p, PC, h, b⟩ ⟨d, 192, cy, A, z⟩ at hr
  have HR2 := Lib.hid hr
  have HF2 := Lib.hid hf
  have HL2 := Lib.hid hl
  have HB2 := Lib.hid (Nat.le_trans HB0.out hf.size)
  clear hd hr hf hl
  clear c5 t0
  go_upto_region 25 with fail
  cases z
  · skip
    obtain ⟨c0, c1, c2, c3, c4, c5, c6, t0, t1⟩ := sregs HR2.out
    clear c0 c1 c2 c3 c4 c5 c6 t0 t1
    obtain ⟨t2, t3, t4, t5, t6⟩ := srow HR2.out
    clear t3 t4 t5
    go_wp2
    (first | go_end0 | refine bodyPost_ret (results_none rfl _ _ _) rfl ?_)
    rw [show CY = cy by rw [← HCY.out]; simp]
    exact ⟨rfl, v2, HR2.out, HF2.out, HL2.out⟩
  · cases wb
    · skip
      obtain ⟨c0, c1, c2, c3, c4, c5, c6, t0, t1⟩ := sregs HR2.out
      clear c0 c1 c2 c3 c4 c5 c6 t0 t1
      obtain ⟨t2, t3, t4, t5, t6⟩ := srow HR2.out
      clear t3 t5
      have e4 := HR2.out.ofrozen 4
      go_wp2_with fail
      (with_reducible refine (HW.out _).mono ?_)
      rintro e wq ⟨rfl, rfl⟩
      go_wp2
      (first | go_end0 | refine bodyPost_ret (results_none rfl _ _ _) rfl ?_)
      rw [show CY = cy by rw [← HCY.out]; simp]
      exact ⟨rfl, v2, HR2.out, HF2.out, HL2.out⟩
    · skip
      obtain ⟨c0, c1, c2, c3, c4, c5, c6, t0, t1⟩ := sregs HR2.out
      clear c0 c1 c2 c3 c4 c5 c6 t0 t1
      obtain ⟨t2, t3, t4, t5, t6⟩ := srow HR2.out
      clear t3 t5
      have e4 := HR2.out.ofrozen 4
      go_wp2_with fail
      (with_reducible refine (HW.out _).mono ?_)
      rintro e wq ⟨rfl, rfl⟩
      go_wp2
      (first | go_end0 | refine bodyPost_ret (results_none rfl _ _ _) rfl ?_)
      rw [show CY = cy + 1 by rw [← HCY.out]; simp]
      exact sdone_own _ HF2.out HL2.out (sput_cy HR2.out _)

theorem soper_any (w : World) (B t q g : Nat) (v : Value) (S : S14) (n : Nat) (d m cy : Int) (hm : isM m) (H : StAt w B t q g v S ⟨d, m, cy, 0, false⟩) (hO : Ok n S) (hB : B ≤ w.heap.size) (hcy : 0 ≤ cy ∧ cy < 100) :
    Calls Tryd.prog 22 #[.pointer (some ⟨t, 0, none⟩)] w (SDone w B t q g v (oS m S) ⟨d, m, cy + oN d m S, oAt m S, oCr m S⟩ (.tuple #[])) := by
  rcases hm with rfl | rfl | rfl | rfl | rfl | rfl | rfl | rfl | rfl | rfl | rfl | rfl | rfl
  · rw [show cy + oN d 0 S = cy by simp [oN, oCr]]; exact soper0 w B t q g v S n d cy H hO hB hcy
  · rw [show cy + oN d 16 S = cy by simp [oN, oCr]]; exact soper16 w B t q g v S n d cy H hO hB hcy
  · rw [show cy + oN d 32 S = cy by simp [oN, oCr]]; exact soper32 w B t q g v S n d cy H hO hB hcy
  · rw [show cy + oN d 48 S = cy by simp [oN, oCr]]; exact soper48 w B t q g v S n d cy H hO hB hcy
  · rw [show cy + oN d 64 S = cy by simp [oN, oCr]]; exact soper64 w B t q g v S n d cy H hO hB hcy
  · rw [show cy + oN d 80 S = cy by simp [oN, oCr]]; exact soper80 w B t q g v S n d cy H hO hB hcy
  · rw [show cy + oN d 96 S = cy by simp [oN, oCr]]; exact soper96 w B t q g v S n d cy H hO hB hcy
  · exact soper112 w B t q g v S n d cy H hO hB hcy
  · exact soper128 w B t q g v S n d cy H hO hB hcy
  · rw [show cy + oN d 144 S = cy by simp [oN, oCr]]; exact soper144 w B t q g v S n d cy H hO hB hcy
  · rw [show cy + oN d 160 S = cy by simp [oN, oCr]]; exact soper160 w B t q g v S n d cy H hO hB hcy
  · exact soper176 w B t q g v S n d cy H hO hB hcy
  · exact soper192 w B t q g v S n d cy H hO hB hcy

end Ms
end Go.Proofs.YtlnpadekgakghaaDoor
