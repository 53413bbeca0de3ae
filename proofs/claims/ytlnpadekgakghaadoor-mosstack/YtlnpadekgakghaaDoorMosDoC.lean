/-
  What the program's step does, by what stands in its table. Conditions: the state is one that there is, few bytes were written.
-/
import Derived.Test.YtlnpadekgakghaaDoorMosDoA
namespace Go.Proofs.YtlnpadekgakghaaDoor
open Go.RowKit
namespace Ms
open Al (byte of_byte)
set_option linter.unusedVariables false

set_option maxRecDepth 100000 in
set_option maxHeartbeats 1000000 in
theorem sdo0 (w : World) (B t q g : Nat) (v : Value) (S : S14) (n : Nat) (m cy ad : Int) (cr : Bool) (H : StAt w B t q g v S ⟨0, m, cy, ad, cr⟩) (hO : Ok n S) (hn : n + 5 < 1000000000) (had : u16 ad) (hcy : 0 ≤ cy ∧ cy < 200) (hB : B ≤ w.heap.size) :
    Calls Tryd.prog 23 #[.pointer (some ⟨t, 0, none⟩)] w (SDone w B t q g v (exS 0 m ad S) ⟨0, m, cy + exN 0 cr S, ad, cr⟩ (.tuple #[])) := by
  rw [show cy + exN 0 cr S = cy by simp [exN]]
  obtain ⟨a, x, y, s, p, pc, h, b⟩ := S
  have HR0 := Lib.hid H
  have HF0 : Hid (Fr (sfoot t q g v) w w) := Lib.hid (Fr.refl _ w)
  have HL0 : Hid (Lies w v v) := Lib.hid (Lies.refl w v)
  have HB0 := Lib.hid hB
  have HO := Lib.hid hO
  have HN := Lib.hid hn
  have HAD := Lib.hid had
  have HCY := Lib.hid hcy
  change Calls _ _ _ _ (SDone w B t q g v (takeS 0 (⟨a, x, y, s, p, pc, h, b⟩ : S14) (b.m ad)) _ _)
  have hv : byte (b.m ad) := hO.b.1 ad
  obtain ⟨M1, hM⟩ : ∃ z, b.m ad = z := ⟨_, rfl⟩
  have HM := Lib.hid hM
  rw [hM] at hv ⊢
  have HV := Lib.hid hv
  obtain ⟨m0, m1⟩ := hv
  obtain ⟨ad0, ad1⟩ := had
  have hme := meth_read g
  obtain ⟨c0, c1, c2, c3, c4, c5, c6, t0, t1⟩ := sregs HR0.out
  clear c0 c1 c2 c3 c4 c5 c6 t0
  obtain ⟨t2, t3, t4, t5, t6⟩ := srow HR0.out
  clear t3 t4 t6
  clear H hO hB hn hcy hM
  go_enter Tryd.func23, Tryd.ntmps23
  go_upto_region 10 with fail
  have HRd := Lib.hid (HR0.out.fr (Fr.refl [] w).drew (by simp))
  have HFd : Hid (Fr (sfoot t q g v) w w.drew) := Lib.hid HF0.out.drew
  have HBd : Hid (B ≤ w.drew.heap.size) := HB0
  have HQ0 := Lib.hid (show Calls Tryd.prog 114 #[.pointer (some ⟨g, 0, none⟩), .int .u16 ad] w.drew (fun e w' => e = .returned (.int .u8 M1) ∧ w.drew = w') from by rw [← HM.out]; exact sread_any HRd.out ad HAD.out)
  go_still_tail 12, (by kernel_rfl)
  repeat still_step
  still_call (HQ0.out.mono fun e w' h => ⟨h.1, h.2.symm⟩)
  repeat still_step
  try refine wpStill_nil ?_
  change wpList _ _ _ _ _ w.drew
  have HR1 := HRd
  have HF1 := HFd
  have HL1 := Lib.hid HL0.out
  have HB1 := HBd
  clear HRd HFd HBd HQ0
  clear t1 t2 t5
  generalize w.drew = w1 at *
  go_wp2_with fail
  (with_reducible refine (stake0 w1 B t q g v ⟨a, x, y, s, p, pc, h, b⟩ n m cy ad cr M1 HR1.out HO.out HV.out HB1.out).mono ?_)
  intro e w2 hd
  obtain ⟨rfl, v2, hr, hf, hl⟩ := sdone_tr HF1.out HL1.out hd
  change StAt w2 B t q g v2 (takeS 0 (⟨a, x, y, s, p, pc, h, b⟩ : S14) M1) ⟨0, m, cy, ad, cr⟩ at hr
  have HR2 := Lib.hid hr
  have HF2 := Lib.hid hf
  have HL2 := Lib.hid hl
  have HB2 := Lib.hid (Nat.le_trans HB0.out hf.size)
  clear hd hr hf hl
  go_wp2
  (first | go_end0 | refine bodyPost_ret (results_none rfl _ _ _) rfl ?_)
  exact ⟨rfl, v2, HR2.out, HF2.out, HL2.out⟩

set_option maxRecDepth 100000 in
set_option maxHeartbeats 1000000 in
theorem sdo256 (w : World) (B t q g : Nat) (v : Value) (S : S14) (n : Nat) (m cy ad : Int) (cr : Bool) (H : StAt w B t q g v S ⟨256, m, cy, ad, cr⟩) (hO : Ok n S) (hn : n + 5 < 1000000000) (had : u16 ad) (hcy : 0 ≤ cy ∧ cy < 200) (hB : B ≤ w.heap.size) :
    Calls Tryd.prog 23 #[.pointer (some ⟨t, 0, none⟩)] w (SDone w B t q g v (exS 256 m ad S) ⟨256, m, cy + exN 256 cr S, ad, cr⟩ (.tuple #[])) := by
  rw [show cy + exN 256 cr S = cy by simp [exN]]
  obtain ⟨a, x, y, s, p, pc, h, b⟩ := S
  have HR0 := Lib.hid H
  have HF0 : Hid (Fr (sfoot t q g v) w w) := Lib.hid (Fr.refl _ w)
  have HL0 : Hid (Lies w v v) := Lib.hid (Lies.refl w v)
  have HB0 := Lib.hid hB
  have HO := Lib.hid hO
  have HN := Lib.hid hn
  have HAD := Lib.hid had
  have HCY := Lib.hid hcy
  change Calls _ _ _ _ (SDone w B t q g v (takeS 256 (⟨a, x, y, s, p, pc, h, b⟩ : S14) (b.m ad)) _ _)
  have hv : byte (b.m ad) := hO.b.1 ad
  obtain ⟨M1, hM⟩ : ∃ z, b.m ad = z := ⟨_, rfl⟩
  have HM := Lib.hid hM
  rw [hM] at hv ⊢
  have HV := Lib.hid hv
  obtain ⟨m0, m1⟩ := hv
  obtain ⟨ad0, ad1⟩ := had
  have hme := meth_read g
  obtain ⟨c0, c1, c2, c3, c4, c5, c6, t0, t1⟩ := sregs HR0.out
  clear c0 c1 c2 c3 c4 c5 c6 t0
  obtain ⟨t2, t3, t4, t5, t6⟩ := srow HR0.out
  clear t3 t4 t6
  clear H hO hB hn hcy hM
  go_enter Tryd.func23, Tryd.ntmps23
  go_upto_region 10 with fail
  have HRd := Lib.hid (HR0.out.fr (Fr.refl [] w).drew (by simp))
  have HFd : Hid (Fr (sfoot t q g v) w w.drew) := Lib.hid HF0.out.drew
  have HBd : Hid (B ≤ w.drew.heap.size) := HB0
  have HQ0 := Lib.hid (show Calls Tryd.prog 114 #[.pointer (some ⟨g, 0, none⟩), .int .u16 ad] w.drew (fun e w' => e = .returned (.int .u8 M1) ∧ w.drew = w') from by rw [← HM.out]; exact sread_any HRd.out ad HAD.out)
  go_still_tail 12, (by kernel_rfl)
  repeat still_step
  still_call (HQ0.out.mono fun e w' h => ⟨h.1, h.2.symm⟩)
  repeat still_step
  try refine wpStill_nil ?_
  change wpList _ _ _ _ _ w.drew
  have HR1 := HRd
  have HF1 := HFd
  have HL1 := Lib.hid HL0.out
  have HB1 := HBd
  clear HRd HFd HBd HQ0
  clear t1 t2 t5
  generalize w.drew = w1 at *
  go_wp2_with fail
  (with_reducible refine (stake256 w1 B t q g v ⟨a, x, y, s, p, pc, h, b⟩ n m cy ad cr M1 HR1.out HO.out HV.out HB1.out).mono ?_)
  intro e w2 hd
  obtain ⟨rfl, v2, hr, hf, hl⟩ := sdone_tr HF1.out HL1.out hd
  change StAt w2 B t q g v2 (takeS 256 (⟨a, x, y, s, p, pc, h, b⟩ : S14) M1) ⟨256, m, cy, ad, cr⟩ at hr
  have HR2 := Lib.hid hr
  have HF2 := Lib.hid hf
  have HL2 := Lib.hid hl
  have HB2 := Lib.hid (Nat.le_trans HB0.out hf.size)
  clear hd hr hf hl
  go_wp2
  (first | go_end0 | refine bodyPost_ret (results_none rfl _ _ _) rfl ?_)
  exact ⟨rfl, v2, HR2.out, HF2.out, HL2.out⟩

set_option maxRecDepth 100000 in
set_option maxHeartbeats 1000000 in
theorem sdo512 (w : World) (B t q g : Nat) (v : Value) (S : S14) (n : Nat) (m cy ad : Int) (cr : Bool) (H : StAt w B t q g v S ⟨512, m, cy, ad, cr⟩) (hO : Ok n S) (hn : n + 5 < 1000000000) (had : u16 ad) (hcy : 0 ≤ cy ∧ cy < 200) (hB : B ≤ w.heap.size) :
    Calls Tryd.prog 23 #[.pointer (some ⟨t, 0, none⟩)] w (SDone w B t q g v (exS 512 m ad S) ⟨512, m, cy + exN 512 cr S, ad, cr⟩ (.tuple #[])) := by
  rw [show cy + exN 512 cr S = cy by simp [exN]]
  obtain ⟨a, x, y, s, p, pc, h, b⟩ := S
  have HR0 := Lib.hid H
  have HF0 : Hid (Fr (sfoot t q g v) w w) := Lib.hid (Fr.refl _ w)
  have HL0 : Hid (Lies w v v) := Lib.hid (Lies.refl w v)
  have HB0 := Lib.hid hB
  have HO := Lib.hid hO
  have HN := Lib.hid hn
  have HAD := Lib.hid had
  have HCY := Lib.hid hcy
  change Calls _ _ _ _ (SDone w B t q g v (takeS 512 (⟨a, x, y, s, p, pc, h, b⟩ : S14) (b.m ad)) _ _)
  have hv : byte (b.m ad) := hO.b.1 ad
  obtain ⟨M1, hM⟩ : ∃ z, b.m ad = z := ⟨_, rfl⟩
  have HM := Lib.hid hM
  rw [hM] at hv ⊢
  have HV := Lib.hid hv
  obtain ⟨m0, m1⟩ := hv
  obtain ⟨ad0, ad1⟩ := had
  have hme := meth_read g
  obtain ⟨c0, c1, c2, c3, c4, c5, c6, t0, t1⟩ := sregs HR0.out
  clear c0 c1 c2 c3 c4 c5 c6 t0
  obtain ⟨t2, t3, t4, t5, t6⟩ := srow HR0.out
  clear t3 t4 t6
  clear H hO hB hn hcy hM
  go_enter Tryd.func23, Tryd.ntmps23
  go_upto_region 10 with fail
  have HRd := Lib.hid (HR0.out.fr (Fr.refl [] w).drew (by simp))
  have HFd : Hid (Fr (sfoot t q g v) w w.drew) := Lib.hid HF0.out.drew
  have HBd : Hid (B ≤ w.drew.heap.size) := HB0
  have HQ0 := Lib.hid (show Calls Tryd.prog 114 #[.pointer (some ⟨g, 0, none⟩), .int .u16 ad] w.drew (fun e w' => e = .returned (.int .u8 M1) ∧ w.drew = w') from by rw [← HM.out]; exact sread_any HRd.out ad HAD.out)
  go_still_tail 12, (by kernel_rfl)
  repeat still_step
  still_call (HQ0.out.mono fun e w' h => ⟨h.1, h.2.symm⟩)
  repeat still_step
  try refine wpStill_nil ?_
  change wpList _ _ _ _ _ w.drew
  have HR1 := HRd
  have HF1 := HFd
  have HL1 := Lib.hid HL0.out
  have HB1 := HBd
  clear HRd HFd HBd HQ0
  clear t1 t2 t5
  generalize w.drew = w1 at *
  go_wp2_with fail
  (with_reducible refine (stake512 w1 B t q g v ⟨a, x, y, s, p, pc, h, b⟩ n m cy ad cr M1 HR1.out HO.out HV.out HB1.out).mono ?_)
  intro e w2 hd
  obtain ⟨rfl, v2, hr, hf, hl⟩ := sdone_tr HF1.out HL1.out hd
  change StAt w2 B t q g v2 (takeS 512 (⟨a, x, y, s, p, pc, h, b⟩ : S14) M1) ⟨512, m, cy, ad, cr⟩ at hr
  have HR2 := Lib.hid hr
  have HF2 := Lib.hid hf
  have HL2 := Lib.hid hl
  have HB2 := Lib.hid (Nat.le_trans HB0.out hf.size)
  clear hd hr hf hl
  go_wp2
  (first | go_end0 | refine bodyPost_ret (results_none rfl _ _ _) rfl ?_)
  exact ⟨rfl, v2, HR2.out, HF2.out, HL2.out⟩

set_option maxRecDepth 100000 in
set_option maxHeartbeats 1000000 in
theorem sdo768 (w : World) (B t q g : Nat) (v : Value) (S : S14) (n : Nat) (m cy ad : Int) (cr : Bool) (H : StAt w B t q g v S ⟨768, m, cy, ad, cr⟩) (hO : Ok n S) (hn : n + 5 < 1000000000) (had : u16 ad) (hcy : 0 ≤ cy ∧ cy < 200) (hB : B ≤ w.heap.size) :
    Calls Tryd.prog 23 #[.pointer (some ⟨t, 0, none⟩)] w (SDone w B t q g v (exS 768 m ad S) ⟨768, m, cy + exN 768 cr S, ad, cr⟩ (.tuple #[])) := by
  rw [show cy + exN 768 cr S = cy by simp [exN]]
  obtain ⟨a, x, y, s, p, pc, h, b⟩ := S
  have HR0 := Lib.hid H
  have HF0 : Hid (Fr (sfoot t q g v) w w) := Lib.hid (Fr.refl _ w)
  have HL0 : Hid (Lies w v v) := Lib.hid (Lies.refl w v)
  have HB0 := Lib.hid hB
  have HO := Lib.hid hO
  have HN := Lib.hid hn
  have HAD := Lib.hid had
  have HCY := Lib.hid hcy
  change Calls _ _ _ _ (SDone w B t q g v (takeS 768 (⟨a, x, y, s, p, pc, h, b⟩ : S14) (b.m ad)) _ _)
  have hv : byte (b.m ad) := hO.b.1 ad
  obtain ⟨M1, hM⟩ : ∃ z, b.m ad = z := ⟨_, rfl⟩
  have HM := Lib.hid hM
  rw [hM] at hv ⊢
  have HV := Lib.hid hv
  obtain ⟨m0, m1⟩ := hv
  obtain ⟨ad0, ad1⟩ := had
  have hme := meth_read g
  obtain ⟨c0, c1, c2, c3, c4, c5, c6, t0, t1⟩ := sregs HR0.out
  clear c0 c1 c2 c3 c4 c5 c6 t0
  obtain ⟨t2, t3, t4, t5, t6⟩ := srow HR0.out
  clear t3 t4 t6
  clear H hO hB hn hcy hM
  go_enter Tryd.func23, Tryd.ntmps23
  go_upto_region 10 with fail
  have HRd := Lib.hid (HR0.out.fr (Fr.refl [] w).drew (by simp))
  have HFd : Hid (Fr (sfoot t q g v) w w.drew) := Lib.hid HF0.out.drew
  have HBd : Hid (B ≤ w.drew.heap.size) := HB0
  have HQ0 := Lib.hid (show Calls Tryd.prog 114 #[.pointer (some ⟨g, 0, none⟩), .int .u16 ad] w.drew (fun e w' => e = .returned (.int .u8 M1) ∧ w.drew = w') from by rw [← HM.out]; exact sread_any HRd.out ad HAD.out)
  go_still_tail 12, (by kernel_rfl)
  repeat still_step
  still_call (HQ0.out.mono fun e w' h => ⟨h.1, h.2.symm⟩)
  repeat still_step
  try refine wpStill_nil ?_
  change wpList _ _ _ _ _ w.drew
  have HR1 := HRd
  have HF1 := HFd
  have HL1 := Lib.hid HL0.out
  have HB1 := HBd
  clear HRd HFd HBd HQ0
  clear t1 t2 t5
  generalize w.drew = w1 at *
  go_wp2_with fail
  (with_reducible refine (stake768 w1 B t q g v ⟨a, x, y, s, p, pc, h, b⟩ n m cy ad cr M1 HR1.out HO.out HV.out HB1.out).mono ?_)
  intro e w2 hd
  obtain ⟨rfl, v2, hr, hf, hl⟩ := sdone_tr HF1.out HL1.out hd
  change StAt w2 B t q g v2 (takeS 768 (⟨a, x, y, s, p, pc, h, b⟩ : S14) M1) ⟨768, m, cy, ad, cr⟩ at hr
  have HR2 := Lib.hid hr
  have HF2 := Lib.hid hf
  have HL2 := Lib.hid hl
  have HB2 := Lib.hid (Nat.le_trans HB0.out hf.size)
  clear hd hr hf hl
  go_wp2
  (first | go_end0 | refine bodyPost_ret (results_none rfl _ _ _) rfl ?_)
  exact ⟨rfl, v2, HR2.out, HF2.out, HL2.out⟩

set_option maxRecDepth 100000 in
set_option maxHeartbeats 1000000 in
theorem sdo1024 (w : World) (B t q g : Nat) (v : Value) (S : S14) (n : Nat) (m cy ad : Int) (cr : Bool) (H : StAt w B t q g v S ⟨1024, m, cy, ad, cr⟩) (hO : Ok n S) (hn : n + 5 < 1000000000) (had : u16 ad) (hcy : 0 ≤ cy ∧ cy < 200) (hB : B ≤ w.heap.size) :
    Calls Tryd.prog 23 #[.pointer (some ⟨t, 0, none⟩)] w (SDone w B t q g v (exS 1024 m ad S) ⟨1024, m, cy + exN 1024 cr S, ad, cr⟩ (.tuple #[])) := by
  rw [show cy + exN 1024 cr S = cy by simp [exN]]
  obtain ⟨a, x, y, s, p, pc, h, b⟩ := S
  have HR0 := Lib.hid H
  have HF0 : Hid (Fr (sfoot t q g v) w w) := Lib.hid (Fr.refl _ w)
  have HL0 : Hid (Lies w v v) := Lib.hid (Lies.refl w v)
  have HB0 := Lib.hid hB
  have HO := Lib.hid hO
  have HN := Lib.hid hn
  have HAD := Lib.hid had
  have HCY := Lib.hid hcy
  change Calls _ _ _ _ (SDone w B t q g v (takeS 1024 (⟨a, x, y, s, p, pc, h, b⟩ : S14) (b.m ad)) _ _)
  have hv : byte (b.m ad) := hO.b.1 ad
  obtain ⟨M1, hM⟩ : ∃ z, b.m ad = z := ⟨_, rfl⟩
  have HM := Lib.hid hM
  rw [hM] at hv ⊢
  have HV := Lib.hid hv
  obtain ⟨m0, m1⟩ := hv
  obtain ⟨ad0, ad1⟩ := had
  have hme := meth_read g
  obtain ⟨c0, c1, c2, c3, c4, c5, c6, t0, t1⟩ := sregs HR0.out
  clear c0 c1 c2 c3 c4 c5 c6 t0
  obtain ⟨t2, t3, t4, t5, t6⟩ := srow HR0.out
  clear t3 t4 t6
  clear H hO hB hn hcy hM
  go_enter Tryd.func23, Tryd.ntmps23
  go_upto_region 10 with fail
  have HRd := Lib.hid (HR0.out.fr (Fr.refl [] w).drew (by simp))
  have HFd : Hid (Fr (sfoot t q g v) w w.drew) := Lib.hid HF0.out.drew
  have HBd : Hid (B ≤ w.drew.heap.size) := HB0
  have HQ0 := Lib.hid (show Calls Tryd.prog 114 #[.pointer (some ⟨g, 0, none⟩), .int .u16 ad] w.drew (fun e w' => e = .returned (.int .u8 M1) ∧ w.drew = w') from by rw [← HM.out]; exact sread_any HRd.out ad HAD.out)
  go_still_tail 12, (by kernel_rfl)
  repeat still_step
  still_call (HQ0.out.mono fun e w' h => ⟨h.1, h.2.symm⟩)
  repeat still_step
  try refine wpStill_nil ?_
  change wpList _ _ _ _ _ w.drew
  have HR1 := HRd
  have HF1 := HFd
  have HL1 := Lib.hid HL0.out
  have HB1 := HBd
  clear HRd HFd HBd HQ0
  clear t1 t2 t5
  generalize w.drew = w1 at *
  go_wp2_with fail
  (with_reducible refine (stake1024 w1 B t q g v ⟨a, x, y, s, p, pc, h, b⟩ n m cy ad cr M1 HR1.out HO.out HV.out HB1.out).mono ?_)
  intro e w2 hd
  obtain ⟨rfl, v2, hr, hf, hl⟩ := sdone_tr HF1.out HL1.out hd
  change StAt w2 B t q g v2 (takeS 1024 (⟨a, x, y, s, p, pc, h, b⟩ : S14) M1) ⟨1024, m, cy, ad, cr⟩ at hr
  have HR2 := Lib.hid hr
  have HF2 := Lib.hid hf
  have HL2 := Lib.hid hl
  have HB2 := Lib.hid (Nat.le_trans HB0.out hf.size)
  clear hd hr hf hl
  go_wp2
  (first | go_end0 | refine bodyPost_ret (results_none rfl _ _ _) rfl ?_)
  exact ⟨rfl, v2, HR2.out, HF2.out, HL2.out⟩

set_option maxRecDepth 100000 in
set_option maxHeartbeats 1000000 in
theorem sdo2304 (w : World) (B t q g : Nat) (v : Value) (S : S14) (n : Nat) (m cy ad : Int) (cr : Bool) (H : StAt w B t q g v S ⟨2304, m, cy, ad, cr⟩) (hO : Ok n S) (hn : n + 5 < 1000000000) (had : u16 ad) (hcy : 0 ≤ cy ∧ cy < 200) (hB : B ≤ w.heap.size) :
    Calls Tryd.prog 23 #[.pointer (some ⟨t, 0, none⟩)] w (SDone w B t q g v (exS 2304 m ad S) ⟨2304, m, cy + exN 2304 cr S, ad, cr⟩ (.tuple #[])) := by
  rw [show cy + exN 2304 cr S = cy by simp [exN]]
  obtain ⟨a, x, y, s, p, pc, h, b⟩ := S
  have HR0 := Lib.hid H
  have HF0 : Hid (Fr (sfoot t q g v) w w) := Lib.hid (Fr.refl _ w)
  have HL0 : Hid (Lies w v v) := Lib.hid (Lies.refl w v)
  have HB0 := Lib.hid hB
  have HO := Lib.hid hO
  have HN := Lib.hid hn
  have HAD := Lib.hid had
  have HCY := Lib.hid hcy
  change Calls _ _ _ _ (SDone w B t q g v (takeS 2304 (⟨a, x, y, s, p, pc, h, b⟩ : S14) (b.m ad)) _ _)
  have hv : byte (b.m ad) := hO.b.1 ad
  obtain ⟨M1, hM⟩ : ∃ z, b.m ad = z := ⟨_, rfl⟩
  have HM := Lib.hid hM
  rw [hM] at hv ⊢
  have HV := Lib.hid hv
  obtain ⟨m0, m1⟩ := hv
  obtain ⟨ad0, ad1⟩ := had
  have hme := meth_read g
  obtain ⟨c0, c1, c2, c3, c4, c5, c6, t0, t1⟩ := sregs HR0.out
  clear c0 c1 c2 c3 c4 c5 c6 t0
  obtain ⟨t2, t3, t4, t5, t6⟩ := srow HR0.out
  clear t3 t4 t6
  clear H hO hB hn hcy hM
  go_enter Tryd.func23, Tryd.ntmps23
  go_upto_region 10 with fail
  have HRd := Lib.hid (HR0.out.fr (Fr.refl [] w).drew (by simp))
  have HFd : Hid (Fr (sfoot t q g v) w w.drew) := Lib.hid HF0.out.drew
  have HBd : Hid (B ≤ w.drew.heap.size) := HB0
  have HQ0 := Lib.hid (show Calls Tryd.prog 114 #[.pointer (some ⟨g, 0, none⟩), .int .u16 ad] w.drew (fun e w' => e = .returned (.int .u8 M1) ∧ w.drew = w') from by rw [← HM.out]; exact sread_any HRd.out ad HAD.out)
  go_still_tail 12, (by kernel_rfl)
  repeat still_step
  still_call (HQ0.out.mono fun e w' h => ⟨h.1, h.2.symm⟩)
  repeat still_step
  try refine wpStill_nil ?_
  change wpList _ _ _ _ _ w.drew
  have HR1 := HRd
  have HF1 := HFd
  have HL1 := Lib.hid HL0.out
  have HB1 := HBd
  clear HRd HFd HBd HQ0
  clear t1 t2 t5
  generalize w.drew = w1 at *
  go_wp2_with fail
  (with_reducible refine (stake2304 w1 B t q g v ⟨a, x, y, s, p, pc, h, b⟩ n m cy ad cr M1 HR1.out HO.out HV.out HB1.out).mono ?_)
  intro e w2 hd
  obtain ⟨rfl, v2, hr, hf, hl⟩ := sdone_tr HF1.out HL1.out hd
  change StAt w2 B t q g v2 (takeS 2304 (⟨a, x, y, s, p, pc, h, b⟩ : S14) M1) ⟨2304, m, cy, ad, cr⟩ at hr
  have HR2 := Lib.hid hr
  have HF2 := Lib.hid hf
  have HL2 := Lib.hid hl
  have HB2 := Lib.hid (Nat.le_trans HB0.out hf.size)
  clear hd hr hf hl
  go_wp2
  (first | go_end0 | refine bodyPost_ret (results_none rfl _ _ _) rfl ?_)
  exact ⟨rfl, v2, HR2.out, HF2.out, HL2.out⟩

set_option maxRecDepth 100000 in
set_option maxHeartbeats 1000000 in
theorem sdo2560 (w : World) (B t q g : Nat) (v : Value) (S : S14) (n : Nat) (m cy ad : Int) (cr : Bool) (H : StAt w B t q g v S ⟨2560, m, cy, ad, cr⟩) (hO : Ok n S) (hn : n + 5 < 1000000000) (had : u16 ad) (hcy : 0 ≤ cy ∧ cy < 200) (hB : B ≤ w.heap.size) :
    Calls Tryd.prog 23 #[.pointer (some ⟨t, 0, none⟩)] w (SDone w B t q g v (exS 2560 m ad S) ⟨2560, m, cy + exN 2560 cr S, ad, cr⟩ (.tuple #[])) := by
  rw [show cy + exN 2560 cr S = cy by simp [exN]]
  obtain ⟨a, x, y, s, p, pc, h, b⟩ := S
  have HR0 := Lib.hid H
  have HF0 : Hid (Fr (sfoot t q g v) w w) := Lib.hid (Fr.refl _ w)
  have HL0 : Hid (Lies w v v) := Lib.hid (Lies.refl w v)
  have HB0 := Lib.hid hB
  have HO := Lib.hid hO
  have HN := Lib.hid hn
  have HAD := Lib.hid had
  have HCY := Lib.hid hcy
  change Calls _ _ _ _ (SDone w B t q g v (takeS 2560 (⟨a, x, y, s, p, pc, h, b⟩ : S14) (b.m ad)) _ _)
  have hv : byte (b.m ad) := hO.b.1 ad
  obtain ⟨M1, hM⟩ : ∃ z, b.m ad = z := ⟨_, rfl⟩
  have HM := Lib.hid hM
  rw [hM] at hv ⊢
  have HV := Lib.hid hv
  obtain ⟨m0, m1⟩ := hv
  obtain ⟨ad0, ad1⟩ := had
  have hme := meth_read g
  obtain ⟨c0, c1, c2, c3, c4, c5, c6, t0, t1⟩ := sregs HR0.out
  clear c0 c1 c2 c3 c4 c5 c6 t0
  obtain ⟨t2, t3, t4, t5, t6⟩ := srow HR0.out
  clear t3 t4 t6
  clear H hO hB hn hcy hM
  go_enter Tryd.func23, Tryd.ntmps23
  go_upto_region 10 with fail
  have HRd := Lib.hid (HR0.out.fr (Fr.refl [] w).drew (by simp))
  have HFd : Hid (Fr (sfoot t q g v) w w.drew) := Lib.hid HF0.out.drew
  have HBd : Hid (B ≤ w.drew.heap.size) := HB0
  have HQ0 := Lib.hid (show Calls Tryd.prog 114 #[.pointer (some ⟨g, 0, none⟩), .int .u16 ad] w.drew (fun e w' => e = .returned (.int .u8 M1) ∧ w.drew = w') from by rw [← HM.out]; exact sread_any HRd.out ad HAD.out)
  go_still_tail 12, (by kernel_rfl)
  repeat still_step
  still_call (HQ0.out.mono fun e w' h => ⟨h.1, h.2.symm⟩)
  repeat still_step
  try refine wpStill_nil ?_
  change wpList _ _ _ _ _ w.drew
  have HR1 := HRd
  have HF1 := HFd
  have HL1 := Lib.hid HL0.out
  have HB1 := HBd
  clear HRd HFd HBd HQ0
  clear t1 t2 t5
  generalize w.drew = w1 at *
  go_wp2_with fail
  (with_reducible refine (stake2560 w1 B t q g v ⟨a, x, y, s, p, pc, h, b⟩ n m cy ad cr M1 HR1.out HO.out HV.out HB1.out).mono ?_)
  intro e w2 hd
  obtain ⟨rfl, v2, hr, hf, hl⟩ := sdone_tr HF1.out HL1.out hd
  change StAt w2 B t q g v2 (takeS 2560 (⟨a, x, y, s, p, pc, h, b⟩ : S14) M1) ⟨2560, m, cy, ad, cr⟩ at hr
  have HR2 := Lib.hid hr
  have HF2 := Lib.hid hf
  have HL2 := Lib.hid hl
  have HB2 := Lib.hid (Nat.le_trans HB0.out hf.size)
  clear hd hr hf hl
  go_wp2
  (first | go_end0 | refine bodyPost_ret (results_none rfl _ _ _) rfl ?_)
  exact ⟨rfl, v2, HR2.out, HF2.out, HL2.out⟩

set_option maxRecDepth 100000 in
set_option maxHeartbeats 1000000 in
theorem sdo2816 (w : World) (B t q g : Nat) (v : Value) (S : S14) (n : Nat) (m cy ad : Int) (cr : Bool) (H : StAt w B t q g v S ⟨2816, m, cy, ad, cr⟩) (hO : Ok n S) (hn : n + 5 < 1000000000) (had : u16 ad) (hcy : 0 ≤ cy ∧ cy < 200) (hB : B ≤ w.heap.size) :
    Calls Tryd.prog 23 #[.pointer (some ⟨t, 0, none⟩)] w (SDone w B t q g v (exS 2816 m ad S) ⟨2816, m, cy + exN 2816 cr S, ad, cr⟩ (.tuple #[])) := by
  rw [show cy + exN 2816 cr S = cy by simp [exN]]
  obtain ⟨a, x, y, s, p, pc, h, b⟩ := S
  have HR0 := Lib.hid H
  have HF0 : Hid (Fr (sfoot t q g v) w w) := Lib.hid (Fr.refl _ w)
  have HL0 : Hid (Lies w v v) := Lib.hid (Lies.refl w v)
  have HB0 := Lib.hid hB
  have HO := Lib.hid hO
  have HN := Lib.hid hn
  have HAD := Lib.hid had
  have HCY := Lib.hid hcy
  change Calls _ _ _ _ (SDone w B t q g v (takeS 2816 (⟨a, x, y, s, p, pc, h, b⟩ : S14) (b.m ad)) _ _)
  have hv : byte (b.m ad) := hO.b.1 ad
  obtain ⟨M1, hM⟩ : ∃ z, b.m ad = z := ⟨_, rfl⟩
  have HM := Lib.hid hM
  rw [hM] at hv ⊢
  have HV := Lib.hid hv
  obtain ⟨m0, m1⟩ := hv
  obtain ⟨ad0, ad1⟩ := had
  have hme := meth_read g
  obtain ⟨c0, c1, c2, c3, c4, c5, c6, t0, t1⟩ := sregs HR0.out
  clear c0 c1 c2 c3 c4 c5 c6 t0
  obtain ⟨t2, t3, t4, t5, t6⟩ := srow HR0.out
  clear t3 t4 t6
  clear H hO hB hn hcy hM
  go_enter Tryd.func23, Tryd.ntmps23
  go_upto_region 10 with fail
  have HRd := Lib.hid (HR0.out.fr (Fr.refl [] w).drew (by simp))
  have HFd : Hid (Fr (sfoot t q g v) w w.drew) := Lib.hid HF0.out.drew
  have HBd : Hid (B ≤ w.drew.heap.size) := HB0
  have HQ0 := Lib.hid (show Calls Tryd.prog 114 #[.pointer (some ⟨g, 0, none⟩), .int .u16 ad] w.drew (fun e w' => e = .returned (.int .u8 M1) ∧ w.drew = w') from by rw [← HM.out]; exact sread_any HRd.out ad HAD.out)
  go_still_tail 12, (by kernel_rfl)
  repeat still_step
  still_call (HQ0.out.mono fun e w' h => ⟨h.1, h.2.symm⟩)
  repeat still_step
  try refine wpStill_nil ?_
  change wpList _ _ _ _ _ w.drew
  have HR1 := HRd
  have HF1 := HFd
  have HL1 := Lib.hid HL0.out
  have HB1 := HBd
  clear HRd HFd HBd HQ0
  clear t1 t2 t5
  generalize w.drew = w1 at *
  go_wp2_with fail
  (with_reducible refine (stake2816 w1 B t q g v ⟨a, x, y, s, p, pc, h, b⟩ n m cy ad cr M1 HR1.out HO.out HV.out HB1.out).mono ?_)
  intro e w2 hd
  obtain ⟨rfl, v2, hr, hf, hl⟩ := sdone_tr HF1.out HL1.out hd
  change StAt w2 B t q g v2 (takeS 2816 (⟨a, x, y, s, p, pc, h, b⟩ : S14) M1) ⟨2816, m, cy, ad, cr⟩ at hr
  have HR2 := Lib.hid hr
  have HF2 := Lib.hid hf
  have HL2 := Lib.hid hl
  have HB2 := Lib.hid (Nat.le_trans HB0.out hf.size)
  clear hd hr hf hl
  go_wp2
  (first | go_end0 | refine bodyPost_ret (results_none rfl _ _ _) rfl ?_)
  exact ⟨rfl, v2, HR2.out, HF2.out, HL2.out⟩

set_option maxRecDepth 100000 in
set_option maxHeartbeats 1000000 in
theorem sdo1280 (w : World) (B t q g : Nat) (v : Value) (S : S14) (n : Nat) (m cy ad : Int) (cr : Bool) (H : StAt w B t q g v S ⟨1280, m, cy, ad, cr⟩) (hO : Ok n S) (hn : n + 5 < 1000000000) (had : u16 ad) (hcy : 0 ≤ cy ∧ cy < 200) (hB : B ≤ w.heap.size) :
    Calls Tryd.prog 23 #[.pointer (some ⟨t, 0, none⟩)] w (SDone w B t q g v (exS 1280 m ad S) ⟨1280, m, cy + exN 1280 cr S, ad, cr⟩ (.tuple #[])) := by
  rw [show cy + exN 1280 cr S = cy by simp [exN]]
  obtain ⟨a, x, y, s, p, pc, h, b⟩ := S
  have HR0 := Lib.hid H
  have HF0 : Hid (Fr (sfoot t q g v) w w) := Lib.hid (Fr.refl _ w)
  have HL0 : Hid (Lies w v v) := Lib.hid (Lies.refl w v)
  have HB0 := Lib.hid hB
  have HO := Lib.hid hO
  have HN := Lib.hid hn
  have HAD := Lib.hid had
  have HCY := Lib.hid hcy
  change Calls _ _ _ _ (SDone w B t q g v (testS 1280 (⟨a, x, y, s, p, pc, h, b⟩ : S14) (b.m ad)) _ _)
  have hv : byte (b.m ad) := hO.b.1 ad
  obtain ⟨M1, hM⟩ : ∃ z, b.m ad = z := ⟨_, rfl⟩
  have HM := Lib.hid hM
  rw [hM] at hv ⊢
  have HV := Lib.hid hv
  obtain ⟨m0, m1⟩ := hv
  obtain ⟨ad0, ad1⟩ := had
  have hme := meth_read g
  obtain ⟨c0, c1, c2, c3, c4, c5, c6, t0, t1⟩ := sregs HR0.out
  clear c0 c1 c2 c3 c4 c5 c6 t0
  obtain ⟨t2, t3, t4, t5, t6⟩ := srow HR0.out
  clear t3 t4 t6
  clear H hO hB hn hcy hM
  go_enter Tryd.func23, Tryd.ntmps23
  go_upto_region 15 with fail
  have HRd := Lib.hid (HR0.out.fr (Fr.refl [] w).drew (by simp))
  have HFd : Hid (Fr (sfoot t q g v) w w.drew) := Lib.hid HF0.out.drew
  have HBd : Hid (B ≤ w.drew.heap.size) := HB0
  have HQ0 := Lib.hid (show Calls Tryd.prog 114 #[.pointer (some ⟨g, 0, none⟩), .int .u16 ad] w.drew (fun e w' => e = .returned (.int .u8 M1) ∧ w.drew = w') from by rw [← HM.out]; exact sread_any HRd.out ad HAD.out)
  go_still_tail 12, (by kernel_rfl)
  repeat still_step
  still_call (HQ0.out.mono fun e w' h => ⟨h.1, h.2.symm⟩)
  repeat still_step
  try refine wpStill_nil ?_
  change wpList _ _ _ _ _ w.drew
  have HR1 := HRd
  have HF1 := HFd
  have HL1 := Lib.hid HL0.out
  have HB1 := HBd
  clear HRd HFd HBd HQ0
  clear t1 t2 t5
  generalize w.drew = w1 at *
  go_wp2_with fail
  (with_reducible refine (stest1280 w1 B t q g v ⟨a, x, y, s, p, pc, h, b⟩ n m cy ad cr M1 HR1.out HO.out HV.out HB1.out).mono ?_)
  intro e w2 hd
  obtain ⟨rfl, v2, hr, hf, hl⟩ := sdone_tr HF1.out HL1.out hd
  change StAt w2 B t q g v2 (testS 1280 (⟨a, x, y, s, p, pc, h, b⟩ : S14) M1) ⟨1280, m, cy, ad, cr⟩ at hr
  have HR2 := Lib.hid hr
  have HF2 := Lib.hid hf
  have HL2 := Lib.hid hl
  have HB2 := Lib.hid (Nat.le_trans HB0.out hf.size)
  clear hd hr hf hl
  go_wp2
  (first | go_end0 | refine bodyPost_ret (results_none rfl _ _ _) rfl ?_)
  exact ⟨rfl, v2, HR2.out, HF2.out, HL2.out⟩

set_option maxRecDepth 100000 in
set_option maxHeartbeats 1000000 in
theorem sdo1536 (w : World) (B t q g : Nat) (v : Value) (S : S14) (n : Nat) (m cy ad : Int) (cr : Bool) (H : StAt w B t q g v S ⟨1536, m, cy, ad, cr⟩) (hO : Ok n S) (hn : n + 5 < 1000000000) (had : u16 ad) (hcy : 0 ≤ cy ∧ cy < 200) (hB : B ≤ w.heap.size) :
    Calls Tryd.prog 23 #[.pointer (some ⟨t, 0, none⟩)] w (SDone w B t q g v (exS 1536 m ad S) ⟨1536, m, cy + exN 1536 cr S, ad, cr⟩ (.tuple #[])) := by
  rw [show cy + exN 1536 cr S = cy by simp [exN]]
  obtain ⟨a, x, y, s, p, pc, h, b⟩ := S
  have HR0 := Lib.hid H
  have HF0 : Hid (Fr (sfoot t q g v) w w) := Lib.hid (Fr.refl _ w)
  have HL0 : Hid (Lies w v v) := Lib.hid (Lies.refl w v)
  have HB0 := Lib.hid hB
  have HO := Lib.hid hO
  have HN := Lib.hid hn
  have HAD := Lib.hid had
  have HCY := Lib.hid hcy
  change Calls _ _ _ _ (SDone w B t q g v (testS 1536 (⟨a, x, y, s, p, pc, h, b⟩ : S14) (b.m ad)) _ _)
  have hv : byte (b.m ad) := hO.b.1 ad
  obtain ⟨M1, hM⟩ : ∃ z, b.m ad = z := ⟨_, rfl⟩
  have HM := Lib.hid hM
  rw [hM] at hv ⊢
  have HV := Lib.hid hv
  obtain ⟨m0, m1⟩ := hv
  obtain ⟨ad0, ad1⟩ := had
  have hme := meth_read g
  obtain ⟨c0, c1, c2, c3, c4, c5, c6, t0, t1⟩ := sregs HR0.out
  clear c0 c1 c2 c3 c4 c5 c6 t0
  obtain ⟨t2, t3, t4, t5, t6⟩ := srow HR0.out
  clear t3 t4 t6
  clear H hO hB hn hcy hM
  go_enter Tryd.func23, Tryd.ntmps23
  go_upto_region 15 with fail
  have HRd := Lib.hid (HR0.out.fr (Fr.refl [] w).drew (by simp))
  have HFd : Hid (Fr (sfoot t q g v) w w.drew) := Lib.hid HF0.out.drew
  have HBd : Hid (B ≤ w.drew.heap.size) := HB0
  have HQ0 := Lib.hid (show Calls Tryd.prog 114 #[.pointer (some ⟨g, 0, none⟩), .int .u16 ad] w.drew (fun e w' => e = .returned (.int .u8 M1) ∧ w.drew = w') from by rw [← HM.out]; exact sread_any HRd.out ad HAD.out)
  go_still_tail 12, (by kernel_rfl)
  repeat still_step
  still_call (HQ0.out.mono fun e w' h => ⟨h.1, h.2.symm⟩)
  repeat still_step
  try refine wpStill_nil ?_
  change wpList _ _ _ _ _ w.drew
  have HR1 := HRd
  have HF1 := HFd
  have HL1 := Lib.hid HL0.out
  have HB1 := HBd
  clear HRd HFd HBd HQ0
  clear t1 t2 t5
  generalize w.drew = w1 at *
  go_wp2_with fail
  (with_reducible refine (stest1536 w1 B t q g v ⟨a, x, y, s, p, pc, h, b⟩ n m cy ad cr M1 HR1.out HO.out HV.out HB1.out).mono ?_)
  intro e w2 hd
  obtain ⟨rfl, v2, hr, hf, hl⟩ := sdone_tr HF1.out HL1.out hd
  change StAt w2 B t q g v2 (testS 1536 (⟨a, x, y, s, p, pc, h, b⟩ : S14) M1) ⟨1536, m, cy, ad, cr⟩ at hr
  have HR2 := Lib.hid hr
  have HF2 := Lib.hid hf
  have HL2 := Lib.hid hl
  have HB2 := Lib.hid (Nat.le_trans HB0.out hf.size)
  clear hd hr hf hl
  go_wp2
  (first | go_end0 | refine bodyPost_ret (results_none rfl _ _ _) rfl ?_)
  exact ⟨rfl, v2, HR2.out, HF2.out, HL2.out⟩

set_option maxRecDepth 100000 in
set_option maxHeartbeats 1000000 in
theorem sdo1792 (w : World) (B t q g : Nat) (v : Value) (S : S14) (n : Nat) (m cy ad : Int) (cr : Bool) (H : StAt w B t q g v S ⟨1792, m, cy, ad, cr⟩) (hO : Ok n S) (hn : n + 5 < 1000000000) (had : u16 ad) (hcy : 0 ≤ cy ∧ cy < 200) (hB : B ≤ w.heap.size) :
    Calls Tryd.prog 23 #[.pointer (some ⟨t, 0, none⟩)] w (SDone w B t q g v (exS 1792 m ad S) ⟨1792, m, cy + exN 1792 cr S, ad, cr⟩ (.tuple #[])) := by
  rw [show cy + exN 1792 cr S = cy by simp [exN]]
  obtain ⟨a, x, y, s, p, pc, h, b⟩ := S
  have HR0 := Lib.hid H
  have HF0 : Hid (Fr (sfoot t q g v) w w) := Lib.hid (Fr.refl _ w)
  have HL0 : Hid (Lies w v v) := Lib.hid (Lies.refl w v)
  have HB0 := Lib.hid hB
  have HO := Lib.hid hO
  have HN := Lib.hid hn
  have HAD := Lib.hid had
  have HCY := Lib.hid hcy
  change Calls _ _ _ _ (SDone w B t q g v (testS 1792 (⟨a, x, y, s, p, pc, h, b⟩ : S14) (b.m ad)) _ _)
  have hv : byte (b.m ad) := hO.b.1 ad
  obtain ⟨M1, hM⟩ : ∃ z, b.m ad = z := ⟨_, rfl⟩
  have HM := Lib.hid hM
  rw [hM] at hv ⊢
  have HV := Lib.hid hv
  obtain ⟨m0, m1⟩ := hv
  obtain ⟨ad0, ad1⟩ := had
  have hme := meth_read g
  obtain ⟨c0, c1, c2, c3, c4, c5, c6, t0, t1⟩ := sregs HR0.out
  clear c0 c1 c2 c3 c4 c5 c6 t0
  obtain ⟨t2, t3, t4, t5, t6⟩ := srow HR0.out
  clear t3 t4 t6
  clear H hO hB hn hcy hM
  go_enter Tryd.func23, Tryd.ntmps23
  go_upto_region 15 with fail
  have HRd := Lib.hid (HR0.out.fr (Fr.refl [] w).drew (by simp))
  have HFd : Hid (Fr (sfoot t q g v) w w.drew) := Lib.hid HF0.out.drew
  have HBd : Hid (B ≤ w.drew.heap.size) := HB0
  have HQ0 := Lib.hid (show Calls Tryd.prog 114 #[.pointer (some ⟨g, 0, none⟩), .int .u16 ad] w.drew (fun e w' => e = .returned (.int .u8 M1) ∧ w.drew = w') from by rw [← HM.out]; exact sread_any HRd.out ad HAD.out)
  go_still_tail 12, (by kernel_rfl)
  repeat still_step
  still_call (HQ0.out.mono fun e w' h => ⟨h.1, h.2.symm⟩)
  repeat still_step
  try refine wpStill_nil ?_
  change wpList _ _ _ _ _ w.drew
  have HR1 := HRd
  have HF1 := HFd
  have HL1 := Lib.hid HL0.out
  have HB1 := HBd
  clear HRd HFd HBd HQ0
  clear t1 t2 t5
  generalize w.drew = w1 at *
  go_wp2_with fail
  (with_reducible refine (stest1792 w1 B t q g v ⟨a, x, y, s, p, pc, h, b⟩ n m cy ad cr M1 HR1.out HO.out HV.out HB1.out).mono ?_)
  intro e w2 hd
  obtain ⟨rfl, v2, hr, hf, hl⟩ := sdone_tr HF1.out HL1.out hd
  change StAt w2 B t q g v2 (testS 1792 (⟨a, x, y, s, p, pc, h, b⟩ : S14) M1) ⟨1792, m, cy, ad, cr⟩ at hr
  have HR2 := Lib.hid hr
  have HF2 := Lib.hid hf
  have HL2 := Lib.hid hl
  have HB2 := Lib.hid (Nat.le_trans HB0.out hf.size)
  clear hd hr hf hl
  go_wp2
  (first | go_end0 | refine bodyPost_ret (results_none rfl _ _ _) rfl ?_)
  exact ⟨rfl, v2, HR2.out, HF2.out, HL2.out⟩

set_option maxRecDepth 100000 in
set_option maxHeartbeats 1000000 in
theorem sdo2048 (w : World) (B t q g : Nat) (v : Value) (S : S14) (n : Nat) (m cy ad : Int) (cr : Bool) (H : StAt w B t q g v S ⟨2048, m, cy, ad, cr⟩) (hO : Ok n S) (hn : n + 5 < 1000000000) (had : u16 ad) (hcy : 0 ≤ cy ∧ cy < 200) (hB : B ≤ w.heap.size) :
    Calls Tryd.prog 23 #[.pointer (some ⟨t, 0, none⟩)] w (SDone w B t q g v (exS 2048 m ad S) ⟨2048, m, cy + exN 2048 cr S, ad, cr⟩ (.tuple #[])) := by
  rw [show cy + exN 2048 cr S = cy by simp [exN]]
  obtain ⟨a, x, y, s, p, pc, h, b⟩ := S
  have HR0 := Lib.hid H
  have HF0 : Hid (Fr (sfoot t q g v) w w) := Lib.hid (Fr.refl _ w)
  have HL0 : Hid (Lies w v v) := Lib.hid (Lies.refl w v)
  have HB0 := Lib.hid hB
  have HO := Lib.hid hO
  have HN := Lib.hid hn
  have HAD := Lib.hid had
  have HCY := Lib.hid hcy
  change Calls _ _ _ _ (SDone w B t q g v (testS 2048 (⟨a, x, y, s, p, pc, h, b⟩ : S14) (b.m ad)) _ _)
  have hv : byte (b.m ad) := hO.b.1 ad
  obtain ⟨M1, hM⟩ : ∃ z, b.m ad = z := ⟨_, rfl⟩
  have HM := Lib.hid hM
  rw [hM] at hv ⊢
  have HV := Lib.hid hv
  obtain ⟨m0, m1⟩ := hv
  obtain ⟨ad0, ad1⟩ := had
  have hme := meth_read g
  obtain ⟨c0, c1, c2, c3, c4, c5, c6, t0, t1⟩ := sregs HR0.out
  clear c0 c1 c2 c3 c4 c5 c6 t0
  obtain ⟨t2, t3, t4, t5, t6⟩ := srow HR0.out
  clear t3 t4 t6
  clear H hO hB hn hcy hM
  go_enter Tryd.func23, Tryd.ntmps23
  go_upto_region 15 with fail
  have HRd := Lib.hid (HR0.out.fr (Fr.refl [] w).drew (by simp))
  have HFd : Hid (Fr (sfoot t q g v) w w.drew) := Lib.hid HF0.out.drew
  have HBd : Hid (B ≤ w.drew.heap.size) := HB0
  have HQ0 := Lib.hid (show Calls Tryd.prog 114 #[.pointer (some ⟨g, 0, none⟩), .int .u16 ad] w.drew (fun e w' => e = .returned (.int .u8 M1) ∧ w.drew = w') from by rw [← HM.out]; exact sread_any HRd.out ad HAD.out)
  go_still_tail 12, (by kernel_rfl)
  repeat still_step
  still_call (HQ0.out.mono fun e w' h => ⟨h.1, h.2.symm⟩)
  repeat still_step
  try refine wpStill_nil ?_
  change wpList _ _ _ _ _ w.drew
  have HR1 := HRd
  have HF1 := HFd
  have HL1 := Lib.hid HL0.out
  have HB1 := HBd
  clear HRd HFd HBd HQ0
  clear t1 t2 t5
  generalize w.drew = w1 at *
  go_wp2_with fail
  (with_reducible refine (stest2048 w1 B t q g v ⟨a, x, y, s, p, pc, h, b⟩ n m cy ad cr M1 HR1.out HO.out HV.out HB1.out).mono ?_)
  intro e w2 hd
  obtain ⟨rfl, v2, hr, hf, hl⟩ := sdone_tr HF1.out HL1.out hd
  change StAt w2 B t q g v2 (testS 2048 (⟨a, x, y, s, p, pc, h, b⟩ : S14) M1) ⟨2048, m, cy, ad, cr⟩ at hr
  have HR2 := Lib.hid hr
  have HF2 := Lib.hid hf
  have HL2 := Lib.hid hl
  have HB2 := Lib.hid (Nat.le_trans HB0.out hf.size)
  clear hd hr hf hl
  go_wp2
  (first | go_end0 | refine bodyPost_ret (results_none rfl _ _ _) rfl ?_)
  exact ⟨rfl, v2, HR2.out, HF2.out, HL2.out⟩

set_option maxRecDepth 100000 in
set_option maxHeartbeats 1000000 in
theorem sdo3072 (w : World) (B t q g : Nat) (v : Value) (S : S14) (n : Nat) (m cy ad : Int) (cr : Bool) (H : StAt w B t q g v S ⟨3072, m, cy, ad, cr⟩) (hO : Ok n S) (hn : n + 5 < 1000000000) (had : u16 ad) (hcy : 0 ≤ cy ∧ cy < 200) (hB : B ≤ w.heap.size) :
    Calls Tryd.prog 23 #[.pointer (some ⟨t, 0, none⟩)] w (SDone w B t q g v (exS 3072 m ad S) ⟨3072, m, cy + exN 3072 cr S, ad, cr⟩ (.tuple #[])) := by
  rw [show cy + exN 3072 cr S = cy by simp [exN]]
  obtain ⟨a, x, y, s, p, pc, h, b⟩ := S
  have HR0 := Lib.hid H
  have HF0 : Hid (Fr (sfoot t q g v) w w) := Lib.hid (Fr.refl _ w)
  have HL0 : Hid (Lies w v v) := Lib.hid (Lies.refl w v)
  have HB0 := Lib.hid hB
  have HO := Lib.hid hO
  have HN := Lib.hid hn
  have HAD := Lib.hid had
  have HCY := Lib.hid hcy
  change Calls _ _ _ _ (SDone w B t q g v ⟨a, x, y, s, p, pc, h, Io.wb b ad a⟩ _ _)
  obtain ⟨ad0, ad1⟩ := had
  obtain ⟨r0, r1⟩ : 0 ≤ a ∧ a < 256 := hO.a
  have hmw := meth_write g
  obtain ⟨c0, c1, c2, c3, c4, c5, c6, t0, t1⟩ := sregs HR0.out
  clear c1 c2 c3 c4 c5 c6
  obtain ⟨t2, t3, t4, t5, t6⟩ := srow HR0.out
  clear t3 t4 t6
  clear H hO hB hn hcy
  go_enter Tryd.func23, Tryd.ntmps23
  go_upto_region 17 with fail
  have HRd := Lib.hid (HR0.out.fr (Fr.refl [] w).drew (by simp))
  have HFd : Hid (Fr (sfoot t q g v) w w.drew) := Lib.hid HF0.out.drew
  have HBd : Hid (B ≤ w.drew.heap.size) := HB0
  go_still_tail 17, (by kernel_rfl)
  repeat still_step
  try refine wpStill_nil ?_
  change wpList _ _ _ _ _ w.drew
  have HR1 := HRd
  have HF1 := HFd
  have HL1 := Lib.hid HL0.out
  have HB1 := HBd
  clear HRd HFd HBd
  clear c0 t0 t1 t2 t5
  generalize w.drew = w1 at *
  go_wp2_with fail
  (with_reducible refine (swrite_any HR1.out n ad a HAD.out HO.out.a HO.out (by have := HN.out; omega) HB1.out).mono ?_)
  intro e w2 hd
  obtain ⟨rfl, v2, hr, hf, hl⟩ := sdone_tr HF1.out HL1.out hd
  change StAt w2 B t q g v2 ⟨a, x, y, s, p, pc, h, Io.wb b ad a⟩ ⟨3072, m, cy, ad, cr⟩ at hr
  have HR2 := Lib.hid hr
  have HF2 := Lib.hid hf
  have HL2 := Lib.hid hl
  have HB2 := Lib.hid (Nat.le_trans HB0.out hf.size)
  clear hd hr hf hl
  go_wp2
  (first | go_end0 | refine bodyPost_ret (results_none rfl _ _ _) rfl ?_)
  exact ⟨rfl, v2, HR2.out, HF2.out, HL2.out⟩

set_option maxRecDepth 100000 in
set_option maxHeartbeats 1000000 in
theorem sdo3328 (w : World) (B t q g : Nat) (v : Value) (S : S14) (n : Nat) (m cy ad : Int) (cr : Bool) (H : StAt w B t q g v S ⟨3328, m, cy, ad, cr⟩) (hO : Ok n S) (hn : n + 5 < 1000000000) (had : u16 ad) (hcy : 0 ≤ cy ∧ cy < 200) (hB : B ≤ w.heap.size) :
    Calls Tryd.prog 23 #[.pointer (some ⟨t, 0, none⟩)] w (SDone w B t q g v (exS 3328 m ad S) ⟨3328, m, cy + exN 3328 cr S, ad, cr⟩ (.tuple #[])) := by
  rw [show cy + exN 3328 cr S = cy by simp [exN]]
  obtain ⟨a, x, y, s, p, pc, h, b⟩ := S
  have HR0 := Lib.hid H
  have HF0 : Hid (Fr (sfoot t q g v) w w) := Lib.hid (Fr.refl _ w)
  have HL0 : Hid (Lies w v v) := Lib.hid (Lies.refl w v)
  have HB0 := Lib.hid hB
  have HO := Lib.hid hO
  have HN := Lib.hid hn
  have HAD := Lib.hid had
  have HCY := Lib.hid hcy
  change Calls _ _ _ _ (SDone w B t q g v ⟨a, x, y, s, p, pc, h, Io.wb b ad x⟩ _ _)
  obtain ⟨ad0, ad1⟩ := had
  obtain ⟨r0, r1⟩ : 0 ≤ x ∧ x < 256 := hO.x
  have hmw := meth_write g
  obtain ⟨c0, c1, c2, c3, c4, c5, c6, t0, t1⟩ := sregs HR0.out
  clear c0 c2 c3 c4 c5 c6
  obtain ⟨t2, t3, t4, t5, t6⟩ := srow HR0.out
  clear t3 t4 t6
  clear H hO hB hn hcy
  go_enter Tryd.func23, Tryd.ntmps23
  go_upto_region 19 with fail
  have HRd := Lib.hid (HR0.out.fr (Fr.refl [] w).drew (by simp))
  have HFd : Hid (Fr (sfoot t q g v) w w.drew) := Lib.hid HF0.out.drew
  have HBd : Hid (B ≤ w.drew.heap.size) := HB0
  go_still_tail 17, (by kernel_rfl)
  repeat still_step
  try refine wpStill_nil ?_
  change wpList _ _ _ _ _ w.drew
  have HR1 := HRd
  have HF1 := HFd
  have HL1 := Lib.hid HL0.out
  have HB1 := HBd
  clear HRd HFd HBd
  clear c1 t0 t1 t2 t5
  generalize w.drew = w1 at *
  go_wp2_with fail
  (with_reducible refine (swrite_any HR1.out n ad x HAD.out HO.out.x HO.out (by have := HN.out; omega) HB1.out).mono ?_)
  intro e w2 hd
  obtain ⟨rfl, v2, hr, hf, hl⟩ := sdone_tr HF1.out HL1.out hd
  change StAt w2 B t q g v2 ⟨a, x, y, s, p, pc, h, Io.wb b ad x⟩ ⟨3328, m, cy, ad, cr⟩ at hr
  have HR2 := Lib.hid hr
  have HF2 := Lib.hid hf
  have HL2 := Lib.hid hl
  have HB2 := Lib.hid (Nat.le_trans HB0.out hf.size)
  clear hd hr hf hl
  go_wp2
  (first | go_end0 | refine bodyPost_ret (results_none rfl _ _ _) rfl ?_)
  exact ⟨rfl, v2, HR2.out, HF2.out, HL2.out⟩

set_option maxRecDepth 100000 in
set_option maxHeartbeats 1000000 in
theorem sdo3584 (w : World) (B t q g : Nat) (v : Value) (S : S14) (n : Nat) (m cy ad : Int) (cr : Bool) (H : StAt w B t q g v S ⟨3584, m, cy, ad, cr⟩) (hO : Ok n S) (hn : n + 5 < 1000000000) (had : u16 ad) (hcy : 0 ≤ cy ∧ cy < 200) (hB : B ≤ w.heap.size) :
    Calls Tryd.prog 23 #[.pointer (some ⟨t, 0, none⟩)] w (SDone w B t q g v (exS 3584 m ad S) ⟨3584, m, cy + exN 3584 cr S, ad, cr⟩ (.tuple #[])) := by
  rw [show cy + exN 3584 cr S = cy by simp [exN]]
  obtain ⟨a, x, y, s, p, pc, h, b⟩ := S
  have HR0 := Lib.hid H
  have HF0 : Hid (Fr (sfoot t q g v) w w) := Lib.hid (Fr.refl _ w)
  have HL0 : Hid (Lies w v v) := Lib.hid (Lies.refl w v)
  have HB0 := Lib.hid hB
  have HO := Lib.hid hO
  have HN := Lib.hid hn
  have HAD := Lib.hid had
  have HCY := Lib.hid hcy
  change Calls _ _ _ _ (SDone w B t q g v ⟨a, x, y, s, p, pc, h, Io.wb b ad y⟩ _ _)
  obtain ⟨ad0, ad1⟩ := had
  obtain ⟨r0, r1⟩ : 0 ≤ y ∧ y < 256 := hO.y
  have hmw := meth_write g
  obtain ⟨c0, c1, c2, c3, c4, c5, c6, t0, t1⟩ := sregs HR0.out
  clear c0 c1 c3 c4 c5 c6
  obtain ⟨t2, t3, t4, t5, t6⟩ := srow HR0.out
  clear t3 t4 t6
  clear H hO hB hn hcy
  go_enter Tryd.func23, Tryd.ntmps23
  go_upto_region 21 with fail
  have HRd := Lib.hid (HR0.out.fr (Fr.refl [] w).drew (by simp))
  have HFd : Hid (Fr (sfoot t q g v) w w.drew) := Lib.hid HF0.out.drew
  have HBd : Hid (B ≤ w.drew.heap.size) := HB0
  go_still_tail 17, (by kernel_rfl)
  repeat still_step
  try refine wpStill_nil ?_
  change wpList _ _ _ _ _ w.drew
  have HR1 := HRd
  have HF1 := HFd
  have HL1 := Lib.hid HL0.out
  have HB1 := HBd
  clear HRd HFd HBd
  clear c2 t0 t1 t2 t5
  generalize w.drew = w1 at *
  go_wp2_with fail
  (with_reducible refine (swrite_any HR1.out n ad y HAD.out HO.out.y HO.out (by have := HN.out; omega) HB1.out).mono ?_)
  intro e w2 hd
  obtain ⟨rfl, v2, hr, hf, hl⟩ := sdone_tr HF1.out HL1.out hd
  change StAt w2 B t q g v2 ⟨a, x, y, s, p, pc, h, Io.wb b ad y⟩ ⟨3584, m, cy, ad, cr⟩ at hr
  have HR2 := Lib.hid hr
  have HF2 := Lib.hid hf
  have HL2 := Lib.hid hl
  have HB2 := Lib.hid (Nat.le_trans HB0.out hf.size)
  clear hd hr hf hl
  go_wp2
  (first | go_end0 | refine bodyPost_ret (results_none rfl _ _ _) rfl ?_)
  exact ⟨rfl, v2, HR2.out, HF2.out, HL2.out⟩

end Ms
end Go.Proofs.YtlnpadekgakghaaDoor
