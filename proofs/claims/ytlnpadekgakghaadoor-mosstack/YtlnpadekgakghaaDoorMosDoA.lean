/-
  What the program's step does: registers, tests, flags. Conditions: the state is one that there is.
-/
import Derived.Test.YtlnpadekgakghaaDoorMosWords
namespace Go.Proofs.YtlnpadekgakghaaDoor
open Go.RowKit
namespace Ms
open Al (byte of_byte)
set_option linter.unusedVariables false

set_option maxRecDepth 100000 in
set_option maxHeartbeats 1000000 in
theorem ssum_any (w : World) (B t q g : Nat) (v : Value) (S : S14) (R : Rg) (u : Int) (g1 g2 : Bool) (H : StAt w B t q g v S R) (hO : fl S.p) (hu : byte u) (hB : B ≤ w.heap.size) :
    Calls Tryd.prog 56 #[.pointer (some ⟨t, 0, none⟩), .int .u8 u, .bool g1, .bool g2] w (SDone w B t q g v (withA (withP S (setF (setF (zn S.p u) 1 g1) 64 g2)) u) R (.tuple #[])) := by
  obtain ⟨a, x, y, s, p, pc, h, b⟩ := S
  have HP : Hid (fl p) := Lib.hid hO
  have HM := Lib.hid hu
  obtain ⟨u0, u1⟩ := hu
  have HR0 := Lib.hid H
  have HF0 : Hid (Fr (sfoot t q g v) w w) := Lib.hid (Fr.refl _ w)
  have HL0 : Hid (Lies w v v) := Lib.hid (Lies.refl w v)
  have HB0 := Lib.hid hB
  obtain ⟨c0, c1, c2, c3, c4, c5, c6, t0, t1⟩ := sregs HR0.out
  clear c1 c2 c3 c4 c5 c6 t1
  clear H hO hB
  go_enter Tryd.func56, Tryd.ntmps56
  go_upto_region 0 with fail
  have HRd := Lib.hid (HR0.out.fr (Fr.refl [] w).drew (by simp))
  have HFd : Hid (Fr (sfoot t q g v) w w.drew) := Lib.hid HF0.out.drew
  have HBd : Hid (B ≤ w.drew.heap.size) := HB0
  go_region_law (go_simp; first
    | (go_at_call 55; (with_reducible refine (sresult_any w.drew B t q g v ⟨a, x, y, s, p, pc, h, b⟩ R u HRd.out HP.out HM.out HBd.out).mono ?_); intro e w1 hd; obtain ⟨rfl, v1, hr, hf, hl⟩ := sdone_tr HFd.out HL0.out hd; change StAt w1 B t q g v1 ⟨a, x, y, s, zn p u, pc, h, b⟩ R at hr; have HR1 := Lib.hid hr; have HF1 := Lib.hid hf; have HL1 := Lib.hid hl; have HB1 := Lib.hid (Nat.le_trans HB0.out hf.size); have t0x := HR1.out.st.cell 0; change _ = some (Value.pointer (some ⟨q, 0, none⟩)) at t0x; have f0x := HR1.out.frozen 0; have c0x := HR1.out.prog.regs.1; clear hd hr hf hl))
  all_goals
    have HR2 : Hid (StAt (w1.setCell ⟨q, 0, none⟩ (.int .u8 (u))) B t q g v1 ⟨u, x, y, s, zn p u, pc, h, b⟩ R) := Lib.hid (sput_a HR1.out _)
    have HF2 : Hid (Fr (sfoot t q g v) w (w1.setCell ⟨q, 0, none⟩ (.int .u8 (u)))) := Lib.hid (HF1.out.setCell (by simp [sfoot, pfoot]) _)
    have HL2 := Lib.hid HL1.out
    have HB2 : Hid (B ≤ (w1.setCell ⟨q, 0, none⟩ (.int .u8 (u))).heap.size) := Lib.hid (Nat.le_trans HB0.out HF2.out.size)
    go_upto_region 1 with fail
    generalize w1.setCell _ _ = w2 at *
    go_wp2_with fail
    (with_reducible refine (sset_any w2 B t q g v1 ⟨u, x, y, s, (zn p u), pc, h, b⟩ R 1 g1 HR2.out isF1 (fl_b (fl_zn _ _ HP.out)) HB2.out).mono ?_)
    intro e w3 hd
    obtain ⟨rfl, v3, hr, hf, hl⟩ := sdone_tr HF2.out HL2.out hd
    change StAt w3 B t q g v3 ⟨u, x, y, s, setF (zn p u) 1 g1, pc, h, b⟩ R at hr
    have HR3 := Lib.hid hr
    have HF3 := Lib.hid hf
    have HL3 := Lib.hid hl
    have HB3 := Lib.hid (Nat.le_trans HB0.out hf.size)
    clear hd hr hf hl
    go_wp2_with fail
    (with_reducible refine (sset_any w3 B t q g v3 ⟨u, x, y, s, (setF (zn p u) 1 g1), pc, h, b⟩ R 64 g2 HR3.out isF64 (fl_b (fl_setF _ _ _ isF1 (fl_zn _ _ HP.out))) HB3.out).mono ?_)
    intro e w4 hd
    obtain ⟨rfl, v4, hr, hf, hl⟩ := sdone_tr HF3.out HL3.out hd
    change StAt w4 B t q g v4 ⟨u, x, y, s, setF (setF (zn p u) 1 g1) 64 g2, pc, h, b⟩ R at hr
    have HR4 := Lib.hid hr
    have HF4 := Lib.hid hf
    have HL4 := Lib.hid hl
    have HB4 := Lib.hid (Nat.le_trans HB0.out hf.size)
    clear hd hr hf hl
    go_wp2
    (first | go_end0 | refine bodyPost_ret (results_none rfl _ _ _) rfl ?_)
    exact ⟨rfl, v4, HR4.out, HF4.out, HL4.out⟩

set_option maxRecDepth 100000 in
set_option maxHeartbeats 1000000 in
theorem scompared_any (w : World) (B t q g : Nat) (v : Value) (S : S14) (R : Rg) (g1 g2 g3 : Bool) (H : StAt w B t q g v S R) (hO : fl S.p) (hB : B ≤ w.heap.size) :
    Calls Tryd.prog 60 #[.pointer (some ⟨t, 0, none⟩), .bool g1, .bool g2, .bool g3] w (SDone w B t q g v (withP S (setF (setF (setF S.p 1 g1) 2 g2) 128 g3)) R (.tuple #[])) := by
  obtain ⟨a, x, y, s, p, pc, h, b⟩ := S
  have HP : Hid (fl p) := Lib.hid hO
  have HR0 := Lib.hid H
  have HF0 : Hid (Fr (sfoot t q g v) w w) := Lib.hid (Fr.refl _ w)
  have HL0 : Hid (Lies w v v) := Lib.hid (Lies.refl w v)
  have HB0 := Lib.hid hB
  clear H hO hB
  go_enter Tryd.func60, Tryd.ntmps60
  go_wp2_with fail
  (with_reducible refine (sset_any w B t q g v ⟨a, x, y, s, (p), pc, h, b⟩ R 1 g1 HR0.out isF1 (fl_b (HP.out)) HB0.out).mono ?_)
  intro e w1 hd
  obtain ⟨rfl, v1, hr, hf, hl⟩ := sdone_tr HF0.out HL0.out hd
  change StAt w1 B t q g v1 ⟨a, x, y, s, setF (p) 1 g1, pc, h, b⟩ R at hr
  have HR1 := Lib.hid hr
  have HF1 := Lib.hid hf
  have HL1 := Lib.hid hl
  have HB1 := Lib.hid (Nat.le_trans HB0.out hf.size)
  clear hd hr hf hl
  go_wp2_with fail
  (with_reducible refine (sset_any w1 B t q g v1 ⟨a, x, y, s, (setF (p) 1 g1), pc, h, b⟩ R 2 g2 HR1.out isF2 (fl_b (fl_setF _ _ _ isF1 (HP.out))) HB1.out).mono ?_)
  intro e w2 hd
  obtain ⟨rfl, v2, hr, hf, hl⟩ := sdone_tr HF1.out HL1.out hd
  change StAt w2 B t q g v2 ⟨a, x, y, s, setF (setF (p) 1 g1) 2 g2, pc, h, b⟩ R at hr
  have HR2 := Lib.hid hr
  have HF2 := Lib.hid hf
  have HL2 := Lib.hid hl
  have HB2 := Lib.hid (Nat.le_trans HB0.out hf.size)
  clear hd hr hf hl
  go_wp2_with fail
  (with_reducible refine (sset_any w2 B t q g v2 ⟨a, x, y, s, (setF (setF (p) 1 g1) 2 g2), pc, h, b⟩ R 128 g3 HR2.out isF128 (fl_b (fl_setF _ _ _ isF2 (fl_setF _ _ _ isF1 (HP.out)))) HB2.out).mono ?_)
  intro e w3 hd
  obtain ⟨rfl, v3, hr, hf, hl⟩ := sdone_tr HF2.out HL2.out hd
  change StAt w3 B t q g v3 ⟨a, x, y, s, setF (setF (setF (p) 1 g1) 2 g2) 128 g3, pc, h, b⟩ R at hr
  have HR3 := Lib.hid hr
  have HF3 := Lib.hid hf
  have HL3 := Lib.hid hl
  have HB3 := Lib.hid (Nat.le_trans HB0.out hf.size)
  clear hd hr hf hl
  go_wp2
  (first | go_end0 | refine bodyPost_ret (results_none rfl _ _ _) rfl ?_)
  exact ⟨rfl, v3, HR3.out, HF3.out, HL3.out⟩

set_option maxRecDepth 100000 in
set_option maxHeartbeats 1000000 in
theorem stake0 (w : World) (B t q g : Nat) (v : Value) (S : S14) (n : Nat) (md cy ad : Int) (cr : Bool) (u : Int) (H : StAt w B t q g v S ⟨0, md, cy, ad, cr⟩) (hO : Ok n S) (hu : byte u) (hB : B ≤ w.heap.size) :
    Calls Tryd.prog 39 #[.pointer (some ⟨t, 0, none⟩), .int .u8 u] w (SDone w B t q g v (takeS 0 S u) ⟨0, md, cy, ad, cr⟩ (.tuple #[])) := by
  obtain ⟨a, x, y, s, p, pc, h, b⟩ := S
  have HP : Hid (fl p) := Lib.hid hO.pf
  have HR0 := Lib.hid H
  have HF0 : Hid (Fr (sfoot t q g v) w w) := Lib.hid (Fr.refl _ w)
  have HL0 : Hid (Lies w v v) := Lib.hid (Lies.refl w v)
  have HB0 := Lib.hid hB
  change Calls _ _ _ _ (SDone w B t q g v ⟨(bits .or .u8 a u), x, y, s, (zn p (bits .or .u8 a u)), pc, h, b⟩ ⟨0, md, cy, ad, cr⟩ _)
  have HM : Hid (byte (bits .or .u8 a u)) := Lib.hid (wrap_byte _)
  obtain ⟨M1, hM⟩ : ∃ z, bits .or .u8 a u = z := ⟨_, rfl⟩
  rw [hM] at HM ⊢
  obtain ⟨m0, m1⟩ := HM.out
  obtain ⟨a0, a1⟩ : 0 ≤ a ∧ a < 256 := hO.a
  obtain ⟨u0, u1⟩ := hu
  obtain ⟨c0, c1, c2, c3, c4, c5, c6, t0, t1⟩ := sregs HR0.out
  clear c1 c2 c3 c4 c5 c6 t1
  obtain ⟨t2, t3, t4, t5, t6⟩ := srow HR0.out
  clear t3 t4 t5 t6
  clear H hO hB
  go_enter Tryd.func39, Tryd.ntmps39
  go_upto_region 2 with fail
  have HRd := Lib.hid (HR0.out.fr (Fr.refl [] w).drew (by simp))
  have HFd : Hid (Fr (sfoot t q g v) w w.drew) := Lib.hid HF0.out.drew
  have HBd : Hid (B ≤ w.drew.heap.size) := HB0
  go_region_law (go_simp; first
    | (go_at_call 55; (with_reducible refine (sresult_any w.drew B t q g v ⟨a, x, y, s, p, pc, h, b⟩ ⟨0, md, cy, ad, cr⟩ M1 HRd.out HP.out HM.out HBd.out).mono ?_); intro e w1 hd; obtain ⟨rfl, v1, hr, hf, hl⟩ := sdone_tr HFd.out HL0.out hd; change StAt w1 B t q g v1 ⟨a, x, y, s, zn p M1, pc, h, b⟩ ⟨0, md, cy, ad, cr⟩ at hr; have HR1 := Lib.hid hr; have HF1 := Lib.hid hf; have HL1 := Lib.hid hl; have HB1 := Lib.hid (Nat.le_trans HB0.out hf.size); have t0x := HR1.out.st.cell 0; change _ = some (Value.pointer (some ⟨q, 0, none⟩)) at t0x; have f0x := HR1.out.frozen 0; have c0x := HR1.out.prog.regs.1; clear hd hr hf hl))
  all_goals
    go_wp2
    (first | go_end0 | refine bodyPost_ret (results_none rfl _ _ _) rfl ?_)
    exact sdone_set _ HF1.out HL1.out (HR1.out.put 0 _ _ rfl rfl)

set_option maxRecDepth 100000 in
set_option maxHeartbeats 1000000 in
theorem stake256 (w : World) (B t q g : Nat) (v : Value) (S : S14) (n : Nat) (md cy ad : Int) (cr : Bool) (u : Int) (H : StAt w B t q g v S ⟨256, md, cy, ad, cr⟩) (hO : Ok n S) (hu : byte u) (hB : B ≤ w.heap.size) :
    Calls Tryd.prog 39 #[.pointer (some ⟨t, 0, none⟩), .int .u8 u] w (SDone w B t q g v (takeS 256 S u) ⟨256, md, cy, ad, cr⟩ (.tuple #[])) := by
  obtain ⟨a, x, y, s, p, pc, h, b⟩ := S
  have HP : Hid (fl p) := Lib.hid hO.pf
  have HR0 := Lib.hid H
  have HF0 : Hid (Fr (sfoot t q g v) w w) := Lib.hid (Fr.refl _ w)
  have HL0 : Hid (Lies w v v) := Lib.hid (Lies.refl w v)
  have HB0 := Lib.hid hB
  change Calls _ _ _ _ (SDone w B t q g v ⟨(bits .and .u8 a u), x, y, s, (zn p (bits .and .u8 a u)), pc, h, b⟩ ⟨256, md, cy, ad, cr⟩ _)
  have HM : Hid (byte (bits .and .u8 a u)) := Lib.hid (wrap_byte _)
  obtain ⟨M1, hM⟩ : ∃ z, bits .and .u8 a u = z := ⟨_, rfl⟩
  rw [hM] at HM ⊢
  obtain ⟨m0, m1⟩ := HM.out
  obtain ⟨a0, a1⟩ : 0 ≤ a ∧ a < 256 := hO.a
  obtain ⟨u0, u1⟩ := hu
  obtain ⟨c0, c1, c2, c3, c4, c5, c6, t0, t1⟩ := sregs HR0.out
  clear c1 c2 c3 c4 c5 c6 t1
  obtain ⟨t2, t3, t4, t5, t6⟩ := srow HR0.out
  clear t3 t4 t5 t6
  clear H hO hB
  go_enter Tryd.func39, Tryd.ntmps39
  go_upto_region 4 with fail
  have HRd := Lib.hid (HR0.out.fr (Fr.refl [] w).drew (by simp))
  have HFd : Hid (Fr (sfoot t q g v) w w.drew) := Lib.hid HF0.out.drew
  have HBd : Hid (B ≤ w.drew.heap.size) := HB0
  go_region_law (go_simp; first
    | (go_at_call 55; (with_reducible refine (sresult_any w.drew B t q g v ⟨a, x, y, s, p, pc, h, b⟩ ⟨256, md, cy, ad, cr⟩ M1 HRd.out HP.out HM.out HBd.out).mono ?_); intro e w1 hd; obtain ⟨rfl, v1, hr, hf, hl⟩ := sdone_tr HFd.out HL0.out hd; change StAt w1 B t q g v1 ⟨a, x, y, s, zn p M1, pc, h, b⟩ ⟨256, md, cy, ad, cr⟩ at hr; have HR1 := Lib.hid hr; have HF1 := Lib.hid hf; have HL1 := Lib.hid hl; have HB1 := Lib.hid (Nat.le_trans HB0.out hf.size); have t0x := HR1.out.st.cell 0; change _ = some (Value.pointer (some ⟨q, 0, none⟩)) at t0x; have f0x := HR1.out.frozen 0; have c0x := HR1.out.prog.regs.1; clear hd hr hf hl))
  all_goals
    go_wp2
    (first | go_end0 | refine bodyPost_ret (results_none rfl _ _ _) rfl ?_)
    exact sdone_set _ HF1.out HL1.out (HR1.out.put 0 _ _ rfl rfl)

set_option maxRecDepth 100000 in
set_option maxHeartbeats 1000000 in
theorem stake512 (w : World) (B t q g : Nat) (v : Value) (S : S14) (n : Nat) (md cy ad : Int) (cr : Bool) (u : Int) (H : StAt w B t q g v S ⟨512, md, cy, ad, cr⟩) (hO : Ok n S) (hu : byte u) (hB : B ≤ w.heap.size) :
    Calls Tryd.prog 39 #[.pointer (some ⟨t, 0, none⟩), .int .u8 u] w (SDone w B t q g v (takeS 512 S u) ⟨512, md, cy, ad, cr⟩ (.tuple #[])) := by
  obtain ⟨a, x, y, s, p, pc, h, b⟩ := S
  have HP : Hid (fl p) := Lib.hid hO.pf
  have HR0 := Lib.hid H
  have HF0 : Hid (Fr (sfoot t q g v) w w) := Lib.hid (Fr.refl _ w)
  have HL0 : Hid (Lies w v v) := Lib.hid (Lies.refl w v)
  have HB0 := Lib.hid hB
  change Calls _ _ _ _ (SDone w B t q g v ⟨(bits .xor .u8 a u), x, y, s, (zn p (bits .xor .u8 a u)), pc, h, b⟩ ⟨512, md, cy, ad, cr⟩ _)
  have HM : Hid (byte (bits .xor .u8 a u)) := Lib.hid (wrap_byte _)
  obtain ⟨M1, hM⟩ : ∃ z, bits .xor .u8 a u = z := ⟨_, rfl⟩
  rw [hM] at HM ⊢
  obtain ⟨m0, m1⟩ := HM.out
  obtain ⟨a0, a1⟩ : 0 ≤ a ∧ a < 256 := hO.a
  obtain ⟨u0, u1⟩ := hu
  obtain ⟨c0, c1, c2, c3, c4, c5, c6, t0, t1⟩ := sregs HR0.out
  clear c1 c2 c3 c4 c5 c6 t1
  obtain ⟨t2, t3, t4, t5, t6⟩ := srow HR0.out
  clear t3 t4 t5 t6
  clear H hO hB
  go_enter Tryd.func39, Tryd.ntmps39
  go_upto_region 6 with fail
  have HRd := Lib.hid (HR0.out.fr (Fr.refl [] w).drew (by simp))
  have HFd : Hid (Fr (sfoot t q g v) w w.drew) := Lib.hid HF0.out.drew
  have HBd : Hid (B ≤ w.drew.heap.size) := HB0
  go_region_law (go_simp; first
    | (go_at_call 55; (with_reducible refine (sresult_any w.drew B t q g v ⟨a, x, y, s, p, pc, h, b⟩ ⟨512, md, cy, ad, cr⟩ M1 HRd.out HP.out HM.out HBd.out).mono ?_); intro e w1 hd; obtain ⟨rfl, v1, hr, hf, hl⟩ := sdone_tr HFd.out HL0.out hd; change StAt w1 B t q g v1 ⟨a, x, y, s, zn p M1, pc, h, b⟩ ⟨512, md, cy, ad, cr⟩ at hr; have HR1 := Lib.hid hr; have HF1 := Lib.hid hf; have HL1 := Lib.hid hl; have HB1 := Lib.hid (Nat.le_trans HB0.out hf.size); have t0x := HR1.out.st.cell 0; change _ = some (Value.pointer (some ⟨q, 0, none⟩)) at t0x; have f0x := HR1.out.frozen 0; have c0x := HR1.out.prog.regs.1; clear hd hr hf hl))
  all_goals
    go_wp2
    (first | go_end0 | refine bodyPost_ret (results_none rfl _ _ _) rfl ?_)
    exact sdone_set _ HF1.out HL1.out (HR1.out.put 0 _ _ rfl rfl)

set_option maxRecDepth 100000 in
set_option maxHeartbeats 1000000 in
theorem stake768 (w : World) (B t q g : Nat) (v : Value) (S : S14) (n : Nat) (md cy ad : Int) (cr : Bool) (u : Int) (H : StAt w B t q g v S ⟨768, md, cy, ad, cr⟩) (hO : Ok n S) (hu : byte u) (hB : B ≤ w.heap.size) :
    Calls Tryd.prog 39 #[.pointer (some ⟨t, 0, none⟩), .int .u8 u] w (SDone w B t q g v (takeS 768 S u) ⟨768, md, cy, ad, cr⟩ (.tuple #[])) := by
  obtain ⟨a, x, y, s, p, pc, h, b⟩ := S
  have HP : Hid (fl p) := Lib.hid hO.pf
  have HR0 := Lib.hid H
  have HF0 : Hid (Fr (sfoot t q g v) w w) := Lib.hid (Fr.refl _ w)
  have HL0 : Hid (Lies w v v) := Lib.hid (Lies.refl w v)
  have HB0 := Lib.hid hB
  have ha := hO.a
  change Calls _ _ _ _ (SDone w B t q g v ⟨(Al.addR a u (on p 1)), x, y, s, (setF (setF (zn p (Al.addR a u (on p 1))) 1 (Al.addC a u (on p 1))) 64 (Al.addO a u (on p 1))), pc, h, b⟩ ⟨768, md, cy, ad, cr⟩ _)
  obtain ⟨cb, hcb⟩ : ∃ z, on p 1 = z := ⟨_, rfl⟩
  have HC := Lib.hid hcb
  rw [hcb]
  clear hcb
  have HA := Lib.hid (fun W => Al.add_any W a u cb ha hu)
  have HM : Hid (byte (Al.addR a u cb)) := Lib.hid (Al.addR_byte _ _ _)
  generalize Al.addR a u cb = M1 at *
  generalize Al.addC a u cb = g1 at *
  generalize Al.addO a u cb = g2 at *
  obtain ⟨a0, a1⟩ := ha
  obtain ⟨u0, u1⟩ := hu
  obtain ⟨m0, m1⟩ := HM.out
  obtain ⟨c0, c1, c2, c3, c4, c5, c6, t0, t1⟩ := sregs HR0.out
  clear c1 c2 c3 c4 c5 c6 t1
  obtain ⟨t2, t3, t4, t5, t6⟩ := srow HR0.out
  clear t3 t4 t5 t6
  clear H hO hB
  go_enter Tryd.func39, Tryd.ntmps39
  go_upto_region 8 with fail
  have HRd := Lib.hid (HR0.out.fr (Fr.refl [] w).drew (by simp))
  have HFd : Hid (Fr (sfoot t q g v) w w.drew) := Lib.hid HF0.out.drew
  have HBd : Hid (B ≤ w.drew.heap.size) := HB0
  have HQ0 := Lib.hid (show Calls Tryd.prog 58 #[.pointer (some ⟨t, 0, none⟩), .int .u8 1] w.drew (fun e w' => e = .returned (.bool cb) ∧ w.drew = w') from by rw [← HC.out]; exact shas_any HRd.out 1 isF1 (fl_b HP.out))
  have HQ1 := Lib.hid (HA.out w.drew)
  go_still_tail 15, (by kernel_rfl)
  repeat still_step
  still_call (HQ0.out.mono fun e w' h => ⟨h.1, h.2.symm⟩)
  repeat still_step
  still_call (HQ1.out.mono fun e w' h => ⟨h.1, h.2.symm⟩)
  repeat still_step
  try refine wpStill_nil ?_
  change wpList _ _ _ _ _ w.drew
  have HR1 := HRd
  have HF1 := HFd
  have HL1 := Lib.hid HL0.out
  have HB1 := HBd
  clear HRd HFd HBd HQ0 HQ1
  clear c0 t0 t2
  generalize w.drew = w1 at *
  go_wp2_with fail
  (with_reducible refine (ssum_any w1 B t q g v ⟨a, x, y, s, p, pc, h, b⟩ ⟨768, md, cy, ad, cr⟩ M1 g1 g2 HR1.out HP.out HM.out HB1.out).mono ?_)
  intro e w2 hd
  obtain ⟨rfl, v2, hr, hf, hl⟩ := sdone_tr HF1.out HL1.out hd
  change StAt w2 B t q g v2 ⟨M1, x, y, s, setF (setF (zn p M1) 1 g1) 64 g2, pc, h, b⟩ ⟨768, md, cy, ad, cr⟩ at hr
  have HR2 := Lib.hid hr
  have HF2 := Lib.hid hf
  have HL2 := Lib.hid hl
  have HB2 := Lib.hid (Nat.le_trans HB0.out hf.size)
  clear hd hr hf hl
  go_wp2
  (first | go_end0 | refine bodyPost_ret (results_none rfl _ _ _) rfl ?_)
  exact ⟨rfl, v2, HR2.out, HF2.out, HL2.out⟩

set_option maxRecDepth 100000 in
set_option maxHeartbeats 1000000 in
theorem stake1024 (w : World) (B t q g : Nat) (v : Value) (S : S14) (n : Nat) (md cy ad : Int) (cr : Bool) (u : Int) (H : StAt w B t q g v S ⟨1024, md, cy, ad, cr⟩) (hO : Ok n S) (hu : byte u) (hB : B ≤ w.heap.size) :
    Calls Tryd.prog 39 #[.pointer (some ⟨t, 0, none⟩), .int .u8 u] w (SDone w B t q g v (takeS 1024 S u) ⟨1024, md, cy, ad, cr⟩ (.tuple #[])) := by
  obtain ⟨a, x, y, s, p, pc, h, b⟩ := S
  have HP : Hid (fl p) := Lib.hid hO.pf
  have HR0 := Lib.hid H
  have HF0 : Hid (Fr (sfoot t q g v) w w) := Lib.hid (Fr.refl _ w)
  have HL0 : Hid (Lies w v v) := Lib.hid (Lies.refl w v)
  have HB0 := Lib.hid hB
  have ha := hO.a
  change Calls _ _ _ _ (SDone w B t q g v ⟨(Al.subR a u (on p 1)), x, y, s, (setF (setF (zn p (Al.subR a u (on p 1))) 1 (Al.subC a u (on p 1))) 64 (Al.subO a u (on p 1))), pc, h, b⟩ ⟨1024, md, cy, ad, cr⟩ _)
  obtain ⟨cb, hcb⟩ : ∃ z, on p 1 = z := ⟨_, rfl⟩
  have HC := Lib.hid hcb
  rw [hcb]
  clear hcb
  have HA := Lib.hid (fun W => Al.sub_any W a u cb ha hu)
  have HM : Hid (byte (Al.subR a u cb)) := Lib.hid (Al.subR_byte _ _ _)
  generalize Al.subR a u cb = M1 at *
  generalize Al.subC a u cb = g1 at *
  generalize Al.subO a u cb = g2 at *
  obtain ⟨a0, a1⟩ := ha
  obtain ⟨u0, u1⟩ := hu
  obtain ⟨m0, m1⟩ := HM.out
  obtain ⟨c0, c1, c2, c3, c4, c5, c6, t0, t1⟩ := sregs HR0.out
  clear c1 c2 c3 c4 c5 c6 t1
  obtain ⟨t2, t3, t4, t5, t6⟩ := srow HR0.out
  clear t3 t4 t5 t6
  clear H hO hB
  go_enter Tryd.func39, Tryd.ntmps39
  go_upto_region 10 with fail
  have HRd := Lib.hid (HR0.out.fr (Fr.refl [] w).drew (by simp))
  have HFd : Hid (Fr (sfoot t q g v) w w.drew) := Lib.hid HF0.out.drew
  have HBd : Hid (B ≤ w.drew.heap.size) := HB0
  have HQ0 := Lib.hid (show Calls Tryd.prog 58 #[.pointer (some ⟨t, 0, none⟩), .int .u8 1] w.drew (fun e w' => e = .returned (.bool cb) ∧ w.drew = w') from by rw [← HC.out]; exact shas_any HRd.out 1 isF1 (fl_b HP.out))
  have HQ1 := Lib.hid (HA.out w.drew)
  go_still_tail 15, (by kernel_rfl)
  repeat still_step
  still_call (HQ0.out.mono fun e w' h => ⟨h.1, h.2.symm⟩)
  repeat still_step
  still_call (HQ1.out.mono fun e w' h => ⟨h.1, h.2.symm⟩)
  repeat still_step
  try refine wpStill_nil ?_
  change wpList _ _ _ _ _ w.drew
  have HR1 := HRd
  have HF1 := HFd
  have HL1 := Lib.hid HL0.out
  have HB1 := HBd
  clear HRd HFd HBd HQ0 HQ1
  clear c0 t0 t2
  generalize w.drew = w1 at *
  go_wp2_with fail
  (with_reducible refine (ssum_any w1 B t q g v ⟨a, x, y, s, p, pc, h, b⟩ ⟨1024, md, cy, ad, cr⟩ M1 g1 g2 HR1.out HP.out HM.out HB1.out).mono ?_)
  intro e w2 hd
  obtain ⟨rfl, v2, hr, hf, hl⟩ := sdone_tr HF1.out HL1.out hd
  change StAt w2 B t q g v2 ⟨M1, x, y, s, setF (setF (zn p M1) 1 g1) 64 g2, pc, h, b⟩ ⟨1024, md, cy, ad, cr⟩ at hr
  have HR2 := Lib.hid hr
  have HF2 := Lib.hid hf
  have HL2 := Lib.hid hl
  have HB2 := Lib.hid (Nat.le_trans HB0.out hf.size)
  clear hd hr hf hl
  go_wp2
  (first | go_end0 | refine bodyPost_ret (results_none rfl _ _ _) rfl ?_)
  exact ⟨rfl, v2, HR2.out, HF2.out, HL2.out⟩

set_option maxRecDepth 100000 in
set_option maxHeartbeats 1000000 in
theorem stake2304 (w : World) (B t q g : Nat) (v : Value) (S : S14) (n : Nat) (md cy ad : Int) (cr : Bool) (u : Int) (H : StAt w B t q g v S ⟨2304, md, cy, ad, cr⟩) (hO : Ok n S) (hu : byte u) (hB : B ≤ w.heap.size) :
    Calls Tryd.prog 39 #[.pointer (some ⟨t, 0, none⟩), .int .u8 u] w (SDone w B t q g v (takeS 2304 S u) ⟨2304, md, cy, ad, cr⟩ (.tuple #[])) := by
  obtain ⟨a, x, y, s, p, pc, h, b⟩ := S
  have HP : Hid (fl p) := Lib.hid hO.pf
  have HR0 := Lib.hid H
  have HF0 : Hid (Fr (sfoot t q g v) w w) := Lib.hid (Fr.refl _ w)
  have HL0 : Hid (Lies w v v) := Lib.hid (Lies.refl w v)
  have HB0 := Lib.hid hB
  have HM := Lib.hid hu
  obtain ⟨u0, u1⟩ := hu
  obtain ⟨c0, c1, c2, c3, c4, c5, c6, t0, t1⟩ := sregs HR0.out
  clear c1 c2 c3 c4 c5 c6 t1
  obtain ⟨t2, t3, t4, t5, t6⟩ := srow HR0.out
  clear t3 t4 t5 t6
  clear H hO hB
  go_enter Tryd.func39, Tryd.ntmps39
  go_upto_region 12 with fail
  have HRd := Lib.hid (HR0.out.fr (Fr.refl [] w).drew (by simp))
  have HFd : Hid (Fr (sfoot t q g v) w w.drew) := Lib.hid HF0.out.drew
  have HBd : Hid (B ≤ w.drew.heap.size) := HB0
  go_region_law (go_simp; first
    | (go_at_call 55; (with_reducible refine (sresult_any w.drew B t q g v ⟨a, x, y, s, p, pc, h, b⟩ ⟨2304, md, cy, ad, cr⟩ u HRd.out HP.out HM.out HBd.out).mono ?_); intro e w1 hd; obtain ⟨rfl, v1, hr, hf, hl⟩ := sdone_tr HFd.out HL0.out hd; change StAt w1 B t q g v1 ⟨a, x, y, s, zn p u, pc, h, b⟩ ⟨2304, md, cy, ad, cr⟩ at hr; have HR1 := Lib.hid hr; have HF1 := Lib.hid hf; have HL1 := Lib.hid hl; have HB1 := Lib.hid (Nat.le_trans HB0.out hf.size); have t0x := HR1.out.st.cell 0; change _ = some (Value.pointer (some ⟨q, 0, none⟩)) at t0x; have f0x := HR1.out.frozen 0; have c0x := HR1.out.prog.regs.1; clear hd hr hf hl))
  all_goals
    go_wp2
    (first | go_end0 | refine bodyPost_ret (results_none rfl _ _ _) rfl ?_)
    exact sdone_set _ HF1.out HL1.out (HR1.out.put 0 _ _ rfl rfl)

set_option maxRecDepth 100000 in
set_option maxHeartbeats 1000000 in
theorem stake2560 (w : World) (B t q g : Nat) (v : Value) (S : S14) (n : Nat) (md cy ad : Int) (cr : Bool) (u : Int) (H : StAt w B t q g v S ⟨2560, md, cy, ad, cr⟩) (hO : Ok n S) (hu : byte u) (hB : B ≤ w.heap.size) :
    Calls Tryd.prog 39 #[.pointer (some ⟨t, 0, none⟩), .int .u8 u] w (SDone w B t q g v (takeS 2560 S u) ⟨2560, md, cy, ad, cr⟩ (.tuple #[])) := by
  obtain ⟨a, x, y, s, p, pc, h, b⟩ := S
  have HP : Hid (fl p) := Lib.hid hO.pf
  have HR0 := Lib.hid H
  have HF0 : Hid (Fr (sfoot t q g v) w w) := Lib.hid (Fr.refl _ w)
  have HL0 : Hid (Lies w v v) := Lib.hid (Lies.refl w v)
  have HB0 := Lib.hid hB
  have HM := Lib.hid hu
  obtain ⟨u0, u1⟩ := hu
  obtain ⟨c0, c1, c2, c3, c4, c5, c6, t0, t1⟩ := sregs HR0.out
  clear c0 c2 c3 c4 c5 c6 t1
  obtain ⟨t2, t3, t4, t5, t6⟩ := srow HR0.out
  clear t3 t4 t5 t6
  clear H hO hB
  go_enter Tryd.func39, Tryd.ntmps39
  go_upto_region 14 with fail
  have HRd := Lib.hid (HR0.out.fr (Fr.refl [] w).drew (by simp))
  have HFd : Hid (Fr (sfoot t q g v) w w.drew) := Lib.hid HF0.out.drew
  have HBd : Hid (B ≤ w.drew.heap.size) := HB0
  go_region_law (go_simp; first
    | (go_at_call 55; (with_reducible refine (sresult_any w.drew B t q g v ⟨a, x, y, s, p, pc, h, b⟩ ⟨2560, md, cy, ad, cr⟩ u HRd.out HP.out HM.out HBd.out).mono ?_); intro e w1 hd; obtain ⟨rfl, v1, hr, hf, hl⟩ := sdone_tr HFd.out HL0.out hd; change StAt w1 B t q g v1 ⟨a, x, y, s, zn p u, pc, h, b⟩ ⟨2560, md, cy, ad, cr⟩ at hr; have HR1 := Lib.hid hr; have HF1 := Lib.hid hf; have HL1 := Lib.hid hl; have HB1 := Lib.hid (Nat.le_trans HB0.out hf.size); have t0x := HR1.out.st.cell 0; change _ = some (Value.pointer (some ⟨q, 0, none⟩)) at t0x; have f1x := HR1.out.frozen 1; have c1x := HR1.out.prog.regs.2.1; clear hd hr hf hl))
  all_goals
    go_wp2
    (first | go_end0 | refine bodyPost_ret (results_none rfl _ _ _) rfl ?_)
    exact sdone_set _ HF1.out HL1.out (HR1.out.put 1 _ _ rfl rfl)

set_option maxRecDepth 100000 in
set_option maxHeartbeats 1000000 in
theorem stake2816 (w : World) (B t q g : Nat) (v : Value) (S : S14) (n : Nat) (md cy ad : Int) (cr : Bool) (u : Int) (H : StAt w B t q g v S ⟨2816, md, cy, ad, cr⟩) (hO : Ok n S) (hu : byte u) (hB : B ≤ w.heap.size) :
    Calls Tryd.prog 39 #[.pointer (some ⟨t, 0, none⟩), .int .u8 u] w (SDone w B t q g v (takeS 2816 S u) ⟨2816, md, cy, ad, cr⟩ (.tuple #[])) := by
  obtain ⟨a, x, y, s, p, pc, h, b⟩ := S
  have HP : Hid (fl p) := Lib.hid hO.pf
  have HR0 := Lib.hid H
  have HF0 : Hid (Fr (sfoot t q g v) w w) := Lib.hid (Fr.refl _ w)
  have HL0 : Hid (Lies w v v) := Lib.hid (Lies.refl w v)
  have HB0 := Lib.hid hB
  have HM := Lib.hid hu
  obtain ⟨u0, u1⟩ := hu
  obtain ⟨c0, c1, c2, c3, c4, c5, c6, t0, t1⟩ := sregs HR0.out
  clear c0 c1 c3 c4 c5 c6 t1
  obtain ⟨t2, t3, t4, t5, t6⟩ := srow HR0.out
  clear t3 t4 t5 t6
  clear H hO hB
  go_enter Tryd.func39, Tryd.ntmps39
  go_upto_region 16 with fail
  have HRd := Lib.hid (HR0.out.fr (Fr.refl [] w).drew (by simp))
  have HFd : Hid (Fr (sfoot t q g v) w w.drew) := Lib.hid HF0.out.drew
  have HBd : Hid (B ≤ w.drew.heap.size) := HB0
  go_region_law (go_simp; first
    | (go_at_call 55; (with_reducible refine (sresult_any w.drew B t q g v ⟨a, x, y, s, p, pc, h, b⟩ ⟨2816, md, cy, ad, cr⟩ u HRd.out HP.out HM.out HBd.out).mono ?_); intro e w1 hd; obtain ⟨rfl, v1, hr, hf, hl⟩ := sdone_tr HFd.out HL0.out hd; change StAt w1 B t q g v1 ⟨a, x, y, s, zn p u, pc, h, b⟩ ⟨2816, md, cy, ad, cr⟩ at hr; have HR1 := Lib.hid hr; have HF1 := Lib.hid hf; have HL1 := Lib.hid hl; have HB1 := Lib.hid (Nat.le_trans HB0.out hf.size); have t0x := HR1.out.st.cell 0; change _ = some (Value.pointer (some ⟨q, 0, none⟩)) at t0x; have f2x := HR1.out.frozen 2; have c2x := HR1.out.prog.regs.2.2.1; clear hd hr hf hl))
  all_goals
    go_wp2
    (first | go_end0 | refine bodyPost_ret (results_none rfl _ _ _) rfl ?_)
    exact sdone_set _ HF1.out HL1.out (HR1.out.put 2 _ _ rfl rfl)

set_option maxRecDepth 100000 in
set_option maxHeartbeats 1000000 in
theorem stest1280 (w : World) (B t q g : Nat) (v : Value) (S : S14) (n : Nat) (md cy ad : Int) (cr : Bool) (u : Int) (H : StAt w B t q g v S ⟨1280, md, cy, ad, cr⟩) (hO : Ok n S) (hu : byte u) (hB : B ≤ w.heap.size) :
    Calls Tryd.prog 40 #[.pointer (some ⟨t, 0, none⟩), .int .u8 u] w (SDone w B t q g v (testS 1280 S u) ⟨1280, md, cy, ad, cr⟩ (.tuple #[])) := by
  obtain ⟨a, x, y, s, p, pc, h, b⟩ := S
  have HP : Hid (fl p) := Lib.hid hO.pf
  have HR0 := Lib.hid H
  have HF0 : Hid (Fr (sfoot t q g v) w w) := Lib.hid (Fr.refl _ w)
  have HL0 : Hid (Lies w v v) := Lib.hid (Lies.refl w v)
  have HB0 := Lib.hid hB
  have ha : byte a := hO.a
  change Calls _ _ _ _ (SDone w B t q g v ⟨a, x, y, s, (setF (setF (setF p 1 (Al.cmpC a u)) 2 (Al.cmpZ a u)) 128 (Al.cmpN a u)), pc, h, b⟩ ⟨1280, md, cy, ad, cr⟩ _)
  have HA := Lib.hid (fun W => Al.compare_any W a u ha hu)
  generalize Al.cmpC a u = g1 at *
  generalize Al.cmpZ a u = g2 at *
  generalize Al.cmpN a u = g3 at *
  obtain ⟨a0, a1⟩ := ha
  obtain ⟨u0, u1⟩ := hu
  obtain ⟨c0, c1, c2, c3, c4, c5, c6, t0, t1⟩ := sregs HR0.out
  clear c1 c2 c3 c4 c5 c6 t1
  obtain ⟨t2, t3, t4, t5, t6⟩ := srow HR0.out
  clear t3 t4 t5 t6
  clear H hO hB
  go_enter Tryd.func40, Tryd.ntmps40
  go_wp2_with fail
  (with_reducible refine (HA.out w).mono ?_)
  rintro e wq ⟨rfl, rfl⟩
  go_wp2_with fail
  (with_reducible refine (scompared_any w B t q g v ⟨a, x, y, s, p, pc, h, b⟩ ⟨1280, md, cy, ad, cr⟩ g1 g2 g3 HR0.out HP.out HB0.out).mono ?_)
  intro e w1 hd
  obtain ⟨rfl, v1, hr, hf, hl⟩ := sdone_tr HF0.out HL0.out hd
  change StAt w1 B t q g v1 ⟨a, x, y, s, setF (setF (setF p 1 g1) 2 g2) 128 g3, pc, h, b⟩ ⟨1280, md, cy, ad, cr⟩ at hr
  have HR1 := Lib.hid hr
  have HF1 := Lib.hid hf
  have HL1 := Lib.hid hl
  have HB1 := Lib.hid (Nat.le_trans HB0.out hf.size)
  clear hd hr hf hl
  clear c0 t0 t2
  go_wp2
  (first | go_end0 | refine bodyPost_ret (results_none rfl _ _ _) rfl ?_)
  exact ⟨rfl, v1, HR1.out, HF1.out, HL1.out⟩

set_option maxRecDepth 100000 in
set_option maxHeartbeats 1000000 in
theorem stest1536 (w : World) (B t q g : Nat) (v : Value) (S : S14) (n : Nat) (md cy ad : Int) (cr : Bool) (u : Int) (H : StAt w B t q g v S ⟨1536, md, cy, ad, cr⟩) (hO : Ok n S) (hu : byte u) (hB : B ≤ w.heap.size) :
    Calls Tryd.prog 40 #[.pointer (some ⟨t, 0, none⟩), .int .u8 u] w (SDone w B t q g v (testS 1536 S u) ⟨1536, md, cy, ad, cr⟩ (.tuple #[])) := by
  obtain ⟨a, x, y, s, p, pc, h, b⟩ := S
  have HP : Hid (fl p) := Lib.hid hO.pf
  have HR0 := Lib.hid H
  have HF0 : Hid (Fr (sfoot t q g v) w w) := Lib.hid (Fr.refl _ w)
  have HL0 : Hid (Lies w v v) := Lib.hid (Lies.refl w v)
  have HB0 := Lib.hid hB
  have ha : byte x := hO.x
  change Calls _ _ _ _ (SDone w B t q g v ⟨a, x, y, s, (setF (setF (setF p 1 (Al.cmpC x u)) 2 (Al.cmpZ x u)) 128 (Al.cmpN x u)), pc, h, b⟩ ⟨1536, md, cy, ad, cr⟩ _)
  have HA := Lib.hid (fun W => Al.compare_any W x u ha hu)
  generalize Al.cmpC x u = g1 at *
  generalize Al.cmpZ x u = g2 at *
  generalize Al.cmpN x u = g3 at *
  obtain ⟨a0, a1⟩ := ha
  obtain ⟨u0, u1⟩ := hu
  obtain ⟨c0, c1, c2, c3, c4, c5, c6, t0, t1⟩ := sregs HR0.out
  clear c0 c2 c3 c4 c5 c6 t1
  obtain ⟨t2, t3, t4, t5, t6⟩ := srow HR0.out
  clear t3 t4 t5 t6
  clear H hO hB
  go_enter Tryd.func40, Tryd.ntmps40
  go_wp2_with fail
  (with_reducible refine (HA.out w).mono ?_)
  rintro e wq ⟨rfl, rfl⟩
  go_wp2_with fail
  (with_reducible refine (scompared_any w B t q g v ⟨a, x, y, s, p, pc, h, b⟩ ⟨1536, md, cy, ad, cr⟩ g1 g2 g3 HR0.out HP.out HB0.out).mono ?_)
  intro e w1 hd
  obtain ⟨rfl, v1, hr, hf, hl⟩ := sdone_tr HF0.out HL0.out hd
  change StAt w1 B t q g v1 ⟨a, x, y, s, setF (setF (setF p 1 g1) 2 g2) 128 g3, pc, h, b⟩ ⟨1536, md, cy, ad, cr⟩ at hr
  have HR1 := Lib.hid hr
  have HF1 := Lib.hid hf
  have HL1 := Lib.hid hl
  have HB1 := Lib.hid (Nat.le_trans HB0.out hf.size)
  clear hd hr hf hl
  clear c1 t0 t2
  go_wp2
  (first | go_end0 | refine bodyPost_ret (results_none rfl _ _ _) rfl ?_)
  exact ⟨rfl, v1, HR1.out, HF1.out, HL1.out⟩

set_option maxRecDepth 100000 in
set_option maxHeartbeats 1000000 in
theorem stest1792 (w : World) (B t q g : Nat) (v : Value) (S : S14) (n : Nat) (md cy ad : Int) (cr : Bool) (u : Int) (H : StAt w B t q g v S ⟨1792, md, cy, ad, cr⟩) (hO : Ok n S) (hu : byte u) (hB : B ≤ w.heap.size) :
    Calls Tryd.prog 40 #[.pointer (some ⟨t, 0, none⟩), .int .u8 u] w (SDone w B t q g v (testS 1792 S u) ⟨1792, md, cy, ad, cr⟩ (.tuple #[])) := by
  obtain ⟨a, x, y, s, p, pc, h, b⟩ := S
  have HP : Hid (fl p) := Lib.hid hO.pf
  have HR0 := Lib.hid H
  have HF0 : Hid (Fr (sfoot t q g v) w w) := Lib.hid (Fr.refl _ w)
  have HL0 : Hid (Lies w v v) := Lib.hid (Lies.refl w v)
  have HB0 := Lib.hid hB
  have ha : byte y := hO.y
  change Calls _ _ _ _ (SDone w B t q g v ⟨a, x, y, s, (setF (setF (setF p 1 (Al.cmpC y u)) 2 (Al.cmpZ y u)) 128 (Al.cmpN y u)), pc, h, b⟩ ⟨1792, md, cy, ad, cr⟩ _)
  have HA := Lib.hid (fun W => Al.compare_any W y u ha hu)
  generalize Al.cmpC y u = g1 at *
  generalize Al.cmpZ y u = g2 at *
  generalize Al.cmpN y u = g3 at *
  obtain ⟨a0, a1⟩ := ha
  obtain ⟨u0, u1⟩ := hu
  obtain ⟨c0, c1, c2, c3, c4, c5, c6, t0, t1⟩ := sregs HR0.out
  clear c0 c1 c3 c4 c5 c6 t1
  obtain ⟨t2, t3, t4, t5, t6⟩ := srow HR0.out
  clear t3 t4 t5 t6
  clear H hO hB
  go_enter Tryd.func40, Tryd.ntmps40
  go_wp2_with fail
  (with_reducible refine (HA.out w).mono ?_)
  rintro e wq ⟨rfl, rfl⟩
  go_wp2_with fail
  (with_reducible refine (scompared_any w B t q g v ⟨a, x, y, s, p, pc, h, b⟩ ⟨1792, md, cy, ad, cr⟩ g1 g2 g3 HR0.out HP.out HB0.out).mono ?_)
  intro e w1 hd
  obtain ⟨rfl, v1, hr, hf, hl⟩ := sdone_tr HF0.out HL0.out hd
  change StAt w1 B t q g v1 ⟨a, x, y, s, setF (setF (setF p 1 g1) 2 g2) 128 g3, pc, h, b⟩ ⟨1792, md, cy, ad, cr⟩ at hr
  have HR1 := Lib.hid hr
  have HF1 := Lib.hid hf
  have HL1 := Lib.hid hl
  have HB1 := Lib.hid (Nat.le_trans HB0.out hf.size)
  clear hd hr hf hl
  clear c2 t0 t2
  go_wp2
  (first | go_end0 | refine bodyPost_ret (results_none rfl _ _ _) rfl ?_)
  exact ⟨rfl, v1, HR1.out, HF1.out, HL1.out⟩

set_option maxRecDepth 100000 in
set_option maxHeartbeats 1000000 in
theorem stest2048 (w : World) (B t q g : Nat) (v : Value) (S : S14) (n : Nat) (md cy ad : Int) (cr : Bool) (u : Int) (H : StAt w B t q g v S ⟨2048, md, cy, ad, cr⟩) (hO : Ok n S) (hu : byte u) (hB : B ≤ w.heap.size) :
    Calls Tryd.prog 40 #[.pointer (some ⟨t, 0, none⟩), .int .u8 u] w (SDone w B t q g v (testS 2048 S u) ⟨2048, md, cy, ad, cr⟩ (.tuple #[])) := by
  obtain ⟨a, x, y, s, p, pc, h, b⟩ := S
  have HP : Hid (fl p) := Lib.hid hO.pf
  have HR0 := Lib.hid H
  have HF0 : Hid (Fr (sfoot t q g v) w w) := Lib.hid (Fr.refl _ w)
  have HL0 : Hid (Lies w v v) := Lib.hid (Lies.refl w v)
  have HB0 := Lib.hid hB
  have ha : byte a := hO.a
  change Calls _ _ _ _ (SDone w B t q g v ⟨a, x, y, s, (setF (setF (setF p 2 (Al.bitZ a u)) 128 (Al.bitN u)) 64 (Al.bitO u)), pc, h, b⟩ ⟨2048, md, cy, ad, cr⟩ _)
  have HA := Lib.hid (fun W => Al.bits_any W a u hu)
  generalize Al.bitZ a u = g1 at *
  generalize Al.bitN u = g2 at *
  generalize Al.bitO u = g3 at *
  obtain ⟨a0, a1⟩ := ha
  obtain ⟨u0, u1⟩ := hu
  obtain ⟨c0, c1, c2, c3, c4, c5, c6, t0, t1⟩ := sregs HR0.out
  clear c1 c2 c3 c4 c5 c6 t1
  obtain ⟨t2, t3, t4, t5, t6⟩ := srow HR0.out
  clear t3 t4 t5 t6
  clear H hO hB
  go_enter Tryd.func40, Tryd.ntmps40
  go_wp2_with fail
  (with_reducible refine (HA.out w).mono ?_)
  rintro e wq ⟨rfl, rfl⟩
  go_wp2_with fail
  (with_reducible refine (sset_any w B t q g v ⟨a, x, y, s, (p), pc, h, b⟩ ⟨2048, md, cy, ad, cr⟩ 2 g1 HR0.out isF2 (fl_b (HP.out)) HB0.out).mono ?_)
  intro e w1 hd
  obtain ⟨rfl, v1, hr, hf, hl⟩ := sdone_tr HF0.out HL0.out hd
  change StAt w1 B t q g v1 ⟨a, x, y, s, setF (p) 2 g1, pc, h, b⟩ ⟨2048, md, cy, ad, cr⟩ at hr
  have HR1 := Lib.hid hr
  have HF1 := Lib.hid hf
  have HL1 := Lib.hid hl
  have HB1 := Lib.hid (Nat.le_trans HB0.out hf.size)
  clear hd hr hf hl
  clear c0 t0 t2
  go_wp2_with fail
  (with_reducible refine (sset_any w1 B t q g v1 ⟨a, x, y, s, (setF (p) 2 g1), pc, h, b⟩ ⟨2048, md, cy, ad, cr⟩ 128 g2 HR1.out isF128 (fl_b (fl_setF _ _ _ isF2 (HP.out))) HB1.out).mono ?_)
  intro e w2 hd
  obtain ⟨rfl, v2, hr, hf, hl⟩ := sdone_tr HF1.out HL1.out hd
  change StAt w2 B t q g v2 ⟨a, x, y, s, setF (setF (p) 2 g1) 128 g2, pc, h, b⟩ ⟨2048, md, cy, ad, cr⟩ at hr
  have HR2 := Lib.hid hr
  have HF2 := Lib.hid hf
  have HL2 := Lib.hid hl
  have HB2 := Lib.hid (Nat.le_trans HB0.out hf.size)
  clear hd hr hf hl
  go_wp2_with fail
  (with_reducible refine (sset_any w2 B t q g v2 ⟨a, x, y, s, (setF (setF (p) 2 g1) 128 g2), pc, h, b⟩ ⟨2048, md, cy, ad, cr⟩ 64 g3 HR2.out isF64 (fl_b (fl_setF _ _ _ isF128 (fl_setF _ _ _ isF2 (HP.out)))) HB2.out).mono ?_)
  intro e w3 hd
  obtain ⟨rfl, v3, hr, hf, hl⟩ := sdone_tr HF2.out HL2.out hd
  change StAt w3 B t q g v3 ⟨a, x, y, s, setF (setF (setF (p) 2 g1) 128 g2) 64 g3, pc, h, b⟩ ⟨2048, md, cy, ad, cr⟩ at hr
  have HR3 := Lib.hid hr
  have HF3 := Lib.hid hf
  have HL3 := Lib.hid hl
  have HB3 := Lib.hid (Nat.le_trans HB0.out hf.size)
  clear hd hr hf hl
  go_wp2
  (first | go_end0 | refine bodyPost_ret (results_none rfl _ _ _) rfl ?_)
  exact ⟨rfl, v3, HR3.out, HF3.out, HL3.out⟩

set_option maxRecDepth 100000 in
set_option maxHeartbeats 1000000 in
theorem sreg5376 (w : World) (B t q g : Nat) (v : Value) (S : S14) (n : Nat) (md cy ad : Int) (cr : Bool) (H : StAt w B t q g v S ⟨5376, md, cy, ad, cr⟩) (hO : Ok n S) (hB : B ≤ w.heap.size) :
    Calls Tryd.prog 42 #[.pointer (some ⟨t, 0, none⟩)] w (SDone w B t q g v (regS 5376 S) ⟨5376, md, cy, ad, cr⟩ (.tuple #[])) := by
  obtain ⟨a, x, y, s, p, pc, h, b⟩ := S
  have HP : Hid (fl p) := Lib.hid hO.pf
  have HR0 := Lib.hid H
  have HF0 : Hid (Fr (sfoot t q g v) w w) := Lib.hid (Fr.refl _ w)
  have HL0 : Hid (Lies w v v) := Lib.hid (Lies.refl w v)
  have HB0 := Lib.hid hB
  have hf : byte x := hO.x
  change Calls _ _ _ _ (SDone w B t q g v ⟨a, ((x - 1) % 256), y, s, (zn p ((x - 1) % 256)), pc, h, b⟩ ⟨5376, md, cy, ad, cr⟩ _)
  have HM : Hid (byte ((x - 1) % 256)) := Lib.hid (mod_byte _)
  obtain ⟨M1, hM⟩ : ∃ z, (x - 1) % 256 = z := ⟨_, rfl⟩
  have wM : IntKind.u8.wrap (x - 1) = M1 := by rw [IntKind.wrap_u8]; exact hM
  rw [hM] at HM ⊢
  obtain ⟨m0, m1⟩ := HM.out
  clear hM
  obtain ⟨f0x, f1x⟩ := hf
  obtain ⟨c0, c1, c2, c3, c4, c5, c6, t0, t1⟩ := sregs HR0.out
  clear c0 c2 c3 c4 c5 c6 t1
  obtain ⟨t2, t3, t4, t5, t6⟩ := srow HR0.out
  clear t3 t4 t5 t6
  clear H hO hB
  go_enter Tryd.func42, Tryd.ntmps42
  go_upto_region 2 with fail
  have HRd := Lib.hid (HR0.out.fr (Fr.refl [] w).drew (by simp))
  have HFd : Hid (Fr (sfoot t q g v) w w.drew) := Lib.hid HF0.out.drew
  have HBd : Hid (B ≤ w.drew.heap.size) := HB0
  go_region_law (go_simp; first
    | (go_at_call 55; (with_reducible refine (sresult_any w.drew B t q g v ⟨a, x, y, s, p, pc, h, b⟩ ⟨5376, md, cy, ad, cr⟩ M1 HRd.out HP.out HM.out HBd.out).mono ?_); intro e w1 hd; obtain ⟨rfl, v1, hr, hf, hl⟩ := sdone_tr HFd.out HL0.out hd; change StAt w1 B t q g v1 ⟨a, x, y, s, zn p M1, pc, h, b⟩ ⟨5376, md, cy, ad, cr⟩ at hr; have HR1 := Lib.hid hr; have HF1 := Lib.hid hf; have HL1 := Lib.hid hl; have HB1 := Lib.hid (Nat.le_trans HB0.out hf.size); have t0x := HR1.out.st.cell 0; change _ = some (Value.pointer (some ⟨q, 0, none⟩)) at t0x; have f1x := HR1.out.frozen 1; have c1x := HR1.out.prog.regs.2.1; clear hd hr hf hl))
  all_goals
    go_wp2
    (first | go_end0 | refine bodyPost_ret (results_none rfl _ _ _) rfl ?_)
    exact sdone_set _ HF1.out HL1.out (HR1.out.put 1 _ _ rfl rfl)

set_option maxRecDepth 100000 in
set_option maxHeartbeats 1000000 in
theorem sreg5632 (w : World) (B t q g : Nat) (v : Value) (S : S14) (n : Nat) (md cy ad : Int) (cr : Bool) (H : StAt w B t q g v S ⟨5632, md, cy, ad, cr⟩) (hO : Ok n S) (hB : B ≤ w.heap.size) :
    Calls Tryd.prog 42 #[.pointer (some ⟨t, 0, none⟩)] w (SDone w B t q g v (regS 5632 S) ⟨5632, md, cy, ad, cr⟩ (.tuple #[])) := by
  obtain ⟨a, x, y, s, p, pc, h, b⟩ := S
  have HP : Hid (fl p) := Lib.hid hO.pf
  have HR0 := Lib.hid H
  have HF0 : Hid (Fr (sfoot t q g v) w w) := Lib.hid (Fr.refl _ w)
  have HL0 : Hid (Lies w v v) := Lib.hid (Lies.refl w v)
  have HB0 := Lib.hid hB
  have hf : byte y := hO.y
  change Calls _ _ _ _ (SDone w B t q g v ⟨a, x, ((y - 1) % 256), s, (zn p ((y - 1) % 256)), pc, h, b⟩ ⟨5632, md, cy, ad, cr⟩ _)
  have HM : Hid (byte ((y - 1) % 256)) := Lib.hid (mod_byte _)
  obtain ⟨M1, hM⟩ : ∃ z, (y - 1) % 256 = z := ⟨_, rfl⟩
  have wM : IntKind.u8.wrap (y - 1) = M1 := by rw [IntKind.wrap_u8]; exact hM
  rw [hM] at HM ⊢
  obtain ⟨m0, m1⟩ := HM.out
  clear hM
  obtain ⟨f0x, f1x⟩ := hf
  obtain ⟨c0, c1, c2, c3, c4, c5, c6, t0, t1⟩ := sregs HR0.out
  clear c0 c1 c3 c4 c5 c6 t1
  obtain ⟨t2, t3, t4, t5, t6⟩ := srow HR0.out
  clear t3 t4 t5 t6
  clear H hO hB
  go_enter Tryd.func42, Tryd.ntmps42
  go_upto_region 4 with fail
  have HRd := Lib.hid (HR0.out.fr (Fr.refl [] w).drew (by simp))
  have HFd : Hid (Fr (sfoot t q g v) w w.drew) := Lib.hid HF0.out.drew
  have HBd : Hid (B ≤ w.drew.heap.size) := HB0
  go_region_law (go_simp; first
    | (go_at_call 55; (with_reducible refine (sresult_any w.drew B t q g v ⟨a, x, y, s, p, pc, h, b⟩ ⟨5632, md, cy, ad, cr⟩ M1 HRd.out HP.out HM.out HBd.out).mono ?_); intro e w1 hd; obtain ⟨rfl, v1, hr, hf, hl⟩ := sdone_tr HFd.out HL0.out hd; change StAt w1 B t q g v1 ⟨a, x, y, s, zn p M1, pc, h, b⟩ ⟨5632, md, cy, ad, cr⟩ at hr; have HR1 := Lib.hid hr; have HF1 := Lib.hid hf; have HL1 := Lib.hid hl; have HB1 := Lib.hid (Nat.le_trans HB0.out hf.size); have t0x := HR1.out.st.cell 0; change _ = some (Value.pointer (some ⟨q, 0, none⟩)) at t0x; have f2x := HR1.out.frozen 2; have c2x := HR1.out.prog.regs.2.2.1; clear hd hr hf hl))
  all_goals
    go_wp2
    (first | go_end0 | refine bodyPost_ret (results_none rfl _ _ _) rfl ?_)
    exact sdone_set _ HF1.out HL1.out (HR1.out.put 2 _ _ rfl rfl)

set_option maxRecDepth 100000 in
set_option maxHeartbeats 1000000 in
theorem sreg5888 (w : World) (B t q g : Nat) (v : Value) (S : S14) (n : Nat) (md cy ad : Int) (cr : Bool) (H : StAt w B t q g v S ⟨5888, md, cy, ad, cr⟩) (hO : Ok n S) (hB : B ≤ w.heap.size) :
    Calls Tryd.prog 42 #[.pointer (some ⟨t, 0, none⟩)] w (SDone w B t q g v (regS 5888 S) ⟨5888, md, cy, ad, cr⟩ (.tuple #[])) := by
  obtain ⟨a, x, y, s, p, pc, h, b⟩ := S
  have HP : Hid (fl p) := Lib.hid hO.pf
  have HR0 := Lib.hid H
  have HF0 : Hid (Fr (sfoot t q g v) w w) := Lib.hid (Fr.refl _ w)
  have HL0 : Hid (Lies w v v) := Lib.hid (Lies.refl w v)
  have HB0 := Lib.hid hB
  have hf : byte x := hO.x
  change Calls _ _ _ _ (SDone w B t q g v ⟨a, ((x + 1) % 256), y, s, (zn p ((x + 1) % 256)), pc, h, b⟩ ⟨5888, md, cy, ad, cr⟩ _)
  have HM : Hid (byte ((x + 1) % 256)) := Lib.hid (mod_byte _)
  obtain ⟨M1, hM⟩ : ∃ z, (x + 1) % 256 = z := ⟨_, rfl⟩
  have wM : IntKind.u8.wrap (x + 1) = M1 := by rw [IntKind.wrap_u8]; exact hM
  rw [hM] at HM ⊢
  obtain ⟨m0, m1⟩ := HM.out
  clear hM
  obtain ⟨f0x, f1x⟩ := hf
  obtain ⟨c0, c1, c2, c3, c4, c5, c6, t0, t1⟩ := sregs HR0.out
  clear c0 c2 c3 c4 c5 c6 t1
  obtain ⟨t2, t3, t4, t5, t6⟩ := srow HR0.out
  clear t3 t4 t5 t6
  clear H hO hB
  go_enter Tryd.func42, Tryd.ntmps42
  go_upto_region 6 with fail
  have HRd := Lib.hid (HR0.out.fr (Fr.refl [] w).drew (by simp))
  have HFd : Hid (Fr (sfoot t q g v) w w.drew) := Lib.hid HF0.out.drew
  have HBd : Hid (B ≤ w.drew.heap.size) := HB0
  go_region_law (go_simp; first
    | (go_at_call 55; (with_reducible refine (sresult_any w.drew B t q g v ⟨a, x, y, s, p, pc, h, b⟩ ⟨5888, md, cy, ad, cr⟩ M1 HRd.out HP.out HM.out HBd.out).mono ?_); intro e w1 hd; obtain ⟨rfl, v1, hr, hf, hl⟩ := sdone_tr HFd.out HL0.out hd; change StAt w1 B t q g v1 ⟨a, x, y, s, zn p M1, pc, h, b⟩ ⟨5888, md, cy, ad, cr⟩ at hr; have HR1 := Lib.hid hr; have HF1 := Lib.hid hf; have HL1 := Lib.hid hl; have HB1 := Lib.hid (Nat.le_trans HB0.out hf.size); have t0x := HR1.out.st.cell 0; change _ = some (Value.pointer (some ⟨q, 0, none⟩)) at t0x; have f1x := HR1.out.frozen 1; have c1x := HR1.out.prog.regs.2.1; clear hd hr hf hl))
  all_goals
    go_wp2
    (first | go_end0 | refine bodyPost_ret (results_none rfl _ _ _) rfl ?_)
    exact sdone_set _ HF1.out HL1.out (HR1.out.put 1 _ _ rfl rfl)

set_option maxRecDepth 100000 in
set_option maxHeartbeats 1000000 in
theorem sreg6144 (w : World) (B t q g : Nat) (v : Value) (S : S14) (n : Nat) (md cy ad : Int) (cr : Bool) (H : StAt w B t q g v S ⟨6144, md, cy, ad, cr⟩) (hO : Ok n S) (hB : B ≤ w.heap.size) :
    Calls Tryd.prog 42 #[.pointer (some ⟨t, 0, none⟩)] w (SDone w B t q g v (regS 6144 S) ⟨6144, md, cy, ad, cr⟩ (.tuple #[])) := by
  obtain ⟨a, x, y, s, p, pc, h, b⟩ := S
  have HP : Hid (fl p) := Lib.hid hO.pf
  have HR0 := Lib.hid H
  have HF0 : Hid (Fr (sfoot t q g v) w w) := Lib.hid (Fr.refl _ w)
  have HL0 : Hid (Lies w v v) := Lib.hid (Lies.refl w v)
  have HB0 := Lib.hid hB
  have hf : byte y := hO.y
  change Calls _ _ _ _ (SDone w B t q g v ⟨a, x, ((y + 1) % 256), s, (zn p ((y + 1) % 256)), pc, h, b⟩ ⟨6144, md, cy, ad, cr⟩ _)
  have HM : Hid (byte ((y + 1) % 256)) := Lib.hid (mod_byte _)
  obtain ⟨M1, hM⟩ : ∃ z, (y + 1) % 256 = z := ⟨_, rfl⟩
  have wM : IntKind.u8.wrap (y + 1) = M1 := by rw [IntKind.wrap_u8]; exact hM
  rw [hM] at HM ⊢
  obtain ⟨m0, m1⟩ := HM.out
  clear hM
  obtain ⟨f0x, f1x⟩ := hf
  obtain ⟨c0, c1, c2, c3, c4, c5, c6, t0, t1⟩ := sregs HR0.out
  clear c0 c1 c3 c4 c5 c6 t1
  obtain ⟨t2, t3, t4, t5, t6⟩ := srow HR0.out
  clear t3 t4 t5 t6
  clear H hO hB
  go_enter Tryd.func42, Tryd.ntmps42
  go_upto_region 8 with fail
  have HRd := Lib.hid (HR0.out.fr (Fr.refl [] w).drew (by simp))
  have HFd : Hid (Fr (sfoot t q g v) w w.drew) := Lib.hid HF0.out.drew
  have HBd : Hid (B ≤ w.drew.heap.size) := HB0
  go_region_law (go_simp; first
    | (go_at_call 55; (with_reducible refine (sresult_any w.drew B t q g v ⟨a, x, y, s, p, pc, h, b⟩ ⟨6144, md, cy, ad, cr⟩ M1 HRd.out HP.out HM.out HBd.out).mono ?_); intro e w1 hd; obtain ⟨rfl, v1, hr, hf, hl⟩ := sdone_tr HFd.out HL0.out hd; change StAt w1 B t q g v1 ⟨a, x, y, s, zn p M1, pc, h, b⟩ ⟨6144, md, cy, ad, cr⟩ at hr; have HR1 := Lib.hid hr; have HF1 := Lib.hid hf; have HL1 := Lib.hid hl; have HB1 := Lib.hid (Nat.le_trans HB0.out hf.size); have t0x := HR1.out.st.cell 0; change _ = some (Value.pointer (some ⟨q, 0, none⟩)) at t0x; have f2x := HR1.out.frozen 2; have c2x := HR1.out.prog.regs.2.2.1; clear hd hr hf hl))
  all_goals
    go_wp2
    (first | go_end0 | refine bodyPost_ret (results_none rfl _ _ _) rfl ?_)
    exact sdone_set _ HF1.out HL1.out (HR1.out.put 2 _ _ rfl rfl)

set_option maxRecDepth 100000 in
set_option maxHeartbeats 1000000 in
theorem sreg6400 (w : World) (B t q g : Nat) (v : Value) (S : S14) (n : Nat) (md cy ad : Int) (cr : Bool) (H : StAt w B t q g v S ⟨6400, md, cy, ad, cr⟩) (hO : Ok n S) (hB : B ≤ w.heap.size) :
    Calls Tryd.prog 42 #[.pointer (some ⟨t, 0, none⟩)] w (SDone w B t q g v (regS 6400 S) ⟨6400, md, cy, ad, cr⟩ (.tuple #[])) := by
  obtain ⟨a, x, y, s, p, pc, h, b⟩ := S
  have HP : Hid (fl p) := Lib.hid hO.pf
  have HR0 := Lib.hid H
  have HF0 : Hid (Fr (sfoot t q g v) w w) := Lib.hid (Fr.refl _ w)
  have HL0 : Hid (Lies w v v) := Lib.hid (Lies.refl w v)
  have HB0 := Lib.hid hB
  have hf : byte a := hO.a
  have HM := Lib.hid hf
  obtain ⟨f0x, f1x⟩ := hf
  obtain ⟨c0, c1, c2, c3, c4, c5, c6, t0, t1⟩ := sregs HR0.out
  clear c2 c3 c4 c5 c6 t1
  obtain ⟨t2, t3, t4, t5, t6⟩ := srow HR0.out
  clear t3 t4 t5 t6
  clear H hO hB
  go_enter Tryd.func42, Tryd.ntmps42
  go_upto_region 10 with fail
  have HRd := Lib.hid (HR0.out.fr (Fr.refl [] w).drew (by simp))
  have HFd : Hid (Fr (sfoot t q g v) w w.drew) := Lib.hid HF0.out.drew
  have HBd : Hid (B ≤ w.drew.heap.size) := HB0
  go_region_law (go_simp; first
    | (go_at_call 55; (with_reducible refine (sresult_any w.drew B t q g v ⟨a, x, y, s, p, pc, h, b⟩ ⟨6400, md, cy, ad, cr⟩ a HRd.out HP.out HM.out HBd.out).mono ?_); intro e w1 hd; obtain ⟨rfl, v1, hr, hf, hl⟩ := sdone_tr HFd.out HL0.out hd; change StAt w1 B t q g v1 ⟨a, x, y, s, zn p a, pc, h, b⟩ ⟨6400, md, cy, ad, cr⟩ at hr; have HR1 := Lib.hid hr; have HF1 := Lib.hid hf; have HL1 := Lib.hid hl; have HB1 := Lib.hid (Nat.le_trans HB0.out hf.size); have t0x := HR1.out.st.cell 0; change _ = some (Value.pointer (some ⟨q, 0, none⟩)) at t0x; have f1x := HR1.out.frozen 1; have c1x := HR1.out.prog.regs.2.1; clear hd hr hf hl))
  all_goals
    go_wp2
    (first | go_end0 | refine bodyPost_ret (results_none rfl _ _ _) rfl ?_)
    exact sdone_set _ HF1.out HL1.out (HR1.out.put 1 _ _ rfl rfl)

set_option maxRecDepth 100000 in
set_option maxHeartbeats 1000000 in
theorem sreg6656 (w : World) (B t q g : Nat) (v : Value) (S : S14) (n : Nat) (md cy ad : Int) (cr : Bool) (H : StAt w B t q g v S ⟨6656, md, cy, ad, cr⟩) (hO : Ok n S) (hB : B ≤ w.heap.size) :
    Calls Tryd.prog 42 #[.pointer (some ⟨t, 0, none⟩)] w (SDone w B t q g v (regS 6656 S) ⟨6656, md, cy, ad, cr⟩ (.tuple #[])) := by
  obtain ⟨a, x, y, s, p, pc, h, b⟩ := S
  have HP : Hid (fl p) := Lib.hid hO.pf
  have HR0 := Lib.hid H
  have HF0 : Hid (Fr (sfoot t q g v) w w) := Lib.hid (Fr.refl _ w)
  have HL0 : Hid (Lies w v v) := Lib.hid (Lies.refl w v)
  have HB0 := Lib.hid hB
  have hf : byte a := hO.a
  have HM := Lib.hid hf
  obtain ⟨f0x, f1x⟩ := hf
  obtain ⟨c0, c1, c2, c3, c4, c5, c6, t0, t1⟩ := sregs HR0.out
  clear c1 c3 c4 c5 c6 t1
  obtain ⟨t2, t3, t4, t5, t6⟩ := srow HR0.out
  clear t3 t4 t5 t6
  clear H hO hB
  go_enter Tryd.func42, Tryd.ntmps42
  go_upto_region 12 with fail
  have HRd := Lib.hid (HR0.out.fr (Fr.refl [] w).drew (by simp))
  have HFd : Hid (Fr (sfoot t q g v) w w.drew) := Lib.hid HF0.out.drew
  have HBd : Hid (B ≤ w.drew.heap.size) := HB0
  go_region_law (go_simp; first
    | (go_at_call 55; (with_reducible refine (sresult_any w.drew B t q g v ⟨a, x, y, s, p, pc, h, b⟩ ⟨6656, md, cy, ad, cr⟩ a HRd.out HP.out HM.out HBd.out).mono ?_); intro e w1 hd; obtain ⟨rfl, v1, hr, hf, hl⟩ := sdone_tr HFd.out HL0.out hd; change StAt w1 B t q g v1 ⟨a, x, y, s, zn p a, pc, h, b⟩ ⟨6656, md, cy, ad, cr⟩ at hr; have HR1 := Lib.hid hr; have HF1 := Lib.hid hf; have HL1 := Lib.hid hl; have HB1 := Lib.hid (Nat.le_trans HB0.out hf.size); have t0x := HR1.out.st.cell 0; change _ = some (Value.pointer (some ⟨q, 0, none⟩)) at t0x; have f2x := HR1.out.frozen 2; have c2x := HR1.out.prog.regs.2.2.1; clear hd hr hf hl))
  all_goals
    go_wp2
    (first | go_end0 | refine bodyPost_ret (results_none rfl _ _ _) rfl ?_)
    exact sdone_set _ HF1.out HL1.out (HR1.out.put 2 _ _ rfl rfl)

set_option maxRecDepth 100000 in
set_option maxHeartbeats 1000000 in
theorem sreg6912 (w : World) (B t q g : Nat) (v : Value) (S : S14) (n : Nat) (md cy ad : Int) (cr : Bool) (H : StAt w B t q g v S ⟨6912, md, cy, ad, cr⟩) (hO : Ok n S) (hB : B ≤ w.heap.size) :
    Calls Tryd.prog 42 #[.pointer (some ⟨t, 0, none⟩)] w (SDone w B t q g v (regS 6912 S) ⟨6912, md, cy, ad, cr⟩ (.tuple #[])) := by
  obtain ⟨a, x, y, s, p, pc, h, b⟩ := S
  have HP : Hid (fl p) := Lib.hid hO.pf
  have HR0 := Lib.hid H
  have HF0 : Hid (Fr (sfoot t q g v) w w) := Lib.hid (Fr.refl _ w)
  have HL0 : Hid (Lies w v v) := Lib.hid (Lies.refl w v)
  have HB0 := Lib.hid hB
  have hf : byte x := hO.x
  have HM := Lib.hid hf
  obtain ⟨f0x, f1x⟩ := hf
  obtain ⟨c0, c1, c2, c3, c4, c5, c6, t0, t1⟩ := sregs HR0.out
  clear c2 c3 c4 c5 c6 t1
  obtain ⟨t2, t3, t4, t5, t6⟩ := srow HR0.out
  clear t3 t4 t5 t6
  clear H hO hB
  go_enter Tryd.func42, Tryd.ntmps42
  go_upto_region 14 with fail
  have HRd := Lib.hid (HR0.out.fr (Fr.refl [] w).drew (by simp))
  have HFd : Hid (Fr (sfoot t q g v) w w.drew) := Lib.hid HF0.out.drew
  have HBd : Hid (B ≤ w.drew.heap.size) := HB0
  go_region_law (go_simp; first
    | (go_at_call 55; (with_reducible refine (sresult_any w.drew B t q g v ⟨a, x, y, s, p, pc, h, b⟩ ⟨6912, md, cy, ad, cr⟩ x HRd.out HP.out HM.out HBd.out).mono ?_); intro e w1 hd; obtain ⟨rfl, v1, hr, hf, hl⟩ := sdone_tr HFd.out HL0.out hd; change StAt w1 B t q g v1 ⟨a, x, y, s, zn p x, pc, h, b⟩ ⟨6912, md, cy, ad, cr⟩ at hr; have HR1 := Lib.hid hr; have HF1 := Lib.hid hf; have HL1 := Lib.hid hl; have HB1 := Lib.hid (Nat.le_trans HB0.out hf.size); have t0x := HR1.out.st.cell 0; change _ = some (Value.pointer (some ⟨q, 0, none⟩)) at t0x; have f0x := HR1.out.frozen 0; have c0x := HR1.out.prog.regs.1; clear hd hr hf hl))
  all_goals
    go_wp2
    (first | go_end0 | refine bodyPost_ret (results_none rfl _ _ _) rfl ?_)
    exact sdone_set _ HF1.out HL1.out (HR1.out.put 0 _ _ rfl rfl)

set_option maxRecDepth 100000 in
set_option maxHeartbeats 1000000 in
theorem sreg7168 (w : World) (B t q g : Nat) (v : Value) (S : S14) (n : Nat) (md cy ad : Int) (cr : Bool) (H : StAt w B t q g v S ⟨7168, md, cy, ad, cr⟩) (hO : Ok n S) (hB : B ≤ w.heap.size) :
    Calls Tryd.prog 42 #[.pointer (some ⟨t, 0, none⟩)] w (SDone w B t q g v (regS 7168 S) ⟨7168, md, cy, ad, cr⟩ (.tuple #[])) := by
  obtain ⟨a, x, y, s, p, pc, h, b⟩ := S
  have HP : Hid (fl p) := Lib.hid hO.pf
  have HR0 := Lib.hid H
  have HF0 : Hid (Fr (sfoot t q g v) w w) := Lib.hid (Fr.refl _ w)
  have HL0 : Hid (Lies w v v) := Lib.hid (Lies.refl w v)
  have HB0 := Lib.hid hB
  have hf : byte y := hO.y
  have HM := Lib.hid hf
  obtain ⟨f0x, f1x⟩ := hf
  obtain ⟨c0, c1, c2, c3, c4, c5, c6, t0, t1⟩ := sregs HR0.out
  clear c1 c3 c4 c5 c6 t1
  obtain ⟨t2, t3, t4, t5, t6⟩ := srow HR0.out
  clear t3 t4 t5 t6
  clear H hO hB
  go_enter Tryd.func42, Tryd.ntmps42
  go_upto_region 16 with fail
  have HRd := Lib.hid (HR0.out.fr (Fr.refl [] w).drew (by simp))
  have HFd : Hid (Fr (sfoot t q g v) w w.drew) := Lib.hid HF0.out.drew
  have HBd : Hid (B ≤ w.drew.heap.size) := HB0
  go_region_law (go_simp; first
    | (go_at_call 55; (with_reducible refine (sresult_any w.drew B t q g v ⟨a, x, y, s, p, pc, h, b⟩ ⟨7168, md, cy, ad, cr⟩ y HRd.out HP.out HM.out HBd.out).mono ?_); intro e w1 hd; obtain ⟨rfl, v1, hr, hf, hl⟩ := sdone_tr HFd.out HL0.out hd; change StAt w1 B t q g v1 ⟨a, x, y, s, zn p y, pc, h, b⟩ ⟨7168, md, cy, ad, cr⟩ at hr; have HR1 := Lib.hid hr; have HF1 := Lib.hid hf; have HL1 := Lib.hid hl; have HB1 := Lib.hid (Nat.le_trans HB0.out hf.size); have t0x := HR1.out.st.cell 0; change _ = some (Value.pointer (some ⟨q, 0, none⟩)) at t0x; have f0x := HR1.out.frozen 0; have c0x := HR1.out.prog.regs.1; clear hd hr hf hl))
  all_goals
    go_wp2
    (first | go_end0 | refine bodyPost_ret (results_none rfl _ _ _) rfl ?_)
    exact sdone_set _ HF1.out HL1.out (HR1.out.put 0 _ _ rfl rfl)

set_option maxRecDepth 100000 in
set_option maxHeartbeats 1000000 in
theorem sreg7424 (w : World) (B t q g : Nat) (v : Value) (S : S14) (n : Nat) (md cy ad : Int) (cr : Bool) (H : StAt w B t q g v S ⟨7424, md, cy, ad, cr⟩) (hO : Ok n S) (hB : B ≤ w.heap.size) :
    Calls Tryd.prog 42 #[.pointer (some ⟨t, 0, none⟩)] w (SDone w B t q g v (regS 7424 S) ⟨7424, md, cy, ad, cr⟩ (.tuple #[])) := by
  obtain ⟨a, x, y, s, p, pc, h, b⟩ := S
  have HP : Hid (fl p) := Lib.hid hO.pf
  have HR0 := Lib.hid H
  have HF0 : Hid (Fr (sfoot t q g v) w w) := Lib.hid (Fr.refl _ w)
  have HL0 : Hid (Lies w v v) := Lib.hid (Lies.refl w v)
  have HB0 := Lib.hid hB
  have hf : byte s := hO.s
  have HM := Lib.hid hf
  obtain ⟨f0x, f1x⟩ := hf
  obtain ⟨c0, c1, c2, c3, c4, c5, c6, t0, t1⟩ := sregs HR0.out
  clear c0 c2 c4 c5 c6 t1
  obtain ⟨t2, t3, t4, t5, t6⟩ := srow HR0.out
  clear t3 t4 t5 t6
  clear H hO hB
  go_enter Tryd.func42, Tryd.ntmps42
  go_upto_region 18 with fail
  have HRd := Lib.hid (HR0.out.fr (Fr.refl [] w).drew (by simp))
  have HFd : Hid (Fr (sfoot t q g v) w w.drew) := Lib.hid HF0.out.drew
  have HBd : Hid (B ≤ w.drew.heap.size) := HB0
  go_region_law (go_simp; first
    | (go_at_call 55; (with_reducible refine (sresult_any w.drew B t q g v ⟨a, x, y, s, p, pc, h, b⟩ ⟨7424, md, cy, ad, cr⟩ s HRd.out HP.out HM.out HBd.out).mono ?_); intro e w1 hd; obtain ⟨rfl, v1, hr, hf, hl⟩ := sdone_tr HFd.out HL0.out hd; change StAt w1 B t q g v1 ⟨a, x, y, s, zn p s, pc, h, b⟩ ⟨7424, md, cy, ad, cr⟩ at hr; have HR1 := Lib.hid hr; have HF1 := Lib.hid hf; have HL1 := Lib.hid hl; have HB1 := Lib.hid (Nat.le_trans HB0.out hf.size); have t0x := HR1.out.st.cell 0; change _ = some (Value.pointer (some ⟨q, 0, none⟩)) at t0x; have f1x := HR1.out.frozen 1; have c1x := HR1.out.prog.regs.2.1; clear hd hr hf hl))
  all_goals
    go_wp2
    (first | go_end0 | refine bodyPost_ret (results_none rfl _ _ _) rfl ?_)
    exact sdone_set _ HF1.out HL1.out (HR1.out.put 1 _ _ rfl rfl)

set_option maxRecDepth 100000 in
set_option maxHeartbeats 1000000 in
theorem sreg7680 (w : World) (B t q g : Nat) (v : Value) (S : S14) (n : Nat) (md cy ad : Int) (cr : Bool) (H : StAt w B t q g v S ⟨7680, md, cy, ad, cr⟩) (hO : Ok n S) (hB : B ≤ w.heap.size) :
    Calls Tryd.prog 42 #[.pointer (some ⟨t, 0, none⟩)] w (SDone w B t q g v (regS 7680 S) ⟨7680, md, cy, ad, cr⟩ (.tuple #[])) := by
  obtain ⟨a, x, y, s, p, pc, h, b⟩ := S
  have HP : Hid (fl p) := Lib.hid hO.pf
  have HR0 := Lib.hid H
  have HF0 : Hid (Fr (sfoot t q g v) w w) := Lib.hid (Fr.refl _ w)
  have HL0 : Hid (Lies w v v) := Lib.hid (Lies.refl w v)
  have HB0 := Lib.hid hB
  have hf : byte x := hO.x
  have HM := Lib.hid hf
  obtain ⟨f0x, f1x⟩ := hf
  obtain ⟨c0, c1, c2, c3, c4, c5, c6, t0, t1⟩ := sregs HR0.out
  clear c0 c2 c4 c5 c6 t1
  obtain ⟨t2, t3, t4, t5, t6⟩ := srow HR0.out
  clear t3 t4 t5 t6
  have f3 := HR0.out.frozen 3
  clear H hO hB
  go_enter Tryd.func42, Tryd.ntmps42
  go_upto_region 20 with fail
  have HRd := Lib.hid (HR0.out.fr (Fr.refl [] w).drew (by simp))
  have HFd : Hid (Fr (sfoot t q g v) w w.drew) := Lib.hid HF0.out.drew
  have HBd : Hid (B ≤ w.drew.heap.size) := HB0
  go_still_tail 13, (by kernel_rfl)
  repeat still_step
  try refine wpStill_nil ?_
  change wpList _ _ _ _ _ w.drew
  have HR1 := HRd
  have HF1 := HFd
  have HL1 := Lib.hid HL0.out
  have HB1 := HBd
  clear HRd HFd HBd
  clear c1 c3 t0 t2 f3
  generalize w.drew = w1 at *
  obtain ⟨c0, c1, c2, c3, c4, c5, c6, t0, t1⟩ := sregs HR1.out
  clear c0 c2 c4 c5 c6 t1
  have f3 := HR1.out.frozen 3
  go_wp2
  (first | go_end0 | refine bodyPost_ret (results_none rfl _ _ _) rfl ?_)
  exact sdone_set _ HF1.out HL1.out (HR1.out.put 3 _ _ rfl rfl)

set_option maxRecDepth 100000 in
set_option maxHeartbeats 1000000 in
theorem sflag9984 (w : World) (B t q g : Nat) (v : Value) (S : S14) (n : Nat) (md cy ad : Int) (cr : Bool) (H : StAt w B t q g v S ⟨9984, md, cy, ad, cr⟩) (hO : Ok n S) (hB : B ≤ w.heap.size) :
    Calls Tryd.prog 44 #[.pointer (some ⟨t, 0, none⟩)] w (SDone w B t q g v (flagS 9984 S) ⟨9984, md, cy, ad, cr⟩ (.tuple #[])) := by
  obtain ⟨a, x, y, s, p, pc, h, b⟩ := S
  have HP : Hid (fl p) := Lib.hid hO.pf
  have HR0 := Lib.hid H
  have HF0 : Hid (Fr (sfoot t q g v) w w) := Lib.hid (Fr.refl _ w)
  have HL0 : Hid (Lies w v v) := Lib.hid (Lies.refl w v)
  have HB0 := Lib.hid hB
  obtain ⟨c0, c1, c2, c3, c4, c5, c6, t0, t1⟩ := sregs HR0.out
  clear c0 c1 c2 c3 c4 c5 c6 t0 t1
  obtain ⟨t2, t3, t4, t5, t6⟩ := srow HR0.out
  clear t3 t4 t5 t6
  clear H hO hB
  go_enter Tryd.func44, Tryd.ntmps44
  go_wp2_with fail
  (with_reducible refine (sset_any w B t q g v ⟨a, x, y, s, p, pc, h, b⟩ ⟨9984, md, cy, ad, cr⟩ 1 false HR0.out isF1 (fl_b HP.out) HB0.out).mono ?_)
  intro e w1 hd
  obtain ⟨rfl, v1, hr, hf, hl⟩ := sdone_tr HF0.out HL0.out hd
  change StAt w1 B t q g v1 ⟨a, x, y, s, setF p 1 false, pc, h, b⟩ ⟨9984, md, cy, ad, cr⟩ at hr
  have HR1 := Lib.hid hr
  have HF1 := Lib.hid hf
  have HL1 := Lib.hid hl
  have HB1 := Lib.hid (Nat.le_trans HB0.out hf.size)
  clear hd hr hf hl
  clear t2
  go_wp2
  (first | go_end0 | refine bodyPost_ret (results_none rfl _ _ _) rfl ?_)
  exact ⟨rfl, v1, HR1.out, HF1.out, HL1.out⟩

set_option maxRecDepth 100000 in
set_option maxHeartbeats 1000000 in
theorem sflag10240 (w : World) (B t q g : Nat) (v : Value) (S : S14) (n : Nat) (md cy ad : Int) (cr : Bool) (H : StAt w B t q g v S ⟨10240, md, cy, ad, cr⟩) (hO : Ok n S) (hB : B ≤ w.heap.size) :
    Calls Tryd.prog 44 #[.pointer (some ⟨t, 0, none⟩)] w (SDone w B t q g v (flagS 10240 S) ⟨10240, md, cy, ad, cr⟩ (.tuple #[])) := by
  obtain ⟨a, x, y, s, p, pc, h, b⟩ := S
  have HP : Hid (fl p) := Lib.hid hO.pf
  have HR0 := Lib.hid H
  have HF0 : Hid (Fr (sfoot t q g v) w w) := Lib.hid (Fr.refl _ w)
  have HL0 : Hid (Lies w v v) := Lib.hid (Lies.refl w v)
  have HB0 := Lib.hid hB
  obtain ⟨c0, c1, c2, c3, c4, c5, c6, t0, t1⟩ := sregs HR0.out
  clear c0 c1 c2 c3 c4 c5 c6 t0 t1
  obtain ⟨t2, t3, t4, t5, t6⟩ := srow HR0.out
  clear t3 t4 t5 t6
  clear H hO hB
  go_enter Tryd.func44, Tryd.ntmps44
  go_wp2_with fail
  (with_reducible refine (sset_any w B t q g v ⟨a, x, y, s, p, pc, h, b⟩ ⟨10240, md, cy, ad, cr⟩ 4 false HR0.out isF4 (fl_b HP.out) HB0.out).mono ?_)
  intro e w1 hd
  obtain ⟨rfl, v1, hr, hf, hl⟩ := sdone_tr HF0.out HL0.out hd
  change StAt w1 B t q g v1 ⟨a, x, y, s, setF p 4 false, pc, h, b⟩ ⟨10240, md, cy, ad, cr⟩ at hr
  have HR1 := Lib.hid hr
  have HF1 := Lib.hid hf
  have HL1 := Lib.hid hl
  have HB1 := Lib.hid (Nat.le_trans HB0.out hf.size)
  clear hd hr hf hl
  clear t2
  go_wp2
  (first | go_end0 | refine bodyPost_ret (results_none rfl _ _ _) rfl ?_)
  exact ⟨rfl, v1, HR1.out, HF1.out, HL1.out⟩

set_option maxRecDepth 100000 in
set_option maxHeartbeats 1000000 in
theorem sflag10496 (w : World) (B t q g : Nat) (v : Value) (S : S14) (n : Nat) (md cy ad : Int) (cr : Bool) (H : StAt w B t q g v S ⟨10496, md, cy, ad, cr⟩) (hO : Ok n S) (hB : B ≤ w.heap.size) :
    Calls Tryd.prog 44 #[.pointer (some ⟨t, 0, none⟩)] w (SDone w B t q g v (flagS 10496 S) ⟨10496, md, cy, ad, cr⟩ (.tuple #[])) := by
  obtain ⟨a, x, y, s, p, pc, h, b⟩ := S
  have HP : Hid (fl p) := Lib.hid hO.pf
  have HR0 := Lib.hid H
  have HF0 : Hid (Fr (sfoot t q g v) w w) := Lib.hid (Fr.refl _ w)
  have HL0 : Hid (Lies w v v) := Lib.hid (Lies.refl w v)
  have HB0 := Lib.hid hB
  obtain ⟨c0, c1, c2, c3, c4, c5, c6, t0, t1⟩ := sregs HR0.out
  clear c0 c1 c2 c3 c4 c5 c6 t0 t1
  obtain ⟨t2, t3, t4, t5, t6⟩ := srow HR0.out
  clear t3 t4 t5 t6
  clear H hO hB
  go_enter Tryd.func44, Tryd.ntmps44
  go_wp2_with fail
  (with_reducible refine (sset_any w B t q g v ⟨a, x, y, s, p, pc, h, b⟩ ⟨10496, md, cy, ad, cr⟩ 64 false HR0.out isF64 (fl_b HP.out) HB0.out).mono ?_)
  intro e w1 hd
  obtain ⟨rfl, v1, hr, hf, hl⟩ := sdone_tr HF0.out HL0.out hd
  change StAt w1 B t q g v1 ⟨a, x, y, s, setF p 64 false, pc, h, b⟩ ⟨10496, md, cy, ad, cr⟩ at hr
  have HR1 := Lib.hid hr
  have HF1 := Lib.hid hf
  have HL1 := Lib.hid hl
  have HB1 := Lib.hid (Nat.le_trans HB0.out hf.size)
  clear hd hr hf hl
  clear t2
  go_wp2
  (first | go_end0 | refine bodyPost_ret (results_none rfl _ _ _) rfl ?_)
  exact ⟨rfl, v1, HR1.out, HF1.out, HL1.out⟩

set_option maxRecDepth 100000 in
set_option maxHeartbeats 1000000 in
theorem sflag10752 (w : World) (B t q g : Nat) (v : Value) (S : S14) (n : Nat) (md cy ad : Int) (cr : Bool) (H : StAt w B t q g v S ⟨10752, md, cy, ad, cr⟩) (hO : Ok n S) (hB : B ≤ w.heap.size) :
    Calls Tryd.prog 44 #[.pointer (some ⟨t, 0, none⟩)] w (SDone w B t q g v (flagS 10752 S) ⟨10752, md, cy, ad, cr⟩ (.tuple #[])) := by
  obtain ⟨a, x, y, s, p, pc, h, b⟩ := S
  have HP : Hid (fl p) := Lib.hid hO.pf
  have HR0 := Lib.hid H
  have HF0 : Hid (Fr (sfoot t q g v) w w) := Lib.hid (Fr.refl _ w)
  have HL0 : Hid (Lies w v v) := Lib.hid (Lies.refl w v)
  have HB0 := Lib.hid hB
  obtain ⟨c0, c1, c2, c3, c4, c5, c6, t0, t1⟩ := sregs HR0.out
  clear c0 c1 c2 c3 c4 c5 c6 t0 t1
  obtain ⟨t2, t3, t4, t5, t6⟩ := srow HR0.out
  clear t3 t4 t5 t6
  clear H hO hB
  go_enter Tryd.func44, Tryd.ntmps44
  go_wp2_with fail
  (with_reducible refine (sset_any w B t q g v ⟨a, x, y, s, p, pc, h, b⟩ ⟨10752, md, cy, ad, cr⟩ 8 false HR0.out isF8 (fl_b HP.out) HB0.out).mono ?_)
  intro e w1 hd
  obtain ⟨rfl, v1, hr, hf, hl⟩ := sdone_tr HF0.out HL0.out hd
  change StAt w1 B t q g v1 ⟨a, x, y, s, setF p 8 false, pc, h, b⟩ ⟨10752, md, cy, ad, cr⟩ at hr
  have HR1 := Lib.hid hr
  have HF1 := Lib.hid hf
  have HL1 := Lib.hid hl
  have HB1 := Lib.hid (Nat.le_trans HB0.out hf.size)
  clear hd hr hf hl
  clear t2
  go_wp2
  (first | go_end0 | refine bodyPost_ret (results_none rfl _ _ _) rfl ?_)
  exact ⟨rfl, v1, HR1.out, HF1.out, HL1.out⟩

set_option maxRecDepth 100000 in
set_option maxHeartbeats 1000000 in
theorem sflag11008 (w : World) (B t q g : Nat) (v : Value) (S : S14) (n : Nat) (md cy ad : Int) (cr : Bool) (H : StAt w B t q g v S ⟨11008, md, cy, ad, cr⟩) (hO : Ok n S) (hB : B ≤ w.heap.size) :
    Calls Tryd.prog 44 #[.pointer (some ⟨t, 0, none⟩)] w (SDone w B t q g v (flagS 11008 S) ⟨11008, md, cy, ad, cr⟩ (.tuple #[])) := by
  obtain ⟨a, x, y, s, p, pc, h, b⟩ := S
  have HP : Hid (fl p) := Lib.hid hO.pf
  have HR0 := Lib.hid H
  have HF0 : Hid (Fr (sfoot t q g v) w w) := Lib.hid (Fr.refl _ w)
  have HL0 : Hid (Lies w v v) := Lib.hid (Lies.refl w v)
  have HB0 := Lib.hid hB
  obtain ⟨c0, c1, c2, c3, c4, c5, c6, t0, t1⟩ := sregs HR0.out
  clear c0 c1 c2 c3 c4 c5 c6 t0 t1
  obtain ⟨t2, t3, t4, t5, t6⟩ := srow HR0.out
  clear t3 t4 t5 t6
  clear H hO hB
  go_enter Tryd.func44, Tryd.ntmps44
  go_wp2_with fail
  (with_reducible refine (sset_any w B t q g v ⟨a, x, y, s, p, pc, h, b⟩ ⟨11008, md, cy, ad, cr⟩ 1 true HR0.out isF1 (fl_b HP.out) HB0.out).mono ?_)
  intro e w1 hd
  obtain ⟨rfl, v1, hr, hf, hl⟩ := sdone_tr HF0.out HL0.out hd
  change StAt w1 B t q g v1 ⟨a, x, y, s, setF p 1 true, pc, h, b⟩ ⟨11008, md, cy, ad, cr⟩ at hr
  have HR1 := Lib.hid hr
  have HF1 := Lib.hid hf
  have HL1 := Lib.hid hl
  have HB1 := Lib.hid (Nat.le_trans HB0.out hf.size)
  clear hd hr hf hl
  clear t2
  go_wp2
  (first | go_end0 | refine bodyPost_ret (results_none rfl _ _ _) rfl ?_)
  exact ⟨rfl, v1, HR1.out, HF1.out, HL1.out⟩

set_option maxRecDepth 100000 in
set_option maxHeartbeats 1000000 in
theorem sflag11264 (w : World) (B t q g : Nat) (v : Value) (S : S14) (n : Nat) (md cy ad : Int) (cr : Bool) (H : StAt w B t q g v S ⟨11264, md, cy, ad, cr⟩) (hO : Ok n S) (hB : B ≤ w.heap.size) :
    Calls Tryd.prog 44 #[.pointer (some ⟨t, 0, none⟩)] w (SDone w B t q g v (flagS 11264 S) ⟨11264, md, cy, ad, cr⟩ (.tuple #[])) := by
  obtain ⟨a, x, y, s, p, pc, h, b⟩ := S
  have HP : Hid (fl p) := Lib.hid hO.pf
  have HR0 := Lib.hid H
  have HF0 : Hid (Fr (sfoot t q g v) w w) := Lib.hid (Fr.refl _ w)
  have HL0 : Hid (Lies w v v) := Lib.hid (Lies.refl w v)
  have HB0 := Lib.hid hB
  obtain ⟨c0, c1, c2, c3, c4, c5, c6, t0, t1⟩ := sregs HR0.out
  clear c0 c1 c2 c3 c4 c5 c6 t0 t1
  obtain ⟨t2, t3, t4, t5, t6⟩ := srow HR0.out
  clear t3 t4 t5 t6
  clear H hO hB
  go_enter Tryd.func44, Tryd.ntmps44
  go_wp2_with fail
  (with_reducible refine (sset_any w B t q g v ⟨a, x, y, s, p, pc, h, b⟩ ⟨11264, md, cy, ad, cr⟩ 4 true HR0.out isF4 (fl_b HP.out) HB0.out).mono ?_)
  intro e w1 hd
  obtain ⟨rfl, v1, hr, hf, hl⟩ := sdone_tr HF0.out HL0.out hd
  change StAt w1 B t q g v1 ⟨a, x, y, s, setF p 4 true, pc, h, b⟩ ⟨11264, md, cy, ad, cr⟩ at hr
  have HR1 := Lib.hid hr
  have HF1 := Lib.hid hf
  have HL1 := Lib.hid hl
  have HB1 := Lib.hid (Nat.le_trans HB0.out hf.size)
  clear hd hr hf hl
  clear t2
  go_wp2
  (first | go_end0 | refine bodyPost_ret (results_none rfl _ _ _) rfl ?_)
  exact ⟨rfl, v1, HR1.out, HF1.out, HL1.out⟩

set_option maxRecDepth 100000 in
set_option maxHeartbeats 1000000 in
theorem sflag11520 (w : World) (B t q g : Nat) (v : Value) (S : S14) (n : Nat) (md cy ad : Int) (cr : Bool) (H : StAt w B t q g v S ⟨11520, md, cy, ad, cr⟩) (hO : Ok n S) (hB : B ≤ w.heap.size) :
    Calls Tryd.prog 44 #[.pointer (some ⟨t, 0, none⟩)] w (SDone w B t q g v (flagS 11520 S) ⟨11520, md, cy, ad, cr⟩ (.tuple #[])) := by
  obtain ⟨a, x, y, s, p, pc, h, b⟩ := S
  have HP : Hid (fl p) := Lib.hid hO.pf
  have HR0 := Lib.hid H
  have HF0 : Hid (Fr (sfoot t q g v) w w) := Lib.hid (Fr.refl _ w)
  have HL0 : Hid (Lies w v v) := Lib.hid (Lies.refl w v)
  have HB0 := Lib.hid hB
  obtain ⟨c0, c1, c2, c3, c4, c5, c6, t0, t1⟩ := sregs HR0.out
  clear c0 c1 c2 c3 c4 c5 c6 t0 t1
  obtain ⟨t2, t3, t4, t5, t6⟩ := srow HR0.out
  clear t3 t4 t5 t6
  clear H hO hB
  go_enter Tryd.func44, Tryd.ntmps44
  go_wp2_with fail
  (with_reducible refine (sset_any w B t q g v ⟨a, x, y, s, p, pc, h, b⟩ ⟨11520, md, cy, ad, cr⟩ 8 true HR0.out isF8 (fl_b HP.out) HB0.out).mono ?_)
  intro e w1 hd
  obtain ⟨rfl, v1, hr, hf, hl⟩ := sdone_tr HF0.out HL0.out hd
  change StAt w1 B t q g v1 ⟨a, x, y, s, setF p 8 true, pc, h, b⟩ ⟨11520, md, cy, ad, cr⟩ at hr
  have HR1 := Lib.hid hr
  have HF1 := Lib.hid hf
  have HL1 := Lib.hid hl
  have HB1 := Lib.hid (Nat.le_trans HB0.out hf.size)
  clear hd hr hf hl
  clear t2
  go_wp2
  (first | go_end0 | refine bodyPost_ret (results_none rfl _ _ _) rfl ?_)
  exact ⟨rfl, v1, HR1.out, HF1.out, HL1.out⟩

end Ms
end Go.Proofs.YtlnpadekgakghaaDoor
