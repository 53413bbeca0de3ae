/-
  What the program's step does: changes, the stack, branches, jumps. Conditions: the state is one that there is, few bytes were written.
-/
import Derived.Test.YtlnpadekgakghaaDoorMosWords
namespace Go.Proofs.YtlnpadekgakghaaDoor
open Go.RowKit
namespace Ms
open Al (byte of_byte)
set_option linter.unusedVariables false

theorem isW48 : isW 48 := Or.inr rfl
theorem u16_brk : u16 65534 := ⟨by omega, by omega⟩
set_option maxRecDepth 100000 in
set_option maxHeartbeats 1000000 in
theorem sshifted_any (w : World) (B t q g : Nat) (v : Value) (S : S14) (R : Rg) (u : Int) (g1 : Bool) (H : StAt w B t q g v S R) (hO : fl S.p) (hu : byte u) (hB : B ≤ w.heap.size) :
    Calls Tryd.prog 87 #[.pointer (some ⟨t, 0, none⟩), .int .u8 u, .bool g1] w (SDone w B t q g v (withP S (zn (setF S.p 1 g1) u)) R (.int .u8 u)) := by
  obtain ⟨a, x, y, s, p, pc, h, b⟩ := S
  have HP : Hid (fl p) := Lib.hid hO
  have HM := Lib.hid hu
  obtain ⟨u0, u1⟩ := hu
  have HR0 := Lib.hid H
  have HF0 : Hid (Fr (sfoot t q g v) w w) := Lib.hid (Fr.refl _ w)
  have HL0 : Hid (Lies w v v) := Lib.hid (Lies.refl w v)
  have HB0 := Lib.hid hB
  clear H hO hB
  go_enter Tryd.func87, Tryd.ntmps87
  go_wp2_with fail
  (with_reducible refine (sset_any w B t q g v ⟨a, x, y, s, p, pc, h, b⟩ R 1 g1 HR0.out isF1 (fl_b HP.out) HB0.out).mono ?_)
  intro e w1 hd
  obtain ⟨rfl, v1, hr, hf, hl⟩ := sdone_tr HF0.out HL0.out hd
  change StAt w1 B t q g v1 ⟨a, x, y, s, setF p 1 g1, pc, h, b⟩ R at hr
  have HR1 := Lib.hid hr
  have HF1 := Lib.hid hf
  have HL1 := Lib.hid hl
  have HB1 := Lib.hid (Nat.le_trans HB0.out hf.size)
  clear hd hr hf hl
  go_wp2_with fail
  (with_reducible refine (sresult_any w1 B t q g v1 ⟨a, x, y, s, (setF p 1 g1), pc, h, b⟩ R u HR1.out (fl_setF _ _ _ isF1 HP.out) HM.out HB1.out).mono ?_)
  intro e w2 hd
  obtain ⟨rfl, v2, hr, hf, hl⟩ := sdone_tr HF1.out HL1.out hd
  change StAt w2 B t q g v2 ⟨a, x, y, s, zn (setF p 1 g1) u, pc, h, b⟩ R at hr
  have HR2 := Lib.hid hr
  have HF2 := Lib.hid hf
  have HL2 := Lib.hid hl
  have HB2 := Lib.hid (Nat.le_trans HB0.out hf.size)
  clear hd hr hf hl
  go_wp2
  go_ret
  exact ⟨rfl, v2, HR2.out, HF2.out, HL2.out⟩

set_option maxRecDepth 100000 in
set_option maxHeartbeats 1000000 in
theorem schanged3840 (w : World) (B t q g : Nat) (v : Value) (S : S14) (n : Nat) (md cy ad : Int) (cr : Bool) (u : Int) (H : StAt w B t q g v S ⟨3840, md, cy, ad, cr⟩) (hO : Ok n S) (hu : byte u) (hB : B ≤ w.heap.size) :
    Calls Tryd.prog 63 #[.pointer (some ⟨t, 0, none⟩), .int .u8 u] w (SDone w B t q g v (withP S (chgP 3840 S.p u)) ⟨3840, md, cy, ad, cr⟩ (.int .u8 (chgV 3840 S.p u))) := by
  obtain ⟨a, x, y, s, p, pc, h, b⟩ := S
  have HP : Hid (fl p) := Lib.hid hO.pf
  have HR0 := Lib.hid H
  have HF0 : Hid (Fr (sfoot t q g v) w w) := Lib.hid (Fr.refl _ w)
  have HL0 : Hid (Lies w v v) := Lib.hid (Lies.refl w v)
  have HB0 := Lib.hid hB
  change Calls _ _ _ _ (SDone w B t q g v ⟨a, x, y, s, (zn (setF p 1 (Al.leftC u)) (Al.leftR u false)), pc, h, b⟩ ⟨3840, md, cy, ad, cr⟩ (.int .u8 (Al.leftR u false)))
  have HA := Lib.hid (fun W => Al.left_any W u false hu)
  have HM : Hid (byte (Al.leftR u false)) := Lib.hid (Al.leftR_byte _ _)
  generalize Al.leftR u false = M1 at *
  generalize Al.leftC u = g1 at *
  obtain ⟨u0, u1⟩ := hu
  obtain ⟨m0, m1⟩ := HM.out
  obtain ⟨c0, c1, c2, c3, c4, c5, c6, t0, t1⟩ := sregs HR0.out
  clear c0 c1 c2 c3 c4 c5 c6 t0 t1
  obtain ⟨t2, t3, t4, t5, t6⟩ := srow HR0.out
  clear t3 t4 t5 t6
  clear H hO hB
  go_enter Tryd.func63, Tryd.ntmps63
  go_wp2_with fail
  (with_reducible refine (HA.out w).mono ?_)
  rintro e wq ⟨rfl, rfl⟩
  go_wp2_with fail
  (with_reducible refine (sshifted_any w B t q g v ⟨a, x, y, s, p, pc, h, b⟩ ⟨3840, md, cy, ad, cr⟩ M1 g1 HR0.out HP.out HM.out HB0.out).mono ?_)
  intro e w1 hd
  obtain ⟨rfl, v1, hr, hf, hl⟩ := sdone_tr HF0.out HL0.out hd
  change StAt w1 B t q g v1 ⟨a, x, y, s, zn (setF p 1 g1) M1, pc, h, b⟩ ⟨3840, md, cy, ad, cr⟩ at hr
  have HR1 := Lib.hid hr
  have HF1 := Lib.hid hf
  have HL1 := Lib.hid hl
  have HB1 := Lib.hid (Nat.le_trans HB0.out hf.size)
  clear hd hr hf hl
  clear t2
  go_wp2
  go_ret
  exact ⟨rfl, v1, HR1.out, HF1.out, HL1.out⟩

set_option maxRecDepth 100000 in
set_option maxHeartbeats 1000000 in
theorem schanged4096 (w : World) (B t q g : Nat) (v : Value) (S : S14) (n : Nat) (md cy ad : Int) (cr : Bool) (u : Int) (H : StAt w B t q g v S ⟨4096, md, cy, ad, cr⟩) (hO : Ok n S) (hu : byte u) (hB : B ≤ w.heap.size) :
    Calls Tryd.prog 63 #[.pointer (some ⟨t, 0, none⟩), .int .u8 u] w (SDone w B t q g v (withP S (chgP 4096 S.p u)) ⟨4096, md, cy, ad, cr⟩ (.int .u8 (chgV 4096 S.p u))) := by
  obtain ⟨a, x, y, s, p, pc, h, b⟩ := S
  have HP : Hid (fl p) := Lib.hid hO.pf
  have HR0 := Lib.hid H
  have HF0 : Hid (Fr (sfoot t q g v) w w) := Lib.hid (Fr.refl _ w)
  have HL0 : Hid (Lies w v v) := Lib.hid (Lies.refl w v)
  have HB0 := Lib.hid hB
  change Calls _ _ _ _ (SDone w B t q g v ⟨a, x, y, s, (zn (setF p 1 (Al.leftC u)) (Al.leftR u (on p 1))), pc, h, b⟩ ⟨4096, md, cy, ad, cr⟩ (.int .u8 (Al.leftR u (on p 1))))
  obtain ⟨cb, hcb⟩ : ∃ z, on p 1 = z := ⟨_, rfl⟩
  have HC := Lib.hid hcb
  rw [hcb]
  clear hcb
  have HA := Lib.hid (fun W => Al.left_any W u cb hu)
  have HM : Hid (byte (Al.leftR u cb)) := Lib.hid (Al.leftR_byte _ _)
  generalize Al.leftR u cb = M1 at *
  generalize Al.leftC u = g1 at *
  obtain ⟨u0, u1⟩ := hu
  obtain ⟨m0, m1⟩ := HM.out
  obtain ⟨c0, c1, c2, c3, c4, c5, c6, t0, t1⟩ := sregs HR0.out
  clear c0 c1 c2 c3 c4 c5 c6 t0 t1
  obtain ⟨t2, t3, t4, t5, t6⟩ := srow HR0.out
  clear t3 t4 t5 t6
  clear H hO hB
  go_enter Tryd.func63, Tryd.ntmps63
  go_wp2_with fail
  (with_reducible refine (show Calls Tryd.prog 58 #[.pointer (some ⟨t, 0, none⟩), .int .u8 1] w (fun e w' => e = .returned (.bool cb) ∧ w = w') from by rw [← HC.out]; exact shas_any HR0.out 1 isF1 (fl_b HP.out)).mono ?_)
  rintro e wq ⟨rfl, rfl⟩
  go_wp2_with fail
  (with_reducible refine (HA.out w).mono ?_)
  rintro e wq ⟨rfl, rfl⟩
  go_wp2_with fail
  (with_reducible refine (sshifted_any w B t q g v ⟨a, x, y, s, p, pc, h, b⟩ ⟨4096, md, cy, ad, cr⟩ M1 g1 HR0.out HP.out HM.out HB0.out).mono ?_)
  intro e w1 hd
  obtain ⟨rfl, v1, hr, hf, hl⟩ := sdone_tr HF0.out HL0.out hd
  change StAt w1 B t q g v1 ⟨a, x, y, s, zn (setF p 1 g1) M1, pc, h, b⟩ ⟨4096, md, cy, ad, cr⟩ at hr
  have HR1 := Lib.hid hr
  have HF1 := Lib.hid hf
  have HL1 := Lib.hid hl
  have HB1 := Lib.hid (Nat.le_trans HB0.out hf.size)
  clear hd hr hf hl
  clear t2
  go_wp2
  go_ret
  exact ⟨rfl, v1, HR1.out, HF1.out, HL1.out⟩

set_option maxRecDepth 100000 in
set_option maxHeartbeats 1000000 in
theorem schanged4352 (w : World) (B t q g : Nat) (v : Value) (S : S14) (n : Nat) (md cy ad : Int) (cr : Bool) (u : Int) (H : StAt w B t q g v S ⟨4352, md, cy, ad, cr⟩) (hO : Ok n S) (hu : byte u) (hB : B ≤ w.heap.size) :
    Calls Tryd.prog 63 #[.pointer (some ⟨t, 0, none⟩), .int .u8 u] w (SDone w B t q g v (withP S (chgP 4352 S.p u)) ⟨4352, md, cy, ad, cr⟩ (.int .u8 (chgV 4352 S.p u))) := by
  obtain ⟨a, x, y, s, p, pc, h, b⟩ := S
  have HP : Hid (fl p) := Lib.hid hO.pf
  have HR0 := Lib.hid H
  have HF0 : Hid (Fr (sfoot t q g v) w w) := Lib.hid (Fr.refl _ w)
  have HL0 : Hid (Lies w v v) := Lib.hid (Lies.refl w v)
  have HB0 := Lib.hid hB
  change Calls _ _ _ _ (SDone w B t q g v ⟨a, x, y, s, (zn (setF p 1 (Al.rightC u)) (Al.rightR u false)), pc, h, b⟩ ⟨4352, md, cy, ad, cr⟩ (.int .u8 (Al.rightR u false)))
  have HA := Lib.hid (fun W => Al.right_any W u false hu)
  have HM : Hid (byte (Al.rightR u false)) := Lib.hid (Al.rightR_byte _ _ hu)
  generalize Al.rightR u false = M1 at *
  generalize Al.rightC u = g1 at *
  obtain ⟨u0, u1⟩ := hu
  obtain ⟨m0, m1⟩ := HM.out
  obtain ⟨c0, c1, c2, c3, c4, c5, c6, t0, t1⟩ := sregs HR0.out
  clear c0 c1 c2 c3 c4 c5 c6 t0 t1
  obtain ⟨t2, t3, t4, t5, t6⟩ := srow HR0.out
  clear t3 t4 t5 t6
  clear H hO hB
  go_enter Tryd.func63, Tryd.ntmps63
  go_wp2_with fail
  (with_reducible refine (HA.out w).mono ?_)
  rintro e wq ⟨rfl, rfl⟩
  go_wp2_with fail
  (with_reducible refine (sshifted_any w B t q g v ⟨a, x, y, s, p, pc, h, b⟩ ⟨4352, md, cy, ad, cr⟩ M1 g1 HR0.out HP.out HM.out HB0.out).mono ?_)
  intro e w1 hd
  obtain ⟨rfl, v1, hr, hf, hl⟩ := sdone_tr HF0.out HL0.out hd
  change StAt w1 B t q g v1 ⟨a, x, y, s, zn (setF p 1 g1) M1, pc, h, b⟩ ⟨4352, md, cy, ad, cr⟩ at hr
  have HR1 := Lib.hid hr
  have HF1 := Lib.hid hf
  have HL1 := Lib.hid hl
  have HB1 := Lib.hid (Nat.le_trans HB0.out hf.size)
  clear hd hr hf hl
  clear t2
  go_wp2
  go_ret
  exact ⟨rfl, v1, HR1.out, HF1.out, HL1.out⟩

set_option maxRecDepth 100000 in
set_option maxHeartbeats 1000000 in
theorem schanged4608 (w : World) (B t q g : Nat) (v : Value) (S : S14) (n : Nat) (md cy ad : Int) (cr : Bool) (u : Int) (H : StAt w B t q g v S ⟨4608, md, cy, ad, cr⟩) (hO : Ok n S) (hu : byte u) (hB : B ≤ w.heap.size) :
    Calls Tryd.prog 63 #[.pointer (some ⟨t, 0, none⟩), .int .u8 u] w (SDone w B t q g v (withP S (chgP 4608 S.p u)) ⟨4608, md, cy, ad, cr⟩ (.int .u8 (chgV 4608 S.p u))) := by
  obtain ⟨a, x, y, s, p, pc, h, b⟩ := S
  have HP : Hid (fl p) := Lib.hid hO.pf
  have HR0 := Lib.hid H
  have HF0 : Hid (Fr (sfoot t q g v) w w) := Lib.hid (Fr.refl _ w)
  have HL0 : Hid (Lies w v v) := Lib.hid (Lies.refl w v)
  have HB0 := Lib.hid hB
  change Calls _ _ _ _ (SDone w B t q g v ⟨a, x, y, s, (zn (setF p 1 (Al.rightC u)) (Al.rightR u (on p 1))), pc, h, b⟩ ⟨4608, md, cy, ad, cr⟩ (.int .u8 (Al.rightR u (on p 1))))
  obtain ⟨cb, hcb⟩ : ∃ z, on p 1 = z := ⟨_, rfl⟩
  have HC := Lib.hid hcb
  rw [hcb]
  clear hcb
  have HA := Lib.hid (fun W => Al.right_any W u cb hu)
  have HM : Hid (byte (Al.rightR u cb)) := Lib.hid (Al.rightR_byte _ _ hu)
  generalize Al.rightR u cb = M1 at *
  generalize Al.rightC u = g1 at *
  obtain ⟨u0, u1⟩ := hu
  obtain ⟨m0, m1⟩ := HM.out
  obtain ⟨c0, c1, c2, c3, c4, c5, c6, t0, t1⟩ := sregs HR0.out
  clear c0 c1 c2 c3 c4 c5 c6 t0 t1
  obtain ⟨t2, t3, t4, t5, t6⟩ := srow HR0.out
  clear t3 t4 t5 t6
  clear H hO hB
  go_enter Tryd.func63, Tryd.ntmps63
  go_wp2_with fail
  (with_reducible refine (show Calls Tryd.prog 58 #[.pointer (some ⟨t, 0, none⟩), .int .u8 1] w (fun e w' => e = .returned (.bool cb) ∧ w = w') from by rw [← HC.out]; exact shas_any HR0.out 1 isF1 (fl_b HP.out)).mono ?_)
  rintro e wq ⟨rfl, rfl⟩
  go_wp2_with fail
  (with_reducible refine (HA.out w).mono ?_)
  rintro e wq ⟨rfl, rfl⟩
  go_wp2_with fail
  (with_reducible refine (sshifted_any w B t q g v ⟨a, x, y, s, p, pc, h, b⟩ ⟨4608, md, cy, ad, cr⟩ M1 g1 HR0.out HP.out HM.out HB0.out).mono ?_)
  intro e w1 hd
  obtain ⟨rfl, v1, hr, hf, hl⟩ := sdone_tr HF0.out HL0.out hd
  change StAt w1 B t q g v1 ⟨a, x, y, s, zn (setF p 1 g1) M1, pc, h, b⟩ ⟨4608, md, cy, ad, cr⟩ at hr
  have HR1 := Lib.hid hr
  have HF1 := Lib.hid hf
  have HL1 := Lib.hid hl
  have HB1 := Lib.hid (Nat.le_trans HB0.out hf.size)
  clear hd hr hf hl
  clear t2
  go_wp2
  go_ret
  exact ⟨rfl, v1, HR1.out, HF1.out, HL1.out⟩

set_option maxRecDepth 100000 in
set_option maxHeartbeats 1000000 in
theorem schanged4864 (w : World) (B t q g : Nat) (v : Value) (S : S14) (n : Nat) (md cy ad : Int) (cr : Bool) (u : Int) (H : StAt w B t q g v S ⟨4864, md, cy, ad, cr⟩) (hO : Ok n S) (hu : byte u) (hB : B ≤ w.heap.size) :
    Calls Tryd.prog 63 #[.pointer (some ⟨t, 0, none⟩), .int .u8 u] w (SDone w B t q g v (withP S (chgP 4864 S.p u)) ⟨4864, md, cy, ad, cr⟩ (.int .u8 (chgV 4864 S.p u))) := by
  obtain ⟨a, x, y, s, p, pc, h, b⟩ := S
  have HP : Hid (fl p) := Lib.hid hO.pf
  have HR0 := Lib.hid H
  have HF0 : Hid (Fr (sfoot t q g v) w w) := Lib.hid (Fr.refl _ w)
  have HL0 : Hid (Lies w v v) := Lib.hid (Lies.refl w v)
  have HB0 := Lib.hid hB
  change Calls _ _ _ _ (SDone w B t q g v ⟨a, x, y, s, (zn p ((u - 1) % 256)), pc, h, b⟩ ⟨4864, md, cy, ad, cr⟩ (.int .u8 ((u - 1) % 256)))
  have HM : Hid (byte ((u - 1) % 256)) := Lib.hid (mod_byte _)
  obtain ⟨M1, hM⟩ : ∃ z, (u - 1) % 256 = z := ⟨_, rfl⟩
  have wM : IntKind.u8.wrap (u - 1) = M1 := by rw [IntKind.wrap_u8]; exact hM
  rw [hM] at HM ⊢
  obtain ⟨m0, m1⟩ := HM.out
  obtain ⟨u0, u1⟩ := hu
  clear hM
  obtain ⟨c0, c1, c2, c3, c4, c5, c6, t0, t1⟩ := sregs HR0.out
  clear c0 c1 c2 c3 c4 c5 c6 t0 t1
  obtain ⟨t2, t3, t4, t5, t6⟩ := srow HR0.out
  clear t3 t4 t5 t6
  clear H hO hB
  go_enter Tryd.func63, Tryd.ntmps63
  go_wp2_with fail
  (with_reducible refine (sresult_any w B t q g v ⟨a, x, y, s, p, pc, h, b⟩ ⟨4864, md, cy, ad, cr⟩ M1 HR0.out HP.out HM.out HB0.out).mono ?_)
  intro e w1 hd
  obtain ⟨rfl, v1, hr, hf, hl⟩ := sdone_tr HF0.out HL0.out hd
  change StAt w1 B t q g v1 ⟨a, x, y, s, zn p M1, pc, h, b⟩ ⟨4864, md, cy, ad, cr⟩ at hr
  have HR1 := Lib.hid hr
  have HF1 := Lib.hid hf
  have HL1 := Lib.hid hl
  have HB1 := Lib.hid (Nat.le_trans HB0.out hf.size)
  clear hd hr hf hl
  clear t2
  go_wp2
  go_ret
  exact ⟨rfl, v1, HR1.out, HF1.out, HL1.out⟩

set_option maxRecDepth 100000 in
set_option maxHeartbeats 1000000 in
theorem schanged5120 (w : World) (B t q g : Nat) (v : Value) (S : S14) (n : Nat) (md cy ad : Int) (cr : Bool) (u : Int) (H : StAt w B t q g v S ⟨5120, md, cy, ad, cr⟩) (hO : Ok n S) (hu : byte u) (hB : B ≤ w.heap.size) :
    Calls Tryd.prog 63 #[.pointer (some ⟨t, 0, none⟩), .int .u8 u] w (SDone w B t q g v (withP S (chgP 5120 S.p u)) ⟨5120, md, cy, ad, cr⟩ (.int .u8 (chgV 5120 S.p u))) := by
  obtain ⟨a, x, y, s, p, pc, h, b⟩ := S
  have HP : Hid (fl p) := Lib.hid hO.pf
  have HR0 := Lib.hid H
  have HF0 : Hid (Fr (sfoot t q g v) w w) := Lib.hid (Fr.refl _ w)
  have HL0 : Hid (Lies w v v) := Lib.hid (Lies.refl w v)
  have HB0 := Lib.hid hB
  change Calls _ _ _ _ (SDone w B t q g v ⟨a, x, y, s, (zn p ((u + 1) % 256)), pc, h, b⟩ ⟨5120, md, cy, ad, cr⟩ (.int .u8 ((u + 1) % 256)))
  have HM : Hid (byte ((u + 1) % 256)) := Lib.hid (mod_byte _)
  obtain ⟨M1, hM⟩ : ∃ z, (u + 1) % 256 = z := ⟨_, rfl⟩
  have wM : IntKind.u8.wrap (u + 1) = M1 := by rw [IntKind.wrap_u8]; exact hM
  rw [hM] at HM ⊢
  obtain ⟨m0, m1⟩ := HM.out
  obtain ⟨u0, u1⟩ := hu
  clear hM
  obtain ⟨c0, c1, c2, c3, c4, c5, c6, t0, t1⟩ := sregs HR0.out
  clear c0 c1 c2 c3 c4 c5 c6 t0 t1
  obtain ⟨t2, t3, t4, t5, t6⟩ := srow HR0.out
  clear t3 t4 t5 t6
  clear H hO hB
  go_enter Tryd.func63, Tryd.ntmps63
  go_wp2_with fail
  (with_reducible refine (sresult_any w B t q g v ⟨a, x, y, s, p, pc, h, b⟩ ⟨5120, md, cy, ad, cr⟩ M1 HR0.out HP.out HM.out HB0.out).mono ?_)
  intro e w1 hd
  obtain ⟨rfl, v1, hr, hf, hl⟩ := sdone_tr HF0.out HL0.out hd
  change StAt w1 B t q g v1 ⟨a, x, y, s, zn p M1, pc, h, b⟩ ⟨5120, md, cy, ad, cr⟩ at hr
  have HR1 := Lib.hid hr
  have HF1 := Lib.hid hf
  have HL1 := Lib.hid hl
  have HB1 := Lib.hid (Nat.le_trans HB0.out hf.size)
  clear hd hr hf hl
  clear t2
  go_wp2
  go_ret
  exact ⟨rfl, v1, HR1.out, HF1.out, HL1.out⟩

def isC (d : Int) : Prop := d = 3840 ∨ d = 4096 ∨ d = 4352 ∨ d = 4608 ∨ d = 4864 ∨ d = 5120
theorem chgV_byte (d p u : Int) (hu : byte u) : byte (chgV d p u) := by
  unfold chgV
  split
  · exact Al.leftR_byte _ _
  · split
    · exact Al.leftR_byte _ _
    · split
      · exact Al.rightR_byte _ _ hu
      · split
        · exact Al.rightR_byte _ _ hu
        · split <;> exact mod_byte _
theorem schanged_any (w : World) (B t q g : Nat) (v : Value) (S : S14) (n : Nat) (d md cy ad : Int) (cr : Bool) (u : Int) (hd : isC d) (H : StAt w B t q g v S ⟨d, md, cy, ad, cr⟩) (hO : Ok n S) (hu : byte u) (hB : B ≤ w.heap.size) :
    Calls Tryd.prog 63 #[.pointer (some ⟨t, 0, none⟩), .int .u8 u] w (SDone w B t q g v (withP S (chgP d S.p u)) ⟨d, md, cy, ad, cr⟩ (.int .u8 (chgV d S.p u))) := by
  rcases hd with rfl | rfl | rfl | rfl | rfl | rfl
  · exact schanged3840 w B t q g v S n md cy ad cr u H hO hu hB
  · exact schanged4096 w B t q g v S n md cy ad cr u H hO hu hB
  · exact schanged4352 w B t q g v S n md cy ad cr u H hO hu hB
  · exact schanged4608 w B t q g v S n md cy ad cr u H hO hu hB
  · exact schanged4864 w B t q g v S n md cy ad cr u H hO hu hB
  · exact schanged5120 w B t q g v S n md cy ad cr u H hO hu hB
set_option maxRecDepth 100000 in
set_option maxHeartbeats 1000000 in
theorem sstack12800 (w : World) (B t q g : Nat) (v : Value) (S : S14) (n : Nat) (md cy ad : Int) (cr : Bool) (H : StAt w B t q g v S ⟨12800, md, cy, ad, cr⟩) (hO : Ok n S) (hn : n + 2 < 1000000000) (hB : B ≤ w.heap.size) :
    Calls Tryd.prog 45 #[.pointer (some ⟨t, 0, none⟩)] w (SDone w B t q g v (stackS 12800 S) ⟨12800, md, cy, ad, cr⟩ (.tuple #[])) := by
  obtain ⟨a, x, y, s, p, pc, h, b⟩ := S
  have HP : Hid (fl p) := Lib.hid hO.pf
  have HR0 := Lib.hid H
  have HF0 : Hid (Fr (sfoot t q g v) w w) := Lib.hid (Fr.refl _ w)
  have HL0 : Hid (Lies w v v) := Lib.hid (Lies.refl w v)
  have HB0 := Lib.hid hB
  have HO := Lib.hid hO
  have HN := Lib.hid hn
  obtain ⟨a0, a1⟩ : 0 ≤ a ∧ a < 256 := hO.a
  obtain ⟨c0, c1, c2, c3, c4, c5, c6, t0, t1⟩ := sregs HR0.out
  clear c1 c2 c3 c4 c5 c6 t1
  obtain ⟨t2, t3, t4, t5, t6⟩ := srow HR0.out
  clear t3 t4 t5 t6
  clear H hO hB hn
  go_enter Tryd.func45, Tryd.ntmps45
  go_wp2_with fail
  (with_reducible refine (spush_any w B t q g v ⟨a, x, y, s, p, pc, h, b⟩ ⟨12800, md, cy, ad, cr⟩ n a HR0.out HO.out HN.out HO.out.a HB0.out).mono ?_)
  intro e w1 hd
  obtain ⟨rfl, v1, hr, hf, hl⟩ := sdone_tr HF0.out HL0.out hd
  change StAt w1 B t q g v1 (push (⟨a, x, y, s, p, pc, h, b⟩ : S14) a) ⟨12800, md, cy, ad, cr⟩ at hr
  have HR1 := Lib.hid hr
  have HF1 := Lib.hid hf
  have HL1 := Lib.hid hl
  have HB1 := Lib.hid (Nat.le_trans HB0.out hf.size)
  clear hd hr hf hl
  clear c0 t0 t2
  go_wp2
  (first | go_end0 | refine bodyPost_ret (results_none rfl _ _ _) rfl ?_)
  exact ⟨rfl, v1, HR1.out, HF1.out, HL1.out⟩

set_option maxRecDepth 100000 in
set_option maxHeartbeats 1000000 in
theorem sstack13056 (w : World) (B t q g : Nat) (v : Value) (S : S14) (n : Nat) (md cy ad : Int) (cr : Bool) (H : StAt w B t q g v S ⟨13056, md, cy, ad, cr⟩) (hO : Ok n S) (hn : n + 2 < 1000000000) (hB : B ≤ w.heap.size) :
    Calls Tryd.prog 45 #[.pointer (some ⟨t, 0, none⟩)] w (SDone w B t q g v (stackS 13056 S) ⟨13056, md, cy, ad, cr⟩ (.tuple #[])) := by
  obtain ⟨a, x, y, s, p, pc, h, b⟩ := S
  have HP : Hid (fl p) := Lib.hid hO.pf
  have HR0 := Lib.hid H
  have HF0 : Hid (Fr (sfoot t q g v) w w) := Lib.hid (Fr.refl _ w)
  have HL0 : Hid (Lies w v v) := Lib.hid (Lies.refl w v)
  have HB0 := Lib.hid hB
  have HO := Lib.hid hO
  have HN := Lib.hid hn
  obtain ⟨c0, c1, c2, c3, c4, c5, c6, t0, t1⟩ := sregs HR0.out
  clear c0 c1 c2 c3 c4 c5 c6 t0 t1
  obtain ⟨t2, t3, t4, t5, t6⟩ := srow HR0.out
  clear t3 t4 t5 t6
  clear H hO hB hn
  go_enter Tryd.func45, Tryd.ntmps45
  go_wp2_with fail
  (with_reducible refine (spushP_any w B t q g v ⟨a, x, y, s, p, pc, h, b⟩ ⟨13056, md, cy, ad, cr⟩ n 48 HR0.out HO.out HN.out isW48 HB0.out).mono ?_)
  intro e w1 hd
  obtain ⟨rfl, v1, hr, hf, hl⟩ := sdone_tr HF0.out HL0.out hd
  change StAt w1 B t q g v1 (pushP (⟨a, x, y, s, p, pc, h, b⟩ : S14) 48) ⟨13056, md, cy, ad, cr⟩ at hr
  have HR1 := Lib.hid hr
  have HF1 := Lib.hid hf
  have HL1 := Lib.hid hl
  have HB1 := Lib.hid (Nat.le_trans HB0.out hf.size)
  clear hd hr hf hl
  clear t2
  go_wp2
  (first | go_end0 | refine bodyPost_ret (results_none rfl _ _ _) rfl ?_)
  exact ⟨rfl, v1, HR1.out, HF1.out, HL1.out⟩

set_option maxRecDepth 100000 in
set_option maxHeartbeats 1000000 in
theorem sstack13312 (w : World) (B t q g : Nat) (v : Value) (S : S14) (n : Nat) (md cy ad : Int) (cr : Bool) (H : StAt w B t q g v S ⟨13312, md, cy, ad, cr⟩) (hO : Ok n S) (hn : n + 2 < 1000000000) (hB : B ≤ w.heap.size) :
    Calls Tryd.prog 45 #[.pointer (some ⟨t, 0, none⟩)] w (SDone w B t q g v (stackS 13312 S) ⟨13312, md, cy, ad, cr⟩ (.tuple #[])) := by
  obtain ⟨a, x, y, s, p, pc, h, b⟩ := S
  have HP : Hid (fl p) := Lib.hid hO.pf
  have HR0 := Lib.hid H
  have HF0 : Hid (Fr (sfoot t q g v) w w) := Lib.hid (Fr.refl _ w)
  have HL0 : Hid (Lies w v v) := Lib.hid (Lies.refl w v)
  have HB0 := Lib.hid hB
  have HO := Lib.hid hO
  have hv := pullV_byte hO
  have HA := Lib.hid (fun W V (hr : StAt W B t q g V (⟨a, x, y, s, p, pc, h, b⟩ : S14) ⟨13312, md, cy, ad, cr⟩) hb => spull_any W B t q g V (⟨a, x, y, s, p, pc, h, b⟩ : S14) ⟨13312, md, cy, ad, cr⟩ n hr hO hb)
  change Calls _ _ _ _ (SDone w B t q g v (withA (withP (pull (⟨a, x, y, s, p, pc, h, b⟩ : S14)) (zn p (pullV (⟨a, x, y, s, p, pc, h, b⟩ : S14)))) (pullV (⟨a, x, y, s, p, pc, h, b⟩ : S14))) _ _)
  generalize pullV (⟨a, x, y, s, p, pc, h, b⟩ : S14) = M1 at *
  have HM := Lib.hid hv
  have HP2 : Hid (fl (pull (⟨a, x, y, s, p, pc, h, b⟩ : S14)).p) := Lib.hid hO.pf
  obtain ⟨m0, m1⟩ := hv
  obtain ⟨c0, c1, c2, c3, c4, c5, c6, t0, t1⟩ := sregs HR0.out
  clear c1 c2 c3 c4 c5 c6 t1
  obtain ⟨t2, t3, t4, t5, t6⟩ := srow HR0.out
  clear t3 t4 t5 t6
  clear H hO hB hn
  go_enter Tryd.func45, Tryd.ntmps45
  go_upto_region 6 with fail
  have HRd := Lib.hid (HR0.out.fr (Fr.refl [] w).drew (by simp))
  have HFd : Hid (Fr (sfoot t q g v) w w.drew) := Lib.hid HF0.out.drew
  have HBd : Hid (B ≤ w.drew.heap.size) := HB0
  go_region_law (go_simp; first
    | (go_at_call 66; (with_reducible refine (HA.out w.drew v HRd.out HBd.out).mono ?_); intro e w1 hd; obtain ⟨rfl, v1, hr, hf, hl⟩ := sdone_tr HFd.out HL0.out hd; change StAt w1 B t q g v1 (pull (⟨a, x, y, s, p, pc, h, b⟩ : S14)) ⟨13312, md, cy, ad, cr⟩ at hr; have HR1 := Lib.hid hr; have HF1 := Lib.hid hf; have HL1 := Lib.hid hl; have HB1 := Lib.hid (Nat.le_trans HB0.out hf.size); have t0x := HR1.out.st.cell 0; change _ = some (Value.pointer (some ⟨q, 0, none⟩)) at t0x; clear hd hr hf hl)
    | (go_at_call 55; (with_reducible refine (sresult_any w1 B t q g v1 (pull (⟨a, x, y, s, p, pc, h, b⟩ : S14)) ⟨13312, md, cy, ad, cr⟩ M1 HR1.out HP2.out HM.out HB1.out).mono ?_); intro e w2 hd; obtain ⟨rfl, v2, hr, hf, hl⟩ := sdone_tr HF1.out HL1.out hd; change StAt w2 B t q g v2 (withP (pull (⟨a, x, y, s, p, pc, h, b⟩ : S14)) (zn p M1)) ⟨13312, md, cy, ad, cr⟩ at hr; have HR2 := Lib.hid hr; have HF2 := Lib.hid hf; have HL2 := Lib.hid hl; have HB2 := Lib.hid (Nat.le_trans HB0.out hf.size); have t0x := HR2.out.st.cell 0; change _ = some (Value.pointer (some ⟨q, 0, none⟩)) at t0x; have f0x := HR2.out.frozen 0; have c0x := HR2.out.prog.regs.1; clear hd hr hf hl))
  all_goals
    go_wp2
    (first | go_end0 | refine bodyPost_ret (results_none rfl _ _ _) rfl ?_)
    exact sdone_set _ HF2.out HL2.out (HR2.out.put 0 _ _ rfl rfl)

set_option maxRecDepth 100000 in
set_option maxHeartbeats 1000000 in
theorem sstack13568 (w : World) (B t q g : Nat) (v : Value) (S : S14) (n : Nat) (md cy ad : Int) (cr : Bool) (H : StAt w B t q g v S ⟨13568, md, cy, ad, cr⟩) (hO : Ok n S) (hn : n + 2 < 1000000000) (hB : B ≤ w.heap.size) :
    Calls Tryd.prog 45 #[.pointer (some ⟨t, 0, none⟩)] w (SDone w B t q g v (stackS 13568 S) ⟨13568, md, cy, ad, cr⟩ (.tuple #[])) := by
  obtain ⟨a, x, y, s, p, pc, h, b⟩ := S
  have HP : Hid (fl p) := Lib.hid hO.pf
  have HR0 := Lib.hid H
  have HF0 : Hid (Fr (sfoot t q g v) w w) := Lib.hid (Fr.refl _ w)
  have HL0 : Hid (Lies w v v) := Lib.hid (Lies.refl w v)
  have HB0 := Lib.hid hB
  have HO := Lib.hid hO
  obtain ⟨c0, c1, c2, c3, c4, c5, c6, t0, t1⟩ := sregs HR0.out
  clear c0 c1 c2 c3 c4 c5 c6 t0 t1
  obtain ⟨t2, t3, t4, t5, t6⟩ := srow HR0.out
  clear t3 t4 t5 t6
  clear H hO hB hn
  go_enter Tryd.func45, Tryd.ntmps45
  go_wp2_with fail
  (with_reducible refine (spullP_any w B t q g v ⟨a, x, y, s, p, pc, h, b⟩ ⟨13568, md, cy, ad, cr⟩ n HR0.out HO.out HB0.out).mono ?_)
  intro e w1 hd
  obtain ⟨rfl, v1, hr, hf, hl⟩ := sdone_tr HF0.out HL0.out hd
  change StAt w1 B t q g v1 (pullP (⟨a, x, y, s, p, pc, h, b⟩ : S14)) ⟨13568, md, cy, ad, cr⟩ at hr
  have HR1 := Lib.hid hr
  have HF1 := Lib.hid hf
  have HL1 := Lib.hid hl
  have HB1 := Lib.hid (Nat.le_trans HB0.out hf.size)
  clear hd hr hf hl
  clear t2
  go_wp2
  (first | go_end0 | refine bodyPost_ret (results_none rfl _ _ _) rfl ?_)
  exact ⟨rfl, v1, HR1.out, HF1.out, HL1.out⟩

set_option maxRecDepth 100000 in
set_option maxHeartbeats 1000000 in
theorem staken7936 (w : World) (B t q g : Nat) (v : Value) (S : S14) (n : Nat) (md cy ad : Int) (cr : Bool) (H : StAt w B t q g v S ⟨7936, md, cy, ad, cr⟩) (hO : Ok n S) :
    Calls Tryd.prog 64 #[.pointer (some ⟨t, 0, none⟩)] w fun e w' => e = .returned (.bool (takenB 7936 S.p)) ∧ w = w' := by
  obtain ⟨a, x, y, s, p, pc, h, b⟩ := S
  have HP : Hid (fl p) := Lib.hid hO.pf
  have HR0 := Lib.hid H
  change Calls _ _ _ _ (fun e w' => e = .returned (.bool (!on p 128)) ∧ w = w')
  obtain ⟨cb, hcb⟩ : ∃ z, on p 128 = z := ⟨_, rfl⟩
  have HC := Lib.hid hcb
  rw [hcb]
  clear hcb
  obtain ⟨c0, c1, c2, c3, c4, c5, c6, t0, t1⟩ := sregs HR0.out
  clear c0 c1 c2 c3 c4 c5 c6 t0 t1
  obtain ⟨t2, t3, t4, t5, t6⟩ := srow HR0.out
  clear t3 t4 t5 t6
  clear H hO
  go_enter Tryd.func64, Tryd.ntmps64
  go_wp2_with fail
  (with_reducible refine (show Calls Tryd.prog 58 #[.pointer (some ⟨t, 0, none⟩), .int .u8 128] w (fun e w' => e = .returned (.bool cb) ∧ w = w') from by rw [← HC.out]; exact shas_any HR0.out 128 isF128 (fl_b HP.out)).mono ?_)
  rintro e wq ⟨rfl, rfl⟩
  go_wp2
  go_ret
  exact ⟨rfl, rfl⟩

set_option maxRecDepth 100000 in
set_option maxHeartbeats 1000000 in
theorem staken8192 (w : World) (B t q g : Nat) (v : Value) (S : S14) (n : Nat) (md cy ad : Int) (cr : Bool) (H : StAt w B t q g v S ⟨8192, md, cy, ad, cr⟩) (hO : Ok n S) :
    Calls Tryd.prog 64 #[.pointer (some ⟨t, 0, none⟩)] w fun e w' => e = .returned (.bool (takenB 8192 S.p)) ∧ w = w' := by
  obtain ⟨a, x, y, s, p, pc, h, b⟩ := S
  have HP : Hid (fl p) := Lib.hid hO.pf
  have HR0 := Lib.hid H
  change Calls _ _ _ _ (fun e w' => e = .returned (.bool (on p 128)) ∧ w = w')
  obtain ⟨cb, hcb⟩ : ∃ z, on p 128 = z := ⟨_, rfl⟩
  have HC := Lib.hid hcb
  rw [hcb]
  clear hcb
  obtain ⟨c0, c1, c2, c3, c4, c5, c6, t0, t1⟩ := sregs HR0.out
  clear c0 c1 c2 c3 c4 c5 c6 t0 t1
  obtain ⟨t2, t3, t4, t5, t6⟩ := srow HR0.out
  clear t3 t4 t5 t6
  clear H hO
  go_enter Tryd.func64, Tryd.ntmps64
  go_wp2_with fail
  (with_reducible refine (show Calls Tryd.prog 58 #[.pointer (some ⟨t, 0, none⟩), .int .u8 128] w (fun e w' => e = .returned (.bool cb) ∧ w = w') from by rw [← HC.out]; exact shas_any HR0.out 128 isF128 (fl_b HP.out)).mono ?_)
  rintro e wq ⟨rfl, rfl⟩
  go_wp2
  go_ret
  exact ⟨rfl, rfl⟩

set_option maxRecDepth 100000 in
set_option maxHeartbeats 1000000 in
theorem staken8448 (w : World) (B t q g : Nat) (v : Value) (S : S14) (n : Nat) (md cy ad : Int) (cr : Bool) (H : StAt w B t q g v S ⟨8448, md, cy, ad, cr⟩) (hO : Ok n S) :
    Calls Tryd.prog 64 #[.pointer (some ⟨t, 0, none⟩)] w fun e w' => e = .returned (.bool (takenB 8448 S.p)) ∧ w = w' := by
  obtain ⟨a, x, y, s, p, pc, h, b⟩ := S
  have HP : Hid (fl p) := Lib.hid hO.pf
  have HR0 := Lib.hid H
  change Calls _ _ _ _ (fun e w' => e = .returned (.bool (!on p 64)) ∧ w = w')
  obtain ⟨cb, hcb⟩ : ∃ z, on p 64 = z := ⟨_, rfl⟩
  have HC := Lib.hid hcb
  rw [hcb]
  clear hcb
  obtain ⟨c0, c1, c2, c3, c4, c5, c6, t0, t1⟩ := sregs HR0.out
  clear c0 c1 c2 c3 c4 c5 c6 t0 t1
  obtain ⟨t2, t3, t4, t5, t6⟩ := srow HR0.out
  clear t3 t4 t5 t6
  clear H hO
  go_enter Tryd.func64, Tryd.ntmps64
  go_wp2_with fail
  (with_reducible refine (show Calls Tryd.prog 58 #[.pointer (some ⟨t, 0, none⟩), .int .u8 64] w (fun e w' => e = .returned (.bool cb) ∧ w = w') from by rw [← HC.out]; exact shas_any HR0.out 64 isF64 (fl_b HP.out)).mono ?_)
  rintro e wq ⟨rfl, rfl⟩
  go_wp2
  go_ret
  exact ⟨rfl, rfl⟩

set_option maxRecDepth 100000 in
set_option maxHeartbeats 1000000 in
theorem staken8704 (w : World) (B t q g : Nat) (v : Value) (S : S14) (n : Nat) (md cy ad : Int) (cr : Bool) (H : StAt w B t q g v S ⟨8704, md, cy, ad, cr⟩) (hO : Ok n S) :
    Calls Tryd.prog 64 #[.pointer (some ⟨t, 0, none⟩)] w fun e w' => e = .returned (.bool (takenB 8704 S.p)) ∧ w = w' := by
  obtain ⟨a, x, y, s, p, pc, h, b⟩ := S
  have HP : Hid (fl p) := Lib.hid hO.pf
  have HR0 := Lib.hid H
  change Calls _ _ _ _ (fun e w' => e = .returned (.bool (on p 64)) ∧ w = w')
  obtain ⟨cb, hcb⟩ : ∃ z, on p 64 = z := ⟨_, rfl⟩
  have HC := Lib.hid hcb
  rw [hcb]
  clear hcb
  obtain ⟨c0, c1, c2, c3, c4, c5, c6, t0, t1⟩ := sregs HR0.out
  clear c0 c1 c2 c3 c4 c5 c6 t0 t1
  obtain ⟨t2, t3, t4, t5, t6⟩ := srow HR0.out
  clear t3 t4 t5 t6
  clear H hO
  go_enter Tryd.func64, Tryd.ntmps64
  go_wp2_with fail
  (with_reducible refine (show Calls Tryd.prog 58 #[.pointer (some ⟨t, 0, none⟩), .int .u8 64] w (fun e w' => e = .returned (.bool cb) ∧ w = w') from by rw [← HC.out]; exact shas_any HR0.out 64 isF64 (fl_b HP.out)).mono ?_)
  rintro e wq ⟨rfl, rfl⟩
  go_wp2
  go_ret
  exact ⟨rfl, rfl⟩

set_option maxRecDepth 100000 in
set_option maxHeartbeats 1000000 in
theorem staken8960 (w : World) (B t q g : Nat) (v : Value) (S : S14) (n : Nat) (md cy ad : Int) (cr : Bool) (H : StAt w B t q g v S ⟨8960, md, cy, ad, cr⟩) (hO : Ok n S) :
    Calls Tryd.prog 64 #[.pointer (some ⟨t, 0, none⟩)] w fun e w' => e = .returned (.bool (takenB 8960 S.p)) ∧ w = w' := by
  obtain ⟨a, x, y, s, p, pc, h, b⟩ := S
  have HP : Hid (fl p) := Lib.hid hO.pf
  have HR0 := Lib.hid H
  change Calls _ _ _ _ (fun e w' => e = .returned (.bool (!on p 1)) ∧ w = w')
  obtain ⟨cb, hcb⟩ : ∃ z, on p 1 = z := ⟨_, rfl⟩
  have HC := Lib.hid hcb
  rw [hcb]
  clear hcb
  obtain ⟨c0, c1, c2, c3, c4, c5, c6, t0, t1⟩ := sregs HR0.out
  clear c0 c1 c2 c3 c4 c5 c6 t0 t1
  obtain ⟨t2, t3, t4, t5, t6⟩ := srow HR0.out
  clear t3 t4 t5 t6
  clear H hO
  go_enter Tryd.func64, Tryd.ntmps64
  go_wp2_with fail
  (with_reducible refine (show Calls Tryd.prog 58 #[.pointer (some ⟨t, 0, none⟩), .int .u8 1] w (fun e w' => e = .returned (.bool cb) ∧ w = w') from by rw [← HC.out]; exact shas_any HR0.out 1 isF1 (fl_b HP.out)).mono ?_)
  rintro e wq ⟨rfl, rfl⟩
  go_wp2
  go_ret
  exact ⟨rfl, rfl⟩

set_option maxRecDepth 100000 in
set_option maxHeartbeats 1000000 in
theorem staken9216 (w : World) (B t q g : Nat) (v : Value) (S : S14) (n : Nat) (md cy ad : Int) (cr : Bool) (H : StAt w B t q g v S ⟨9216, md, cy, ad, cr⟩) (hO : Ok n S) :
    Calls Tryd.prog 64 #[.pointer (some ⟨t, 0, none⟩)] w fun e w' => e = .returned (.bool (takenB 9216 S.p)) ∧ w = w' := by
  obtain ⟨a, x, y, s, p, pc, h, b⟩ := S
  have HP : Hid (fl p) := Lib.hid hO.pf
  have HR0 := Lib.hid H
  change Calls _ _ _ _ (fun e w' => e = .returned (.bool (on p 1)) ∧ w = w')
  obtain ⟨cb, hcb⟩ : ∃ z, on p 1 = z := ⟨_, rfl⟩
  have HC := Lib.hid hcb
  rw [hcb]
  clear hcb
  obtain ⟨c0, c1, c2, c3, c4, c5, c6, t0, t1⟩ := sregs HR0.out
  clear c0 c1 c2 c3 c4 c5 c6 t0 t1
  obtain ⟨t2, t3, t4, t5, t6⟩ := srow HR0.out
  clear t3 t4 t5 t6
  clear H hO
  go_enter Tryd.func64, Tryd.ntmps64
  go_wp2_with fail
  (with_reducible refine (show Calls Tryd.prog 58 #[.pointer (some ⟨t, 0, none⟩), .int .u8 1] w (fun e w' => e = .returned (.bool cb) ∧ w = w') from by rw [← HC.out]; exact shas_any HR0.out 1 isF1 (fl_b HP.out)).mono ?_)
  rintro e wq ⟨rfl, rfl⟩
  go_wp2
  go_ret
  exact ⟨rfl, rfl⟩

set_option maxRecDepth 100000 in
set_option maxHeartbeats 1000000 in
theorem staken9472 (w : World) (B t q g : Nat) (v : Value) (S : S14) (n : Nat) (md cy ad : Int) (cr : Bool) (H : StAt w B t q g v S ⟨9472, md, cy, ad, cr⟩) (hO : Ok n S) :
    Calls Tryd.prog 64 #[.pointer (some ⟨t, 0, none⟩)] w fun e w' => e = .returned (.bool (takenB 9472 S.p)) ∧ w = w' := by
  obtain ⟨a, x, y, s, p, pc, h, b⟩ := S
  have HP : Hid (fl p) := Lib.hid hO.pf
  have HR0 := Lib.hid H
  change Calls _ _ _ _ (fun e w' => e = .returned (.bool (!on p 2)) ∧ w = w')
  obtain ⟨cb, hcb⟩ : ∃ z, on p 2 = z := ⟨_, rfl⟩
  have HC := Lib.hid hcb
  rw [hcb]
  clear hcb
  obtain ⟨c0, c1, c2, c3, c4, c5, c6, t0, t1⟩ := sregs HR0.out
  clear c0 c1 c2 c3 c4 c5 c6 t0 t1
  obtain ⟨t2, t3, t4, t5, t6⟩ := srow HR0.out
  clear t3 t4 t5 t6
  clear H hO
  go_enter Tryd.func64, Tryd.ntmps64
  go_wp2_with fail
  (with_reducible refine (show Calls Tryd.prog 58 #[.pointer (some ⟨t, 0, none⟩), .int .u8 2] w (fun e w' => e = .returned (.bool cb) ∧ w = w') from by rw [← HC.out]; exact shas_any HR0.out 2 isF2 (fl_b HP.out)).mono ?_)
  rintro e wq ⟨rfl, rfl⟩
  go_wp2
  go_ret
  exact ⟨rfl, rfl⟩

set_option maxRecDepth 100000 in
set_option maxHeartbeats 1000000 in
theorem staken9728 (w : World) (B t q g : Nat) (v : Value) (S : S14) (n : Nat) (md cy ad : Int) (cr : Bool) (H : StAt w B t q g v S ⟨9728, md, cy, ad, cr⟩) (hO : Ok n S) :
    Calls Tryd.prog 64 #[.pointer (some ⟨t, 0, none⟩)] w fun e w' => e = .returned (.bool (takenB 9728 S.p)) ∧ w = w' := by
  obtain ⟨a, x, y, s, p, pc, h, b⟩ := S
  have HP : Hid (fl p) := Lib.hid hO.pf
  have HR0 := Lib.hid H
  change Calls _ _ _ _ (fun e w' => e = .returned (.bool (on p 2)) ∧ w = w')
  obtain ⟨cb, hcb⟩ : ∃ z, on p 2 = z := ⟨_, rfl⟩
  have HC := Lib.hid hcb
  rw [hcb]
  clear hcb
  obtain ⟨c0, c1, c2, c3, c4, c5, c6, t0, t1⟩ := sregs HR0.out
  clear c0 c1 c2 c3 c4 c5 c6 t0 t1
  obtain ⟨t2, t3, t4, t5, t6⟩ := srow HR0.out
  clear t3 t4 t5 t6
  clear H hO
  go_enter Tryd.func64, Tryd.ntmps64
  go_wp2_with fail
  (with_reducible refine (show Calls Tryd.prog 58 #[.pointer (some ⟨t, 0, none⟩), .int .u8 2] w (fun e w' => e = .returned (.bool cb) ∧ w = w') from by rw [← HC.out]; exact shas_any HR0.out 2 isF2 (fl_b HP.out)).mono ?_)
  rintro e wq ⟨rfl, rfl⟩
  go_wp2
  go_ret
  exact ⟨rfl, rfl⟩

def isB (d : Int) : Prop := d = 7936 ∨ d = 8192 ∨ d = 8448 ∨ d = 8704 ∨ d = 8960 ∨ d = 9216 ∨ d = 9472 ∨ d = 9728
theorem staken_any {w : World} {B t q g : Nat} {v : Value} {S : S14} {n : Nat} {d md cy ad : Int} {cr : Bool} (hd : isB d) (H : StAt w B t q g v S ⟨d, md, cy, ad, cr⟩) (hO : Ok n S) :
    Calls Tryd.prog 64 #[.pointer (some ⟨t, 0, none⟩)] w fun e w' => e = .returned (.bool (takenB d S.p)) ∧ w = w' := by
  rcases hd with rfl | rfl | rfl | rfl | rfl | rfl | rfl | rfl
  · exact staken7936 w B t q g v S n md cy ad cr H hO
  · exact staken8192 w B t q g v S n md cy ad cr H hO
  · exact staken8448 w B t q g v S n md cy ad cr H hO
  · exact staken8704 w B t q g v S n md cy ad cr H hO
  · exact staken8960 w B t q g v S n md cy ad cr H hO
  · exact staken9216 w B t q g v S n md cy ad cr H hO
  · exact staken9472 w B t q g v S n md cy ad cr H hO
  · exact staken9728 w B t q g v S n md cy ad cr H hO
set_option maxRecDepth 100000 in
set_option maxHeartbeats 1000000 in
theorem sbranch_any (w : World) (B t q g : Nat) (v : Value) (S : S14) (n : Nat) (d md cy ad : Int) (cr : Bool) (hd : isB d) (H : StAt w B t q g v S ⟨d, md, cy, ad, cr⟩) (hO : Ok n S) (hcy : 0 ≤ cy ∧ cy < 200) (had : u16 ad) (hB : B ≤ w.heap.size) :
    Calls Tryd.prog 43 #[.pointer (some ⟨t, 0, none⟩)] w (SDone w B t q g v (branchS d ad S) ⟨d, md, cy + branchX d cr S, ad, cr⟩ (.tuple #[])) := by
  obtain ⟨y0, y1⟩ := hcy
  obtain ⟨a, x, y, s, p, pc, h, b⟩ := S
  have hT := staken_any hd H hO
  change Calls _ _ _ _ (fun e w' => e = .returned (.bool (takenB d p)) ∧ w = w') at hT
  change Calls _ _ _ _ (SDone w B t q g v (if takenB d p then ⟨a, x, y, s, p, ad, h, b⟩ else ⟨a, x, y, s, p, pc, h, b⟩) ⟨d, md, cy + (if takenB d p then (if cr then 2 else 1) else 0), ad, cr⟩ _)
  obtain ⟨tb, htb⟩ : ∃ z, takenB d p = z := ⟨_, rfl⟩
  rw [htb] at hT ⊢
  have HT := Lib.hid hT
  clear hT htb hd hO
  obtain ⟨d0, d1⟩ := had
  have HR0 := Lib.hid H
  have HF0 : Hid (Fr (sfoot t q g v) w w) := Lib.hid (Fr.refl _ w)
  have HL0 : Hid (Lies w v v) := Lib.hid (Lies.refl w v)
  have HB0 := Lib.hid hB
  clear H hB
  cases tb
  · skip
    rw [show cy + (if (false : Bool) = true then (if cr = true then 2 else 1) else 0) = cy by simp]
    change Calls _ _ _ _ (SDone w B t q g v ⟨a, x, y, s, p, pc, h, b⟩ ⟨d, md, cy, ad, cr⟩ _)
    go_enter Tryd.func43, Tryd.ntmps43
    go_wp2_with fail
    (with_reducible refine (HT.out).mono ?_)
    rintro e wq ⟨rfl, rfl⟩
    go_wp2
    (first | go_end0 | refine bodyPost_ret (results_none rfl _ _ _) rfl ?_)
    exact ⟨rfl, v, HR0.out, HF0.out, HL0.out⟩
  · cases cr
    · skip
      change Calls _ _ _ _ (SDone w B t q g v ⟨a, x, y, s, p, ad, h, b⟩ ⟨d, md, cy + 1, ad, false⟩ _)
      obtain ⟨c0, c1, c2, c3, c4, c5, c6, t0, t1⟩ := sregs HR0.out
      clear c0 c1 c2 c3 c4 c5 c6 t0 t1
      obtain ⟨t2, t3, t4, t5, t6⟩ := srow HR0.out
      clear t2 t3 t5 t6
      have e4 := HR0.out.ofrozen 4
      go_enter Tryd.func43, Tryd.ntmps43
      go_wp2_with fail
      (with_reducible refine (HT.out).mono ?_)
      rintro e wq ⟨rfl, rfl⟩
      go_upto_region 1 with fail
      have HR1 : Hid (StAt (w.setCell ⟨t, 4, none⟩ (.int .i64 (cy + 1))) B t q g v ⟨a, x, y, s, p, pc, h, b⟩ ⟨d, md, cy + 1, ad, false⟩) := Lib.hid (sput_cy HR0.out _)
      have HF1 : Hid (Fr (sfoot t q g v) w (w.setCell ⟨t, 4, none⟩ (.int .i64 (cy + 1)))) := Lib.hid (HF0.out.setCell (by simp [sfoot, pfoot]) _)
      have HL1 := Lib.hid HL0.out
      have HB1 : Hid (B ≤ (w.setCell ⟨t, 4, none⟩ (.int .i64 (cy + 1))).heap.size) := Lib.hid (Nat.le_trans HB0.out HF1.out.size)
      go_upto_region 2 with fail
      clear t4 e4
      generalize w.setCell _ _ = w1 at *
      obtain ⟨c0, c1, c2, c3, c4, c5, c6, t0, t1⟩ := sregs HR1.out
      clear c0 c1 c2 c3 c4 c5 c6 t0 t1
      obtain ⟨t2, t3, t4, t5, t6⟩ := srow HR1.out
      clear t2 t3 t5
      have e4 := HR1.out.ofrozen 4
      go_upto_region 4 with fail
      clear t4 t6 e4
      obtain ⟨c0, c1, c2, c3, c4, c5, c6, t0, t1⟩ := sregs HR1.out
      clear c0 c1 c2 c3 c4 c6 t1
      obtain ⟨t2, t3, t4, t5, t6⟩ := srow HR1.out
      clear t2 t3 t4 t6
      have f5 := HR1.out.frozen 5
      have HRd := Lib.hid (HR1.out.fr (Fr.refl [] w1).drew (by simp))
      have HFd : Hid (Fr (sfoot t q g v) w w1.drew) := Lib.hid HF1.out.drew
      have HBd : Hid (B ≤ w1.drew.heap.size) := HB1
      go_still_tail 10, (by kernel_rfl)
      repeat still_step
      try refine wpStill_nil ?_
      change wpList _ _ _ _ _ w1.drew
      have HR2 := HRd
      have HF2 := HFd
      have HL2 := Lib.hid HL1.out
      have HB2 := HBd
      clear HRd HFd HBd
      clear c5 t0 t5 f5
      generalize w1.drew = w2 at *
      obtain ⟨c0, c1, c2, c3, c4, c5, c6, t0, t1⟩ := sregs HR2.out
      clear c0 c1 c2 c3 c4 c6 t1
      obtain ⟨t2, t3, t4, t5, t6⟩ := srow HR2.out
      clear t2 t3 t4 t6
      have f5 := HR2.out.frozen 5
      go_wp2
      (first | go_end0 | refine bodyPost_ret (results_none rfl _ _ _) rfl ?_)
      exact sdone_set _ HF2.out HL2.out (HR2.out.put 5 _ _ rfl rfl)
    · skip
      rw [show cy + (if (true : Bool) = true then (if (true : Bool) = true then 2 else 1) else 0) = cy + 1 + 1 by simp; omega]
      change Calls _ _ _ _ (SDone w B t q g v ⟨a, x, y, s, p, ad, h, b⟩ ⟨d, md, cy + 1 + 1, ad, true⟩ _)
      obtain ⟨c0, c1, c2, c3, c4, c5, c6, t0, t1⟩ := sregs HR0.out
      clear c0 c1 c2 c3 c4 c5 c6 t0 t1
      obtain ⟨t2, t3, t4, t5, t6⟩ := srow HR0.out
      clear t2 t3 t5 t6
      have e4 := HR0.out.ofrozen 4
      go_enter Tryd.func43, Tryd.ntmps43
      go_wp2_with fail
      (with_reducible refine (HT.out).mono ?_)
      rintro e wq ⟨rfl, rfl⟩
      go_upto_region 1 with fail
      have HR1 : Hid (StAt (w.setCell ⟨t, 4, none⟩ (.int .i64 (cy + 1))) B t q g v ⟨a, x, y, s, p, pc, h, b⟩ ⟨d, md, cy + 1, ad, true⟩) := Lib.hid (sput_cy HR0.out _)
      have HF1 : Hid (Fr (sfoot t q g v) w (w.setCell ⟨t, 4, none⟩ (.int .i64 (cy + 1)))) := Lib.hid (HF0.out.setCell (by simp [sfoot, pfoot]) _)
      have HL1 := Lib.hid HL0.out
      have HB1 : Hid (B ≤ (w.setCell ⟨t, 4, none⟩ (.int .i64 (cy + 1))).heap.size) := Lib.hid (Nat.le_trans HB0.out HF1.out.size)
      go_upto_region 2 with fail
      clear t4 e4
      generalize w.setCell _ _ = w1 at *
      obtain ⟨c0, c1, c2, c3, c4, c5, c6, t0, t1⟩ := sregs HR1.out
      clear c0 c1 c2 c3 c4 c5 c6 t0 t1
      obtain ⟨t2, t3, t4, t5, t6⟩ := srow HR1.out
      clear t2 t3 t5
      have e4 := HR1.out.ofrozen 4
      go_upto_region 3 with fail
      have HR2 : Hid (StAt (w1.setCell ⟨t, 4, none⟩ (.int .i64 (cy + 1 + 1))) B t q g v ⟨a, x, y, s, p, pc, h, b⟩ ⟨d, md, cy + 1 + 1, ad, true⟩) := Lib.hid (sput_cy HR1.out _)
      have HF2 : Hid (Fr (sfoot t q g v) w (w1.setCell ⟨t, 4, none⟩ (.int .i64 (cy + 1 + 1)))) := Lib.hid (HF1.out.setCell (by simp [sfoot, pfoot]) _)
      have HL2 := Lib.hid HL1.out
      have HB2 : Hid (B ≤ (w1.setCell ⟨t, 4, none⟩ (.int .i64 (cy + 1 + 1))).heap.size) := Lib.hid (Nat.le_trans HB0.out HF2.out.size)
      go_upto_region 4 with fail
      clear t4 t6 e4
      generalize w1.setCell _ _ = w2 at *
      obtain ⟨c0, c1, c2, c3, c4, c5, c6, t0, t1⟩ := sregs HR2.out
      clear c0 c1 c2 c3 c4 c6 t1
      obtain ⟨t2, t3, t4, t5, t6⟩ := srow HR2.out
      clear t2 t3 t4 t6
      have f5 := HR2.out.frozen 5
      have HRd := Lib.hid (HR2.out.fr (Fr.refl [] w2).drew (by simp))
      have HFd : Hid (Fr (sfoot t q g v) w w2.drew) := Lib.hid HF2.out.drew
      have HBd : Hid (B ≤ w2.drew.heap.size) := HB2
      go_still_tail 10, (by kernel_rfl)
      repeat still_step
      try refine wpStill_nil ?_
      change wpList _ _ _ _ _ w2.drew
      have HR3 := HRd
      have HF3 := HFd
      have HL3 := Lib.hid HL2.out
      have HB3 := HBd
      clear HRd HFd HBd
      clear c5 t0 t5 f5
      generalize w2.drew = w3 at *
      obtain ⟨c0, c1, c2, c3, c4, c5, c6, t0, t1⟩ := sregs HR3.out
      clear c0 c1 c2 c3 c4 c6 t1
      obtain ⟨t2, t3, t4, t5, t6⟩ := srow HR3.out
      clear t2 t3 t4 t6
      have f5 := HR3.out.frozen 5
      go_wp2
      (first | go_end0 | refine bodyPost_ret (results_none rfl _ _ _) rfl ?_)
      exact sdone_set _ HF3.out HL3.out (HR3.out.put 5 _ _ rfl rfl)

set_option maxRecDepth 100000 in
set_option maxHeartbeats 1000000 in
theorem sjump11776 (w : World) (B t q g : Nat) (v : Value) (S : S14) (n : Nat) (md cy ad : Int) (cr : Bool) (H : StAt w B t q g v S ⟨11776, md, cy, ad, cr⟩) (hO : Ok n S) (hB : B ≤ w.heap.size) :
    Calls Tryd.prog 46 #[.pointer (some ⟨t, 0, none⟩)] w (SDone w B t q g v (jumpS 11776 ad S) ⟨11776, md, cy, ad, cr⟩ (.tuple #[])) := by
  obtain ⟨a, x, y, s, p, pc, h, b⟩ := S
  have HP : Hid (fl p) := Lib.hid hO.pf
  have HR0 := Lib.hid H
  have HF0 : Hid (Fr (sfoot t q g v) w w) := Lib.hid (Fr.refl _ w)
  have HL0 : Hid (Lies w v v) := Lib.hid (Lies.refl w v)
  have HB0 := Lib.hid hB
  obtain ⟨c0, c1, c2, c3, c4, c5, c6, t0, t1⟩ := sregs HR0.out
  clear c0 c1 c2 c3 c4 c5 c6 t0 t1
  obtain ⟨t2, t3, t4, t5, t6⟩ := srow HR0.out
  clear t3 t4 t5 t6
  clear H hO hB
  go_enter Tryd.func46, Tryd.ntmps46
  go_wp2
  (first | go_end0 | refine bodyPost_ret (results_none rfl _ _ _) rfl ?_)
  exact ⟨rfl, v, HR0.out, HF0.out, HL0.out⟩

set_option maxRecDepth 100000 in
set_option maxHeartbeats 1000000 in
theorem sjump12032 (w : World) (B t q g : Nat) (v : Value) (S : S14) (n : Nat) (md cy ad : Int) (cr : Bool) (H : StAt w B t q g v S ⟨12032, md, cy, ad, cr⟩) (hO : Ok n S) (had : u16 ad) (hB : B ≤ w.heap.size) :
    Calls Tryd.prog 46 #[.pointer (some ⟨t, 0, none⟩)] w (SDone w B t q g v (jumpS 12032 ad S) ⟨12032, md, cy, ad, cr⟩ (.tuple #[])) := by
  obtain ⟨a, x, y, s, p, pc, h, b⟩ := S
  have HP : Hid (fl p) := Lib.hid hO.pf
  have HR0 := Lib.hid H
  have HF0 : Hid (Fr (sfoot t q g v) w w) := Lib.hid (Fr.refl _ w)
  have HL0 : Hid (Lies w v v) := Lib.hid (Lies.refl w v)
  have HB0 := Lib.hid hB
  obtain ⟨d0, d1⟩ := had
  obtain ⟨c0, c1, c2, c3, c4, c5, c6, t0, t1⟩ := sregs HR0.out
  clear c0 c1 c2 c3 c4 c6 t1
  obtain ⟨t2, t3, t4, t5, t6⟩ := srow HR0.out
  clear t3 t4 t6
  have f5 := HR0.out.frozen 5
  clear H hO hB
  go_enter Tryd.func46, Tryd.ntmps46
  go_upto_region 2 with fail
  have HRd := Lib.hid (HR0.out.fr (Fr.refl [] w).drew (by simp))
  have HFd : Hid (Fr (sfoot t q g v) w w.drew) := Lib.hid HF0.out.drew
  have HBd : Hid (B ≤ w.drew.heap.size) := HB0
  go_still_tail 10, (by kernel_rfl)
  repeat still_step
  try refine wpStill_nil ?_
  change wpList _ _ _ _ _ w.drew
  have HR1 := HRd
  have HF1 := HFd
  have HL1 := Lib.hid HL0.out
  have HB1 := HBd
  clear HRd HFd HBd
  clear c5 t0 t2 t5 f5
  generalize w.drew = w1 at *
  obtain ⟨c0, c1, c2, c3, c4, c5, c6, t0, t1⟩ := sregs HR1.out
  clear c0 c1 c2 c3 c4 c6 t1
  obtain ⟨t2, t3, t4, t5, t6⟩ := srow HR1.out
  clear t2 t3 t4 t6
  have f5 := HR1.out.frozen 5
  go_wp2
  (first | go_end0 | refine bodyPost_ret (results_none rfl _ _ _) rfl ?_)
  exact sdone_set _ HF1.out HL1.out (HR1.out.put 5 _ _ rfl rfl)

set_option maxRecDepth 100000 in
set_option maxHeartbeats 1000000 in
theorem sjump12288 (w : World) (B t q g : Nat) (v : Value) (S : S14) (n : Nat) (md cy ad : Int) (cr : Bool) (H : StAt w B t q g v S ⟨12288, md, cy, ad, cr⟩) (hO : Ok n S) (hn : n + 4 < 1000000000) (had : u16 ad) (hB : B ≤ w.heap.size) :
    Calls Tryd.prog 46 #[.pointer (some ⟨t, 0, none⟩)] w (SDone w B t q g v (jumpS 12288 ad S) ⟨12288, md, cy, ad, cr⟩ (.tuple #[])) := by
  obtain ⟨a, x, y, s, p, pc, h, b⟩ := S
  have HP : Hid (fl p) := Lib.hid hO.pf
  have HR0 := Lib.hid H
  have HF0 : Hid (Fr (sfoot t q g v) w w) := Lib.hid (Fr.refl _ w)
  have HL0 : Hid (Lies w v v) := Lib.hid (Lies.refl w v)
  have HB0 := Lib.hid hB
  have HO := Lib.hid hO
  have HN := Lib.hid hn
  obtain ⟨d0, d1⟩ := had
  obtain ⟨p0, p1⟩ : 0 ≤ pc ∧ pc < 65536 := hO.pc
  change Calls _ _ _ _ (SDone w B t q g v (withPC (pushW (⟨a, x, y, s, p, pc, h, b⟩ : S14) ((pc - 1) % 65536)) ad) _ _)
  have HM : Hid (u16 ((pc - 1) % 65536)) := Lib.hid (mod_u16 _)
  have wM : IntKind.u16.wrap (pc - 1) = (pc - 1) % 65536 := by rw [IntKind.wrap_u16]
  generalize (pc - 1) % 65536 = M1 at *
  obtain ⟨m0, m1⟩ := HM.out
  obtain ⟨c0, c1, c2, c3, c4, c5, c6, t0, t1⟩ := sregs HR0.out
  clear c0 c1 c2 c3 c4 c6 t1
  obtain ⟨t2, t3, t4, t5, t6⟩ := srow HR0.out
  clear t3 t4 t5 t6
  clear H hO hB hn
  go_enter Tryd.func46, Tryd.ntmps46
  go_wp2_with fail
  (with_reducible refine (spushW_any w B t q g v ⟨a, x, y, s, p, pc, h, b⟩ ⟨12288, md, cy, ad, cr⟩ n M1 HR0.out HO.out (by have := HN.out; omega) HM.out HB0.out).mono ?_)
  intro e w1 hd
  obtain ⟨rfl, v1, hr, hf, hl⟩ := sdone_tr HF0.out HL0.out hd
  change StAt w1 B t q g v1 (pushW (⟨a, x, y, s, p, pc, h, b⟩ : S14) M1) ⟨12288, md, cy, ad, cr⟩ at hr
  have HR1 := Lib.hid hr
  have HF1 := Lib.hid hf
  have HL1 := Lib.hid hl
  have HB1 := Lib.hid (Nat.le_trans HB0.out hf.size)
  clear hd hr hf hl
  clear c5 t0 t2
  obtain ⟨c0, c1, c2, c3, c4, c5, c6, t0, t1⟩ := sregs HR1.out
  clear c0 c1 c2 c3 c4 c6 t1
  obtain ⟨t2, t3, t4, t5, t6⟩ := srow HR1.out
  clear t2 t3 t4 t6
  have f5 := HR1.out.frozen 5
  go_upto_region 5 with fail
  have HRd := Lib.hid (HR1.out.fr (Fr.refl [] w1).drew (by simp))
  have HFd : Hid (Fr (sfoot t q g v) w w1.drew) := Lib.hid HF1.out.drew
  have HBd : Hid (B ≤ w1.drew.heap.size) := HB1
  go_still_tail 10, (by kernel_rfl)
  repeat still_step
  try refine wpStill_nil ?_
  change wpList _ _ _ _ _ w1.drew
  have HR2 := HRd
  have HF2 := HFd
  have HL2 := Lib.hid HL1.out
  have HB2 := HBd
  clear HRd HFd HBd
  clear c5 t0 t5 f5
  generalize w1.drew = w2 at *
  obtain ⟨c0, c1, c2, c3, c4, c5, c6, t0, t1⟩ := sregs HR2.out
  clear c0 c1 c2 c3 c4 c6 t1
  obtain ⟨t2, t3, t4, t5, t6⟩ := srow HR2.out
  clear t2 t3 t4 t6
  have f5 := HR2.out.frozen 5
  go_wp2
  (first | go_end0 | refine bodyPost_ret (results_none rfl _ _ _) rfl ?_)
  exact sdone_set _ HF2.out HL2.out (HR2.out.put 5 _ _ rfl rfl)

set_option maxRecDepth 100000 in
set_option maxHeartbeats 1000000 in
theorem sjump12544 (w : World) (B t q g : Nat) (v : Value) (S : S14) (n : Nat) (md cy ad : Int) (cr : Bool) (H : StAt w B t q g v S ⟨12544, md, cy, ad, cr⟩) (hO : Ok n S) (hB : B ≤ w.heap.size) :
    Calls Tryd.prog 46 #[.pointer (some ⟨t, 0, none⟩)] w (SDone w B t q g v (jumpS 12544 ad S) ⟨12544, md, cy, ad, cr⟩ (.tuple #[])) := by
  obtain ⟨a, x, y, s, p, pc, h, b⟩ := S
  have HP : Hid (fl p) := Lib.hid hO.pf
  have HR0 := Lib.hid H
  have HF0 : Hid (Fr (sfoot t q g v) w w) := Lib.hid (Fr.refl _ w)
  have HL0 : Hid (Lies w v v) := Lib.hid (Lies.refl w v)
  have HB0 := Lib.hid hB
  have hv := pullWV_u16 hO
  have HA := Lib.hid (fun W V (hr : StAt W B t q g V (⟨a, x, y, s, p, pc, h, b⟩ : S14) ⟨12544, md, cy, ad, cr⟩) hb => spullWord_any W B t q g V (⟨a, x, y, s, p, pc, h, b⟩ : S14) ⟨12544, md, cy, ad, cr⟩ n hr hO hb)
  change Calls _ _ _ _ (SDone w B t q g v (withPC (pullW (⟨a, x, y, s, p, pc, h, b⟩ : S14)) ((pullWV (⟨a, x, y, s, p, pc, h, b⟩ : S14) + 1) % 65536)) _ _)
  generalize pullWV (⟨a, x, y, s, p, pc, h, b⟩ : S14) = M1 at *
  obtain ⟨m0, m1⟩ := hv
  obtain ⟨M2, hM⟩ : ∃ z, (M1 + 1) % 65536 = z := ⟨_, rfl⟩
  have wM : IntKind.u16.wrap (M1 + 1) = M2 := by rw [IntKind.wrap_u16]; exact hM
  rw [hM]
  clear hM
  obtain ⟨c0, c1, c2, c3, c4, c5, c6, t0, t1⟩ := sregs HR0.out
  clear c0 c1 c2 c3 c4 c6 t1
  obtain ⟨t2, t3, t4, t5, t6⟩ := srow HR0.out
  clear t3 t4 t5 t6
  clear H hO hB
  go_enter Tryd.func46, Tryd.ntmps46
  go_upto_region 7 with fail
  have HRd := Lib.hid (HR0.out.fr (Fr.refl [] w).drew (by simp))
  have HFd : Hid (Fr (sfoot t q g v) w w.drew) := Lib.hid HF0.out.drew
  have HBd : Hid (B ≤ w.drew.heap.size) := HB0
  go_region_law (go_simp; first
    | (go_at_call 68; (with_reducible refine (HA.out w.drew v HRd.out HBd.out).mono ?_); intro e w1 hd; obtain ⟨rfl, v1, hr, hf, hl⟩ := sdone_tr HFd.out HL0.out hd; change StAt w1 B t q g v1 (pullW (⟨a, x, y, s, p, pc, h, b⟩ : S14)) ⟨12544, md, cy, ad, cr⟩ at hr; have HR1 := Lib.hid hr; have HF1 := Lib.hid hf; have HL1 := Lib.hid hl; have HB1 := Lib.hid (Nat.le_trans HB0.out hf.size); have t0x := HR1.out.st.cell 0; change _ = some (Value.pointer (some ⟨q, 0, none⟩)) at t0x; have f5x := HR1.out.frozen 5; have c5x := HR1.out.prog.regs.2.2.2.2.2.1; clear hd hr hf hl))
  all_goals
    go_wp2
    (first | go_end0 | refine bodyPost_ret (results_none rfl _ _ _) rfl ?_)
    exact sdone_set _ HF1.out HL1.out (HR1.out.put 5 _ _ rfl rfl)

set_option maxRecDepth 100000 in
set_option maxHeartbeats 1000000 in
theorem sjump13824 (w : World) (B t q g : Nat) (v : Value) (S : S14) (n : Nat) (md cy ad : Int) (cr : Bool) (H : StAt w B t q g v S ⟨13824, md, cy, ad, cr⟩) (hO : Ok n S) (hB : B ≤ w.heap.size) :
    Calls Tryd.prog 46 #[.pointer (some ⟨t, 0, none⟩)] w (SDone w B t q g v (jumpS 13824 ad S) ⟨13824, md, cy, ad, cr⟩ (.tuple #[])) := by
  obtain ⟨a, x, y, s, p, pc, h, b⟩ := S
  have HP : Hid (fl p) := Lib.hid hO.pf
  have HR0 := Lib.hid H
  have HF0 : Hid (Fr (sfoot t q g v) w w) := Lib.hid (Fr.refl _ w)
  have HL0 : Hid (Lies w v v) := Lib.hid (Lies.refl w v)
  have HB0 := Lib.hid hB
  have HO := Lib.hid hO
  have HO1 : Hid (Ok n (pullP (⟨a, x, y, s, p, pc, h, b⟩ : S14))) := Lib.hid (ok_withP _ (ok_pull hO) (fl_noBU _ (pullV_byte hO)))
  have hv := pullWV_u16 HO1.out
  have HA := Lib.hid (fun W V (hr : StAt W B t q g V (pullP (⟨a, x, y, s, p, pc, h, b⟩ : S14)) ⟨13824, md, cy, ad, cr⟩) hb => spullWord_any W B t q g V (pullP (⟨a, x, y, s, p, pc, h, b⟩ : S14)) ⟨13824, md, cy, ad, cr⟩ n hr HO1.out hb)
  change Calls _ _ _ _ (SDone w B t q g v (withPC (pullW (pullP (⟨a, x, y, s, p, pc, h, b⟩ : S14))) (pullWV (pullP (⟨a, x, y, s, p, pc, h, b⟩ : S14)))) _ _)
  generalize pullWV (pullP (⟨a, x, y, s, p, pc, h, b⟩ : S14)) = M1 at *
  obtain ⟨m0, m1⟩ := hv
  obtain ⟨c0, c1, c2, c3, c4, c5, c6, t0, t1⟩ := sregs HR0.out
  clear c0 c1 c2 c3 c4 c5 c6 t0 t1
  obtain ⟨t2, t3, t4, t5, t6⟩ := srow HR0.out
  clear t3 t4 t5 t6
  clear H hO hB
  go_enter Tryd.func46, Tryd.ntmps46
  go_wp2_with fail
  (with_reducible refine (spullP_any w B t q g v ⟨a, x, y, s, p, pc, h, b⟩ ⟨13824, md, cy, ad, cr⟩ n HR0.out HO.out HB0.out).mono ?_)
  intro e w1 hd
  obtain ⟨rfl, v1, hr, hf, hl⟩ := sdone_tr HF0.out HL0.out hd
  change StAt w1 B t q g v1 (pullP (⟨a, x, y, s, p, pc, h, b⟩ : S14)) ⟨13824, md, cy, ad, cr⟩ at hr
  have HR1 := Lib.hid hr
  have HF1 := Lib.hid hf
  have HL1 := Lib.hid hl
  have HB1 := Lib.hid (Nat.le_trans HB0.out hf.size)
  clear hd hr hf hl
  clear t2
  obtain ⟨c0, c1, c2, c3, c4, c5, c6, t0, t1⟩ := sregs HR1.out
  clear c0 c1 c2 c3 c4 c6 t1
  have f5 := HR1.out.frozen 5
  go_upto_region 10 with fail
  have HRd := Lib.hid (HR1.out.fr (Fr.refl [] w1).drew (by simp))
  have HFd : Hid (Fr (sfoot t q g v) w w1.drew) := Lib.hid HF1.out.drew
  have HBd : Hid (B ≤ w1.drew.heap.size) := HB1
  go_region_law (go_simp; first
    | (go_at_call 68; (with_reducible refine (HA.out w1.drew v1 HRd.out HBd.out).mono ?_); intro e w2 hd; obtain ⟨rfl, v2, hr, hf, hl⟩ := sdone_tr HFd.out HL1.out hd; change StAt w2 B t q g v2 (pullW (pullP (⟨a, x, y, s, p, pc, h, b⟩ : S14))) ⟨13824, md, cy, ad, cr⟩ at hr; have HR2 := Lib.hid hr; have HF2 := Lib.hid hf; have HL2 := Lib.hid hl; have HB2 := Lib.hid (Nat.le_trans HB0.out hf.size); have t0x := HR2.out.st.cell 0; change _ = some (Value.pointer (some ⟨q, 0, none⟩)) at t0x; have f5x := HR2.out.frozen 5; have c5x := HR2.out.prog.regs.2.2.2.2.2.1; clear hd hr hf hl))
  all_goals
    go_wp2
    (first | go_end0 | refine bodyPost_ret (results_none rfl _ _ _) rfl ?_)
    exact sdone_set _ HF2.out HL2.out (HR2.out.put 5 _ _ rfl rfl)

set_option maxRecDepth 100000 in
set_option maxHeartbeats 1000000 in
theorem sjump14080 (w : World) (B t q g : Nat) (v : Value) (S : S14) (n : Nat) (md cy ad : Int) (cr : Bool) (H : StAt w B t q g v S ⟨14080, md, cy, ad, cr⟩) (hO : Ok n S) (hn : n + 5 < 1000000000) (hB : B ≤ w.heap.size) :
    Calls Tryd.prog 46 #[.pointer (some ⟨t, 0, none⟩)] w (SDone w B t q g v (jumpS 14080 ad S) ⟨14080, md, cy, ad, cr⟩ (.tuple #[])) := by
  obtain ⟨a, x, y, s, p, pc, h, b⟩ := S
  have HP : Hid (fl p) := Lib.hid hO.pf
  have HR0 := Lib.hid H
  have HF0 : Hid (Fr (sfoot t q g v) w w) := Lib.hid (Fr.refl _ w)
  have HL0 : Hid (Lies w v v) := Lib.hid (Lies.refl w v)
  have HB0 := Lib.hid hB
  have HO := Lib.hid hO
  have HN := Lib.hid hn
  obtain ⟨p0, p1⟩ : 0 ≤ pc ∧ pc < 65536 := hO.pc
  change Calls _ _ _ _ (SDone w B t q g v (intS (⟨a, x, y, s, p, pc, h, b⟩ : S14) ((pc + 1) % 65536) 48 65534) _ _)
  have HM : Hid (u16 ((pc + 1) % 65536)) := Lib.hid (mod_u16 _)
  have wM : IntKind.u16.wrap (pc + 1) = (pc + 1) % 65536 := by rw [IntKind.wrap_u16]
  generalize (pc + 1) % 65536 = M1 at *
  obtain ⟨m0, m1⟩ := HM.out
  obtain ⟨c0, c1, c2, c3, c4, c5, c6, t0, t1⟩ := sregs HR0.out
  clear c0 c1 c2 c3 c4 c6 t1
  obtain ⟨t2, t3, t4, t5, t6⟩ := srow HR0.out
  clear t3 t4 t5 t6
  clear H hO hB hn
  go_enter Tryd.func46, Tryd.ntmps46
  go_wp2_with fail
  (with_reducible refine (sint_any w B t q g v ⟨a, x, y, s, p, pc, h, b⟩ ⟨14080, md, cy, ad, cr⟩ n M1 48 65534 HR0.out HO.out HN.out HM.out isW48 u16_brk HB0.out).mono ?_)
  intro e w1 hd
  obtain ⟨rfl, v1, hr, hf, hl⟩ := sdone_tr HF0.out HL0.out hd
  change StAt w1 B t q g v1 (intS (⟨a, x, y, s, p, pc, h, b⟩ : S14) M1 48 65534) ⟨14080, md, cy, ad, cr⟩ at hr
  have HR1 := Lib.hid hr
  have HF1 := Lib.hid hf
  have HL1 := Lib.hid hl
  have HB1 := Lib.hid (Nat.le_trans HB0.out hf.size)
  clear hd hr hf hl
  clear c5 t0 t2
  go_wp2
  (first | go_end0 | refine bodyPost_ret (results_none rfl _ _ _) rfl ?_)
  exact ⟨rfl, v1, HR1.out, HF1.out, HL1.out⟩

end Ms
end Go.Proofs.YtlnpadekgakghaaDoor
