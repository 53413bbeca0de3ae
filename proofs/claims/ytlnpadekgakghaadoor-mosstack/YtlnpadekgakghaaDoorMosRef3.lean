/-
  Contracts of the document's CPU: Z and N, comparing, changing, words on the stack. Conditions: the state is one that there is, few bytes were written.
-/
import Derived.Test.YtlnpadekgakghaaDoorMosRef2
namespace Go.Proofs.YtlnpadekgakghaaDoor
open Go.RowKit
namespace Ms
open Al (byte of_byte)
set_option linter.unusedVariables false

set_option maxRecDepth 100000 in
set_option maxHeartbeats 4000000 in
theorem rzn_any (w : World) (B q : Nat) (v : Value) (S : S14) (u : Int) (H : RefAt w B q v S) (hO : fl S.p) (hu : byte u) (hB : B ≤ w.heap.size) :
    Calls Tryd.prog 81 #[.pointer (some ⟨q, 0, none⟩), .int .u8 u] w (RDone w B q v (withP S (zn S.p u)) (.tuple #[])) := by
  obtain ⟨a, x, y, s, p, pc, h, b⟩ := S
  have HP : Hid (fl p) := Lib.hid hO
  obtain ⟨u0, u1⟩ := hu
  have HR0 := Lib.hid H
  have HF0 : Hid (Fr (foot q v) w w) := Lib.hid (Fr.refl _ w)
  have HL0 : Hid (Lies w v v) := Lib.hid (Lies.refl w v)
  have HB0 := Lib.hid hB
  clear H hO hB
  show Calls _ _ _ _ (RDone w B q v ⟨a, x, y, s, zn p u, pc, h, b⟩ _)
  unfold zn
  obtain ⟨z, hz⟩ : ∃ z, (u == 0) = z := ⟨_, rfl⟩
  obtain ⟨g, hg⟩ : ∃ g, decide (128 ≤ u) = g := ⟨_, rfl⟩
  rw [hz, hg]
  go_enter Tryd.func81, Tryd.ntmps81
  go_wp2_with fail
  (with_reducible refine (rset_any w B q v ⟨a, x, y, s, p, pc, h, b⟩ 2 (z) HR0.out isF2 (fl_b (HP.out)) HB0.out).mono ?_)
  intro e w1 hd
  obtain ⟨rfl, v1, hr, hf, hl⟩ := rdone_tr HF0.out HL0.out hd
  change RefAt w1 B q v1 ⟨a, x, y, s, setF p 2 z, pc, h, b⟩ at hr
  have HR1 := Lib.hid hr
  have HF1 := Lib.hid hf
  have HL1 := Lib.hid hl
  have HB1 := Lib.hid (Nat.le_trans HB0.out hf.size)
  clear hd hr hf hl
  go_wp2_with fail
  (with_reducible refine (rset_any w1 B q v1 ⟨a, x, y, s, setF p 2 z, pc, h, b⟩ 128 (g) HR1.out isF128 (fl_b (fl_setF _ _ _ isF2 HP.out)) HB1.out).mono ?_)
  intro e w2 hd
  obtain ⟨rfl, v2, hr, hf, hl⟩ := rdone_tr HF1.out HL1.out hd
  change RefAt w2 B q v2 ⟨a, x, y, s, setF (setF p 2 z) 128 g, pc, h, b⟩ at hr
  have HR2 := Lib.hid hr
  have HF2 := Lib.hid hf
  have HL2 := Lib.hid hl
  have HB2 := Lib.hid (Nat.le_trans HB0.out hf.size)
  clear hd hr hf hl
  go_wp2
  (first | go_end0 | refine bodyPost_ret (results_none rfl _ _ _) rfl ?_)
  exact ⟨rfl, v2, HR2.out, HF2.out, HL2.out⟩

set_option maxRecDepth 100000 in
set_option maxHeartbeats 4000000 in
theorem rcompare2_any (w : World) (B q : Nat) (v : Value) (S : S14) (r u : Int) (H : RefAt w B q v S) (hO : fl S.p) (hr : byte r) (hu : byte u) (hB : B ≤ w.heap.size) :
    Calls Tryd.prog 77 #[.pointer (some ⟨q, 0, none⟩), .int .u8 r, .int .u8 u] w (RDone w B q v (withP S (cmpP S.p r u)) (.tuple #[])) := by
  obtain ⟨a, x, y, s, p, pc, h, b⟩ := S
  have HP : Hid (fl p) := Lib.hid hO
  have HR0 := Lib.hid H
  have HF0 : Hid (Fr (foot q v) w w) := Lib.hid (Fr.refl _ w)
  have HL0 : Hid (Lies w v v) := Lib.hid (Lies.refl w v)
  have HB0 := Lib.hid hB
  have HC := Lib.hid (fun W => Al.rcompare_any W r u hr hu)
  clear H hO hB hr hu
  show Calls _ _ _ _ (RDone w B q v ⟨a, x, y, s, cmpP p r u, pc, h, b⟩ _)
  unfold cmpP
  generalize Al.cmpC r u = k1 at *
  generalize Al.cmpZ r u = k2 at *
  generalize Al.cmpN r u = k3 at *
  go_enter Tryd.func77, Tryd.ntmps77
  go_wp2_with fail
  (with_reducible refine (HC.out _).mono ?_)
  rintro e w1 ⟨rfl, rfl⟩
  go_wp2_with fail
  (with_reducible refine (rset_any w B q v ⟨a, x, y, s, p, pc, h, b⟩ 1 (k1) HR0.out isF1 (fl_b (HP.out)) HB0.out).mono ?_)
  intro e w1 hd
  obtain ⟨rfl, v1, hr, hf, hl⟩ := rdone_tr HF0.out HL0.out hd
  change RefAt w1 B q v1 ⟨a, x, y, s, setF p 1 k1, pc, h, b⟩ at hr
  have HR1 := Lib.hid hr
  have HF1 := Lib.hid hf
  have HL1 := Lib.hid hl
  have HB1 := Lib.hid (Nat.le_trans HB0.out hf.size)
  clear hd hr hf hl
  go_wp2_with fail
  (with_reducible refine (rset_any w1 B q v1 ⟨a, x, y, s, setF p 1 k1, pc, h, b⟩ 2 (k2) HR1.out isF2 (fl_b (fl_setF _ _ _ isF1 HP.out)) HB1.out).mono ?_)
  intro e w2 hd
  obtain ⟨rfl, v2, hr, hf, hl⟩ := rdone_tr HF1.out HL1.out hd
  change RefAt w2 B q v2 ⟨a, x, y, s, setF (setF p 1 k1) 2 k2, pc, h, b⟩ at hr
  have HR2 := Lib.hid hr
  have HF2 := Lib.hid hf
  have HL2 := Lib.hid hl
  have HB2 := Lib.hid (Nat.le_trans HB0.out hf.size)
  clear hd hr hf hl
  go_wp2_with fail
  (with_reducible refine (rset_any w2 B q v2 ⟨a, x, y, s, setF (setF p 1 k1) 2 k2, pc, h, b⟩ 128 (k3) HR2.out isF128 (fl_b (fl_setF _ _ _ isF2 (fl_setF _ _ _ isF1 HP.out))) HB2.out).mono ?_)
  intro e w3 hd
  obtain ⟨rfl, v3, hr, hf, hl⟩ := rdone_tr HF2.out HL2.out hd
  change RefAt w3 B q v3 ⟨a, x, y, s, setF (setF (setF p 1 k1) 2 k2) 128 k3, pc, h, b⟩ at hr
  have HR3 := Lib.hid hr
  have HF3 := Lib.hid hf
  have HL3 := Lib.hid hl
  have HB3 := Lib.hid (Nat.le_trans HB0.out hf.size)
  clear hd hr hf hl
  go_wp2
  (first | go_end0 | refine bodyPost_ret (results_none rfl _ _ _) rfl ?_)
  exact ⟨rfl, v3, HR3.out, HF3.out, HL3.out⟩

set_option maxRecDepth 100000 in
set_option maxHeartbeats 4000000 in
theorem rpushW_any (w : World) (B q : Nat) (v : Value) (S : S14) (n : Nat) (u : Int) (H : RefAt w B q v S) (hO : Ok n S) (hn : n + 3 < 1000000000) (hu : u16 u) (hB : B ≤ w.heap.size) :
    Calls Tryd.prog 27 #[.pointer (some ⟨q, 0, none⟩), .int .u16 u] w (RDone w B q v (pushW S u) (.tuple #[])) := by
  have HO := Lib.hid hO
  have HN := Lib.hid hn
  obtain ⟨u0, u1⟩ := hu
  obtain ⟨a, x, y, s, p, pc, h, b⟩ := S
  have HR0 := Lib.hid H
  have HF0 : Hid (Fr (foot q v) w w) := Lib.hid (Fr.refl _ w)
  have HL0 : Hid (Lies w v v) := Lib.hid (Lies.refl w v)
  have HB0 := Lib.hid hB
  obtain ⟨hi, hhi⟩ : ∃ z, u / 256 = z := ⟨_, rfl⟩
  obtain ⟨lo, hlo⟩ : ∃ z, u % 256 = z := ⟨_, rfl⟩
  have hhi' : u.tdiv 256 = hi := by rw [Int.tdiv_eq_ediv_of_nonneg u0]; exact hhi
  have hlo' : u.tmod 256 = lo := by rw [Int.tmod_eq_emod_of_nonneg u0]; exact hlo
  have H1 : Hid (byte hi) := Lib.hid ⟨by omega, by omega⟩
  have H2 : Hid (byte lo) := Lib.hid ⟨by omega, by omega⟩
  have hi0 := H1.out.1
  have hi1 := H1.out.2
  have lo0 := H2.out.1
  have lo1 := H2.out.2
  have wh : IntKind.u16.wrap hi = hi := by rw [IntKind.wrap_u16]; omega
  have wh8 : IntKind.u8.wrap hi = hi := by rw [IntKind.wrap_u8]; omega
  have wl8 : IntKind.u8.wrap lo = lo := by rw [IntKind.wrap_u8]; omega
  have hE : pushW (⟨a, x, y, s, p, pc, h, b⟩ : S14) u = push (push (⟨a, x, y, s, p, pc, h, b⟩ : S14) hi) lo := by unfold pushW; rw [hhi, hlo]
  rw [hE]
  clear H hO hB hn hE
  go_enter Tryd.func27, Tryd.ntmps27
  go_wp2_with fail
  (with_reducible refine (rpush_any w B q v ⟨a, x, y, s, p, pc, h, b⟩ n hi HR0.out HO.out (by have := HN.out; omega) H1.out HB0.out).mono ?_)
  intro e w1 hd
  obtain ⟨rfl, v1, hr, hf, hl⟩ := rdone_tr HF0.out HL0.out hd
  change RefAt w1 B q v1 (push (⟨a, x, y, s, p, pc, h, b⟩ : S14) hi) at hr
  have HR1 := Lib.hid hr
  have HF1 := Lib.hid hf
  have HL1 := Lib.hid hl
  have HB1 := Lib.hid (Nat.le_trans HB0.out hf.size)
  clear hd hr hf hl
  go_wp2_with fail
  (with_reducible refine (rpush_any w1 B q v1 (push (⟨a, x, y, s, p, pc, h, b⟩ : S14) hi) (n + 1) lo HR1.out (ok_push hi HO.out H1.out) (by have := HN.out; omega) H2.out HB1.out).mono ?_)
  intro e w2 hd
  obtain ⟨rfl, v2, hr, hf, hl⟩ := rdone_tr HF1.out HL1.out hd
  change RefAt w2 B q v2 (push (push (⟨a, x, y, s, p, pc, h, b⟩ : S14) hi) lo) at hr
  have HR2 := Lib.hid hr
  have HF2 := Lib.hid hf
  have HL2 := Lib.hid hl
  have HB2 := Lib.hid (Nat.le_trans HB0.out hf.size)
  clear hd hr hf hl
  go_wp2
  (first | go_end0 | refine bodyPost_ret (results_none rfl _ _ _) rfl ?_)
  exact ⟨rfl, v2, HR2.out, HF2.out, HL2.out⟩

set_option maxRecDepth 100000 in
set_option maxHeartbeats 4000000 in
theorem rpullW_any (w : World) (B q : Nat) (v : Value) (S : S14) (n : Nat) (H : RefAt w B q v S) (hO : Ok n S) (hB : B ≤ w.heap.size) :
    Calls Tryd.prog 92 #[.pointer (some ⟨q, 0, none⟩)] w (RDone w B q v (pullW S) (.int .u16 (pullWV S))) := by
  have HO := Lib.hid hO
  obtain ⟨a, x, y, s, p, pc, h, b⟩ := S
  have HR0 := Lib.hid H
  have HF0 : Hid (Fr (foot q v) w w) := Lib.hid (Fr.refl _ w)
  have HL0 : Hid (Lies w v v) := Lib.hid (Lies.refl w v)
  have HB0 := Lib.hid hB
  have hv := pullV_byte hO
  have hv2 := pullV_byte (ok_pull hO)
  have hE : pullWV (⟨a, x, y, s, p, pc, h, b⟩ : S14) = pullV (⟨a, x, y, s, p, pc, h, b⟩ : S14) + 256 * pullV (pull (⟨a, x, y, s, p, pc, h, b⟩ : S14)) := rfl
  rw [hE]
  have H1 := Lib.hid (fun W V (hr : RefAt W B q V (⟨a, x, y, s, p, pc, h, b⟩ : S14)) hb => rpull_any W B q V (⟨a, x, y, s, p, pc, h, b⟩ : S14) n hr hO hb)
  have H2 := Lib.hid (fun W V (hr : RefAt W B q V (pull (⟨a, x, y, s, p, pc, h, b⟩ : S14))) hb => rpull_any W B q V (pull (⟨a, x, y, s, p, pc, h, b⟩ : S14)) n hr (ok_pull hO) hb)
  generalize pullV (⟨a, x, y, s, p, pc, h, b⟩ : S14) = M1 at *
  generalize pullV (pull (⟨a, x, y, s, p, pc, h, b⟩ : S14)) = M2 at *
  obtain ⟨m0, m1⟩ := hv
  obtain ⟨k0, k1⟩ := hv2
  clear H hO hB hE
  go_enter Tryd.func92, Tryd.ntmps92
  go_wp2_with fail
  (with_reducible refine (H1.out w v HR0.out HB0.out).mono ?_)
  intro e w1 hd
  obtain ⟨rfl, v1, hr, hf, hl⟩ := rdone_tr HF0.out HL0.out hd
  change RefAt w1 B q v1 (pull (⟨a, x, y, s, p, pc, h, b⟩ : S14)) at hr
  have HR1 := Lib.hid hr
  have HF1 := Lib.hid hf
  have HL1 := Lib.hid hl
  have HB1 := Lib.hid (Nat.le_trans HB0.out hf.size)
  clear hd hr hf hl
  go_wp2_with fail
  (with_reducible refine (H2.out w1 v1 HR1.out HB1.out).mono ?_)
  intro e w2 hd
  obtain ⟨rfl, v2, hr, hf, hl⟩ := rdone_tr HF1.out HL1.out hd
  change RefAt w2 B q v2 (pullW (⟨a, x, y, s, p, pc, h, b⟩ : S14)) at hr
  have HR2 := Lib.hid hr
  have HF2 := Lib.hid hf
  have HL2 := Lib.hid hl
  have HB2 := Lib.hid (Nat.le_trans HB0.out hf.size)
  clear hd hr hf hl
  go_wp2
  go_ret
  exact ⟨rfl, v2, HR2.out, HF2.out, HL2.out⟩

set_option maxRecDepth 100000 in
set_option maxHeartbeats 4000000 in
theorem rchanged0 (w : World) (B q : Nat) (v : Value) (S : S14) (u : Int) (H : RefAt w B q v S) (hO : fl S.p) (hu : byte u) (hB : B ≤ w.heap.size) :
    Calls Tryd.prog 82 #[.pointer (some ⟨q, 0, none⟩), .int .i64 0, .int .u8 u] w (RDone w B q v (withP S (chP 0 S.p u)) (.int .u8 (chV 0 S.p u))) := by
  obtain ⟨a, x, y, s, p, pc, h, b⟩ := S
  have HP : Hid (fl p) := Lib.hid hO
  have HR0 := Lib.hid H
  have HF0 : Hid (Fr (foot q v) w w) := Lib.hid (Fr.refl _ w)
  have HL0 : Hid (Lies w v v) := Lib.hid (Lies.refl w v)
  have HB0 := Lib.hid hB
  have HN := Lib.hid (ron_any w B q v ⟨a, x, y, s, p, pc, h, b⟩ 1 H isF1 hO.1)
  have HC := Lib.hid (fun W => Al.rleft_any W u false hu)
  have HRb : Hid (byte (Al.leftR u false)) := Lib.hid (Al.leftR_byte _ _)
  show Calls _ _ _ _ (RDone w B q v ⟨a, x, y, s, zn (setF p 1 (Al.leftC u)) (Al.leftR u false), pc, h, b⟩ (.int .u8 (Al.leftR u false)))
  generalize Al.leftR u false = R at *
  generalize Al.leftC u = C at *
  show Calls _ _ _ _ (RDone w B q v _ _)
  change Hid (Calls _ _ _ w fun e w' => e = .returned (.bool (on p 1)) ∧ w = w') at HN
  generalize on p 1 = o1 at *
  clear H hO hB hu
  cases o1
  · go_enter Tryd.func82, Tryd.ntmps82
    go_wp2_with fail
    (with_reducible refine (HN.out).mono ?_)
    rintro e w1 ⟨rfl, rfl⟩
    go_wp2_with fail
    (with_reducible refine (HC.out _).mono ?_)
    rintro e w1 ⟨rfl, rfl⟩
    go_wp2_with fail
    (with_reducible refine (rset_any w B q v ⟨a, x, y, s, p, pc, h, b⟩ 1 (C) HR0.out isF1 (fl_b HP.out) HB0.out).mono ?_)
    intro e w1 hd
    obtain ⟨rfl, v1, hr, hf, hl⟩ := rdone_tr HF0.out HL0.out hd
    change RefAt w1 B q v1 ⟨a, x, y, s, setF p 1 (C), pc, h, b⟩ at hr
    have HR1 := Lib.hid hr
    have HF1 := Lib.hid hf
    have HL1 := Lib.hid hl
    have HB1 := Lib.hid (Nat.le_trans HB0.out hf.size)
    clear hd hr hf hl
    go_wp2_with fail
    (with_reducible refine (rzn_any w1 B q v1 ⟨a, x, y, s, setF p 1 (C), pc, h, b⟩ R HR1.out (fl_setF _ _ _ isF1 HP.out) HRb.out HB1.out).mono ?_)
    intro e w2 hd
    obtain ⟨rfl, v2, hr, hf, hl⟩ := rdone_tr HF1.out HL1.out hd
    change RefAt w2 B q v2 ⟨a, x, y, s, zn (setF p 1 (C)) R, pc, h, b⟩ at hr
    have HR2 := Lib.hid hr
    have HF2 := Lib.hid hf
    have HL2 := Lib.hid hl
    have HB2 := Lib.hid (Nat.le_trans HB0.out hf.size)
    clear hd hr hf hl
    go_wp2
    go_ret
    exact ⟨rfl, v2, HR2.out, HF2.out, HL2.out⟩
  · go_enter Tryd.func82, Tryd.ntmps82
    go_wp2_with fail
    (with_reducible refine (HN.out).mono ?_)
    rintro e w1 ⟨rfl, rfl⟩
    go_wp2_with fail
    (with_reducible refine (HC.out _).mono ?_)
    rintro e w1 ⟨rfl, rfl⟩
    go_wp2_with fail
    (with_reducible refine (rset_any w B q v ⟨a, x, y, s, p, pc, h, b⟩ 1 (C) HR0.out isF1 (fl_b HP.out) HB0.out).mono ?_)
    intro e w1 hd
    obtain ⟨rfl, v1, hr, hf, hl⟩ := rdone_tr HF0.out HL0.out hd
    change RefAt w1 B q v1 ⟨a, x, y, s, setF p 1 (C), pc, h, b⟩ at hr
    have HR1 := Lib.hid hr
    have HF1 := Lib.hid hf
    have HL1 := Lib.hid hl
    have HB1 := Lib.hid (Nat.le_trans HB0.out hf.size)
    clear hd hr hf hl
    go_wp2_with fail
    (with_reducible refine (rzn_any w1 B q v1 ⟨a, x, y, s, setF p 1 (C), pc, h, b⟩ R HR1.out (fl_setF _ _ _ isF1 HP.out) HRb.out HB1.out).mono ?_)
    intro e w2 hd
    obtain ⟨rfl, v2, hr, hf, hl⟩ := rdone_tr HF1.out HL1.out hd
    change RefAt w2 B q v2 ⟨a, x, y, s, zn (setF p 1 (C)) R, pc, h, b⟩ at hr
    have HR2 := Lib.hid hr
    have HF2 := Lib.hid hf
    have HL2 := Lib.hid hl
    have HB2 := Lib.hid (Nat.le_trans HB0.out hf.size)
    clear hd hr hf hl
    go_wp2
    go_ret
    exact ⟨rfl, v2, HR2.out, HF2.out, HL2.out⟩

set_option maxRecDepth 100000 in
set_option maxHeartbeats 4000000 in
theorem rchanged1 (w : World) (B q : Nat) (v : Value) (S : S14) (u : Int) (H : RefAt w B q v S) (hO : fl S.p) (hu : byte u) (hB : B ≤ w.heap.size) :
    Calls Tryd.prog 82 #[.pointer (some ⟨q, 0, none⟩), .int .i64 1, .int .u8 u] w (RDone w B q v (withP S (chP 1 S.p u)) (.int .u8 (chV 1 S.p u))) := by
  obtain ⟨a, x, y, s, p, pc, h, b⟩ := S
  have HP : Hid (fl p) := Lib.hid hO
  have HR0 := Lib.hid H
  have HF0 : Hid (Fr (foot q v) w w) := Lib.hid (Fr.refl _ w)
  have HL0 : Hid (Lies w v v) := Lib.hid (Lies.refl w v)
  have HB0 := Lib.hid hB
  have HN := Lib.hid (ron_any w B q v ⟨a, x, y, s, p, pc, h, b⟩ 1 H isF1 hO.1)
  have HC := Lib.hid (fun W => Al.rleft_any W u (on p 1) hu)
  have HRb : Hid (byte (Al.leftR u (on p 1))) := Lib.hid (Al.leftR_byte _ _)
  show Calls _ _ _ _ (RDone w B q v ⟨a, x, y, s, zn (setF p 1 (Al.leftC u)) (Al.leftR u (on p 1)), pc, h, b⟩ (.int .u8 (Al.leftR u (on p 1))))
  generalize Al.leftR u (on p 1) = R at *
  generalize Al.leftC u = C at *
  show Calls _ _ _ _ (RDone w B q v _ _)
  change Hid (Calls _ _ _ w fun e w' => e = .returned (.bool (on p 1)) ∧ w = w') at HN
  generalize on p 1 = o1 at *
  clear H hO hB hu
  cases o1
  · go_enter Tryd.func82, Tryd.ntmps82
    go_wp2_with fail
    (with_reducible refine (HN.out).mono ?_)
    rintro e w1 ⟨rfl, rfl⟩
    go_wp2_with fail
    (with_reducible refine (HC.out _).mono ?_)
    rintro e w1 ⟨rfl, rfl⟩
    go_wp2_with fail
    (with_reducible refine (rset_any w B q v ⟨a, x, y, s, p, pc, h, b⟩ 1 (C) HR0.out isF1 (fl_b HP.out) HB0.out).mono ?_)
    intro e w1 hd
    obtain ⟨rfl, v1, hr, hf, hl⟩ := rdone_tr HF0.out HL0.out hd
    change RefAt w1 B q v1 ⟨a, x, y, s, setF p 1 (C), pc, h, b⟩ at hr
    have HR1 := Lib.hid hr
    have HF1 := Lib.hid hf
    have HL1 := Lib.hid hl
    have HB1 := Lib.hid (Nat.le_trans HB0.out hf.size)
    clear hd hr hf hl
    go_wp2_with fail
    (with_reducible refine (rzn_any w1 B q v1 ⟨a, x, y, s, setF p 1 (C), pc, h, b⟩ R HR1.out (fl_setF _ _ _ isF1 HP.out) HRb.out HB1.out).mono ?_)
    intro e w2 hd
    obtain ⟨rfl, v2, hr, hf, hl⟩ := rdone_tr HF1.out HL1.out hd
    change RefAt w2 B q v2 ⟨a, x, y, s, zn (setF p 1 (C)) R, pc, h, b⟩ at hr
    have HR2 := Lib.hid hr
    have HF2 := Lib.hid hf
    have HL2 := Lib.hid hl
    have HB2 := Lib.hid (Nat.le_trans HB0.out hf.size)
    clear hd hr hf hl
    go_wp2
    go_ret
    exact ⟨rfl, v2, HR2.out, HF2.out, HL2.out⟩
  · go_enter Tryd.func82, Tryd.ntmps82
    go_wp2_with fail
    (with_reducible refine (HN.out).mono ?_)
    rintro e w1 ⟨rfl, rfl⟩
    go_wp2_with fail
    (with_reducible refine (HC.out _).mono ?_)
    rintro e w1 ⟨rfl, rfl⟩
    go_wp2_with fail
    (with_reducible refine (rset_any w B q v ⟨a, x, y, s, p, pc, h, b⟩ 1 (C) HR0.out isF1 (fl_b HP.out) HB0.out).mono ?_)
    intro e w1 hd
    obtain ⟨rfl, v1, hr, hf, hl⟩ := rdone_tr HF0.out HL0.out hd
    change RefAt w1 B q v1 ⟨a, x, y, s, setF p 1 (C), pc, h, b⟩ at hr
    have HR1 := Lib.hid hr
    have HF1 := Lib.hid hf
    have HL1 := Lib.hid hl
    have HB1 := Lib.hid (Nat.le_trans HB0.out hf.size)
    clear hd hr hf hl
    go_wp2_with fail
    (with_reducible refine (rzn_any w1 B q v1 ⟨a, x, y, s, setF p 1 (C), pc, h, b⟩ R HR1.out (fl_setF _ _ _ isF1 HP.out) HRb.out HB1.out).mono ?_)
    intro e w2 hd
    obtain ⟨rfl, v2, hr, hf, hl⟩ := rdone_tr HF1.out HL1.out hd
    change RefAt w2 B q v2 ⟨a, x, y, s, zn (setF p 1 (C)) R, pc, h, b⟩ at hr
    have HR2 := Lib.hid hr
    have HF2 := Lib.hid hf
    have HL2 := Lib.hid hl
    have HB2 := Lib.hid (Nat.le_trans HB0.out hf.size)
    clear hd hr hf hl
    go_wp2
    go_ret
    exact ⟨rfl, v2, HR2.out, HF2.out, HL2.out⟩

set_option maxRecDepth 100000 in
set_option maxHeartbeats 4000000 in
theorem rchanged2 (w : World) (B q : Nat) (v : Value) (S : S14) (u : Int) (H : RefAt w B q v S) (hO : fl S.p) (hu : byte u) (hB : B ≤ w.heap.size) :
    Calls Tryd.prog 82 #[.pointer (some ⟨q, 0, none⟩), .int .i64 2, .int .u8 u] w (RDone w B q v (withP S (chP 2 S.p u)) (.int .u8 (chV 2 S.p u))) := by
  obtain ⟨a, x, y, s, p, pc, h, b⟩ := S
  have HP : Hid (fl p) := Lib.hid hO
  have HR0 := Lib.hid H
  have HF0 : Hid (Fr (foot q v) w w) := Lib.hid (Fr.refl _ w)
  have HL0 : Hid (Lies w v v) := Lib.hid (Lies.refl w v)
  have HB0 := Lib.hid hB
  have HN := Lib.hid (ron_any w B q v ⟨a, x, y, s, p, pc, h, b⟩ 1 H isF1 hO.1)
  have HC := Lib.hid (fun W => Al.rright_any W u false hu)
  have HRb : Hid (byte (Al.rightR u false)) := Lib.hid (Al.rightR_byte _ _ hu)
  show Calls _ _ _ _ (RDone w B q v ⟨a, x, y, s, zn (setF p 1 (Al.rightC u)) (Al.rightR u false), pc, h, b⟩ (.int .u8 (Al.rightR u false)))
  generalize Al.rightR u false = R at *
  generalize Al.rightC u = C at *
  show Calls _ _ _ _ (RDone w B q v _ _)
  change Hid (Calls _ _ _ w fun e w' => e = .returned (.bool (on p 1)) ∧ w = w') at HN
  generalize on p 1 = o1 at *
  clear H hO hB hu
  cases o1
  · go_enter Tryd.func82, Tryd.ntmps82
    go_wp2_with fail
    (with_reducible refine (HN.out).mono ?_)
    rintro e w1 ⟨rfl, rfl⟩
    go_wp2_with fail
    (with_reducible refine (HC.out _).mono ?_)
    rintro e w1 ⟨rfl, rfl⟩
    go_wp2_with fail
    (with_reducible refine (rset_any w B q v ⟨a, x, y, s, p, pc, h, b⟩ 1 (C) HR0.out isF1 (fl_b HP.out) HB0.out).mono ?_)
    intro e w1 hd
    obtain ⟨rfl, v1, hr, hf, hl⟩ := rdone_tr HF0.out HL0.out hd
    change RefAt w1 B q v1 ⟨a, x, y, s, setF p 1 (C), pc, h, b⟩ at hr
    have HR1 := Lib.hid hr
    have HF1 := Lib.hid hf
    have HL1 := Lib.hid hl
    have HB1 := Lib.hid (Nat.le_trans HB0.out hf.size)
    clear hd hr hf hl
    go_wp2_with fail
    (with_reducible refine (rzn_any w1 B q v1 ⟨a, x, y, s, setF p 1 (C), pc, h, b⟩ R HR1.out (fl_setF _ _ _ isF1 HP.out) HRb.out HB1.out).mono ?_)
    intro e w2 hd
    obtain ⟨rfl, v2, hr, hf, hl⟩ := rdone_tr HF1.out HL1.out hd
    change RefAt w2 B q v2 ⟨a, x, y, s, zn (setF p 1 (C)) R, pc, h, b⟩ at hr
    have HR2 := Lib.hid hr
    have HF2 := Lib.hid hf
    have HL2 := Lib.hid hl
    have HB2 := Lib.hid (Nat.le_trans HB0.out hf.size)
    clear hd hr hf hl
    go_wp2
    go_ret
    exact ⟨rfl, v2, HR2.out, HF2.out, HL2.out⟩
  · go_enter Tryd.func82, Tryd.ntmps82
    go_wp2_with fail
    (with_reducible refine (HN.out).mono ?_)
    rintro e w1 ⟨rfl, rfl⟩
    go_wp2_with fail
    (with_reducible refine (HC.out _).mono ?_)
    rintro e w1 ⟨rfl, rfl⟩
    go_wp2_with fail
    (with_reducible refine (rset_any w B q v ⟨a, x, y, s, p, pc, h, b⟩ 1 (C) HR0.out isF1 (fl_b HP.out) HB0.out).mono ?_)
    intro e w1 hd
    obtain ⟨rfl, v1, hr, hf, hl⟩ := rdone_tr HF0.out HL0.out hd
    change RefAt w1 B q v1 ⟨a, x, y, s, setF p 1 (C), pc, h, b⟩ at hr
    have HR1 := Lib.hid hr
    have HF1 := Lib.hid hf
    have HL1 := Lib.hid hl
    have HB1 := Lib.hid (Nat.le_trans HB0.out hf.size)
    clear hd hr hf hl
    go_wp2_with fail
    (with_reducible refine (rzn_any w1 B q v1 ⟨a, x, y, s, setF p 1 (C), pc, h, b⟩ R HR1.out (fl_setF _ _ _ isF1 HP.out) HRb.out HB1.out).mono ?_)
    intro e w2 hd
    obtain ⟨rfl, v2, hr, hf, hl⟩ := rdone_tr HF1.out HL1.out hd
    change RefAt w2 B q v2 ⟨a, x, y, s, zn (setF p 1 (C)) R, pc, h, b⟩ at hr
    have HR2 := Lib.hid hr
    have HF2 := Lib.hid hf
    have HL2 := Lib.hid hl
    have HB2 := Lib.hid (Nat.le_trans HB0.out hf.size)
    clear hd hr hf hl
    go_wp2
    go_ret
    exact ⟨rfl, v2, HR2.out, HF2.out, HL2.out⟩

set_option maxRecDepth 100000 in
set_option maxHeartbeats 4000000 in
theorem rchanged3 (w : World) (B q : Nat) (v : Value) (S : S14) (u : Int) (H : RefAt w B q v S) (hO : fl S.p) (hu : byte u) (hB : B ≤ w.heap.size) :
    Calls Tryd.prog 82 #[.pointer (some ⟨q, 0, none⟩), .int .i64 3, .int .u8 u] w (RDone w B q v (withP S (chP 3 S.p u)) (.int .u8 (chV 3 S.p u))) := by
  obtain ⟨a, x, y, s, p, pc, h, b⟩ := S
  have HP : Hid (fl p) := Lib.hid hO
  have HR0 := Lib.hid H
  have HF0 : Hid (Fr (foot q v) w w) := Lib.hid (Fr.refl _ w)
  have HL0 : Hid (Lies w v v) := Lib.hid (Lies.refl w v)
  have HB0 := Lib.hid hB
  have HN := Lib.hid (ron_any w B q v ⟨a, x, y, s, p, pc, h, b⟩ 1 H isF1 hO.1)
  have HC := Lib.hid (fun W => Al.rright_any W u (on p 1) hu)
  have HRb : Hid (byte (Al.rightR u (on p 1))) := Lib.hid (Al.rightR_byte _ _ hu)
  show Calls _ _ _ _ (RDone w B q v ⟨a, x, y, s, zn (setF p 1 (Al.rightC u)) (Al.rightR u (on p 1)), pc, h, b⟩ (.int .u8 (Al.rightR u (on p 1))))
  generalize Al.rightR u (on p 1) = R at *
  generalize Al.rightC u = C at *
  show Calls _ _ _ _ (RDone w B q v _ _)
  change Hid (Calls _ _ _ w fun e w' => e = .returned (.bool (on p 1)) ∧ w = w') at HN
  generalize on p 1 = o1 at *
  clear H hO hB hu
  cases o1
  · go_enter Tryd.func82, Tryd.ntmps82
    go_wp2_with fail
    (with_reducible refine (HN.out).mono ?_)
    rintro e w1 ⟨rfl, rfl⟩
    go_wp2_with fail
    (with_reducible refine (HC.out _).mono ?_)
    rintro e w1 ⟨rfl, rfl⟩
    go_wp2_with fail
    (with_reducible refine (rset_any w B q v ⟨a, x, y, s, p, pc, h, b⟩ 1 (C) HR0.out isF1 (fl_b HP.out) HB0.out).mono ?_)
    intro e w1 hd
    obtain ⟨rfl, v1, hr, hf, hl⟩ := rdone_tr HF0.out HL0.out hd
    change RefAt w1 B q v1 ⟨a, x, y, s, setF p 1 (C), pc, h, b⟩ at hr
    have HR1 := Lib.hid hr
    have HF1 := Lib.hid hf
    have HL1 := Lib.hid hl
    have HB1 := Lib.hid (Nat.le_trans HB0.out hf.size)
    clear hd hr hf hl
    go_wp2_with fail
    (with_reducible refine (rzn_any w1 B q v1 ⟨a, x, y, s, setF p 1 (C), pc, h, b⟩ R HR1.out (fl_setF _ _ _ isF1 HP.out) HRb.out HB1.out).mono ?_)
    intro e w2 hd
    obtain ⟨rfl, v2, hr, hf, hl⟩ := rdone_tr HF1.out HL1.out hd
    change RefAt w2 B q v2 ⟨a, x, y, s, zn (setF p 1 (C)) R, pc, h, b⟩ at hr
    have HR2 := Lib.hid hr
    have HF2 := Lib.hid hf
    have HL2 := Lib.hid hl
    have HB2 := Lib.hid (Nat.le_trans HB0.out hf.size)
    clear hd hr hf hl
    go_wp2
    go_ret
    exact ⟨rfl, v2, HR2.out, HF2.out, HL2.out⟩
  · go_enter Tryd.func82, Tryd.ntmps82
    go_wp2_with fail
    (with_reducible refine (HN.out).mono ?_)
    rintro e w1 ⟨rfl, rfl⟩
    go_wp2_with fail
    (with_reducible refine (HC.out _).mono ?_)
    rintro e w1 ⟨rfl, rfl⟩
    go_wp2_with fail
    (with_reducible refine (rset_any w B q v ⟨a, x, y, s, p, pc, h, b⟩ 1 (C) HR0.out isF1 (fl_b HP.out) HB0.out).mono ?_)
    intro e w1 hd
    obtain ⟨rfl, v1, hr, hf, hl⟩ := rdone_tr HF0.out HL0.out hd
    change RefAt w1 B q v1 ⟨a, x, y, s, setF p 1 (C), pc, h, b⟩ at hr
    have HR1 := Lib.hid hr
    have HF1 := Lib.hid hf
    have HL1 := Lib.hid hl
    have HB1 := Lib.hid (Nat.le_trans HB0.out hf.size)
    clear hd hr hf hl
    go_wp2_with fail
    (with_reducible refine (rzn_any w1 B q v1 ⟨a, x, y, s, setF p 1 (C), pc, h, b⟩ R HR1.out (fl_setF _ _ _ isF1 HP.out) HRb.out HB1.out).mono ?_)
    intro e w2 hd
    obtain ⟨rfl, v2, hr, hf, hl⟩ := rdone_tr HF1.out HL1.out hd
    change RefAt w2 B q v2 ⟨a, x, y, s, zn (setF p 1 (C)) R, pc, h, b⟩ at hr
    have HR2 := Lib.hid hr
    have HF2 := Lib.hid hf
    have HL2 := Lib.hid hl
    have HB2 := Lib.hid (Nat.le_trans HB0.out hf.size)
    clear hd hr hf hl
    go_wp2
    go_ret
    exact ⟨rfl, v2, HR2.out, HF2.out, HL2.out⟩

set_option maxRecDepth 100000 in
set_option maxHeartbeats 4000000 in
theorem rchanged6 (w : World) (B q : Nat) (v : Value) (S : S14) (u : Int) (H : RefAt w B q v S) (hO : fl S.p) (hu : byte u) (hB : B ≤ w.heap.size) :
    Calls Tryd.prog 82 #[.pointer (some ⟨q, 0, none⟩), .int .i64 6, .int .u8 u] w (RDone w B q v (withP S (chP 6 S.p u)) (.int .u8 (chV 6 S.p u))) := by
  obtain ⟨a, x, y, s, p, pc, h, b⟩ := S
  have HP : Hid (fl p) := Lib.hid hO
  have HR0 := Lib.hid H
  have HF0 : Hid (Fr (foot q v) w w) := Lib.hid (Fr.refl _ w)
  have HL0 : Hid (Lies w v v) := Lib.hid (Lies.refl w v)
  have HB0 := Lib.hid hB
  have HN := Lib.hid (ron_any w B q v ⟨a, x, y, s, p, pc, h, b⟩ 1 H isF1 hO.1)
  obtain ⟨u0, u1⟩ := hu
  obtain ⟨R, hR⟩ : ∃ z, (u - 1) % 256 = z := ⟨_, rfl⟩
  have HRb : Hid (byte R) := Lib.hid ⟨by omega, by omega⟩
  show Calls _ _ _ _ (RDone w B q v ⟨a, x, y, s, zn (setF p 1 (on p 1)) ((u - 1) % 256), pc, h, b⟩ (.int .u8 ((u - 1) % 256)))
  rw [hR]
  show Calls _ _ _ _ (RDone w B q v _ _)
  change Hid (Calls _ _ _ w fun e w' => e = .returned (.bool (on p 1)) ∧ w = w') at HN
  generalize on p 1 = o1 at *
  clear H hO hB
  cases o1
  · go_enter Tryd.func82, Tryd.ntmps82
    go_wp2_with fail
    (with_reducible refine (HN.out).mono ?_)
    rintro e w1 ⟨rfl, rfl⟩
    go_wp2_with fail
    (with_reducible refine (rset_any w B q v ⟨a, x, y, s, p, pc, h, b⟩ 1 (false) HR0.out isF1 (fl_b HP.out) HB0.out).mono ?_)
    intro e w1 hd
    obtain ⟨rfl, v1, hr, hf, hl⟩ := rdone_tr HF0.out HL0.out hd
    change RefAt w1 B q v1 ⟨a, x, y, s, setF p 1 (false), pc, h, b⟩ at hr
    have HR1 := Lib.hid hr
    have HF1 := Lib.hid hf
    have HL1 := Lib.hid hl
    have HB1 := Lib.hid (Nat.le_trans HB0.out hf.size)
    clear hd hr hf hl
    go_wp2_with fail
    (with_reducible refine (rzn_any w1 B q v1 ⟨a, x, y, s, setF p 1 (false), pc, h, b⟩ R HR1.out (fl_setF _ _ _ isF1 HP.out) HRb.out HB1.out).mono ?_)
    intro e w2 hd
    obtain ⟨rfl, v2, hr, hf, hl⟩ := rdone_tr HF1.out HL1.out hd
    change RefAt w2 B q v2 ⟨a, x, y, s, zn (setF p 1 (false)) R, pc, h, b⟩ at hr
    have HR2 := Lib.hid hr
    have HF2 := Lib.hid hf
    have HL2 := Lib.hid hl
    have HB2 := Lib.hid (Nat.le_trans HB0.out hf.size)
    clear hd hr hf hl
    go_wp2
    go_ret
    exact ⟨rfl, v2, HR2.out, HF2.out, HL2.out⟩
  · go_enter Tryd.func82, Tryd.ntmps82
    go_wp2_with fail
    (with_reducible refine (HN.out).mono ?_)
    rintro e w1 ⟨rfl, rfl⟩
    go_wp2_with fail
    (with_reducible refine (rset_any w B q v ⟨a, x, y, s, p, pc, h, b⟩ 1 (true) HR0.out isF1 (fl_b HP.out) HB0.out).mono ?_)
    intro e w1 hd
    obtain ⟨rfl, v1, hr, hf, hl⟩ := rdone_tr HF0.out HL0.out hd
    change RefAt w1 B q v1 ⟨a, x, y, s, setF p 1 (true), pc, h, b⟩ at hr
    have HR1 := Lib.hid hr
    have HF1 := Lib.hid hf
    have HL1 := Lib.hid hl
    have HB1 := Lib.hid (Nat.le_trans HB0.out hf.size)
    clear hd hr hf hl
    go_wp2_with fail
    (with_reducible refine (rzn_any w1 B q v1 ⟨a, x, y, s, setF p 1 (true), pc, h, b⟩ R HR1.out (fl_setF _ _ _ isF1 HP.out) HRb.out HB1.out).mono ?_)
    intro e w2 hd
    obtain ⟨rfl, v2, hr, hf, hl⟩ := rdone_tr HF1.out HL1.out hd
    change RefAt w2 B q v2 ⟨a, x, y, s, zn (setF p 1 (true)) R, pc, h, b⟩ at hr
    have HR2 := Lib.hid hr
    have HF2 := Lib.hid hf
    have HL2 := Lib.hid hl
    have HB2 := Lib.hid (Nat.le_trans HB0.out hf.size)
    clear hd hr hf hl
    go_wp2
    go_ret
    exact ⟨rfl, v2, HR2.out, HF2.out, HL2.out⟩

set_option maxRecDepth 100000 in
set_option maxHeartbeats 4000000 in
theorem rchanged7 (w : World) (B q : Nat) (v : Value) (S : S14) (u : Int) (H : RefAt w B q v S) (hO : fl S.p) (hu : byte u) (hB : B ≤ w.heap.size) :
    Calls Tryd.prog 82 #[.pointer (some ⟨q, 0, none⟩), .int .i64 7, .int .u8 u] w (RDone w B q v (withP S (chP 7 S.p u)) (.int .u8 (chV 7 S.p u))) := by
  obtain ⟨a, x, y, s, p, pc, h, b⟩ := S
  have HP : Hid (fl p) := Lib.hid hO
  have HR0 := Lib.hid H
  have HF0 : Hid (Fr (foot q v) w w) := Lib.hid (Fr.refl _ w)
  have HL0 : Hid (Lies w v v) := Lib.hid (Lies.refl w v)
  have HB0 := Lib.hid hB
  have HN := Lib.hid (ron_any w B q v ⟨a, x, y, s, p, pc, h, b⟩ 1 H isF1 hO.1)
  obtain ⟨u0, u1⟩ := hu
  obtain ⟨R, hR⟩ : ∃ z, (u + 1) % 256 = z := ⟨_, rfl⟩
  have HRb : Hid (byte R) := Lib.hid ⟨by omega, by omega⟩
  show Calls _ _ _ _ (RDone w B q v ⟨a, x, y, s, zn (setF p 1 (on p 1)) ((u + 1) % 256), pc, h, b⟩ (.int .u8 ((u + 1) % 256)))
  rw [hR]
  show Calls _ _ _ _ (RDone w B q v _ _)
  change Hid (Calls _ _ _ w fun e w' => e = .returned (.bool (on p 1)) ∧ w = w') at HN
  generalize on p 1 = o1 at *
  clear H hO hB
  cases o1
  · go_enter Tryd.func82, Tryd.ntmps82
    go_wp2_with fail
    (with_reducible refine (HN.out).mono ?_)
    rintro e w1 ⟨rfl, rfl⟩
    go_wp2_with fail
    (with_reducible refine (rset_any w B q v ⟨a, x, y, s, p, pc, h, b⟩ 1 (false) HR0.out isF1 (fl_b HP.out) HB0.out).mono ?_)
    intro e w1 hd
    obtain ⟨rfl, v1, hr, hf, hl⟩ := rdone_tr HF0.out HL0.out hd
    change RefAt w1 B q v1 ⟨a, x, y, s, setF p 1 (false), pc, h, b⟩ at hr
    have HR1 := Lib.hid hr
    have HF1 := Lib.hid hf
    have HL1 := Lib.hid hl
    have HB1 := Lib.hid (Nat.le_trans HB0.out hf.size)
    clear hd hr hf hl
    go_wp2_with fail
    (with_reducible refine (rzn_any w1 B q v1 ⟨a, x, y, s, setF p 1 (false), pc, h, b⟩ R HR1.out (fl_setF _ _ _ isF1 HP.out) HRb.out HB1.out).mono ?_)
    intro e w2 hd
    obtain ⟨rfl, v2, hr, hf, hl⟩ := rdone_tr HF1.out HL1.out hd
    change RefAt w2 B q v2 ⟨a, x, y, s, zn (setF p 1 (false)) R, pc, h, b⟩ at hr
    have HR2 := Lib.hid hr
    have HF2 := Lib.hid hf
    have HL2 := Lib.hid hl
    have HB2 := Lib.hid (Nat.le_trans HB0.out hf.size)
    clear hd hr hf hl
    go_wp2
    go_ret
    exact ⟨rfl, v2, HR2.out, HF2.out, HL2.out⟩
  · go_enter Tryd.func82, Tryd.ntmps82
    go_wp2_with fail
    (with_reducible refine (HN.out).mono ?_)
    rintro e w1 ⟨rfl, rfl⟩
    go_wp2_with fail
    (with_reducible refine (rset_any w B q v ⟨a, x, y, s, p, pc, h, b⟩ 1 (true) HR0.out isF1 (fl_b HP.out) HB0.out).mono ?_)
    intro e w1 hd
    obtain ⟨rfl, v1, hr, hf, hl⟩ := rdone_tr HF0.out HL0.out hd
    change RefAt w1 B q v1 ⟨a, x, y, s, setF p 1 (true), pc, h, b⟩ at hr
    have HR1 := Lib.hid hr
    have HF1 := Lib.hid hf
    have HL1 := Lib.hid hl
    have HB1 := Lib.hid (Nat.le_trans HB0.out hf.size)
    clear hd hr hf hl
    go_wp2_with fail
    (with_reducible refine (rzn_any w1 B q v1 ⟨a, x, y, s, setF p 1 (true), pc, h, b⟩ R HR1.out (fl_setF _ _ _ isF1 HP.out) HRb.out HB1.out).mono ?_)
    intro e w2 hd
    obtain ⟨rfl, v2, hr, hf, hl⟩ := rdone_tr HF1.out HL1.out hd
    change RefAt w2 B q v2 ⟨a, x, y, s, zn (setF p 1 (true)) R, pc, h, b⟩ at hr
    have HR2 := Lib.hid hr
    have HF2 := Lib.hid hf
    have HL2 := Lib.hid hl
    have HB2 := Lib.hid (Nat.le_trans HB0.out hf.size)
    clear hd hr hf hl
    go_wp2
    go_ret
    exact ⟨rfl, v2, HR2.out, HF2.out, HL2.out⟩

end Ms
end Go.Proofs.YtlnpadekgakghaaDoor
