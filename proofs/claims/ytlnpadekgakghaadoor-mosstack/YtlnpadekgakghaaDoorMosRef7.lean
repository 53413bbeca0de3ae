/-
  Contracts of the document's CPU: what is done with registers, the stack, flags, branches, jumps. Conditions: the state is one that there is, few bytes were written.
-/
import Derived.Test.YtlnpadekgakghaaDoorMosRef6
namespace Go.Proofs.YtlnpadekgakghaaDoor
open Go.RowKit
namespace Ms
open Al (byte of_byte)
set_option linter.unusedVariables false

set_option maxRecDepth 100000 in
set_option maxHeartbeats 4000000 in
theorem rsingle4s (w : World) (B q : Nat) (v : Value) (S : S14) (n : Nat) (H : RefAt w B q v S) (hO : Ok n S) (hB : B ≤ w.heap.size) :
    Calls Tryd.prog 83 #[.pointer (some ⟨q, 0, none⟩), .int .i64 4, .bool true] w (RDone w B q v (single 4 true S) (.int .i64 2)) := by
  have HO := Lib.hid hO
  obtain ⟨a, x, y, s, p, pc, h, b⟩ := S
  have HR0 := Lib.hid H
  have HF0 : Hid (Fr (foot q v) w w) := Lib.hid (Fr.refl _ w)
  have HL0 : Hid (Lies w v v) := Lib.hid (Lies.refl w v)
  have HB0 := Lib.hid hB
  show Calls _ _ _ _ (RDone w B q v ⟨a, x, y, x, p, pc, h, b⟩ _)
  clear H hO hB
  go_enter Tryd.func83, Tryd.ntmps83
  obtain ⟨c0, c1, c2, c3, c4, c5, c6⟩ := regs HR0.out
  have f3 := RefAt.frozen HR0.out 3
  clear c0 c2 c4 c5 c6
  go_wp2
  go_ret
  exact rdone_set _ HF0.out HL0.out (put_s HR0.out _)

set_option maxRecDepth 100000 in
set_option maxHeartbeats 4000000 in
theorem rsingle5s (w : World) (B q : Nat) (v : Value) (S : S14) (n : Nat) (H : RefAt w B q v S) (hO : Ok n S) (hB : B ≤ w.heap.size) :
    Calls Tryd.prog 83 #[.pointer (some ⟨q, 0, none⟩), .int .i64 5, .bool true] w (RDone w B q v (single 5 true S) (.int .i64 2)) := by
  have HO := Lib.hid hO
  obtain ⟨a, x, y, s, p, pc, h, b⟩ := S
  have HR0 := Lib.hid H
  have HF0 : Hid (Fr (foot q v) w w) := Lib.hid (Fr.refl _ w)
  have HL0 : Hid (Lies w v v) := Lib.hid (Lies.refl w v)
  have HB0 := Lib.hid hB
  show Calls _ _ _ _ (RDone w B q v ⟨a, s, y, s, zn p s, pc, h, b⟩ _)
  clear H hO hB
  go_enter Tryd.func83, Tryd.ntmps83
  obtain ⟨c0, c1, c2, c3, c4, c5, c6⟩ := regs HR0.out
  have f1 := RefAt.frozen HR0.out 1
  clear c0 c2 c4 c5 c6
  have HR1 : Hid (RefAt (w.setCell ⟨q, 1, none⟩ (.int .u8 (s))) B q v ⟨a, s, y, s, p, pc, h, b⟩) := Lib.hid (put_x HR0.out _)
  have HF1 : Hid (Fr (foot q v) w (w.setCell ⟨q, 1, none⟩ (.int .u8 (s)))) := Lib.hid (HF0.out.setCell (by simp [foot]) _)
  have HL1 := Lib.hid HL0.out
  have HB1 : Hid (B ≤ (w.setCell ⟨q, 1, none⟩ (.int .u8 (s))).heap.size) := Lib.hid (Nat.le_trans HB0.out HF1.out.size)
  go_upto_region 6 with fail
  clear c3 c1 f1
  generalize w.setCell _ _ = w1 at *
  obtain ⟨c0, c1, c2, c3, c4, c5, c6⟩ := regs HR1.out
  clear c0 c2 c3 c4 c5 c6
  go_wp2_with fail
  (with_reducible refine (rzn_any w1 B q v ⟨a, s, y, s, p, pc, h, b⟩ s HR1.out HO.out.pf HO.out.s HB1.out).mono ?_)
  intro e w2 hd
  obtain ⟨rfl, v2, hr, hf, hl⟩ := rdone_tr HF1.out HL1.out hd
  change RefAt w2 B q v2 ⟨a, s, y, s, zn p s, pc, h, b⟩ at hr
  have HR2 := Lib.hid hr
  have HF2 := Lib.hid hf
  have HL2 := Lib.hid hl
  have HB2 := Lib.hid (Nat.le_trans HB0.out hf.size)
  clear hd hr hf hl
  clear c1
  go_wp2
  go_ret
  exact ⟨rfl, v2, HR2.out, HF2.out, HL2.out⟩

set_option maxRecDepth 100000 in
set_option maxHeartbeats 4000000 in
theorem rsingle4 (w : World) (B q : Nat) (v : Value) (S : S14) (n : Nat) (H : RefAt w B q v S) (hO : Ok n S) (hB : B ≤ w.heap.size) :
    Calls Tryd.prog 83 #[.pointer (some ⟨q, 0, none⟩), .int .i64 4, .bool false] w (RDone w B q v (single 4 false S) (.int .i64 2)) := by
  have HO := Lib.hid hO
  obtain ⟨a, x, y, s, p, pc, h, b⟩ := S
  have HR0 := Lib.hid H
  have HF0 : Hid (Fr (foot q v) w w) := Lib.hid (Fr.refl _ w)
  have HL0 : Hid (Lies w v v) := Lib.hid (Lies.refl w v)
  have HB0 := Lib.hid hB
  show Calls _ _ _ _ (RDone w B q v ⟨x, x, y, s, zn p x, pc, h, b⟩ _)
  clear H hO hB
  go_enter Tryd.func83, Tryd.ntmps83
  obtain ⟨c0, c1, c2, c3, c4, c5, c6⟩ := regs HR0.out
  have f0 := RefAt.frozen HR0.out 0
  clear c2 c3 c4 c5 c6
  have HR1 : Hid (RefAt (w.setCell ⟨q, 0, none⟩ (.int .u8 (x))) B q v ⟨x, x, y, s, p, pc, h, b⟩) := Lib.hid (put_a HR0.out _)
  have HF1 : Hid (Fr (foot q v) w (w.setCell ⟨q, 0, none⟩ (.int .u8 (x)))) := Lib.hid (HF0.out.setCell (by simp [foot]) _)
  have HL1 := Lib.hid HL0.out
  have HB1 : Hid (B ≤ (w.setCell ⟨q, 0, none⟩ (.int .u8 (x))).heap.size) := Lib.hid (Nat.le_trans HB0.out HF1.out.size)
  go_upto_region 13 with fail
  clear c1 c0 f0
  generalize w.setCell _ _ = w1 at *
  obtain ⟨c0, c1, c2, c3, c4, c5, c6⟩ := regs HR1.out
  clear c1 c2 c3 c4 c5 c6
  go_wp2_with fail
  (with_reducible refine (rzn_any w1 B q v ⟨x, x, y, s, p, pc, h, b⟩ x HR1.out HO.out.pf HO.out.x HB1.out).mono ?_)
  intro e w2 hd
  obtain ⟨rfl, v2, hr, hf, hl⟩ := rdone_tr HF1.out HL1.out hd
  change RefAt w2 B q v2 ⟨x, x, y, s, zn p x, pc, h, b⟩ at hr
  have HR2 := Lib.hid hr
  have HF2 := Lib.hid hf
  have HL2 := Lib.hid hl
  have HB2 := Lib.hid (Nat.le_trans HB0.out hf.size)
  clear hd hr hf hl
  clear c0
  go_wp2
  go_ret
  exact ⟨rfl, v2, HR2.out, HF2.out, HL2.out⟩

set_option maxRecDepth 100000 in
set_option maxHeartbeats 4000000 in
theorem rsingle5 (w : World) (B q : Nat) (v : Value) (S : S14) (n : Nat) (H : RefAt w B q v S) (hO : Ok n S) (hB : B ≤ w.heap.size) :
    Calls Tryd.prog 83 #[.pointer (some ⟨q, 0, none⟩), .int .i64 5, .bool false] w (RDone w B q v (single 5 false S) (.int .i64 2)) := by
  have HO := Lib.hid hO
  obtain ⟨a, x, y, s, p, pc, h, b⟩ := S
  have HR0 := Lib.hid H
  have HF0 : Hid (Fr (foot q v) w w) := Lib.hid (Fr.refl _ w)
  have HL0 : Hid (Lies w v v) := Lib.hid (Lies.refl w v)
  have HB0 := Lib.hid hB
  show Calls _ _ _ _ (RDone w B q v ⟨a, a, y, s, zn p a, pc, h, b⟩ _)
  clear H hO hB
  go_enter Tryd.func83, Tryd.ntmps83
  obtain ⟨c0, c1, c2, c3, c4, c5, c6⟩ := regs HR0.out
  have f1 := RefAt.frozen HR0.out 1
  clear c2 c3 c4 c5 c6
  have HR1 : Hid (RefAt (w.setCell ⟨q, 1, none⟩ (.int .u8 (a))) B q v ⟨a, a, y, s, p, pc, h, b⟩) := Lib.hid (put_x HR0.out _)
  have HF1 : Hid (Fr (foot q v) w (w.setCell ⟨q, 1, none⟩ (.int .u8 (a)))) := Lib.hid (HF0.out.setCell (by simp [foot]) _)
  have HL1 := Lib.hid HL0.out
  have HB1 : Hid (B ≤ (w.setCell ⟨q, 1, none⟩ (.int .u8 (a))).heap.size) := Lib.hid (Nat.le_trans HB0.out HF1.out.size)
  go_upto_region 16 with fail
  clear c0 c1 f1
  generalize w.setCell _ _ = w1 at *
  obtain ⟨c0, c1, c2, c3, c4, c5, c6⟩ := regs HR1.out
  clear c0 c2 c3 c4 c5 c6
  go_wp2_with fail
  (with_reducible refine (rzn_any w1 B q v ⟨a, a, y, s, p, pc, h, b⟩ a HR1.out HO.out.pf HO.out.a HB1.out).mono ?_)
  intro e w2 hd
  obtain ⟨rfl, v2, hr, hf, hl⟩ := rdone_tr HF1.out HL1.out hd
  change RefAt w2 B q v2 ⟨a, a, y, s, zn p a, pc, h, b⟩ at hr
  have HR2 := Lib.hid hr
  have HF2 := Lib.hid hf
  have HL2 := Lib.hid hl
  have HB2 := Lib.hid (Nat.le_trans HB0.out hf.size)
  clear hd hr hf hl
  clear c1
  go_wp2
  go_ret
  exact ⟨rfl, v2, HR2.out, HF2.out, HL2.out⟩

set_option maxRecDepth 100000 in
set_option maxHeartbeats 4000000 in
theorem rsingle6 (w : World) (B q : Nat) (v : Value) (S : S14) (n : Nat) (H : RefAt w B q v S) (hO : Ok n S) (hB : B ≤ w.heap.size) :
    Calls Tryd.prog 83 #[.pointer (some ⟨q, 0, none⟩), .int .i64 6, .bool false] w (RDone w B q v (single 6 false S) (.int .i64 2)) := by
  have HO := Lib.hid hO
  obtain ⟨a, x, y, s, p, pc, h, b⟩ := S
  obtain ⟨x0, x1⟩ : 0 ≤ x ∧ x < 256 := hO.x
  have HR0 := Lib.hid H
  have HF0 : Hid (Fr (foot q v) w w) := Lib.hid (Fr.refl _ w)
  have HL0 : Hid (Lies w v v) := Lib.hid (Lies.refl w v)
  have HB0 := Lib.hid hB
  show Calls _ _ _ _ (RDone w B q v ⟨a, (x - 1) % 256, y, s, zn p ((x - 1) % 256), pc, h, b⟩ _)
  obtain ⟨k, hk⟩ : ∃ k, (x - 1) % 256 = k := ⟨_, rfl⟩
  have wk : IntKind.u8.wrap (x - 1) = k := by rw [IntKind.wrap_u8]; exact hk
  have HK : Hid (byte k) := Lib.hid ⟨by omega, by omega⟩
  have k0 := HK.out.1
  have k1 := HK.out.2
  rw [hk]
  clear hk H hO hB
  go_enter Tryd.func83, Tryd.ntmps83
  obtain ⟨c0, c1, c2, c3, c4, c5, c6⟩ := regs HR0.out
  have f1 := RefAt.frozen HR0.out 1
  clear c0 c2 c3 c4 c5 c6
  have HR1 : Hid (RefAt (w.setCell ⟨q, 1, none⟩ (.int .u8 (k))) B q v ⟨a, k, y, s, p, pc, h, b⟩) := Lib.hid (put_x HR0.out _)
  have HF1 : Hid (Fr (foot q v) w (w.setCell ⟨q, 1, none⟩ (.int .u8 (k)))) := Lib.hid (HF0.out.setCell (by simp [foot]) _)
  have HL1 := Lib.hid HL0.out
  have HB1 : Hid (B ≤ (w.setCell ⟨q, 1, none⟩ (.int .u8 (k))).heap.size) := Lib.hid (Nat.le_trans HB0.out HF1.out.size)
  go_upto_region 19 with fail
  clear c1 f1
  generalize w.setCell _ _ = w1 at *
  obtain ⟨c0, c1, c2, c3, c4, c5, c6⟩ := regs HR1.out
  clear c0 c2 c3 c4 c5 c6
  go_wp2_with fail
  (with_reducible refine (rzn_any w1 B q v ⟨a, k, y, s, p, pc, h, b⟩ k HR1.out HO.out.pf HK.out HB1.out).mono ?_)
  intro e w2 hd
  obtain ⟨rfl, v2, hr, hf, hl⟩ := rdone_tr HF1.out HL1.out hd
  change RefAt w2 B q v2 ⟨a, k, y, s, zn p k, pc, h, b⟩ at hr
  have HR2 := Lib.hid hr
  have HF2 := Lib.hid hf
  have HL2 := Lib.hid hl
  have HB2 := Lib.hid (Nat.le_trans HB0.out hf.size)
  clear hd hr hf hl
  clear c1
  go_wp2
  go_ret
  exact ⟨rfl, v2, HR2.out, HF2.out, HL2.out⟩

set_option maxRecDepth 100000 in
set_option maxHeartbeats 4000000 in
theorem rsingle7 (w : World) (B q : Nat) (v : Value) (S : S14) (n : Nat) (H : RefAt w B q v S) (hO : Ok n S) (hB : B ≤ w.heap.size) :
    Calls Tryd.prog 83 #[.pointer (some ⟨q, 0, none⟩), .int .i64 7, .bool false] w (RDone w B q v (single 7 false S) (.int .i64 2)) := by
  have HO := Lib.hid hO
  obtain ⟨a, x, y, s, p, pc, h, b⟩ := S
  have HR0 := Lib.hid H
  have HF0 : Hid (Fr (foot q v) w w) := Lib.hid (Fr.refl _ w)
  have HL0 : Hid (Lies w v v) := Lib.hid (Lies.refl w v)
  have HB0 := Lib.hid hB
  show Calls _ _ _ _ (RDone w B q v ⟨a, x, y, s, p, pc, h, b⟩ _)
  clear H hO hB
  go_enter Tryd.func83, Tryd.ntmps83
  go_wp2
  go_ret
  exact ⟨rfl, v, HR0.out, HF0.out, HL0.out⟩

set_option maxRecDepth 100000 in
set_option maxHeartbeats 4000000 in
theorem rstack0 (w : World) (B q : Nat) (v : Value) (S : S14) (n : Nat) (H : RefAt w B q v S) (hO : Ok n S) (hn : n + 2 < 1000000000) (hB : B ≤ w.heap.size) :
    Calls Tryd.prog 70 #[.pointer (some ⟨q, 0, none⟩), .int .i64 0] w (RDone w B q v (stack 0 S) (.int .i64 3)) := by
  have HO := Lib.hid hO
  have HN := Lib.hid hn
  obtain ⟨a, x, y, s, p, pc, h, b⟩ := S
  obtain ⟨p0, p1⟩ : 0 ≤ p ∧ p < 256 := hO.p
  have HR0 := Lib.hid H
  have HF0 : Hid (Fr (foot q v) w w) := Lib.hid (Fr.refl _ w)
  have HL0 : Hid (Lies w v v) := Lib.hid (Lies.refl w v)
  have HB0 := Lib.hid hB
  show Calls _ _ _ _ (RDone w B q v (push (⟨a, x, y, s, p, pc, h, b⟩ : S14) (p + 48)) _)
  have HP48 : Hid (byte (p + 48)) := Lib.hid (p48 hO)
  have q0 := HP48.out.1
  have q1 := HP48.out.2
  clear H hO hB hn
  go_enter Tryd.func70, Tryd.ntmps70
  obtain ⟨c0, c1, c2, c3, c4, c5, c6⟩ := regs HR0.out
  clear c0 c1 c2 c3 c5 c6
  go_wp2_with fail
  (with_reducible refine (rpush_any w B q v ⟨a, x, y, s, p, pc, h, b⟩ n (p + 48) HR0.out HO.out (by have := HN.out; omega) HP48.out HB0.out).mono ?_)
  intro e w1 hd
  obtain ⟨rfl, v1, hr, hf, hl⟩ := rdone_tr HF0.out HL0.out hd
  change RefAt w1 B q v1 (push (⟨a, x, y, s, p, pc, h, b⟩ : S14) (p + 48)) at hr
  have HR1 := Lib.hid hr
  have HF1 := Lib.hid hf
  have HL1 := Lib.hid hl
  have HB1 := Lib.hid (Nat.le_trans HB0.out hf.size)
  clear hd hr hf hl
  clear c4
  go_wp2
  go_ret
  exact ⟨rfl, v1, HR1.out, HF1.out, HL1.out⟩

theorem andNot48 (v : Int) (h : byte v) : bits .andNot .u8 v 48 = noBU v := of_byte (fun v => bits .andNot .u8 v 48 = noBU v) (by decide +kernel) v h

set_option maxRecDepth 100000 in
set_option maxHeartbeats 4000000 in
theorem rstack1 (w : World) (B q : Nat) (v : Value) (S : S14) (n : Nat) (H : RefAt w B q v S) (hO : Ok n S) (hn : n + 2 < 1000000000) (hB : B ≤ w.heap.size) :
    Calls Tryd.prog 70 #[.pointer (some ⟨q, 0, none⟩), .int .i64 1] w (RDone w B q v (stack 1 S) (.int .i64 4)) := by
  have HO := Lib.hid hO
  have HN := Lib.hid hn
  obtain ⟨a, x, y, s, p, pc, h, b⟩ := S
  have HR0 := Lib.hid H
  have HF0 : Hid (Fr (foot q v) w w) := Lib.hid (Fr.refl _ w)
  have HL0 : Hid (Lies w v v) := Lib.hid (Lies.refl w v)
  have HB0 := Lib.hid hB
  show Calls _ _ _ _ (RDone w B q v ⟨a, x, y, (s + 1) % 256, noBU (pullV (⟨a, x, y, s, p, pc, h, b⟩ : S14)), pc, h, b⟩ _)
  have hv := pullV_byte hO
  have HC := Lib.hid (fun W V (hr : RefAt W B q V ⟨a, x, y, s, p, pc, h, b⟩) hb => rpull_any W B q V (⟨a, x, y, s, p, pc, h, b⟩ : S14) n hr hO hb)
  change Hid (∀ W V, RefAt W B q V (⟨a, x, y, s, p, pc, h, b⟩ : S14) → B ≤ W.heap.size → Calls Tryd.prog 91 #[.pointer (some ⟨q, 0, none⟩)] W (RDone W B q V ⟨a, x, y, (s + 1) % 256, p, pc, h, b⟩ (.int .u8 (pullV (⟨a, x, y, s, p, pc, h, b⟩ : S14))))) at HC
  generalize pullV (⟨a, x, y, s, p, pc, h, b⟩ : S14) = M at *
  have HM := Lib.hid hv
  obtain ⟨m0, m1⟩ := hv
  have hnb := andNot48 M HM.out
  have HNB := Lib.hid (noBU_all M HM.out)
  have nb0 := HNB.out.1
  have nb1 := HNB.out.2.1
  generalize noBU M = NB at *
  clear H hO hB hn
  go_enter Tryd.func70, Tryd.ntmps70
  go_wp2_with fail
  (with_reducible refine (HC.out w v HR0.out HB0.out).mono ?_)
  intro e w1 hd
  obtain ⟨rfl, v1, hr, hf, hl⟩ := rdone_tr HF0.out HL0.out hd
  change RefAt w1 B q v1 ⟨a, x, y, (s + 1) % 256, p, pc, h, b⟩ at hr
  have HR1 := Lib.hid hr
  have HF1 := Lib.hid hf
  have HL1 := Lib.hid hl
  have HB1 := Lib.hid (Nat.le_trans HB0.out hf.size)
  clear hd hr hf hl
  obtain ⟨c0, c1, c2, c3, c4, c5, c6⟩ := regs HR1.out
  have f4 := RefAt.frozen HR1.out 4
  clear c0 c1 c2 c3 c5 c6
  go_wp2
  go_ret
  exact rdone_set _ HF1.out HL1.out (put_p HR1.out _)

set_option maxRecDepth 100000 in
set_option maxHeartbeats 4000000 in
theorem rstack2 (w : World) (B q : Nat) (v : Value) (S : S14) (n : Nat) (H : RefAt w B q v S) (hO : Ok n S) (hn : n + 2 < 1000000000) (hB : B ≤ w.heap.size) :
    Calls Tryd.prog 70 #[.pointer (some ⟨q, 0, none⟩), .int .i64 2] w (RDone w B q v (stack 2 S) (.int .i64 3)) := by
  have HO := Lib.hid hO
  have HN := Lib.hid hn
  obtain ⟨a, x, y, s, p, pc, h, b⟩ := S
  obtain ⟨a0, a1⟩ : 0 ≤ a ∧ a < 256 := hO.a
  have HR0 := Lib.hid H
  have HF0 : Hid (Fr (foot q v) w w) := Lib.hid (Fr.refl _ w)
  have HL0 : Hid (Lies w v v) := Lib.hid (Lies.refl w v)
  have HB0 := Lib.hid hB
  show Calls _ _ _ _ (RDone w B q v (push (⟨a, x, y, s, p, pc, h, b⟩ : S14) a) _)
  clear H hO hB hn
  go_enter Tryd.func70, Tryd.ntmps70
  obtain ⟨c0, c1, c2, c3, c4, c5, c6⟩ := regs HR0.out
  clear c1 c2 c3 c4 c5 c6
  go_wp2_with fail
  (with_reducible refine (rpush_any w B q v ⟨a, x, y, s, p, pc, h, b⟩ n a HR0.out HO.out (by have := HN.out; omega) HO.out.a HB0.out).mono ?_)
  intro e w1 hd
  obtain ⟨rfl, v1, hr, hf, hl⟩ := rdone_tr HF0.out HL0.out hd
  change RefAt w1 B q v1 (push (⟨a, x, y, s, p, pc, h, b⟩ : S14) a) at hr
  have HR1 := Lib.hid hr
  have HF1 := Lib.hid hf
  have HL1 := Lib.hid hl
  have HB1 := Lib.hid (Nat.le_trans HB0.out hf.size)
  clear hd hr hf hl
  clear c0
  go_wp2
  go_ret
  exact ⟨rfl, v1, HR1.out, HF1.out, HL1.out⟩

set_option maxRecDepth 100000 in
set_option maxHeartbeats 4000000 in
theorem rstack3 (w : World) (B q : Nat) (v : Value) (S : S14) (n : Nat) (H : RefAt w B q v S) (hO : Ok n S) (hn : n + 2 < 1000000000) (hB : B ≤ w.heap.size) :
    Calls Tryd.prog 70 #[.pointer (some ⟨q, 0, none⟩), .int .i64 3] w (RDone w B q v (stack 3 S) (.int .i64 4)) := by
  have HO := Lib.hid hO
  have HN := Lib.hid hn
  obtain ⟨a, x, y, s, p, pc, h, b⟩ := S
  have HR0 := Lib.hid H
  have HF0 : Hid (Fr (foot q v) w w) := Lib.hid (Fr.refl _ w)
  have HL0 : Hid (Lies w v v) := Lib.hid (Lies.refl w v)
  have HB0 := Lib.hid hB
  show Calls _ _ _ _ (RDone w B q v ⟨pullV (⟨a, x, y, s, p, pc, h, b⟩ : S14), x, y, (s + 1) % 256, zn p (pullV (⟨a, x, y, s, p, pc, h, b⟩ : S14)), pc, h, b⟩ _)
  have hv := pullV_byte hO
  have HC := Lib.hid (fun W V (hr : RefAt W B q V ⟨a, x, y, s, p, pc, h, b⟩) hb => rpull_any W B q V (⟨a, x, y, s, p, pc, h, b⟩ : S14) n hr hO hb)
  change Hid (∀ W V, RefAt W B q V (⟨a, x, y, s, p, pc, h, b⟩ : S14) → B ≤ W.heap.size → Calls Tryd.prog 91 #[.pointer (some ⟨q, 0, none⟩)] W (RDone W B q V ⟨a, x, y, (s + 1) % 256, p, pc, h, b⟩ (.int .u8 (pullV (⟨a, x, y, s, p, pc, h, b⟩ : S14))))) at HC
  generalize pullV (⟨a, x, y, s, p, pc, h, b⟩ : S14) = M at *
  have HM := Lib.hid hv
  obtain ⟨m0, m1⟩ := hv
  clear H hO hB hn
  go_enter Tryd.func70, Tryd.ntmps70
  go_wp2_with fail
  (with_reducible refine (HC.out w v HR0.out HB0.out).mono ?_)
  intro e w1 hd
  obtain ⟨rfl, v1, hr, hf, hl⟩ := rdone_tr HF0.out HL0.out hd
  change RefAt w1 B q v1 ⟨a, x, y, (s + 1) % 256, p, pc, h, b⟩ at hr
  have HR1 := Lib.hid hr
  have HF1 := Lib.hid hf
  have HL1 := Lib.hid hl
  have HB1 := Lib.hid (Nat.le_trans HB0.out hf.size)
  clear hd hr hf hl
  obtain ⟨c0, c1, c2, c3, c4, c5, c6⟩ := regs HR1.out
  have f0 := RefAt.frozen HR1.out 0
  clear c1 c2 c3 c4 c5 c6
  have HR2 : Hid (RefAt (w1.setCell ⟨q, 0, none⟩ (.int .u8 (M))) B q v1 ⟨M, x, y, (s + 1) % 256, p, pc, h, b⟩) := Lib.hid (put_a HR1.out _)
  have HF2 : Hid (Fr (foot q v) w (w1.setCell ⟨q, 0, none⟩ (.int .u8 (M)))) := Lib.hid (HF1.out.setCell (by simp [foot]) _)
  have HL2 := Lib.hid HL1.out
  have HB2 : Hid (B ≤ (w1.setCell ⟨q, 0, none⟩ (.int .u8 (M))).heap.size) := Lib.hid (Nat.le_trans HB0.out HF2.out.size)
  go_upto_region 13 with fail
  clear c0 f0
  generalize w1.setCell _ _ = w2 at *
  obtain ⟨c0, c1, c2, c3, c4, c5, c6⟩ := regs HR2.out
  clear c1 c2 c3 c4 c5 c6
  go_wp2_with fail
  (with_reducible refine (rzn_any w2 B q v1 ⟨M, x, y, (s + 1) % 256, p, pc, h, b⟩ M HR2.out HO.out.pf HM.out HB2.out).mono ?_)
  intro e w3 hd
  obtain ⟨rfl, v3, hr, hf, hl⟩ := rdone_tr HF2.out HL2.out hd
  change RefAt w3 B q v3 ⟨M, x, y, (s + 1) % 256, zn p M, pc, h, b⟩ at hr
  have HR3 := Lib.hid hr
  have HF3 := Lib.hid hf
  have HL3 := Lib.hid hl
  have HB3 := Lib.hid (Nat.le_trans HB0.out hf.size)
  clear hd hr hf hl
  clear c0
  go_wp2
  go_ret
  exact ⟨rfl, v3, HR3.out, HF3.out, HL3.out⟩

set_option maxRecDepth 100000 in
set_option maxHeartbeats 4000000 in
theorem rstack4 (w : World) (B q : Nat) (v : Value) (S : S14) (n : Nat) (H : RefAt w B q v S) (hO : Ok n S) (hB : B ≤ w.heap.size) :
    Calls Tryd.prog 70 #[.pointer (some ⟨q, 0, none⟩), .int .i64 4] w (RDone w B q v (stack 4 S) (.int .i64 2)) := by
  have HO := Lib.hid hO
  obtain ⟨a, x, y, s, p, pc, h, b⟩ := S
  obtain ⟨y0, y1⟩ : 0 ≤ y ∧ y < 256 := hO.y
  have HR0 := Lib.hid H
  have HF0 : Hid (Fr (foot q v) w w) := Lib.hid (Fr.refl _ w)
  have HL0 : Hid (Lies w v v) := Lib.hid (Lies.refl w v)
  have HB0 := Lib.hid hB
  show Calls _ _ _ _ (RDone w B q v ⟨a, x, (y - 1) % 256, s, zn p ((y - 1) % 256), pc, h, b⟩ _)
  obtain ⟨k, hk⟩ : ∃ k, (y - 1) % 256 = k := ⟨_, rfl⟩
  have wk : IntKind.u8.wrap (y - 1) = k := by rw [IntKind.wrap_u8]; exact hk
  have HK : Hid (byte k) := Lib.hid ⟨by omega, by omega⟩
  have k0 := HK.out.1
  have k1 := HK.out.2
  rw [hk]
  clear hk H hO hB
  go_enter Tryd.func70, Tryd.ntmps70
  obtain ⟨c0, c1, c2, c3, c4, c5, c6⟩ := regs HR0.out
  have f2 := RefAt.frozen HR0.out 2
  clear c0 c1 c3 c4 c5 c6
  have HR1 : Hid (RefAt (w.setCell ⟨q, 2, none⟩ (.int .u8 (k))) B q v ⟨a, x, k, s, p, pc, h, b⟩) := Lib.hid (put_y HR0.out _)
  have HF1 : Hid (Fr (foot q v) w (w.setCell ⟨q, 2, none⟩ (.int .u8 (k)))) := Lib.hid (HF0.out.setCell (by simp [foot]) _)
  have HL1 := Lib.hid HL0.out
  have HB1 : Hid (B ≤ (w.setCell ⟨q, 2, none⟩ (.int .u8 (k))).heap.size) := Lib.hid (Nat.le_trans HB0.out HF1.out.size)
  go_upto_region 17 with fail
  clear c2 f2
  generalize w.setCell _ _ = w1 at *
  obtain ⟨c0, c1, c2, c3, c4, c5, c6⟩ := regs HR1.out
  clear c0 c1 c3 c4 c5 c6
  go_wp2_with fail
  (with_reducible refine (rzn_any w1 B q v ⟨a, x, k, s, p, pc, h, b⟩ k HR1.out HO.out.pf HK.out HB1.out).mono ?_)
  intro e w2 hd
  obtain ⟨rfl, v2, hr, hf, hl⟩ := rdone_tr HF1.out HL1.out hd
  change RefAt w2 B q v2 ⟨a, x, k, s, zn p k, pc, h, b⟩ at hr
  have HR2 := Lib.hid hr
  have HF2 := Lib.hid hf
  have HL2 := Lib.hid hl
  have HB2 := Lib.hid (Nat.le_trans HB0.out hf.size)
  clear hd hr hf hl
  clear c2
  go_wp2
  go_ret
  exact ⟨rfl, v2, HR2.out, HF2.out, HL2.out⟩

set_option maxRecDepth 100000 in
set_option maxHeartbeats 4000000 in
theorem rstack5 (w : World) (B q : Nat) (v : Value) (S : S14) (n : Nat) (H : RefAt w B q v S) (hO : Ok n S) (hn : n + 2 < 1000000000) (hB : B ≤ w.heap.size) :
    Calls Tryd.prog 70 #[.pointer (some ⟨q, 0, none⟩), .int .i64 5] w (RDone w B q v (stack 5 S) (.int .i64 2)) := by
  have HO := Lib.hid hO
  have HN := Lib.hid hn
  obtain ⟨a, x, y, s, p, pc, h, b⟩ := S
  have HR0 := Lib.hid H
  have HF0 : Hid (Fr (foot q v) w w) := Lib.hid (Fr.refl _ w)
  have HL0 : Hid (Lies w v v) := Lib.hid (Lies.refl w v)
  have HB0 := Lib.hid hB
  show Calls _ _ _ _ (RDone w B q v ⟨a, x, a, s, zn p a, pc, h, b⟩ _)
  clear H hO hB hn
  go_enter Tryd.func70, Tryd.ntmps70
  obtain ⟨c0, c1, c2, c3, c4, c5, c6⟩ := regs HR0.out
  have f2 := RefAt.frozen HR0.out 2
  clear c1 c3 c4 c5 c6
  have HR1 : Hid (RefAt (w.setCell ⟨q, 2, none⟩ (.int .u8 (a))) B q v ⟨a, x, a, s, p, pc, h, b⟩) := Lib.hid (put_y HR0.out _)
  have HF1 : Hid (Fr (foot q v) w (w.setCell ⟨q, 2, none⟩ (.int .u8 (a)))) := Lib.hid (HF0.out.setCell (by simp [foot]) _)
  have HL1 := Lib.hid HL0.out
  have HB1 : Hid (B ≤ (w.setCell ⟨q, 2, none⟩ (.int .u8 (a))).heap.size) := Lib.hid (Nat.le_trans HB0.out HF1.out.size)
  go_upto_region 20 with fail
  clear c0 c2 f2
  generalize w.setCell _ _ = w1 at *
  obtain ⟨c0, c1, c2, c3, c4, c5, c6⟩ := regs HR1.out
  clear c0 c1 c3 c4 c5 c6
  go_wp2_with fail
  (with_reducible refine (rzn_any w1 B q v ⟨a, x, a, s, p, pc, h, b⟩ a HR1.out HO.out.pf HO.out.a HB1.out).mono ?_)
  intro e w2 hd
  obtain ⟨rfl, v2, hr, hf, hl⟩ := rdone_tr HF1.out HL1.out hd
  change RefAt w2 B q v2 ⟨a, x, a, s, zn p a, pc, h, b⟩ at hr
  have HR2 := Lib.hid hr
  have HF2 := Lib.hid hf
  have HL2 := Lib.hid hl
  have HB2 := Lib.hid (Nat.le_trans HB0.out hf.size)
  clear hd hr hf hl
  clear c2
  go_wp2
  go_ret
  exact ⟨rfl, v2, HR2.out, HF2.out, HL2.out⟩

set_option maxRecDepth 100000 in
set_option maxHeartbeats 4000000 in
theorem rstack6 (w : World) (B q : Nat) (v : Value) (S : S14) (n : Nat) (H : RefAt w B q v S) (hO : Ok n S) (hB : B ≤ w.heap.size) :
    Calls Tryd.prog 70 #[.pointer (some ⟨q, 0, none⟩), .int .i64 6] w (RDone w B q v (stack 6 S) (.int .i64 2)) := by
  have HO := Lib.hid hO
  obtain ⟨a, x, y, s, p, pc, h, b⟩ := S
  obtain ⟨y0, y1⟩ : 0 ≤ y ∧ y < 256 := hO.y
  have HR0 := Lib.hid H
  have HF0 : Hid (Fr (foot q v) w w) := Lib.hid (Fr.refl _ w)
  have HL0 : Hid (Lies w v v) := Lib.hid (Lies.refl w v)
  have HB0 := Lib.hid hB
  show Calls _ _ _ _ (RDone w B q v ⟨a, x, (y + 1) % 256, s, zn p ((y + 1) % 256), pc, h, b⟩ _)
  obtain ⟨k, hk⟩ : ∃ k, (y + 1) % 256 = k := ⟨_, rfl⟩
  have wk : IntKind.u8.wrap (y + 1) = k := by rw [IntKind.wrap_u8]; exact hk
  have HK : Hid (byte k) := Lib.hid ⟨by omega, by omega⟩
  have k0 := HK.out.1
  have k1 := HK.out.2
  rw [hk]
  clear hk H hO hB
  go_enter Tryd.func70, Tryd.ntmps70
  obtain ⟨c0, c1, c2, c3, c4, c5, c6⟩ := regs HR0.out
  have f2 := RefAt.frozen HR0.out 2
  clear c0 c1 c3 c4 c5 c6
  have HR1 : Hid (RefAt (w.setCell ⟨q, 2, none⟩ (.int .u8 (k))) B q v ⟨a, x, k, s, p, pc, h, b⟩) := Lib.hid (put_y HR0.out _)
  have HF1 : Hid (Fr (foot q v) w (w.setCell ⟨q, 2, none⟩ (.int .u8 (k)))) := Lib.hid (HF0.out.setCell (by simp [foot]) _)
  have HL1 := Lib.hid HL0.out
  have HB1 : Hid (B ≤ (w.setCell ⟨q, 2, none⟩ (.int .u8 (k))).heap.size) := Lib.hid (Nat.le_trans HB0.out HF1.out.size)
  go_upto_region 23 with fail
  clear c2 f2
  generalize w.setCell _ _ = w1 at *
  obtain ⟨c0, c1, c2, c3, c4, c5, c6⟩ := regs HR1.out
  clear c0 c1 c3 c4 c5 c6
  go_wp2_with fail
  (with_reducible refine (rzn_any w1 B q v ⟨a, x, k, s, p, pc, h, b⟩ k HR1.out HO.out.pf HK.out HB1.out).mono ?_)
  intro e w2 hd
  obtain ⟨rfl, v2, hr, hf, hl⟩ := rdone_tr HF1.out HL1.out hd
  change RefAt w2 B q v2 ⟨a, x, k, s, zn p k, pc, h, b⟩ at hr
  have HR2 := Lib.hid hr
  have HF2 := Lib.hid hf
  have HL2 := Lib.hid hl
  have HB2 := Lib.hid (Nat.le_trans HB0.out hf.size)
  clear hd hr hf hl
  clear c2
  go_wp2
  go_ret
  exact ⟨rfl, v2, HR2.out, HF2.out, HL2.out⟩

set_option maxRecDepth 100000 in
set_option maxHeartbeats 4000000 in
theorem rstack7 (w : World) (B q : Nat) (v : Value) (S : S14) (n : Nat) (H : RefAt w B q v S) (hO : Ok n S) (hB : B ≤ w.heap.size) :
    Calls Tryd.prog 70 #[.pointer (some ⟨q, 0, none⟩), .int .i64 7] w (RDone w B q v (stack 7 S) (.int .i64 2)) := by
  have HO := Lib.hid hO
  obtain ⟨a, x, y, s, p, pc, h, b⟩ := S
  obtain ⟨x0, x1⟩ : 0 ≤ x ∧ x < 256 := hO.x
  have HR0 := Lib.hid H
  have HF0 : Hid (Fr (foot q v) w w) := Lib.hid (Fr.refl _ w)
  have HL0 : Hid (Lies w v v) := Lib.hid (Lies.refl w v)
  have HB0 := Lib.hid hB
  show Calls _ _ _ _ (RDone w B q v ⟨a, (x + 1) % 256, y, s, zn p ((x + 1) % 256), pc, h, b⟩ _)
  obtain ⟨k, hk⟩ : ∃ k, (x + 1) % 256 = k := ⟨_, rfl⟩
  have wk : IntKind.u8.wrap (x + 1) = k := by rw [IntKind.wrap_u8]; exact hk
  have HK : Hid (byte k) := Lib.hid ⟨by omega, by omega⟩
  have k0 := HK.out.1
  have k1 := HK.out.2
  rw [hk]
  clear hk H hO hB
  go_enter Tryd.func70, Tryd.ntmps70
  obtain ⟨c0, c1, c2, c3, c4, c5, c6⟩ := regs HR0.out
  have f1 := RefAt.frozen HR0.out 1
  clear c0 c2 c3 c4 c5 c6
  have HR1 : Hid (RefAt (w.setCell ⟨q, 1, none⟩ (.int .u8 (k))) B q v ⟨a, k, y, s, p, pc, h, b⟩) := Lib.hid (put_x HR0.out _)
  have HF1 : Hid (Fr (foot q v) w (w.setCell ⟨q, 1, none⟩ (.int .u8 (k)))) := Lib.hid (HF0.out.setCell (by simp [foot]) _)
  have HL1 := Lib.hid HL0.out
  have HB1 : Hid (B ≤ (w.setCell ⟨q, 1, none⟩ (.int .u8 (k))).heap.size) := Lib.hid (Nat.le_trans HB0.out HF1.out.size)
  go_upto_region 26 with fail
  clear c1 f1
  generalize w.setCell _ _ = w1 at *
  obtain ⟨c0, c1, c2, c3, c4, c5, c6⟩ := regs HR1.out
  clear c0 c2 c3 c4 c5 c6
  go_wp2_with fail
  (with_reducible refine (rzn_any w1 B q v ⟨a, k, y, s, p, pc, h, b⟩ k HR1.out HO.out.pf HK.out HB1.out).mono ?_)
  intro e w2 hd
  obtain ⟨rfl, v2, hr, hf, hl⟩ := rdone_tr HF1.out HL1.out hd
  change RefAt w2 B q v2 ⟨a, k, y, s, zn p k, pc, h, b⟩ at hr
  have HR2 := Lib.hid hr
  have HF2 := Lib.hid hf
  have HL2 := Lib.hid hl
  have HB2 := Lib.hid (Nat.le_trans HB0.out hf.size)
  clear hd hr hf hl
  clear c1
  go_wp2
  go_ret
  exact ⟨rfl, v2, HR2.out, HF2.out, HL2.out⟩

set_option maxRecDepth 100000 in
set_option maxHeartbeats 4000000 in
theorem rflags0 (w : World) (B q : Nat) (v : Value) (S : S14) (n : Nat) (H : RefAt w B q v S) (hO : Ok n S) (hB : B ≤ w.heap.size) :
    Calls Tryd.prog 71 #[.pointer (some ⟨q, 0, none⟩), .int .i64 0] w (RDone w B q v (flags 0 S) (.int .i64 2)) := by
  have HO := Lib.hid hO
  obtain ⟨a, x, y, s, p, pc, h, b⟩ := S
  have HR0 := Lib.hid H
  have HF0 : Hid (Fr (foot q v) w w) := Lib.hid (Fr.refl _ w)
  have HL0 : Hid (Lies w v v) := Lib.hid (Lies.refl w v)
  have HB0 := Lib.hid hB
  show Calls _ _ _ _ (RDone w B q v ⟨a, x, y, s, setF p 1 false, pc, h, b⟩ _)
  clear H hO hB
  go_enter Tryd.func71, Tryd.ntmps71
  go_wp2_with fail
  (with_reducible refine (rset_any w B q v ⟨a, x, y, s, p, pc, h, b⟩ 1 false HR0.out isF1 HO.out.p HB0.out).mono ?_)
  intro e w1 hd
  obtain ⟨rfl, v1, hr, hf, hl⟩ := rdone_tr HF0.out HL0.out hd
  change RefAt w1 B q v1 ⟨a, x, y, s, setF p 1 false, pc, h, b⟩ at hr
  have HR1 := Lib.hid hr
  have HF1 := Lib.hid hf
  have HL1 := Lib.hid hl
  have HB1 := Lib.hid (Nat.le_trans HB0.out hf.size)
  clear hd hr hf hl
  go_wp2
  go_ret
  exact ⟨rfl, v1, HR1.out, HF1.out, HL1.out⟩

set_option maxRecDepth 100000 in
set_option maxHeartbeats 4000000 in
theorem rflags1 (w : World) (B q : Nat) (v : Value) (S : S14) (n : Nat) (H : RefAt w B q v S) (hO : Ok n S) (hB : B ≤ w.heap.size) :
    Calls Tryd.prog 71 #[.pointer (some ⟨q, 0, none⟩), .int .i64 1] w (RDone w B q v (flags 1 S) (.int .i64 2)) := by
  have HO := Lib.hid hO
  obtain ⟨a, x, y, s, p, pc, h, b⟩ := S
  have HR0 := Lib.hid H
  have HF0 : Hid (Fr (foot q v) w w) := Lib.hid (Fr.refl _ w)
  have HL0 : Hid (Lies w v v) := Lib.hid (Lies.refl w v)
  have HB0 := Lib.hid hB
  show Calls _ _ _ _ (RDone w B q v ⟨a, x, y, s, setF p 1 true, pc, h, b⟩ _)
  clear H hO hB
  go_enter Tryd.func71, Tryd.ntmps71
  go_wp2_with fail
  (with_reducible refine (rset_any w B q v ⟨a, x, y, s, p, pc, h, b⟩ 1 true HR0.out isF1 HO.out.p HB0.out).mono ?_)
  intro e w1 hd
  obtain ⟨rfl, v1, hr, hf, hl⟩ := rdone_tr HF0.out HL0.out hd
  change RefAt w1 B q v1 ⟨a, x, y, s, setF p 1 true, pc, h, b⟩ at hr
  have HR1 := Lib.hid hr
  have HF1 := Lib.hid hf
  have HL1 := Lib.hid hl
  have HB1 := Lib.hid (Nat.le_trans HB0.out hf.size)
  clear hd hr hf hl
  go_wp2
  go_ret
  exact ⟨rfl, v1, HR1.out, HF1.out, HL1.out⟩

set_option maxRecDepth 100000 in
set_option maxHeartbeats 4000000 in
theorem rflags2 (w : World) (B q : Nat) (v : Value) (S : S14) (n : Nat) (H : RefAt w B q v S) (hO : Ok n S) (hB : B ≤ w.heap.size) :
    Calls Tryd.prog 71 #[.pointer (some ⟨q, 0, none⟩), .int .i64 2] w (RDone w B q v (flags 2 S) (.int .i64 2)) := by
  have HO := Lib.hid hO
  obtain ⟨a, x, y, s, p, pc, h, b⟩ := S
  have HR0 := Lib.hid H
  have HF0 : Hid (Fr (foot q v) w w) := Lib.hid (Fr.refl _ w)
  have HL0 : Hid (Lies w v v) := Lib.hid (Lies.refl w v)
  have HB0 := Lib.hid hB
  show Calls _ _ _ _ (RDone w B q v ⟨a, x, y, s, setF p 4 false, pc, h, b⟩ _)
  clear H hO hB
  go_enter Tryd.func71, Tryd.ntmps71
  go_wp2_with fail
  (with_reducible refine (rset_any w B q v ⟨a, x, y, s, p, pc, h, b⟩ 4 false HR0.out isF4 HO.out.p HB0.out).mono ?_)
  intro e w1 hd
  obtain ⟨rfl, v1, hr, hf, hl⟩ := rdone_tr HF0.out HL0.out hd
  change RefAt w1 B q v1 ⟨a, x, y, s, setF p 4 false, pc, h, b⟩ at hr
  have HR1 := Lib.hid hr
  have HF1 := Lib.hid hf
  have HL1 := Lib.hid hl
  have HB1 := Lib.hid (Nat.le_trans HB0.out hf.size)
  clear hd hr hf hl
  go_wp2
  go_ret
  exact ⟨rfl, v1, HR1.out, HF1.out, HL1.out⟩

set_option maxRecDepth 100000 in
set_option maxHeartbeats 4000000 in
theorem rflags3 (w : World) (B q : Nat) (v : Value) (S : S14) (n : Nat) (H : RefAt w B q v S) (hO : Ok n S) (hB : B ≤ w.heap.size) :
    Calls Tryd.prog 71 #[.pointer (some ⟨q, 0, none⟩), .int .i64 3] w (RDone w B q v (flags 3 S) (.int .i64 2)) := by
  have HO := Lib.hid hO
  obtain ⟨a, x, y, s, p, pc, h, b⟩ := S
  have HR0 := Lib.hid H
  have HF0 : Hid (Fr (foot q v) w w) := Lib.hid (Fr.refl _ w)
  have HL0 : Hid (Lies w v v) := Lib.hid (Lies.refl w v)
  have HB0 := Lib.hid hB
  show Calls _ _ _ _ (RDone w B q v ⟨a, x, y, s, setF p 4 true, pc, h, b⟩ _)
  clear H hO hB
  go_enter Tryd.func71, Tryd.ntmps71
  go_wp2_with fail
  (with_reducible refine (rset_any w B q v ⟨a, x, y, s, p, pc, h, b⟩ 4 true HR0.out isF4 HO.out.p HB0.out).mono ?_)
  intro e w1 hd
  obtain ⟨rfl, v1, hr, hf, hl⟩ := rdone_tr HF0.out HL0.out hd
  change RefAt w1 B q v1 ⟨a, x, y, s, setF p 4 true, pc, h, b⟩ at hr
  have HR1 := Lib.hid hr
  have HF1 := Lib.hid hf
  have HL1 := Lib.hid hl
  have HB1 := Lib.hid (Nat.le_trans HB0.out hf.size)
  clear hd hr hf hl
  go_wp2
  go_ret
  exact ⟨rfl, v1, HR1.out, HF1.out, HL1.out⟩

set_option maxRecDepth 100000 in
set_option maxHeartbeats 4000000 in
theorem rflags5 (w : World) (B q : Nat) (v : Value) (S : S14) (n : Nat) (H : RefAt w B q v S) (hO : Ok n S) (hB : B ≤ w.heap.size) :
    Calls Tryd.prog 71 #[.pointer (some ⟨q, 0, none⟩), .int .i64 5] w (RDone w B q v (flags 5 S) (.int .i64 2)) := by
  have HO := Lib.hid hO
  obtain ⟨a, x, y, s, p, pc, h, b⟩ := S
  have HR0 := Lib.hid H
  have HF0 : Hid (Fr (foot q v) w w) := Lib.hid (Fr.refl _ w)
  have HL0 : Hid (Lies w v v) := Lib.hid (Lies.refl w v)
  have HB0 := Lib.hid hB
  show Calls _ _ _ _ (RDone w B q v ⟨a, x, y, s, setF p 64 false, pc, h, b⟩ _)
  clear H hO hB
  go_enter Tryd.func71, Tryd.ntmps71
  go_wp2_with fail
  (with_reducible refine (rset_any w B q v ⟨a, x, y, s, p, pc, h, b⟩ 64 false HR0.out isF64 HO.out.p HB0.out).mono ?_)
  intro e w1 hd
  obtain ⟨rfl, v1, hr, hf, hl⟩ := rdone_tr HF0.out HL0.out hd
  change RefAt w1 B q v1 ⟨a, x, y, s, setF p 64 false, pc, h, b⟩ at hr
  have HR1 := Lib.hid hr
  have HF1 := Lib.hid hf
  have HL1 := Lib.hid hl
  have HB1 := Lib.hid (Nat.le_trans HB0.out hf.size)
  clear hd hr hf hl
  go_wp2
  go_ret
  exact ⟨rfl, v1, HR1.out, HF1.out, HL1.out⟩

set_option maxRecDepth 100000 in
set_option maxHeartbeats 4000000 in
theorem rflags6 (w : World) (B q : Nat) (v : Value) (S : S14) (n : Nat) (H : RefAt w B q v S) (hO : Ok n S) (hB : B ≤ w.heap.size) :
    Calls Tryd.prog 71 #[.pointer (some ⟨q, 0, none⟩), .int .i64 6] w (RDone w B q v (flags 6 S) (.int .i64 2)) := by
  have HO := Lib.hid hO
  obtain ⟨a, x, y, s, p, pc, h, b⟩ := S
  have HR0 := Lib.hid H
  have HF0 : Hid (Fr (foot q v) w w) := Lib.hid (Fr.refl _ w)
  have HL0 : Hid (Lies w v v) := Lib.hid (Lies.refl w v)
  have HB0 := Lib.hid hB
  show Calls _ _ _ _ (RDone w B q v ⟨a, x, y, s, setF p 8 false, pc, h, b⟩ _)
  clear H hO hB
  go_enter Tryd.func71, Tryd.ntmps71
  go_wp2_with fail
  (with_reducible refine (rset_any w B q v ⟨a, x, y, s, p, pc, h, b⟩ 8 false HR0.out isF8 HO.out.p HB0.out).mono ?_)
  intro e w1 hd
  obtain ⟨rfl, v1, hr, hf, hl⟩ := rdone_tr HF0.out HL0.out hd
  change RefAt w1 B q v1 ⟨a, x, y, s, setF p 8 false, pc, h, b⟩ at hr
  have HR1 := Lib.hid hr
  have HF1 := Lib.hid hf
  have HL1 := Lib.hid hl
  have HB1 := Lib.hid (Nat.le_trans HB0.out hf.size)
  clear hd hr hf hl
  go_wp2
  go_ret
  exact ⟨rfl, v1, HR1.out, HF1.out, HL1.out⟩

set_option maxRecDepth 100000 in
set_option maxHeartbeats 4000000 in
theorem rflags7 (w : World) (B q : Nat) (v : Value) (S : S14) (n : Nat) (H : RefAt w B q v S) (hO : Ok n S) (hB : B ≤ w.heap.size) :
    Calls Tryd.prog 71 #[.pointer (some ⟨q, 0, none⟩), .int .i64 7] w (RDone w B q v (flags 7 S) (.int .i64 2)) := by
  have HO := Lib.hid hO
  obtain ⟨a, x, y, s, p, pc, h, b⟩ := S
  have HR0 := Lib.hid H
  have HF0 : Hid (Fr (foot q v) w w) := Lib.hid (Fr.refl _ w)
  have HL0 : Hid (Lies w v v) := Lib.hid (Lies.refl w v)
  have HB0 := Lib.hid hB
  show Calls _ _ _ _ (RDone w B q v ⟨a, x, y, s, setF p 8 true, pc, h, b⟩ _)
  clear H hO hB
  go_enter Tryd.func71, Tryd.ntmps71
  go_wp2_with fail
  (with_reducible refine (rset_any w B q v ⟨a, x, y, s, p, pc, h, b⟩ 8 true HR0.out isF8 HO.out.p HB0.out).mono ?_)
  intro e w1 hd
  obtain ⟨rfl, v1, hr, hf, hl⟩ := rdone_tr HF0.out HL0.out hd
  change RefAt w1 B q v1 ⟨a, x, y, s, setF p 8 true, pc, h, b⟩ at hr
  have HR1 := Lib.hid hr
  have HF1 := Lib.hid hf
  have HL1 := Lib.hid hl
  have HB1 := Lib.hid (Nat.le_trans HB0.out hf.size)
  clear hd hr hf hl
  go_wp2
  go_ret
  exact ⟨rfl, v1, HR1.out, HF1.out, HL1.out⟩

set_option maxRecDepth 100000 in
set_option maxHeartbeats 4000000 in
theorem rflags4 (w : World) (B q : Nat) (v : Value) (S : S14) (n : Nat) (H : RefAt w B q v S) (hO : Ok n S) (hB : B ≤ w.heap.size) :
    Calls Tryd.prog 71 #[.pointer (some ⟨q, 0, none⟩), .int .i64 4] w (RDone w B q v (flags 4 S) (.int .i64 2)) := by
  have HO := Lib.hid hO
  obtain ⟨a, x, y, s, p, pc, h, b⟩ := S
  have HR0 := Lib.hid H
  have HF0 : Hid (Fr (foot q v) w w) := Lib.hid (Fr.refl _ w)
  have HL0 : Hid (Lies w v v) := Lib.hid (Lies.refl w v)
  have HB0 := Lib.hid hB
  show Calls _ _ _ _ (RDone w B q v ⟨y, x, y, s, zn p y, pc, h, b⟩ _)
  clear H hO hB
  go_enter Tryd.func71, Tryd.ntmps71
  obtain ⟨c0, c1, c2, c3, c4, c5, c6⟩ := regs HR0.out
  have f0 := RefAt.frozen HR0.out 0
  clear c1 c3 c4 c5 c6
  have HR1 : Hid (RefAt (w.setCell ⟨q, 0, none⟩ (.int .u8 (y))) B q v ⟨y, x, y, s, p, pc, h, b⟩) := Lib.hid (put_a HR0.out _)
  have HF1 : Hid (Fr (foot q v) w (w.setCell ⟨q, 0, none⟩ (.int .u8 (y)))) := Lib.hid (HF0.out.setCell (by simp [foot]) _)
  have HL1 := Lib.hid HL0.out
  have HB1 : Hid (B ≤ (w.setCell ⟨q, 0, none⟩ (.int .u8 (y))).heap.size) := Lib.hid (Nat.le_trans HB0.out HF1.out.size)
  go_upto_region 10 with fail
  clear c2 c0 f0
  generalize w.setCell _ _ = w1 at *
  obtain ⟨c0, c1, c2, c3, c4, c5, c6⟩ := regs HR1.out
  clear c1 c2 c3 c4 c5 c6
  go_wp2_with fail
  (with_reducible refine (rzn_any w1 B q v ⟨y, x, y, s, p, pc, h, b⟩ y HR1.out HO.out.pf HO.out.y HB1.out).mono ?_)
  intro e w2 hd
  obtain ⟨rfl, v2, hr, hf, hl⟩ := rdone_tr HF1.out HL1.out hd
  change RefAt w2 B q v2 ⟨y, x, y, s, zn p y, pc, h, b⟩ at hr
  have HR2 := Lib.hid hr
  have HF2 := Lib.hid hf
  have HL2 := Lib.hid hl
  have HB2 := Lib.hid (Nat.le_trans HB0.out hf.size)
  clear hd hr hf hl
  clear c0
  go_wp2
  go_ret
  exact ⟨rfl, v2, HR2.out, HF2.out, HL2.out⟩

end Ms
end Go.Proofs.YtlnpadekgakghaaDoor
