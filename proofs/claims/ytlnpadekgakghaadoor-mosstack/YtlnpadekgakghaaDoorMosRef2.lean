/-
  Contracts of the document's CPU: flags, the stack, the next byte, words. Conditions: the state is one that there is, few bytes were written.
-/
import Derived.Test.YtlnpadekgakghaaDoorMosRef1
import Derived.Test.YtlnpadekgakghaaDoorMosOk
import Derived.Test.YtlnpadekgakghaaDoorAlRef
namespace Go.Proofs.YtlnpadekgakghaaDoor
open Go.RowKit
namespace Ms
open Al (byte of_byte)
set_option linter.unusedVariables false

theorem regs {w : World} {B q : Nat} {v : Value} {a x y s p pc : Int} {h : Bool} {b : FB} (H : RefAt w B q v ⟨a, x, y, s, p, pc, h, b⟩) :
    w.cell? ⟨q, 0, none⟩ = some (.int .u8 a) ∧ w.cell? ⟨q, 1, none⟩ = some (.int .u8 x) ∧ w.cell? ⟨q, 2, none⟩ = some (.int .u8 y) ∧ w.cell? ⟨q, 3, none⟩ = some (.int .u8 s) ∧ w.cell? ⟨q, 4, none⟩ = some (.int .u8 p) ∧ w.cell? ⟨q, 5, none⟩ = some (.int .u16 pc) ∧ w.cell? ⟨q, 6, none⟩ = some (.bool h) := RefAt.regs H
theorem rdone_tr {w w1 w2 : World} {B q : Nat} {v v1 : Value} {T : S14} {val : Value} {e : Ending} (h1 : Fr (foot q v) w w1) (l1 : Lies w v v1) (h : RDone w1 B q v1 T val e w2) : RDone w B q v T val e w2 := by
  obtain ⟨rfl, v2, h2, h3, h4⟩ := h
  exact ⟨rfl, v2, h2, Fr.step h1 l1 h3, l1.trans h4 h1.size⟩
/-- A call that only reads, as one that may turn the CPU. -/
theorem rdone_same {w : World} {B q : Nat} {v : Value} {T : S14} (val : Value) (h : RefAt w B q v T) : RDone w B q v T val (.returned val) w := ⟨rfl, v, h, Fr.refl _ w, Lies.refl w v⟩
theorem rdone_set {w w1 : World} {B q : Nat} {v v1 : Value} {T : S14} (val : Value) (h1 : Fr (foot q v) w w1) (l1 : Lies w v v1) {i : Nat} {u : Value} (H : RefAt (w1.setCell ⟨q, i, none⟩ u) B q v1 T) : RDone w B q v T val (.returned val) (w1.setCell ⟨q, i, none⟩ u) :=
  ⟨rfl, v1, H, h1.setCell (by simp [foot]) u, l1⟩

set_option maxRecDepth 100000 in
set_option maxHeartbeats 4000000 in
theorem rpush_any (w : World) (B q : Nat) (v : Value) (S : S14) (n : Nat) (u : Int) (H : RefAt w B q v S) (hO : Ok n S) (hn : n + 2 < 1000000000) (hu : byte u) (hB : B ≤ w.heap.size) :
    Calls Tryd.prog 28 #[.pointer (some ⟨q, 0, none⟩), .int .u8 u] w (RDone w B q v (push S u) (.tuple #[])) := by
  have HO := Lib.hid hO
  have HU := Lib.hid hu
  obtain ⟨a, x, y, s, p, pc, h, b⟩ := S
  obtain ⟨s0, s1⟩ : 0 ≤ s ∧ s < 256 := hO.s
  have HR0 := Lib.hid H
  have HF0 : Hid (Fr (foot q v) w w) := Lib.hid (Fr.refl _ w)
  have HL0 : Hid (Lies w v v) := Lib.hid (Lies.refl w v)
  have HB0 := Lib.hid hB
  obtain ⟨c0, c1, c2, c3, c4, c5, c6⟩ := regs H
  have f3 := RefAt.frozen H 3
  clear c0 c1 c2 c4 c5 c6
  clear H hO hB hu f3
  go_enter Tryd.func28, Tryd.ntmps28
  go_wp2_with fail
  (with_reducible refine (rwrite_any w B q v ⟨a, x, y, s, p, pc, h, b⟩ (256 + s) u n HR0.out (stack_u16 HO.out.s) HU.out HO.out (by omega) HB0.out).mono ?_)
  intro e w1 hd
  obtain ⟨rfl, v1, hr, hf, hl⟩ := rdone_tr HF0.out HL0.out hd
  change RefAt w1 B q v1 ⟨a, x, y, s, p, pc, h, Io.wb b (256 + s) u⟩ at hr
  have HR1 := Lib.hid hr
  have HF1 := Lib.hid hf
  have HL1 := Lib.hid hl
  have HB1 := Lib.hid (Nat.le_trans HB0.out hf.size)
  clear hd hr hf hl c3
  obtain ⟨c0, c1, c2, c3, c4, c5, c6⟩ := regs HR1.out
  have f3 := RefAt.frozen HR1.out 3
  clear c0 c1 c2 c4 c5 c6
  go_wp2
  (first | go_end0 | refine bodyPost_ret (results_none rfl _ _ _) rfl ?_)
  exact rdone_set _ HF1.out HL1.out (put_s HR1.out _)

set_option maxRecDepth 100000 in
set_option maxHeartbeats 4000000 in
theorem rpull_any (w : World) (B q : Nat) (v : Value) (S : S14) (n : Nat) (H : RefAt w B q v S) (hO : Ok n S) (hB : B ≤ w.heap.size) :
    Calls Tryd.prog 91 #[.pointer (some ⟨q, 0, none⟩)] w (RDone w B q v (pull S) (.int .u8 (pullV S))) := by
  obtain ⟨a, x, y, s, p, pc, h, b⟩ := S
  obtain ⟨s0, s1⟩ : 0 ≤ s ∧ s < 256 := hO.s
  have HR0 := Lib.hid H
  have HF0 : Hid (Fr (foot q v) w w) := Lib.hid (Fr.refl _ w)
  have HL0 : Hid (Lies w v v) := Lib.hid (Lies.refl w v)
  have HB0 := Lib.hid hB
  obtain ⟨c0, c1, c2, c3, c4, c5, c6⟩ := regs H
  have f3 := RefAt.frozen H 3
  clear c0 c1 c2 c4 c5 c6
  have HW : Hid (RefAt (w.setCell ⟨q, 3, none⟩ (.int .u8 ((s + 1) % 256))) B q v ⟨a, x, y, (s + 1) % 256, p, pc, h, b⟩) := Lib.hid (put_s H _)
  have HD : Hid (Fr (foot q v) w (w.setCell ⟨q, 3, none⟩ (.int .u8 ((s + 1) % 256)))) := Lib.hid ((Fr.refl _ w).setCell (by simp [foot]) _)
  clear H hO hB
  go_enter Tryd.func91, Tryd.ntmps91
  go_upto_region 2 with fail
  have c3b := (regs HW.out).2.2.2.1
  clear c3 f3
  generalize w.setCell _ _ = w1 at *
  go_wp2_with fail
  (with_reducible refine (rread_any w1 B q v ⟨a, x, y, (s + 1) % 256, p, pc, h, b⟩ (256 + (s + 1) % 256) HW.out (stack_u16 (mod_byte _))).mono ?_)
  rintro e w2 ⟨rfl, rfl⟩
  go_wp2
  go_ret
  exact ⟨rfl, v, HW.out, HD.out, HL0.out⟩

set_option maxRecDepth 100000 in
set_option maxHeartbeats 4000000 in
theorem rnext_any (w : World) (B q : Nat) (v : Value) (S : S14) (n : Nat) (H : RefAt w B q v S) (hO : Ok n S) (hB : B ≤ w.heap.size) :
    Calls Tryd.prog 90 #[.pointer (some ⟨q, 0, none⟩)] w (RDone w B q v (next S) (.int .u8 (nextV S))) := by
  have HP := Lib.hid hO.pc
  obtain ⟨a, x, y, s, p, pc, h, b⟩ := S
  obtain ⟨pc0, pc1⟩ : 0 ≤ pc ∧ pc < 65536 := hO.pc
  have HR0 := Lib.hid H
  have HF0 : Hid (Fr (foot q v) w w) := Lib.hid (Fr.refl _ w)
  have HL0 : Hid (Lies w v v) := Lib.hid (Lies.refl w v)
  have HB0 := Lib.hid hB
  obtain ⟨c0, c1, c2, c3, c4, c5, c6⟩ := regs H
  have f5 := RefAt.frozen H 5
  clear c0 c1 c2 c3 c4 c6
  have hv := nextV_byte hO
  obtain ⟨M, hM⟩ : ∃ z, nextV (⟨a, x, y, s, p, pc, h, b⟩ : S14) = z := ⟨_, rfl⟩
  have HM : Hid (b.m pc = M) := Lib.hid hM
  rw [hM] at hv ⊢
  obtain ⟨m0, m1⟩ := hv
  clear H hO hB hM
  go_enter Tryd.func90, Tryd.ntmps90
  go_wp2_with fail
  (with_reducible refine (rread_any w B q v ⟨a, x, y, s, p, pc, h, b⟩ pc HR0.out HP.out).mono ?_)
  rintro e w1 ⟨rfl, rfl⟩
  rw [show (St.b (⟨a, x, y, s, p, pc, h, b⟩ : S14)).m pc = M from HM.out]
  go_wp2
  go_ret
  exact rdone_set _ HF0.out HL0.out (put_pc HR0.out _)

set_option maxRecDepth 100000 in
set_option maxHeartbeats 4000000 in
theorem rword_any (w : World) (B q : Nat) (v : Value) (S : S14) (n : Nat) (H : RefAt w B q v S) (hO : Ok n S) (hB : B ≤ w.heap.size) :
    Calls Tryd.prog 73 #[.pointer (some ⟨q, 0, none⟩)] w (RDone w B q v (word S) (.int .u16 (wordV S))) := by
  have HO := Lib.hid hO
  obtain ⟨a, x, y, s, p, pc, h, b⟩ := S
  have HR0 := Lib.hid H
  have HF0 : Hid (Fr (foot q v) w w) := Lib.hid (Fr.refl _ w)
  have HL0 : Hid (Lies w v v) := Lib.hid (Lies.refl w v)
  have HB0 := Lib.hid hB
  have hv := nextV_byte hO
  have hv2 := nextV_byte (ok_next hO)
  have hE : wordV (⟨a, x, y, s, p, pc, h, b⟩ : S14) = nextV (⟨a, x, y, s, p, pc, h, b⟩ : S14) + 256 * nextV (next (⟨a, x, y, s, p, pc, h, b⟩ : S14)) := rfl
  rw [hE]
  have H1 := Lib.hid (fun W V (hr : RefAt W B q V (⟨a, x, y, s, p, pc, h, b⟩ : S14)) hb => rnext_any W B q V (⟨a, x, y, s, p, pc, h, b⟩ : S14) n hr hO hb)
  have H2 := Lib.hid (fun W V (hr : RefAt W B q V (next (⟨a, x, y, s, p, pc, h, b⟩ : S14))) hb => rnext_any W B q V (next (⟨a, x, y, s, p, pc, h, b⟩ : S14)) n hr (ok_next hO) hb)
  generalize nextV (⟨a, x, y, s, p, pc, h, b⟩ : S14) = M1 at *
  generalize nextV (next (⟨a, x, y, s, p, pc, h, b⟩ : S14)) = M2 at *
  obtain ⟨m0, m1⟩ := hv
  obtain ⟨k0, k1⟩ := hv2
  clear H hO hB hE
  go_enter Tryd.func73, Tryd.ntmps73
  go_wp2_with fail
  (with_reducible refine (H1.out w v HR0.out HB0.out).mono ?_)
  intro e w1 hd
  obtain ⟨rfl, v1, hr, hf, hl⟩ := rdone_tr HF0.out HL0.out hd
  change RefAt w1 B q v1 (next (⟨a, x, y, s, p, pc, h, b⟩ : S14)) at hr
  have HR1 := Lib.hid hr
  have HF1 := Lib.hid hf
  have HL1 := Lib.hid hl
  have HB1 := Lib.hid (Nat.le_trans HB0.out hf.size)
  clear hd hr hf hl
  go_wp2_with fail
  (with_reducible refine (H2.out w1 v1 HR1.out HB1.out).mono ?_)
  intro e w2 hd
  obtain ⟨rfl, v2, hr, hf, hl⟩ := rdone_tr HF1.out HL1.out hd
  change RefAt w2 B q v2 (word (⟨a, x, y, s, p, pc, h, b⟩ : S14)) at hr
  have HR2 := Lib.hid hr
  have HF2 := Lib.hid hf
  have HL2 := Lib.hid hl
  have HB2 := Lib.hid (Nat.le_trans HB0.out hf.size)
  clear hd hr hf hl
  go_wp2
  go_ret
  exact ⟨rfl, v2, HR2.out, HF2.out, HL2.out⟩

set_option maxRecDepth 100000 in
set_option maxHeartbeats 4000000 in
theorem rpair_any (w : World) (B q : Nat) (v : Value) (S : S14) (i j : Int) (n : Nat) (H : RefAt w B q v S) (hO : Ok n S) (hi : u16 i) (hj : u16 j) :
    Calls Tryd.prog 30 #[.pointer (some ⟨q, 0, none⟩), .int .u16 i, .int .u16 j] w fun e w' => e = .returned (.int .u16 (pairV S.b i j)) ∧ w = w' := by
  have hv : byte (S.b.m i) := hO.b.1 i
  have hv2 : byte (S.b.m j) := hO.b.1 j
  have H1 := Lib.hid (rread_any w B q v S i H hi)
  have H2 := Lib.hid (rread_any w B q v S j H hj)
  rw [show pairV S.b i j = S.b.m i + 256 * S.b.m j from rfl]
  generalize S.b.m i = M1 at *
  generalize S.b.m j = M2 at *
  obtain ⟨m0, m1⟩ := hv
  obtain ⟨k0, k1⟩ := hv2
  clear H hO
  go_enter Tryd.func30, Tryd.ntmps30
  go_wp2_with fail
  (with_reducible refine (H1.out).mono ?_)
  rintro e w1 ⟨rfl, rfl⟩
  go_wp2_with fail
  (with_reducible refine (H2.out).mono ?_)
  rintro e w1 ⟨rfl, rfl⟩
  go_wp2
  go_ret
  exact ⟨rfl, rfl⟩

set_option maxRecDepth 100000 in
theorem and_k (k : Int) (hk : isF k) : ∀ p, byte p → bits .and .u8 p k = (if p / k % 2 = 1 then k else 0) ∧ (p / k % 2 = 1 → k ≤ p) ∧ (if p / k % 2 = 1 then p - k else p) + k < 256 := by
  rcases hk with rfl | rfl | rfl | rfl | rfl | rfl <;> exact of_byte _ (by decide +kernel)
theorem isF_bd {k : Int} (hk : isF k) : 1 ≤ k ∧ k < 256 := by
  rcases hk with rfl | rfl | rfl | rfl | rfl | rfl <;> omega

set_option maxRecDepth 100000 in
set_option maxHeartbeats 4000000 in
theorem rset_any (w : World) (B q : Nat) (v : Value) (S : S14) (k : Int) (on : Bool) (H : RefAt w B q v S) (hk : isF k) (hO : byte S.p) (hB : B ≤ w.heap.size) :
    Calls Tryd.prog 29 #[.pointer (some ⟨q, 0, none⟩), .int .u8 k, .bool on] w (RDone w B q v (withP S (setF S.p k on)) (.tuple #[])) := by
  obtain ⟨a, x, y, s, p, pc, h, b⟩ := S
  obtain ⟨k0, k1⟩ := isF_bd hk
  obtain ⟨e1, e2, e3⟩ := and_k k hk p hO
  obtain ⟨p0, p1⟩ : 0 ≤ p ∧ p < 256 := hO
  have HR0 := Lib.hid H
  have HF0 : Hid (Fr (foot q v) w w) := Lib.hid (Fr.refl _ w)
  have HL0 : Hid (Lies w v v) := Lib.hid (Lies.refl w v)
  have HB0 := Lib.hid hB
  obtain ⟨c0, c1, c2, c3, c4, c5, c6⟩ := regs H
  have f4 := RefAt.frozen H 4
  clear c0 c1 c2 c3 c5 c6
  have HP := Lib.hid (fun (W : World) u (hr : RefAt W B q v ⟨a, x, y, s, p, pc, h, b⟩) => put_p hr u)
  show Calls _ _ _ _ (RDone w B q v ⟨a, x, y, s, setF p k on, pc, h, b⟩ _)
  unfold setF
  clear hk
  by_cases hb : p / k % 2 = 1
  · rw [if_pos hb] at e1 e3 ⊢
    have e2' := e2 hb
    have z1 : (k == 0) = false := by rw [beq_eq_false_iff_ne]; omega
    have HW1 : Hid (RefAt (w.setCell ⟨q, 4, none⟩ (.int .u8 (p - k))) B q v ⟨a, x, y, s, p - k, pc, h, b⟩) := Lib.hid (put_p H _)
    have HD : Hid (Fr (foot q v) w (w.setCell ⟨q, 4, none⟩ (.int .u8 (p - k)))) := Lib.hid ((Fr.refl _ w).setCell (by simp [foot]) _)
    clear e2 hb H hB
    cases on
    · rw [show p - k + (if false = true then k else 0) = p - k by simp]
      go_enter Tryd.func29, Tryd.ntmps29
      go_wp2
      (first | go_end0 | refine bodyPost_ret (results_none rfl _ _ _) rfl ?_)
      exact ⟨rfl, v, HW1.out, HD.out, HL0.out⟩
    · rw [show p - k + (if true = true then k else 0) = p - k + k by simp]
      go_enter Tryd.func29, Tryd.ntmps29
      go_upto_region 2 with fail
      have c4b := (regs HW1.out).2.2.2.2.1
      have f4b := RefAt.frozen HW1.out 4
      clear c4 f4
      generalize w.setCell _ _ = w1 at *
      go_wp2
      (first | go_end0 | refine bodyPost_ret (results_none rfl _ _ _) rfl ?_)
      refine rdone_set _ HD.out HL0.out ?_
      have := put_p HW1.out (p - k + k)
      simpa using this
  · rw [if_neg hb] at e1 e3 ⊢
    clear e2 hb hB
    cases on
    · rw [show p + (if false = true then k else 0) = p by simp]
      clear H
      go_enter Tryd.func29, Tryd.ntmps29
      go_wp2
      (first | go_end0 | refine bodyPost_ret (results_none rfl _ _ _) rfl ?_)
      exact ⟨rfl, v, HR0.out, HF0.out, HL0.out⟩
    · rw [show p + (if true = true then k else 0) = p + k by simp]
      clear H
      go_enter Tryd.func29, Tryd.ntmps29
      go_wp2
      (first | go_end0 | refine bodyPost_ret (results_none rfl _ _ _) rfl ?_)
      exact rdone_set _ HF0.out HL0.out (put_p HR0.out _)

set_option maxRecDepth 100000 in
set_option maxHeartbeats 4000000 in
theorem ron_any (w : World) (B q : Nat) (v : Value) (S : S14) (k : Int) (H : RefAt w B q v S) (hk : isF k) (hO : byte S.p) :
    Calls Tryd.prog 79 #[.pointer (some ⟨q, 0, none⟩), .int .u8 k] w fun e w' => e = .returned (.bool (on S.p k)) ∧ w = w' := by
  obtain ⟨a, x, y, s, p, pc, h, b⟩ := S
  obtain ⟨k0, k1⟩ := isF_bd hk
  obtain ⟨e1, e2, e3⟩ := and_k k hk p hO
  obtain ⟨c0, c1, c2, c3, c4, c5, c6⟩ := regs H
  clear c0 c1 c2 c3 c5 c6
  show Calls _ _ _ _ fun e w' => e = .returned (.bool (on p k)) ∧ w = w'
  clear hk e2 e3 hO H
  have z1 : (k == 0) = false := by rw [beq_eq_false_iff_ne]; omega
  by_cases hb : p / k % 2 = 1
  · rw [if_pos hb] at e1
    rw [show on p k = true by simp [on, hb]]
    clear hb
    go_enter Tryd.func79, Tryd.ntmps79
    go_wp2
    go_ret
    exact ⟨by simp [bne, z1], rfl⟩
  · rw [if_neg hb] at e1
    rw [show on p k = false by simp [on, hb]]
    clear hb
    go_enter Tryd.func79, Tryd.ntmps79
    go_wp2
    go_ret
    exact ⟨by simp, rfl⟩

end Ms
end Go.Proofs.YtlnpadekgakghaaDoor
