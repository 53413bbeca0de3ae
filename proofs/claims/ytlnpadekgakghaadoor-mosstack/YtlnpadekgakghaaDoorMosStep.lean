/-
  The step's small methods: flags, the next byte, the stack. Conditions: the state is one that there is, few bytes were written.
-/
import Derived.Test.YtlnpadekgakghaaDoorMosStp
namespace Go.Proofs.YtlnpadekgakghaaDoor
open Go.RowKit
namespace Ms
open Al (byte of_byte)
set_option linter.unusedVariables false

set_option maxRecDepth 100000 in
set_option maxHeartbeats 1000000 in
theorem sset_any (w : World) (B t q g : Nat) (v : Value) (S : S14) (R : Rg) (k : Int) (on : Bool) (H : StAt w B t q g v S R) (hk : isF k) (hO : byte S.p) (hB : B ≤ w.heap.size) :
    Calls Tryd.prog 52 #[.pointer (some ⟨t, 0, none⟩), .int .u8 k, .bool on] w (SDone w B t q g v (withP S (setF S.p k on)) R (.tuple #[])) := by
  obtain ⟨a, x, y, s, p, pc, h, b⟩ := S
  obtain ⟨k0, k1⟩ := isF_bd hk
  obtain ⟨e1, e2, e3, e4⟩ := andNot_k k hk p hO
  obtain ⟨p0, p1⟩ : 0 ≤ p ∧ p < 256 := hO
  show Calls _ _ _ _ (SDone w B t q g v ⟨a, x, y, s, setF p k on, pc, h, b⟩ R _)
  unfold setF
  clear hk
  generalize (if p / k % 2 = 1 then p - k else p) = j at *
  have HR0 := Lib.hid H
  have HF0 : Hid (Fr (sfoot t q g v) w w) := Lib.hid (Fr.refl _ w)
  have HL0 : Hid (Lies w v v) := Lib.hid (Lies.refl w v)
  have HB0 := Lib.hid hB
  obtain ⟨c0, c1, c2, c3, c4, c5, c6, t0, t1⟩ := sregs HR0.out
  clear c0 c1 c2 c3 c5 c6 t1
  have f4 := HR0.out.frozen 4
  clear hB
  have HR1 : Hid (StAt (w.setCell ⟨q, 4, none⟩ (.int .u8 j)) B t q g v ⟨a, x, y, s, j, pc, h, b⟩ R) := Lib.hid (sput_p H _)
  have HF1 : Hid (Fr (sfoot t q g v) w (w.setCell ⟨q, 4, none⟩ (.int .u8 j))) := Lib.hid ((Fr.refl _ w).setCell (by simp [sfoot, pfoot]) _)
  clear H
  cases on
  · rw [show j + (if false = true then k else 0) = j by simp]
    clear HR0 e2
    go_enter Tryd.func52, Tryd.ntmps52
    go_wp2
    (first | go_end0 | refine bodyPost_ret (results_none rfl _ _ _) rfl ?_)
    exact ⟨rfl, v, HR1.out, HF1.out, HL0.out⟩
  · rw [show j + (if true = true then k else 0) = j + k by simp]
    go_enter Tryd.func52, Tryd.ntmps52
    go_upto_region 2 with fail
    obtain ⟨c0, c1, c2, c3, c4b, c5, c6, t0b, t1⟩ := sregs HR1.out
    have f4b := HR1.out.frozen 4
    clear c0 c1 c2 c3 c5 c6 t1 c4 f4 t0 e1
    generalize w.setCell _ _ = w1 at *
    go_wp2
    (first | go_end0 | refine bodyPost_ret (results_none rfl _ _ _) rfl ?_)
    exact sdone_set _ HF1.out HL0.out (sput_p HR1.out _)

set_option maxRecDepth 100000 in
set_option maxHeartbeats 1000000 in
theorem shas_any {w : World} {B t q g : Nat} {v : Value} {S : S14} {R : Rg} (H : StAt w B t q g v S R) (k : Int) (hk : isF k) (hO : byte S.p) :
    Calls Tryd.prog 58 #[.pointer (some ⟨t, 0, none⟩), .int .u8 k] w fun e w' => e = .returned (.bool (on S.p k)) ∧ w = w' := by
  obtain ⟨a, x, y, s, p, pc, h, b⟩ := S
  obtain ⟨k0, k1⟩ := isF_bd hk
  obtain ⟨e1, e2, e3⟩ := and_k k hk p hO
  obtain ⟨c0, c1, c2, c3, c4, c5, c6, t0, t1⟩ := sregs H
  clear c0 c1 c2 c3 c5 c6 t1
  show Calls _ _ _ _ fun e w' => e = .returned (.bool (on p k)) ∧ w = w'
  clear hk e2 e3 hO H
  have z1 : (k == 0) = false := by rw [beq_eq_false_iff_ne]; omega
  by_cases hb : p / k % 2 = 1
  · rw [if_pos hb] at e1
    rw [show on p k = true by simp [on, hb]]
    clear hb
    go_enter Tryd.func58, Tryd.ntmps58
    go_wp2
    go_ret
    exact ⟨by simp [bne, z1], rfl⟩
  · rw [if_neg hb] at e1
    rw [show on p k = false by simp [on, hb]]
    clear hb
    go_enter Tryd.func58, Tryd.ntmps58
    go_wp2
    go_ret
    exact ⟨by simp, rfl⟩

theorem bit7_ge : ∀ v, byte v → (bits .and .u8 v 128 != 0) = decide (128 ≤ v) := of_byte _ (by decide +kernel)
set_option maxRecDepth 100000 in
set_option maxHeartbeats 1000000 in
theorem sresult_any (w : World) (B t q g : Nat) (v : Value) (S : S14) (R : Rg) (u : Int) (H : StAt w B t q g v S R) (hO : fl S.p) (hu : byte u) (hB : B ≤ w.heap.size) :
    Calls Tryd.prog 55 #[.pointer (some ⟨t, 0, none⟩), .int .u8 u] w (SDone w B t q g v (withP S (zn S.p u)) R (.int .u8 u)) := by
  obtain ⟨a, x, y, s, p, pc, h, b⟩ := S
  have HP : Hid (fl p) := Lib.hid hO
  have hb7 := bit7_ge u hu
  obtain ⟨u0, u1⟩ := hu
  have HR0 := Lib.hid H
  have HF0 : Hid (Fr (sfoot t q g v) w w) := Lib.hid (Fr.refl _ w)
  have HL0 : Hid (Lies w v v) := Lib.hid (Lies.refl w v)
  have HB0 := Lib.hid hB
  clear H hO hB
  show Calls _ _ _ _ (SDone w B t q g v ⟨a, x, y, s, zn p u, pc, h, b⟩ R _)
  unfold zn
  obtain ⟨gg, hg⟩ : ∃ gg, decide (128 ≤ u) = gg := ⟨_, rfl⟩
  obtain ⟨zz, hz⟩ : ∃ zz, (u == 0) = zz := ⟨_, rfl⟩
  rw [hg] at hb7 ⊢
  rw [hz]
  clear hg
  go_enter Tryd.func55, Tryd.ntmps55
  go_wp2_with fail
  (with_reducible refine (sset_any w B t q g v ⟨a, x, y, s, p, pc, h, b⟩ R 2 zz HR0.out isF2 (fl_b HP.out) HB0.out).mono ?_)
  intro e w1 hd
  obtain ⟨rfl, v1, hr, hf, hl⟩ := sdone_tr HF0.out HL0.out hd
  change StAt w1 B t q g v1 ⟨a, x, y, s, setF p 2 zz, pc, h, b⟩ R at hr
  have HR1 := Lib.hid hr
  have HF1 := Lib.hid hf
  have HL1 := Lib.hid hl
  have HB1 := Lib.hid (Nat.le_trans HB0.out hf.size)
  clear hd hr hf hl
  go_wp2_with fail
  (with_reducible refine (sset_any w1 B t q g v1 ⟨a, x, y, s, (setF p 2 zz), pc, h, b⟩ R 128 gg HR1.out isF128 (fl_b (fl_setF _ _ _ isF2 HP.out)) HB1.out).mono ?_)
  intro e w2 hd
  obtain ⟨rfl, v2, hr, hf, hl⟩ := sdone_tr HF1.out HL1.out hd
  change StAt w2 B t q g v2 ⟨a, x, y, s, setF (setF p 2 zz) 128 gg, pc, h, b⟩ R at hr
  have HR2 := Lib.hid hr
  have HF2 := Lib.hid hf
  have HL2 := Lib.hid hl
  have HB2 := Lib.hid (Nat.le_trans HB0.out hf.size)
  clear hd hr hf hl
  go_wp2
  go_ret
  exact ⟨rfl, v2, HR2.out, HF2.out, HL2.out⟩

set_option maxRecDepth 100000 in
set_option maxHeartbeats 1000000 in
theorem snext_any (w : World) (B t q g : Nat) (v : Value) (S : S14) (R : Rg) (n : Nat) (H : StAt w B t q g v S R) (hO : Ok n S) (hB : B ≤ w.heap.size) :
    Calls Tryd.prog 34 #[.pointer (some ⟨t, 0, none⟩)] w (SDone w B t q g v (next S) R (.int .u8 (nextV S))) := by
  have HP := Lib.hid hO.pc
  obtain ⟨a, x, y, s, p, pc, h, b⟩ := S
  obtain ⟨pc0, pc1⟩ : 0 ≤ pc ∧ pc < 65536 := hO.pc
  have HR0 := Lib.hid H
  have HF0 : Hid (Fr (sfoot t q g v) w w) := Lib.hid (Fr.refl _ w)
  have HL0 : Hid (Lies w v v) := Lib.hid (Lies.refl w v)
  have HB0 := Lib.hid hB
  obtain ⟨c0, c1, c2, c3, c4, c5, c6, t0, t1⟩ := sregs HR0.out
  clear c0 c1 c2 c3 c4 c6
  have hv := nextV_byte hO
  obtain ⟨M, hM⟩ : ∃ z, nextV (⟨a, x, y, s, p, pc, h, b⟩ : S14) = z := ⟨_, rfl⟩
  have HM : Hid (b.m pc = M) := Lib.hid hM
  rw [hM] at hv ⊢
  obtain ⟨m0, m1⟩ := hv
  have hme := meth_read g
  clear H hO hB hM
  go_enter Tryd.func34, Tryd.ntmps34
  go_upto_region 1 with fail
  have HRd := Lib.hid (HR0.out.fr (Fr.refl [] w).drew (by simp))
  have HFd : Hid (Fr (sfoot t q g v) w w.drew) := Lib.hid HF0.out.drew
  have HBd : Hid (B ≤ w.drew.heap.size) := HB0
  have HQ0 := Lib.hid (show Calls Tryd.prog 114 #[.pointer (some ⟨g, 0, none⟩), .int .u16 pc] w.drew (fun e w' => e = .returned (.int .u8 M) ∧ w.drew = w') from by rw [← HM.out]; exact sread_any HRd.out pc HP.out)
  go_still_tail 14, (by kernel_rfl)
  repeat still_step
  still_call (HQ0.out.mono fun e w' h => ⟨h.1, h.2.symm⟩)
  repeat still_step
  try refine wpStill_nil ?_
  change wpList _ _ _ _ _ w.drew
  have HR1 := HRd
  have HF1 := HFd
  have HL1 := Lib.hid HL0.out
  have HB1 := HBd
  clear HRd HFd HBd HQ0
  clear c5 t0 t1
  generalize w.drew = w1 at *
  go_upto_region 2 with fail
  obtain ⟨c0, c1, c2, c3, c4, c5, c6, t0, t1⟩ := sregs HR1.out
  clear c0 c1 c2 c3 c4 c6 t1
  have f5 := HR1.out.frozen 5
  go_wp2
  go_ret
  exact sdone_set _ HF1.out HL1.out (sput_pc HR1.out _)

set_option maxRecDepth 100000 in
set_option maxHeartbeats 1000000 in
theorem spush_any (w : World) (B t q g : Nat) (v : Value) (S : S14) (R : Rg) (n : Nat) (u : Int) (H : StAt w B t q g v S R) (hO : Ok n S) (hn : n + 2 < 1000000000) (hu : byte u) (hB : B ≤ w.heap.size) :
    Calls Tryd.prog 65 #[.pointer (some ⟨t, 0, none⟩), .int .u8 u] w (SDone w B t q g v (push S u) R (.tuple #[])) := by
  have HO := Lib.hid hO
  have HU := Lib.hid hu
  have or256s := or256 S.s hO.s
  obtain ⟨a, x, y, s, p, pc, h, b⟩ := S
  obtain ⟨s0, s1⟩ : 0 ≤ s ∧ s < 256 := hO.s
  change bits .or .u16 256 s = 256 + s at or256s
  have HR0 := Lib.hid H
  have HF0 : Hid (Fr (sfoot t q g v) w w) := Lib.hid (Fr.refl _ w)
  have HL0 : Hid (Lies w v v) := Lib.hid (Lies.refl w v)
  have HB0 := Lib.hid hB
  obtain ⟨c0, c1, c2, c3, c4, c5, c6, t0, t1⟩ := sregs HR0.out
  clear c0 c1 c2 c4 c5 c6
  have hme := meth_write g
  clear H hO hB hu
  go_enter Tryd.func65, Tryd.ntmps65
  go_upto_region 0 with fail
  have HRd := Lib.hid (HR0.out.fr (Fr.refl [] w).drew (by simp))
  have HFd : Hid (Fr (sfoot t q g v) w w.drew) := Lib.hid HF0.out.drew
  have HBd : Hid (B ≤ w.drew.heap.size) := HB0
  go_still_tail 16, (by kernel_rfl)
  repeat still_step
  try refine wpStill_nil ?_
  change wpList _ _ _ _ _ w.drew
  have HR1 := HRd
  have HF1 := HFd
  have HL1 := Lib.hid HL0.out
  have HB1 := HBd
  clear HRd HFd HBd
  clear c3 t0 t1
  generalize w.drew = w1 at *
  go_wp2_with fail
  try rw [or256s]
  go_wp2_with fail
  (with_reducible refine (swrite_any HR1.out n (256 + s) u (stack_u16 HO.out.s) HU.out HO.out (by omega) HB1.out).mono ?_)
  intro e w2 hd
  obtain ⟨rfl, v2, hr, hf, hl⟩ := sdone_tr HF1.out HL1.out hd
  change StAt w2 B t q g v2 ⟨a, x, y, s, p, pc, h, Io.wb b (256 + s) u⟩ R at hr
  have HR2 := Lib.hid hr
  have HF2 := Lib.hid hf
  have HL2 := Lib.hid hl
  have HB2 := Lib.hid (Nat.le_trans HB0.out hf.size)
  clear hd hr hf hl
  obtain ⟨c0, c1, c2, c3, c4, c5, c6, t0, t1⟩ := sregs HR2.out
  clear c0 c1 c2 c4 c5 c6 t1
  have f3 := HR2.out.frozen 3
  go_wp2
  (first | go_end0 | refine bodyPost_ret (results_none rfl _ _ _) rfl ?_)
  exact sdone_set _ HF2.out HL2.out (sput_s HR2.out _)

set_option maxRecDepth 100000 in
set_option maxHeartbeats 1000000 in
theorem spull_any (w : World) (B t q g : Nat) (v : Value) (S : S14) (R : Rg) (n : Nat) (H : StAt w B t q g v S R) (hO : Ok n S) (hB : B ≤ w.heap.size) :
    Calls Tryd.prog 66 #[.pointer (some ⟨t, 0, none⟩)] w (SDone w B t q g v (pull S) R (.int .u8 (pullV S))) := by
  obtain ⟨a, x, y, s, p, pc, h, b⟩ := S
  obtain ⟨s0, s1⟩ : 0 ≤ s ∧ s < 256 := hO.s
  have HR0 := Lib.hid H
  have HF0 : Hid (Fr (sfoot t q g v) w w) := Lib.hid (Fr.refl _ w)
  have HL0 : Hid (Lies w v v) := Lib.hid (Lies.refl w v)
  have HB0 := Lib.hid hB
  obtain ⟨c0, c1, c2, c3, c4, c5, c6, t0, t1⟩ := sregs HR0.out
  clear c0 c1 c2 c4 c5 c6 t1
  have f3 := HR0.out.frozen 3
  show Calls _ _ _ _ (SDone w B t q g v ⟨a, x, y, (s + 1) % 256, p, pc, h, b⟩ R (.int .u8 (b.m (256 + (s + 1) % 256))))
  have hj0 := mod_byte (s + 1)
  obtain ⟨j, hj⟩ : ∃ j, (s + 1) % 256 = j := ⟨_, rfl⟩
  have wj : IntKind.u8.wrap (s + 1) = j := by rw [IntKind.wrap_u8]; exact hj
  rw [hj] at hj0 ⊢
  have hor := or256 j hj0
  have w16 : IntKind.u16.wrap j = j := by rw [IntKind.wrap_u16]; obtain ⟨q0, q1⟩ := hj0; omega
  have HJ := Lib.hid hj0
  obtain ⟨j0, j1⟩ := hj0
  have hme := meth_read g
  clear H hO hB
  go_enter Tryd.func66, Tryd.ntmps66
  have HR1 : Hid (StAt (w.setCell ⟨q, 3, none⟩ (.int .u8 (j))) B t q g v ⟨a, x, y, j, p, pc, h, b⟩ R) := Lib.hid (sput_s HR0.out _)
  have HF1 : Hid (Fr (sfoot t q g v) w (w.setCell ⟨q, 3, none⟩ (.int .u8 (j)))) := Lib.hid (HF0.out.setCell (by simp [sfoot, pfoot]) _)
  have HL1 := Lib.hid HL0.out
  have HB1 : Hid (B ≤ (w.setCell ⟨q, 3, none⟩ (.int .u8 (j))).heap.size) := Lib.hid (Nat.le_trans HB0.out HF1.out.size)
  go_upto_region 2 with fail
  clear c3 t0 f3
  generalize w.setCell _ _ = w1 at *
  clear wj hj
  obtain ⟨c0, c1, c2, c3, c4, c5, c6, t0, t1⟩ := sregs HR1.out
  clear c0 c1 c2 c4 c5 c6
  have HRd := Lib.hid (HR1.out.fr (Fr.refl [] w1).drew (by simp))
  have HFd : Hid (Fr (sfoot t q g v) w w1.drew) := Lib.hid HF1.out.drew
  have HBd : Hid (B ≤ w1.drew.heap.size) := HB1
  go_still_tail 15, (by kernel_rfl)
  repeat still_step
  try refine wpStill_nil ?_
  change wpList _ _ _ _ _ w1.drew
  have HR2 := HRd
  have HF2 := HFd
  have HL2 := Lib.hid HL1.out
  have HB2 := HBd
  clear HRd HFd HBd
  clear c3 t0 t1
  generalize w1.drew = w2 at *
  go_wp2_with fail
  try rw [hor]
  go_wp2_with fail
  (with_reducible refine (sread_any HR2.out (256 + j) (stack_u16 HJ.out)).mono ?_)
  rintro e wq ⟨rfl, rfl⟩
  go_wp2
  go_ret
  exact ⟨rfl, v, HR2.out, HF2.out, HL2.out⟩

set_option maxRecDepth 100000 in
set_option maxHeartbeats 1000000 in
theorem wordOf_any (w : World) (lo hi : Int) (hl : byte lo) (hh : byte hi) :
    Calls Tryd.prog 54 #[.int .u8 lo, .int .u8 hi] w fun e w' => e = .returned (.int .u16 (lo + 256 * hi)) ∧ w = w' := by
  have hor := or_word lo hi hl hh
  obtain ⟨l0, l1⟩ := hl
  obtain ⟨h0, h1⟩ := hh
  go_enter Tryd.func54, Tryd.ntmps54
  go_wp2
  go_ret
  exact ⟨rfl, rfl⟩

end Ms
end Go.Proofs.YtlnpadekgakghaaDoor
