/-
  The program's step: words at addresses and on the stack, flags on the stack, an interrupt, an address reached. Conditions: the state is one that there is, few bytes were written.
-/
import Derived.Test.YtlnpadekgakghaaDoorMosStep
namespace Go.Proofs.YtlnpadekgakghaaDoor
open Go.RowKit
namespace Ms
open Al (byte of_byte)
set_option linter.unusedVariables false

set_option maxRecDepth 100000 in
set_option maxHeartbeats 1000000 in
theorem snextWord_any (w : World) (B t q g : Nat) (v : Value) (S : S14) (R : Rg) (n : Nat) (H : StAt w B t q g v S R) (hO : Ok n S) (hB : B ≤ w.heap.size) :
    Calls Tryd.prog 35 #[.pointer (some ⟨t, 0, none⟩)] w (SDone w B t q g v (word S) R (.int .u16 (wordV S))) := by
  have HO := Lib.hid hO
  obtain ⟨a, x, y, s, p, pc, h, b⟩ := S
  have HR0 := Lib.hid H
  have HF0 : Hid (Fr (sfoot t q g v) w w) := Lib.hid (Fr.refl _ w)
  have HL0 : Hid (Lies w v v) := Lib.hid (Lies.refl w v)
  have HB0 := Lib.hid hB
  have hv := nextV_byte hO
  have hv2 := nextV_byte (ok_next hO)
  have hE : wordV (⟨a, x, y, s, p, pc, h, b⟩ : S14) = nextV (⟨a, x, y, s, p, pc, h, b⟩ : S14) + 256 * nextV (next (⟨a, x, y, s, p, pc, h, b⟩ : S14)) := rfl
  rw [hE]
  have H1 := Lib.hid (fun W V (hr : StAt W B t q g V (⟨a, x, y, s, p, pc, h, b⟩ : S14) R) hb => snext_any W B t q g V (⟨a, x, y, s, p, pc, h, b⟩ : S14) R n hr hO hb)
  have H2 := Lib.hid (fun W V (hr : StAt W B t q g V (next (⟨a, x, y, s, p, pc, h, b⟩ : S14)) R) hb => snext_any W B t q g V (next (⟨a, x, y, s, p, pc, h, b⟩ : S14)) R n hr (ok_next hO) hb)
  generalize nextV (⟨a, x, y, s, p, pc, h, b⟩ : S14) = M1 at *
  generalize nextV (next (⟨a, x, y, s, p, pc, h, b⟩ : S14)) = M2 at *
  have B1 := Lib.hid hv
  have B2 := Lib.hid hv2
  obtain ⟨m0, m1⟩ := hv
  obtain ⟨k0, k1⟩ := hv2
  clear H hO hB hE
  go_enter Tryd.func35, Tryd.ntmps35
  go_wp2_with fail
  (with_reducible refine (H1.out w v HR0.out HB0.out).mono ?_)
  intro e w1 hd
  obtain ⟨rfl, v1, hr, hf, hl⟩ := sdone_tr HF0.out HL0.out hd
  change StAt w1 B t q g v1 (next (⟨a, x, y, s, p, pc, h, b⟩ : S14)) R at hr
  have HR1 := Lib.hid hr
  have HF1 := Lib.hid hf
  have HL1 := Lib.hid hl
  have HB1 := Lib.hid (Nat.le_trans HB0.out hf.size)
  clear hd hr hf hl
  go_wp2_with fail
  (with_reducible refine (H2.out w1 v1 HR1.out HB1.out).mono ?_)
  intro e w2 hd
  obtain ⟨rfl, v2, hr, hf, hl⟩ := sdone_tr HF1.out HL1.out hd
  change StAt w2 B t q g v2 (next (next (⟨a, x, y, s, p, pc, h, b⟩ : S14))) R at hr
  have HR2 := Lib.hid hr
  have HF2 := Lib.hid hf
  have HL2 := Lib.hid hl
  have HB2 := Lib.hid (Nat.le_trans HB0.out hf.size)
  clear hd hr hf hl
  go_wp2_with fail
  (with_reducible refine (wordOf_any _ M1 M2 B1.out B2.out).mono ?_)
  rintro e wq ⟨rfl, rfl⟩
  go_wp2
  go_ret
  exact ⟨rfl, v2, HR2.out, HF2.out, HL2.out⟩

set_option maxRecDepth 100000 in
set_option maxHeartbeats 1000000 in
theorem spullWord_any (w : World) (B t q g : Nat) (v : Value) (S : S14) (R : Rg) (n : Nat) (H : StAt w B t q g v S R) (hO : Ok n S) (hB : B ≤ w.heap.size) :
    Calls Tryd.prog 68 #[.pointer (some ⟨t, 0, none⟩)] w (SDone w B t q g v (pullW S) R (.int .u16 (pullWV S))) := by
  have HO := Lib.hid hO
  obtain ⟨a, x, y, s, p, pc, h, b⟩ := S
  have HR0 := Lib.hid H
  have HF0 : Hid (Fr (sfoot t q g v) w w) := Lib.hid (Fr.refl _ w)
  have HL0 : Hid (Lies w v v) := Lib.hid (Lies.refl w v)
  have HB0 := Lib.hid hB
  have hv := pullV_byte hO
  have hv2 := pullV_byte (ok_pull hO)
  have hE : pullWV (⟨a, x, y, s, p, pc, h, b⟩ : S14) = pullV (⟨a, x, y, s, p, pc, h, b⟩ : S14) + 256 * pullV (pull (⟨a, x, y, s, p, pc, h, b⟩ : S14)) := rfl
  rw [hE]
  have H1 := Lib.hid (fun W V (hr : StAt W B t q g V (⟨a, x, y, s, p, pc, h, b⟩ : S14) R) hb => spull_any W B t q g V (⟨a, x, y, s, p, pc, h, b⟩ : S14) R n hr hO hb)
  have H2 := Lib.hid (fun W V (hr : StAt W B t q g V (pull (⟨a, x, y, s, p, pc, h, b⟩ : S14)) R) hb => spull_any W B t q g V (pull (⟨a, x, y, s, p, pc, h, b⟩ : S14)) R n hr (ok_pull hO) hb)
  generalize pullV (⟨a, x, y, s, p, pc, h, b⟩ : S14) = M1 at *
  generalize pullV (pull (⟨a, x, y, s, p, pc, h, b⟩ : S14)) = M2 at *
  have B1 := Lib.hid hv
  have B2 := Lib.hid hv2
  obtain ⟨m0, m1⟩ := hv
  obtain ⟨k0, k1⟩ := hv2
  clear H hO hB hE
  go_enter Tryd.func68, Tryd.ntmps68
  go_wp2_with fail
  (with_reducible refine (H1.out w v HR0.out HB0.out).mono ?_)
  intro e w1 hd
  obtain ⟨rfl, v1, hr, hf, hl⟩ := sdone_tr HF0.out HL0.out hd
  change StAt w1 B t q g v1 (pull (⟨a, x, y, s, p, pc, h, b⟩ : S14)) R at hr
  have HR1 := Lib.hid hr
  have HF1 := Lib.hid hf
  have HL1 := Lib.hid hl
  have HB1 := Lib.hid (Nat.le_trans HB0.out hf.size)
  clear hd hr hf hl
  go_wp2_with fail
  (with_reducible refine (H2.out w1 v1 HR1.out HB1.out).mono ?_)
  intro e w2 hd
  obtain ⟨rfl, v2, hr, hf, hl⟩ := sdone_tr HF1.out HL1.out hd
  change StAt w2 B t q g v2 (pull (pull (⟨a, x, y, s, p, pc, h, b⟩ : S14))) R at hr
  have HR2 := Lib.hid hr
  have HF2 := Lib.hid hf
  have HL2 := Lib.hid hl
  have HB2 := Lib.hid (Nat.le_trans HB0.out hf.size)
  clear hd hr hf hl
  go_wp2_with fail
  (with_reducible refine (wordOf_any _ M1 M2 B1.out B2.out).mono ?_)
  rintro e wq ⟨rfl, rfl⟩
  go_wp2
  go_ret
  exact ⟨rfl, v2, HR2.out, HF2.out, HL2.out⟩

set_option maxRecDepth 100000 in
set_option maxHeartbeats 1000000 in
theorem sword_any {w : World} {B t q g : Nat} {v : Value} {S : S14} {R : Rg} (H : StAt w B t q g v S R) (n : Nat) (i : Int) (hO : Ok n S) (hi : u16 i) :
    Calls Tryd.prog 31 #[.pointer (some ⟨t, 0, none⟩), .int .u16 i] w fun e w' => e = .returned (.int .u16 (pairV S.b i ((i + 1) % 65536))) ∧ w = w' := by
  obtain ⟨a, x, y, s, p, pc, h, b⟩ := S
  obtain ⟨c0, c1, c2, c3, c4, c5, c6, t0, t1⟩ := sregs H
  clear c0 c1 c2 c3 c4 c5 c6 t0
  obtain ⟨j, hjj⟩ : ∃ j, (i + 1) % 65536 = j := ⟨_, rfl⟩
  have hj : u16 j := ⟨by omega, by omega⟩
  have hw1 : IntKind.u16.wrap (i + 1) = j := by rw [IntKind.wrap_u16]; exact hjj
  rw [hjj]
  have hv : byte (b.m i) := hO.b.1 i
  have hv2 : byte (b.m j) := hO.b.1 j
  have B1 := Lib.hid hv
  have B2 := Lib.hid hv2
  have H1 := Lib.hid (sread_any H i hi)
  have H2 := Lib.hid (sread_any H j hj)
  change Hid (Calls _ _ _ _ fun e w' => e = .returned (.int .u8 (b.m i)) ∧ w = w') at H1
  change Hid (Calls _ _ _ _ fun e w' => e = .returned (.int .u8 (b.m j)) ∧ w = w') at H2
  show Calls _ _ _ _ fun e w' => e = .returned (.int .u16 (b.m i + 256 * b.m j)) ∧ w = w'
  generalize b.m i = M1 at *
  generalize b.m j = M2 at *
  obtain ⟨m0, m1⟩ := hv
  obtain ⟨k0, k1⟩ := hv2
  obtain ⟨i0, i1⟩ := hi
  have hme := meth_read g
  clear H hO
  go_enter Tryd.func31, Tryd.ntmps31
  go_wp2_with fail
  (with_reducible refine (H1.out).mono ?_)
  rintro e w1 ⟨rfl, rfl⟩
  go_wp2_with fail
  (with_reducible refine (H2.out).mono ?_)
  rintro e w1 ⟨rfl, rfl⟩
  go_wp2_with fail
  (with_reducible refine (wordOf_any _ M1 M2 B1.out B2.out).mono ?_)
  rintro e w1 ⟨rfl, rfl⟩
  go_wp2
  go_ret
  exact ⟨rfl, rfl⟩

theorem inPage_u16 (w : Int) (hw : u16 w) : u16 (inPage w) := by
  obtain ⟨h0, h1⟩ := hw
  unfold inPage
  exact ⟨by omega, by omega⟩
set_option maxRecDepth 100000 in
set_option maxHeartbeats 1000000 in
theorem swordInPage_any {w : World} {B t q g : Nat} {v : Value} {S : S14} {R : Rg} (H : StAt w B t q g v S R) (n : Nat) (i : Int) (hO : Ok n S) (hi : u16 i) :
    Calls Tryd.prog 37 #[.pointer (some ⟨t, 0, none⟩), .int .u16 i] w fun e w' => e = .returned (.int .u16 (pairV S.b i (inPage i))) ∧ w = w' := by
  obtain ⟨a, x, y, s, p, pc, h, b⟩ := S
  obtain ⟨c0, c1, c2, c3, c4, c5, c6, t0, t1⟩ := sregs H
  clear c0 c1 c2 c3 c4 c5 c6 t0
  have hip : bits .or .u16 (bits .and .u16 i 65280) (bits .andNot .u16 (IntKind.u16.wrap (i + 1)) 65280) = inPage i := by rw [IntKind.wrap_u16]; exact in_page i hi
  have hj : u16 (inPage i) := inPage_u16 i hi
  generalize inPage i = j at *
  have hv : byte (b.m i) := hO.b.1 i
  have hv2 : byte (b.m j) := hO.b.1 j
  have B1 := Lib.hid hv
  have B2 := Lib.hid hv2
  have H1 := Lib.hid (sread_any H i hi)
  have H2 := Lib.hid (sread_any H j hj)
  change Hid (Calls _ _ _ _ fun e w' => e = .returned (.int .u8 (b.m i)) ∧ w = w') at H1
  change Hid (Calls _ _ _ _ fun e w' => e = .returned (.int .u8 (b.m j)) ∧ w = w') at H2
  show Calls _ _ _ _ fun e w' => e = .returned (.int .u16 (b.m i + 256 * b.m j)) ∧ w = w'
  generalize b.m i = M1 at *
  generalize b.m j = M2 at *
  obtain ⟨m0, m1⟩ := hv
  obtain ⟨k0, k1⟩ := hv2
  obtain ⟨i0, i1⟩ := hi
  have hme := meth_read g
  clear H hO
  go_enter Tryd.func37, Tryd.ntmps37
  go_wp2_with fail
  (with_reducible refine (H1.out).mono ?_)
  rintro e w1 ⟨rfl, rfl⟩
  go_wp2_with fail
  (with_reducible refine (H2.out).mono ?_)
  rintro e w1 ⟨rfl, rfl⟩
  go_wp2_with fail
  (with_reducible refine (wordOf_any _ M1 M2 B1.out B2.out).mono ?_)
  rintro e w1 ⟨rfl, rfl⟩
  go_wp2
  go_ret
  exact ⟨rfl, rfl⟩

set_option maxRecDepth 100000 in
set_option maxHeartbeats 1000000 in
theorem spushW_any (w : World) (B t q g : Nat) (v : Value) (S : S14) (R : Rg) (n : Nat) (u : Int) (H : StAt w B t q g v S R) (hO : Ok n S) (hn : n + 3 < 1000000000) (hu : u16 u) (hB : B ≤ w.heap.size) :
    Calls Tryd.prog 50 #[.pointer (some ⟨t, 0, none⟩), .int .u16 u] w (SDone w B t q g v (pushW S u) R (.tuple #[])) := by
  have HO := Lib.hid hO
  have HN := Lib.hid hn
  obtain ⟨u0, u1⟩ := hu
  obtain ⟨a, x, y, s, p, pc, h, b⟩ := S
  have HR0 := Lib.hid H
  have HF0 : Hid (Fr (sfoot t q g v) w w) := Lib.hid (Fr.refl _ w)
  have HL0 : Hid (Lies w v v) := Lib.hid (Lies.refl w v)
  have HB0 := Lib.hid hB
  obtain ⟨hi, hhi⟩ : ∃ z, u / 256 = z := ⟨_, rfl⟩
  obtain ⟨lo, hlo⟩ : ∃ z, u % 256 = z := ⟨_, rfl⟩
  have H1 : Hid (byte hi) := Lib.hid ⟨by omega, by omega⟩
  have H2 : Hid (byte lo) := Lib.hid ⟨by omega, by omega⟩
  have hi0 := H1.out.1
  have hi1 := H1.out.2
  have lo0 := H2.out.1
  have lo1 := H2.out.2
  have wh8 : IntKind.u8.wrap hi = hi := by rw [IntKind.wrap_u8]; omega
  have wl8 : IntKind.u8.wrap u = lo := by rw [IntKind.wrap_u8]; omega
  have hE : pushW (⟨a, x, y, s, p, pc, h, b⟩ : S14) u = push (push (⟨a, x, y, s, p, pc, h, b⟩ : S14) hi) lo := by unfold pushW; rw [hhi, hlo]
  rw [hE]
  clear H hO hB hn hE
  go_enter Tryd.func50, Tryd.ntmps50
  go_wp2_with fail
  (with_reducible refine (spush_any w B t q g v ⟨a, x, y, s, p, pc, h, b⟩ R n hi HR0.out HO.out (by have := HN.out; omega) H1.out HB0.out).mono ?_)
  intro e w1 hd
  obtain ⟨rfl, v1, hr, hf, hl⟩ := sdone_tr HF0.out HL0.out hd
  change StAt w1 B t q g v1 (push (⟨a, x, y, s, p, pc, h, b⟩ : S14) hi) R at hr
  have HR1 := Lib.hid hr
  have HF1 := Lib.hid hf
  have HL1 := Lib.hid hl
  have HB1 := Lib.hid (Nat.le_trans HB0.out hf.size)
  clear hd hr hf hl
  go_wp2_with fail
  (with_reducible refine (spush_any w1 B t q g v1 (push (⟨a, x, y, s, p, pc, h, b⟩ : S14) hi) R (n + 1) lo HR1.out (ok_push hi HO.out H1.out) (by have := HN.out; omega) H2.out HB1.out).mono ?_)
  intro e w2 hd
  obtain ⟨rfl, v2, hr, hf, hl⟩ := sdone_tr HF1.out HL1.out hd
  change StAt w2 B t q g v2 (push (push (⟨a, x, y, s, p, pc, h, b⟩ : S14) hi) lo) R at hr
  have HR2 := Lib.hid hr
  have HF2 := Lib.hid hf
  have HL2 := Lib.hid hl
  have HB2 := Lib.hid (Nat.le_trans HB0.out hf.size)
  clear hd hr hf hl
  go_wp2
  (first | go_end0 | refine bodyPost_ret (results_none rfl _ _ _) rfl ?_)
  exact ⟨rfl, v2, HR2.out, HF2.out, HL2.out⟩

def isW (k : Int) : Prop := k = 32 ∨ k = 48
theorem or_w (p k : Int) (hp : fl p) (hk : isW k) : bits .or .u8 (bits .andNot .u8 p 48) k = p + k ∧ byte (p + k) := by
  obtain ⟨h1, h2, h3⟩ := or_flags p hp.1 hp.2
  have h0 := hp.1.1
  rcases hk with rfl | rfl
  · exact ⟨h2, by omega, by omega⟩
  · exact ⟨h1, by omega, by omega⟩
set_option maxRecDepth 100000 in
set_option maxHeartbeats 1000000 in
theorem spushP_any (w : World) (B t q g : Nat) (v : Value) (S : S14) (R : Rg) (n : Nat) (k : Int) (H : StAt w B t q g v S R) (hO : Ok n S) (hn : n + 2 < 1000000000) (hk : isW k) (hB : B ≤ w.heap.size) :
    Calls Tryd.prog 51 #[.pointer (some ⟨t, 0, none⟩), .int .u8 k] w (SDone w B t q g v (pushP S k) R (.tuple #[])) := by
  have HO := Lib.hid hO
  have HN := Lib.hid hn
  obtain ⟨e1, e2⟩ := or_w S.p k hO.pf hk
  have HPK := Lib.hid e2
  obtain ⟨a, x, y, s, p, pc, h, b⟩ := S
  change bits .or .u8 (bits .andNot .u8 p 48) k = p + k at e1
  obtain ⟨p0, p1⟩ : 0 ≤ p ∧ p < 256 := hO.p
  obtain ⟨k0, k1⟩ : 0 ≤ k ∧ k < 256 := by rcases hk with rfl | rfl <;> omega
  have HR0 := Lib.hid H
  have HF0 : Hid (Fr (sfoot t q g v) w w) := Lib.hid (Fr.refl _ w)
  have HL0 : Hid (Lies w v v) := Lib.hid (Lies.refl w v)
  have HB0 := Lib.hid hB
  obtain ⟨c0, c1, c2, c3, c4, c5, c6, t0, t1⟩ := sregs HR0.out
  clear c0 c1 c2 c3 c5 c6 t1
  clear H hO hB hn hk e2
  go_enter Tryd.func51, Tryd.ntmps51
  go_wp2_with fail
  (with_reducible refine (spush_any w B t q g v ⟨a, x, y, s, p, pc, h, b⟩ R n (p + k) HR0.out HO.out HN.out HPK.out HB0.out).mono ?_)
  intro e w1 hd
  obtain ⟨rfl, v1, hr, hf, hl⟩ := sdone_tr HF0.out HL0.out hd
  change StAt w1 B t q g v1 (pushP (⟨a, x, y, s, p, pc, h, b⟩ : S14) k) R at hr
  have HR1 := Lib.hid hr
  have HF1 := Lib.hid hf
  have HL1 := Lib.hid hl
  have HB1 := Lib.hid (Nat.le_trans HB0.out hf.size)
  clear hd hr hf hl
  clear c4 t0
  go_wp2
  (first | go_end0 | refine bodyPost_ret (results_none rfl _ _ _) rfl ?_)
  exact ⟨rfl, v1, HR1.out, HF1.out, HL1.out⟩

set_option maxRecDepth 100000 in
set_option maxHeartbeats 1000000 in
theorem spullP_any (w : World) (B t q g : Nat) (v : Value) (S : S14) (R : Rg) (n : Nat) (H : StAt w B t q g v S R) (hO : Ok n S) (hB : B ≤ w.heap.size) :
    Calls Tryd.prog 67 #[.pointer (some ⟨t, 0, none⟩)] w (SDone w B t q g v (pullP S) R (.tuple #[])) := by
  have HO := Lib.hid hO
  obtain ⟨a, x, y, s, p, pc, h, b⟩ := S
  have HR0 := Lib.hid H
  have HF0 : Hid (Fr (sfoot t q g v) w w) := Lib.hid (Fr.refl _ w)
  have HL0 : Hid (Lies w v v) := Lib.hid (Lies.refl w v)
  have HB0 := Lib.hid hB
  have hv := pullV_byte hO
  have h48 := andNot48 (pullV (⟨a, x, y, s, p, pc, h, b⟩ : S14)) hv
  have HH := Lib.hid (fun W V (hr : StAt W B t q g V (⟨a, x, y, s, p, pc, h, b⟩ : S14) R) hb => spull_any W B t q g V (⟨a, x, y, s, p, pc, h, b⟩ : S14) R n hr hO hb)
  show Calls _ _ _ _ (SDone w B t q g v (withP (pull (⟨a, x, y, s, p, pc, h, b⟩ : S14)) (noBU (pullV (⟨a, x, y, s, p, pc, h, b⟩ : S14)))) R _)
  generalize pullV (⟨a, x, y, s, p, pc, h, b⟩ : S14) = M at *
  obtain ⟨m0, m1⟩ := hv
  clear H hO hB
  obtain ⟨c0, c1, c2, c3, c4, c5, c6, t0, t1⟩ := sregs HR0.out
  clear c0 c1 c2 c3 c5 c6 t1
  go_enter Tryd.func67, Tryd.ntmps67
  go_upto_region 0 with fail
  have HRd := Lib.hid (HR0.out.fr (Fr.refl [] w).drew (by simp))
  have HFd : Hid (Fr (sfoot t q g v) w w.drew) := Lib.hid HF0.out.drew
  have HBd : Hid (B ≤ w.drew.heap.size) := HB0
  go_region_law (go_simp; first
    | (go_at_call 66; (with_reducible refine (HH.out w.drew v HRd.out HBd.out).mono ?_); intro e w1 hd; obtain ⟨rfl, v1, hr, hf, hl⟩ := sdone_tr HFd.out HL0.out hd; change StAt w1 B t q g v1 (pull (⟨a, x, y, s, p, pc, h, b⟩ : S14)) R at hr; have HR1 := Lib.hid hr; have HF1 := Lib.hid hf; have HL1 := Lib.hid hl; have HB1 := Lib.hid (Nat.le_trans HB0.out hf.size); have t0x := HR1.out.st.cell 0; change _ = some (Value.pointer (some ⟨q, 0, none⟩)) at t0x; have f4x := HR1.out.frozen 4; have c4x := HR1.out.prog.regs.2.2.2.2.1; clear hd hr hf hl))
  all_goals
    go_wp2
    (first | go_end0 | refine bodyPost_ret (results_none rfl _ _ _) rfl ?_)
    exact sdone_set _ HF1.out HL1.out (HR1.out.put 4 _ _ rfl rfl)

set_option maxRecDepth 100000 in
set_option maxHeartbeats 1000000 in
theorem sint_any (w : World) (B t q g : Nat) (v : Value) (S : S14) (R : Rg) (n : Nat) (back k i : Int) (H : StAt w B t q g v S R) (hO : Ok n S) (hn : n + 5 < 1000000000) (hb : u16 back) (hk : isW k) (hi : u16 i) (hB : B ≤ w.heap.size) :
    Calls Tryd.prog 26 #[.pointer (some ⟨t, 0, none⟩), .int .u16 back, .int .u8 k, .int .u16 i] w (SDone w B t q g v (intS S back k i) R (.tuple #[])) := by
  have HO := Lib.hid hO
  have HN := Lib.hid hn
  have HK := Lib.hid hk
  have HBk := Lib.hid hb
  have HI := Lib.hid hi
  obtain ⟨a, x, y, s, p, pc, h, b⟩ := S
  have HR0 := Lib.hid H
  have HF0 : Hid (Fr (sfoot t q g v) w w) := Lib.hid (Fr.refl _ w)
  have HL0 : Hid (Lies w v v) := Lib.hid (Lies.refl w v)
  have HB0 := Lib.hid hB
  obtain ⟨c0, c1, c2, c3, c4, c5, c6, t0, t1⟩ := sregs HR0.out
  clear c0 c1 c2 c3 c4 c6 t1
  have HO1 : Hid (Ok (n + 2) (pushW (⟨a, x, y, s, p, pc, h, b⟩ : S14) back)) := Lib.hid (ok_pushW back hO hb)
  have HO2 : Hid (Ok (n + 3) (pushP (pushW (⟨a, x, y, s, p, pc, h, b⟩ : S14) back) k)) := Lib.hid (ok_push _ HO1.out (or_w _ k HO1.out.pf hk).2)
  have HO3 : Hid (Ok (n + 3) (withP (pushP (pushW (⟨a, x, y, s, p, pc, h, b⟩ : S14) back) k) (setF p 4 true))) := Lib.hid (ok_withP _ HO2.out (fl_setF _ _ _ isF4 HO2.out.pf))
  show Calls _ _ _ _ (SDone w B t q g v (withPC (withP (pushP (pushW (⟨a, x, y, s, p, pc, h, b⟩ : S14) back) k) (setF p 4 true)) (pairV (St.b (withP (pushP (pushW (⟨a, x, y, s, p, pc, h, b⟩ : S14) back) k) (setF p 4 true))) i ((i + 1) % 65536))) R _)
  clear H hO hB hn hk hb hi
  go_enter Tryd.func26, Tryd.ntmps26
  go_wp2_with fail
  (with_reducible refine (spushW_any w B t q g v ⟨a, x, y, s, p, pc, h, b⟩ R n back HR0.out HO.out (by have := HN.out; omega) HBk.out HB0.out).mono ?_)
  intro e w1 hd
  obtain ⟨rfl, v1, hr, hf, hl⟩ := sdone_tr HF0.out HL0.out hd
  change StAt w1 B t q g v1 (pushW (⟨a, x, y, s, p, pc, h, b⟩ : S14) back) R at hr
  have HR1 := Lib.hid hr
  have HF1 := Lib.hid hf
  have HL1 := Lib.hid hl
  have HB1 := Lib.hid (Nat.le_trans HB0.out hf.size)
  clear hd hr hf hl
  clear c5 t0
  go_wp2_with fail
  (with_reducible refine (spushP_any w1 B t q g v1 (pushW (⟨a, x, y, s, p, pc, h, b⟩ : S14) back) R (n + 2) k HR1.out HO1.out (by have := HN.out; omega) HK.out HB1.out).mono ?_)
  intro e w2 hd
  obtain ⟨rfl, v2, hr, hf, hl⟩ := sdone_tr HF1.out HL1.out hd
  change StAt w2 B t q g v2 (pushP (pushW (⟨a, x, y, s, p, pc, h, b⟩ : S14) back) k) R at hr
  have HR2 := Lib.hid hr
  have HF2 := Lib.hid hf
  have HL2 := Lib.hid hl
  have HB2 := Lib.hid (Nat.le_trans HB0.out hf.size)
  clear hd hr hf hl
  go_wp2_with fail
  (with_reducible refine (sset_any w2 B t q g v2 (pushP (pushW (⟨a, x, y, s, p, pc, h, b⟩ : S14) back) k) R 4 true HR2.out isF4 HO2.out.p HB2.out).mono ?_)
  intro e w3 hd
  obtain ⟨rfl, v3, hr, hf, hl⟩ := sdone_tr HF2.out HL2.out hd
  change StAt w3 B t q g v3 (withP (pushP (pushW (⟨a, x, y, s, p, pc, h, b⟩ : S14) back) k) (setF p 4 true)) R at hr
  have HR3 := Lib.hid hr
  have HF3 := Lib.hid hf
  have HL3 := Lib.hid hl
  have HB3 := Lib.hid (Nat.le_trans HB0.out hf.size)
  clear hd hr hf hl
  have t0 := HR3.out.st.cell 0
  change w3.cell? ⟨t, 0, none⟩ = some (.pointer (some ⟨q, 0, none⟩)) at t0
  have f5 := HR3.out.frozen 5
  go_upto_region 3 with fail
  have HRd := Lib.hid (HR3.out.fr (Fr.refl [] w3).drew (by simp))
  have HFd : Hid (Fr (sfoot t q g v) w w3.drew) := Lib.hid HF3.out.drew
  have HBd : Hid (B ≤ w3.drew.heap.size) := HB3
  have HQ0 := Lib.hid (sword_any HRd.out (n + 3) i HO3.out HI.out)
  go_still_tail 9, (by kernel_rfl)
  repeat still_step
  still_call (HQ0.out.mono fun e w' h => ⟨h.1, h.2.symm⟩)
  repeat still_step
  try refine wpStill_nil ?_
  change wpList _ _ _ _ _ w3.drew
  have HR4 := HRd
  have HF4 := HFd
  have HL4 := Lib.hid HL3.out
  have HB4 := HBd
  clear HRd HFd HBd HQ0
  clear t0 f5
  generalize w3.drew = w4 at *
  have t0 := HR4.out.st.cell 0
  change w4.cell? ⟨t, 0, none⟩ = some (.pointer (some ⟨q, 0, none⟩)) at t0
  have f5 := HR4.out.frozen 5
  have c5 := HR4.out.prog.regs.2.2.2.2.2.1
  go_wp2
  (first | go_end0 | refine bodyPost_ret (results_none rfl _ _ _) rfl ?_)
  exact sdone_set _ HF4.out HL4.out (HR4.out.put 5 _ _ rfl rfl)

set_option maxRecDepth 100000 in
set_option maxHeartbeats 1000000 in
theorem sreach_any (w : World) (B t q g : Nat) (v : Value) (S : S14) (d md cy ad : Int) (cr : Bool) (i j : Int) (H : StAt w B t q g v S ⟨d, md, cy, ad, cr⟩) (hi : u16 i) (hj : u16 j) (hB : B ≤ w.heap.size) :
    Calls Tryd.prog 36 #[.pointer (some ⟨t, 0, none⟩), .int .u16 i, .int .u16 j] w (SDone w B t q g v S ⟨d, md, cy, (i + j) % 65536, crossed ((i + j) % 65536) i⟩ (.tuple #[])) := by
  have hcp := crossed_page ((i + j) % 65536) i (mod_u16 _) hi
  obtain ⟨A, hA⟩ : ∃ A, (i + j) % 65536 = A := ⟨_, rfl⟩
  have wA : IntKind.u16.wrap (i + j) = A := by rw [IntKind.wrap_u16]; exact hA
  rw [hA] at hcp ⊢
  obtain ⟨i0, i1⟩ := hi
  obtain ⟨j0, j1⟩ := hj
  obtain ⟨t2, t3, t4, t5, t6⟩ := srow H
  have e5 := H.ofrozen 5
  have HR0 := Lib.hid H
  have HF1 : Hid (Fr (sfoot t q g v) w (w.setCell ⟨t, 5, none⟩ (.int .u16 A))) := Lib.hid ((Fr.refl _ w).setCell (by simp [sfoot]) _)
  have HR1 : Hid (StAt (w.setCell ⟨t, 5, none⟩ (.int .u16 A)) B t q g v S ⟨d, md, cy, A, cr⟩) := Lib.hid (sput_ad H _)
  have HL1 : Hid (Lies w v v) := Lib.hid (Lies.refl w v)
  generalize crossed A i = z at *
  clear H t2 t3 t4 t6 hB hA
  go_enter Tryd.func36, Tryd.ntmps36
  go_upto_region 1 with fail
  clear t5 e5 wA
  generalize w.setCell _ _ = w1 at *
  obtain ⟨t2, t3, t4, t5, t6⟩ := srow HR1.out
  have e6 := HR1.out.ofrozen 6
  clear t2 t3 t4
  go_wp2
  (first | go_end0 | refine bodyPost_ret (results_none rfl _ _ _) rfl ?_)
  exact sdone_own _ HF1.out HL1.out (sput_cr HR1.out _)

set_option maxRecDepth 100000 in
set_option maxHeartbeats 1000000 in
theorem waits_any (w : World) (d : Int) :
    Calls Tryd.prog 38 #[.int .u32 d] w fun e w' => e = .returned (.bool (waitB d)) ∧ w = w' := by
  by_cases h0 : d = 0
  · subst h0
    rw [show waitB 0 = true from rfl]
    go_enter Tryd.func38, Tryd.ntmps38
    go_wp2
    go_ret
    exact ⟨rfl, rfl⟩
  by_cases h1 : d = 256
  · subst h1
    rw [show waitB 256 = true from rfl]
    go_enter Tryd.func38, Tryd.ntmps38
    go_wp2
    go_ret
    exact ⟨rfl, rfl⟩
  by_cases h2 : d = 512
  · subst h2
    rw [show waitB 512 = true from rfl]
    go_enter Tryd.func38, Tryd.ntmps38
    go_wp2
    go_ret
    exact ⟨rfl, rfl⟩
  by_cases h3 : d = 768
  · subst h3
    rw [show waitB 768 = true from rfl]
    go_enter Tryd.func38, Tryd.ntmps38
    go_wp2
    go_ret
    exact ⟨rfl, rfl⟩
  by_cases h4 : d = 2304
  · subst h4
    rw [show waitB 2304 = true from rfl]
    go_enter Tryd.func38, Tryd.ntmps38
    go_wp2
    go_ret
    exact ⟨rfl, rfl⟩
  by_cases h5 : d = 1280
  · subst h5
    rw [show waitB 1280 = true from rfl]
    go_enter Tryd.func38, Tryd.ntmps38
    go_wp2
    go_ret
    exact ⟨rfl, rfl⟩
  by_cases h6 : d = 1024
  · subst h6
    rw [show waitB 1024 = true from rfl]
    go_enter Tryd.func38, Tryd.ntmps38
    go_wp2
    go_ret
    exact ⟨rfl, rfl⟩
  by_cases h7 : d = 2560
  · subst h7
    rw [show waitB 2560 = true from rfl]
    go_enter Tryd.func38, Tryd.ntmps38
    go_wp2
    go_ret
    exact ⟨rfl, rfl⟩
  by_cases h8 : d = 2816
  · subst h8
    rw [show waitB 2816 = true from rfl]
    go_enter Tryd.func38, Tryd.ntmps38
    go_wp2
    go_ret
    exact ⟨rfl, rfl⟩
  have hw : waitB d = false := by unfold waitB; simp; omega
  have z0 : (d == 0) = false := by rw [beq_eq_false_iff_ne]; exact h0
  have z1 : (d == 256) = false := by rw [beq_eq_false_iff_ne]; exact h1
  have z2 : (d == 512) = false := by rw [beq_eq_false_iff_ne]; exact h2
  have z3 : (d == 768) = false := by rw [beq_eq_false_iff_ne]; exact h3
  have z4 : (d == 2304) = false := by rw [beq_eq_false_iff_ne]; exact h4
  have z5 : (d == 1280) = false := by rw [beq_eq_false_iff_ne]; exact h5
  have z6 : (d == 1024) = false := by rw [beq_eq_false_iff_ne]; exact h6
  have z7 : (d == 2560) = false := by rw [beq_eq_false_iff_ne]; exact h7
  have z8 : (d == 2816) = false := by rw [beq_eq_false_iff_ne]; exact h8
  rw [hw]
  clear hw h0 h1 h2 h3 h4 h5 h6 h7 h8
  go_enter Tryd.func38, Tryd.ntmps38
  go_wp2
  go_ret
  exact ⟨rfl, rfl⟩

end Ms
end Go.Proofs.YtlnpadekgakghaaDoor
