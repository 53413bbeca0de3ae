/-
  Contracts of the document's CPU: branches and jumps. Conditions: the state is one that there is, few bytes were written.
-/
import Derived.Test.YtlnpadekgakghaaDoorMosRef7
namespace Go.Proofs.YtlnpadekgakghaaDoor
open Go.RowKit
namespace Ms
open Al (byte of_byte)
set_option linter.unusedVariables false

set_option maxRecDepth 100000 in
set_option maxHeartbeats 4000000 in
theorem rbranch0 (w : World) (B q : Nat) (v : Value) (S : S14) (n : Nat) (must : Bool) (H : RefAt w B q v S) (hO : Ok n S) (hB : B ≤ w.heap.size) :
    Calls Tryd.prog 69 #[.pointer (some ⟨q, 0, none⟩), .int .i64 0, .bool must] w (RDone w B q v (branch 0 must S) (.int .i64 (branchN 0 must S))) := by
  have HO := Lib.hid hO
  obtain ⟨a, x, y, s, p, pc, h, b⟩ := S
  have HR0 := Lib.hid H
  have HF0 : Hid (Fr (foot q v) w w) := Lib.hid (Fr.refl _ w)
  have HL0 : Hid (Lies w v v) := Lib.hid (Lies.refl w v)
  have HB0 := Lib.hid hB
  have hv := nextV_byte hO
  have HC := Lib.hid (fun W V (hr : RefAt W B q V ⟨a, x, y, s, p, pc, h, b⟩) hb => rnext_any W B q V (⟨a, x, y, s, p, pc, h, b⟩ : S14) n hr hO hb)
  change Hid (∀ W V, RefAt W B q V (⟨a, x, y, s, p, pc, h, b⟩ : S14) → B ≤ W.heap.size → Calls Tryd.prog 90 #[.pointer (some ⟨q, 0, none⟩)] W (RDone W B q V ⟨a, x, y, s, p, (pc + 1) % 65536, h, b⟩ (.int .u8 (nextV (⟨a, x, y, s, p, pc, h, b⟩ : S14))))) at HC
  have hS : branch 0 must (⟨a, x, y, s, p, pc, h, b⟩ : S14) = ⟨a, x, y, s, p, if on p 128 = must then ((pc + 1) % 65536 + Al.sg (nextV (⟨a, x, y, s, p, pc, h, b⟩ : S14))) % 65536 else (pc + 1) % 65536, h, b⟩ := rfl
  have hM : branchN 0 must (⟨a, x, y, s, p, pc, h, b⟩ : S14) = if on p 128 = must then (if ((pc + 1) % 65536 + Al.sg (nextV (⟨a, x, y, s, p, pc, h, b⟩ : S14))) % 65536 / 256 = (pc + 1) % 65536 / 256 then 3 else 4) else 2 := rfl
  rw [hS, hM]
  have HCo : Hid (∀ W V, RefAt W B q V (⟨a, x, y, s, p, (pc + 1) % 65536, h, b⟩ : S14) → Calls Tryd.prog 79 #[.pointer (some ⟨q, 0, none⟩), .int .u8 128] W fun e w' => e = .returned (.bool (on p 128)) ∧ W = w') := Lib.hid (fun W V hr => ron_any W B q V _ 128 hr isF128 HO.out.p)
  generalize on p 128 = o1 at *
  generalize nextV (⟨a, x, y, s, p, pc, h, b⟩ : S14) = M at *
  obtain ⟨m0, m1⟩ := hv
  obtain ⟨P, hP⟩ : ∃ P, (pc + 1) % 65536 = P := ⟨_, rfl⟩
  have P0 : 0 ≤ P := by omega
  have P1 : P < 65536 := by omega
  rw [hP] at HC HCo ⊢
  obtain ⟨T, hT⟩ : ∃ T, (P + Al.sg M) % 65536 = T := ⟨_, rfl⟩
  have T0 : 0 ≤ T := by omega
  have T1 : T < 65536 := by omega
  rw [hT]
  obtain ⟨TH, hTH⟩ : ∃ z, T / 256 = z := ⟨_, rfl⟩
  obtain ⟨PH, hPH⟩ : ∃ z, P / 256 = z := ⟨_, rfl⟩
  have hTH' : T.tdiv 256 = TH := by rw [Int.tdiv_eq_ediv_of_nonneg T0]; exact hTH
  have hPH' : P.tdiv 256 = PH := by rw [Int.tdiv_eq_ediv_of_nonneg P0]; exact hPH
  have wTH : IntKind.u16.wrap TH = TH := by rw [IntKind.wrap_u16]; omega
  have wPH : IntKind.u16.wrap PH = PH := by rw [IntKind.wrap_u16]; omega
  rw [hTH, hPH]
  have HT1 : Hid (M < 128 → IntKind.u16.wrap (P + 65536 + M) = T) := Lib.hid (fun hm => by rw [IntKind.wrap_u16, ← hT, show Al.sg M = M by unfold Al.sg; rw [if_neg (by omega)]]; omega)
  have HT2 : Hid (¬ M < 128 → IntKind.u16.wrap (P + 65536 + (M - 256)) = T) := Lib.hid (fun hm => by rw [IntKind.wrap_u16, ← hT, show Al.sg M = M - 256 by unfold Al.sg; rw [if_pos (by omega)]]; omega)
  clear H hO hB hS hM hP hT hTH hPH
  by_cases hm : M < 128
  · have wT := HT1.out hm
    clear HT1 HT2
    by_cases ho : o1 = must
    · subst ho
      simp only [if_true]
      by_cases hq : TH = PH
      · rw [if_pos hq]
        subst hq
        go_enter Tryd.func69, Tryd.ntmps69
        go_wp2_with fail
        (with_reducible refine (HC.out w v HR0.out HB0.out).mono ?_)
        intro e w1 hd
        obtain ⟨rfl, v1, hr, hf, hl⟩ := rdone_tr HF0.out HL0.out hd
        change RefAt w1 B q v1 ⟨a, x, y, s, p, P, h, b⟩ at hr
        have HR1 := Lib.hid hr
        have HF1 := Lib.hid hf
        have HL1 := Lib.hid hl
        have HB1 := Lib.hid (Nat.le_trans HB0.out hf.size)
        clear hd hr hf hl
        go_wp2_with fail
        (with_reducible refine (HCo.out w1 v1 HR1.out).mono ?_)
        rintro e wq ⟨rfl, rfl⟩
        obtain ⟨c0, c1, c2, c3, c4, c5, c6⟩ := regs HR1.out
        have f5 := RefAt.frozen HR1.out 5
        clear c0 c1 c2 c3 c4 c6
        have HR2 : Hid (RefAt (w1.setCell ⟨q, 5, none⟩ (.int .u16 (T))) B q v1 ⟨a, x, y, s, p, T, h, b⟩) := Lib.hid (put_pc HR1.out _)
        have HF2 : Hid (Fr (foot q v) w (w1.setCell ⟨q, 5, none⟩ (.int .u16 (T)))) := Lib.hid (HF1.out.setCell (by simp [foot]) _)
        have HL2 := Lib.hid HL1.out
        have HB2 : Hid (B ≤ (w1.setCell ⟨q, 5, none⟩ (.int .u16 (T))).heap.size) := Lib.hid (Nat.le_trans HB0.out HF2.out.size)
        go_upto_region 15 with fail
        clear c5 f5
        generalize w1.setCell _ _ = w2 at *
        obtain ⟨c0, c1, c2, c3, c4, c5, c6⟩ := regs HR2.out
        clear c0 c1 c2 c3 c4 c6
        go_wp2
        go_ret
        exact ⟨rfl, v1, HR2.out, HF2.out, HL2.out⟩
      · rw [if_neg hq]
        have hq' : (TH == PH) = false := by rw [beq_eq_false_iff_ne]; exact hq
        go_enter Tryd.func69, Tryd.ntmps69
        go_wp2_with fail
        (with_reducible refine (HC.out w v HR0.out HB0.out).mono ?_)
        intro e w1 hd
        obtain ⟨rfl, v1, hr, hf, hl⟩ := rdone_tr HF0.out HL0.out hd
        change RefAt w1 B q v1 ⟨a, x, y, s, p, P, h, b⟩ at hr
        have HR1 := Lib.hid hr
        have HF1 := Lib.hid hf
        have HL1 := Lib.hid hl
        have HB1 := Lib.hid (Nat.le_trans HB0.out hf.size)
        clear hd hr hf hl
        go_wp2_with fail
        (with_reducible refine (HCo.out w1 v1 HR1.out).mono ?_)
        rintro e wq ⟨rfl, rfl⟩
        obtain ⟨c0, c1, c2, c3, c4, c5, c6⟩ := regs HR1.out
        have f5 := RefAt.frozen HR1.out 5
        clear c0 c1 c2 c3 c4 c6
        have HR2 : Hid (RefAt (w1.setCell ⟨q, 5, none⟩ (.int .u16 (T))) B q v1 ⟨a, x, y, s, p, T, h, b⟩) := Lib.hid (put_pc HR1.out _)
        have HF2 : Hid (Fr (foot q v) w (w1.setCell ⟨q, 5, none⟩ (.int .u16 (T)))) := Lib.hid (HF1.out.setCell (by simp [foot]) _)
        have HL2 := Lib.hid HL1.out
        have HB2 : Hid (B ≤ (w1.setCell ⟨q, 5, none⟩ (.int .u16 (T))).heap.size) := Lib.hid (Nat.le_trans HB0.out HF2.out.size)
        go_upto_region 15 with fail
        clear c5 f5
        generalize w1.setCell _ _ = w2 at *
        obtain ⟨c0, c1, c2, c3, c4, c5, c6⟩ := regs HR2.out
        clear c0 c1 c2 c3 c4 c6
        go_wp2
        go_ret
        exact ⟨rfl, v1, HR2.out, HF2.out, HL2.out⟩
    · simp only [if_neg ho]
      obtain rfl : o1 = !must := by cases o1 <;> cases must <;> simp_all
      clear ho
      cases must
      · go_enter Tryd.func69, Tryd.ntmps69
        go_wp2_with fail
        (with_reducible refine (HC.out w v HR0.out HB0.out).mono ?_)
        intro e w1 hd
        obtain ⟨rfl, v1, hr, hf, hl⟩ := rdone_tr HF0.out HL0.out hd
        change RefAt w1 B q v1 ⟨a, x, y, s, p, P, h, b⟩ at hr
        have HR1 := Lib.hid hr
        have HF1 := Lib.hid hf
        have HL1 := Lib.hid hl
        have HB1 := Lib.hid (Nat.le_trans HB0.out hf.size)
        clear hd hr hf hl
        go_wp2_with fail
        (with_reducible refine (HCo.out w1 v1 HR1.out).mono ?_)
        rintro e wq ⟨rfl, rfl⟩
        go_wp2
        go_ret
        exact ⟨rfl, v1, HR1.out, HF1.out, HL1.out⟩
      · go_enter Tryd.func69, Tryd.ntmps69
        go_wp2_with fail
        (with_reducible refine (HC.out w v HR0.out HB0.out).mono ?_)
        intro e w1 hd
        obtain ⟨rfl, v1, hr, hf, hl⟩ := rdone_tr HF0.out HL0.out hd
        change RefAt w1 B q v1 ⟨a, x, y, s, p, P, h, b⟩ at hr
        have HR1 := Lib.hid hr
        have HF1 := Lib.hid hf
        have HL1 := Lib.hid hl
        have HB1 := Lib.hid (Nat.le_trans HB0.out hf.size)
        clear hd hr hf hl
        go_wp2_with fail
        (with_reducible refine (HCo.out w1 v1 HR1.out).mono ?_)
        rintro e wq ⟨rfl, rfl⟩
        go_wp2
        go_ret
        exact ⟨rfl, v1, HR1.out, HF1.out, HL1.out⟩
  · have wT := HT2.out hm
    clear HT1 HT2
    by_cases ho : o1 = must
    · subst ho
      simp only [if_true]
      by_cases hq : TH = PH
      · rw [if_pos hq]
        subst hq
        go_enter Tryd.func69, Tryd.ntmps69
        go_wp2_with fail
        (with_reducible refine (HC.out w v HR0.out HB0.out).mono ?_)
        intro e w1 hd
        obtain ⟨rfl, v1, hr, hf, hl⟩ := rdone_tr HF0.out HL0.out hd
        change RefAt w1 B q v1 ⟨a, x, y, s, p, P, h, b⟩ at hr
        have HR1 := Lib.hid hr
        have HF1 := Lib.hid hf
        have HL1 := Lib.hid hl
        have HB1 := Lib.hid (Nat.le_trans HB0.out hf.size)
        clear hd hr hf hl
        go_wp2_with fail
        (with_reducible refine (HCo.out w1 v1 HR1.out).mono ?_)
        rintro e wq ⟨rfl, rfl⟩
        obtain ⟨c0, c1, c2, c3, c4, c5, c6⟩ := regs HR1.out
        have f5 := RefAt.frozen HR1.out 5
        clear c0 c1 c2 c3 c4 c6
        have HR2 : Hid (RefAt (w1.setCell ⟨q, 5, none⟩ (.int .u16 (T))) B q v1 ⟨a, x, y, s, p, T, h, b⟩) := Lib.hid (put_pc HR1.out _)
        have HF2 : Hid (Fr (foot q v) w (w1.setCell ⟨q, 5, none⟩ (.int .u16 (T)))) := Lib.hid (HF1.out.setCell (by simp [foot]) _)
        have HL2 := Lib.hid HL1.out
        have HB2 : Hid (B ≤ (w1.setCell ⟨q, 5, none⟩ (.int .u16 (T))).heap.size) := Lib.hid (Nat.le_trans HB0.out HF2.out.size)
        go_upto_region 15 with fail
        clear c5 f5
        generalize w1.setCell _ _ = w2 at *
        obtain ⟨c0, c1, c2, c3, c4, c5, c6⟩ := regs HR2.out
        clear c0 c1 c2 c3 c4 c6
        go_wp2
        go_ret
        exact ⟨rfl, v1, HR2.out, HF2.out, HL2.out⟩
      · rw [if_neg hq]
        have hq' : (TH == PH) = false := by rw [beq_eq_false_iff_ne]; exact hq
        go_enter Tryd.func69, Tryd.ntmps69
        go_wp2_with fail
        (with_reducible refine (HC.out w v HR0.out HB0.out).mono ?_)
        intro e w1 hd
        obtain ⟨rfl, v1, hr, hf, hl⟩ := rdone_tr HF0.out HL0.out hd
        change RefAt w1 B q v1 ⟨a, x, y, s, p, P, h, b⟩ at hr
        have HR1 := Lib.hid hr
        have HF1 := Lib.hid hf
        have HL1 := Lib.hid hl
        have HB1 := Lib.hid (Nat.le_trans HB0.out hf.size)
        clear hd hr hf hl
        go_wp2_with fail
        (with_reducible refine (HCo.out w1 v1 HR1.out).mono ?_)
        rintro e wq ⟨rfl, rfl⟩
        obtain ⟨c0, c1, c2, c3, c4, c5, c6⟩ := regs HR1.out
        have f5 := RefAt.frozen HR1.out 5
        clear c0 c1 c2 c3 c4 c6
        have HR2 : Hid (RefAt (w1.setCell ⟨q, 5, none⟩ (.int .u16 (T))) B q v1 ⟨a, x, y, s, p, T, h, b⟩) := Lib.hid (put_pc HR1.out _)
        have HF2 : Hid (Fr (foot q v) w (w1.setCell ⟨q, 5, none⟩ (.int .u16 (T)))) := Lib.hid (HF1.out.setCell (by simp [foot]) _)
        have HL2 := Lib.hid HL1.out
        have HB2 : Hid (B ≤ (w1.setCell ⟨q, 5, none⟩ (.int .u16 (T))).heap.size) := Lib.hid (Nat.le_trans HB0.out HF2.out.size)
        go_upto_region 15 with fail
        clear c5 f5
        generalize w1.setCell _ _ = w2 at *
        obtain ⟨c0, c1, c2, c3, c4, c5, c6⟩ := regs HR2.out
        clear c0 c1 c2 c3 c4 c6
        go_wp2
        go_ret
        exact ⟨rfl, v1, HR2.out, HF2.out, HL2.out⟩
    · simp only [if_neg ho]
      obtain rfl : o1 = !must := by cases o1 <;> cases must <;> simp_all
      clear ho
      cases must
      · go_enter Tryd.func69, Tryd.ntmps69
        go_wp2_with fail
        (with_reducible refine (HC.out w v HR0.out HB0.out).mono ?_)
        intro e w1 hd
        obtain ⟨rfl, v1, hr, hf, hl⟩ := rdone_tr HF0.out HL0.out hd
        change RefAt w1 B q v1 ⟨a, x, y, s, p, P, h, b⟩ at hr
        have HR1 := Lib.hid hr
        have HF1 := Lib.hid hf
        have HL1 := Lib.hid hl
        have HB1 := Lib.hid (Nat.le_trans HB0.out hf.size)
        clear hd hr hf hl
        go_wp2_with fail
        (with_reducible refine (HCo.out w1 v1 HR1.out).mono ?_)
        rintro e wq ⟨rfl, rfl⟩
        go_wp2
        go_ret
        exact ⟨rfl, v1, HR1.out, HF1.out, HL1.out⟩
      · go_enter Tryd.func69, Tryd.ntmps69
        go_wp2_with fail
        (with_reducible refine (HC.out w v HR0.out HB0.out).mono ?_)
        intro e w1 hd
        obtain ⟨rfl, v1, hr, hf, hl⟩ := rdone_tr HF0.out HL0.out hd
        change RefAt w1 B q v1 ⟨a, x, y, s, p, P, h, b⟩ at hr
        have HR1 := Lib.hid hr
        have HF1 := Lib.hid hf
        have HL1 := Lib.hid hl
        have HB1 := Lib.hid (Nat.le_trans HB0.out hf.size)
        clear hd hr hf hl
        go_wp2_with fail
        (with_reducible refine (HCo.out w1 v1 HR1.out).mono ?_)
        rintro e wq ⟨rfl, rfl⟩
        go_wp2
        go_ret
        exact ⟨rfl, v1, HR1.out, HF1.out, HL1.out⟩

set_option maxRecDepth 100000 in
set_option maxHeartbeats 4000000 in
theorem rbranch1 (w : World) (B q : Nat) (v : Value) (S : S14) (n : Nat) (must : Bool) (H : RefAt w B q v S) (hO : Ok n S) (hB : B ≤ w.heap.size) :
    Calls Tryd.prog 69 #[.pointer (some ⟨q, 0, none⟩), .int .i64 1, .bool must] w (RDone w B q v (branch 1 must S) (.int .i64 (branchN 1 must S))) := by
  have HO := Lib.hid hO
  obtain ⟨a, x, y, s, p, pc, h, b⟩ := S
  have HR0 := Lib.hid H
  have HF0 : Hid (Fr (foot q v) w w) := Lib.hid (Fr.refl _ w)
  have HL0 : Hid (Lies w v v) := Lib.hid (Lies.refl w v)
  have HB0 := Lib.hid hB
  have hv := nextV_byte hO
  have HC := Lib.hid (fun W V (hr : RefAt W B q V ⟨a, x, y, s, p, pc, h, b⟩) hb => rnext_any W B q V (⟨a, x, y, s, p, pc, h, b⟩ : S14) n hr hO hb)
  change Hid (∀ W V, RefAt W B q V (⟨a, x, y, s, p, pc, h, b⟩ : S14) → B ≤ W.heap.size → Calls Tryd.prog 90 #[.pointer (some ⟨q, 0, none⟩)] W (RDone W B q V ⟨a, x, y, s, p, (pc + 1) % 65536, h, b⟩ (.int .u8 (nextV (⟨a, x, y, s, p, pc, h, b⟩ : S14))))) at HC
  have hS : branch 1 must (⟨a, x, y, s, p, pc, h, b⟩ : S14) = ⟨a, x, y, s, p, if on p 64 = must then ((pc + 1) % 65536 + Al.sg (nextV (⟨a, x, y, s, p, pc, h, b⟩ : S14))) % 65536 else (pc + 1) % 65536, h, b⟩ := rfl
  have hM : branchN 1 must (⟨a, x, y, s, p, pc, h, b⟩ : S14) = if on p 64 = must then (if ((pc + 1) % 65536 + Al.sg (nextV (⟨a, x, y, s, p, pc, h, b⟩ : S14))) % 65536 / 256 = (pc + 1) % 65536 / 256 then 3 else 4) else 2 := rfl
  rw [hS, hM]
  have HCo : Hid (∀ W V, RefAt W B q V (⟨a, x, y, s, p, (pc + 1) % 65536, h, b⟩ : S14) → Calls Tryd.prog 79 #[.pointer (some ⟨q, 0, none⟩), .int .u8 64] W fun e w' => e = .returned (.bool (on p 64)) ∧ W = w') := Lib.hid (fun W V hr => ron_any W B q V _ 64 hr isF64 HO.out.p)
  generalize on p 64 = o1 at *
  generalize nextV (⟨a, x, y, s, p, pc, h, b⟩ : S14) = M at *
  obtain ⟨m0, m1⟩ := hv
  obtain ⟨P, hP⟩ : ∃ P, (pc + 1) % 65536 = P := ⟨_, rfl⟩
  have P0 : 0 ≤ P := by omega
  have P1 : P < 65536 := by omega
  rw [hP] at HC HCo ⊢
  obtain ⟨T, hT⟩ : ∃ T, (P + Al.sg M) % 65536 = T := ⟨_, rfl⟩
  have T0 : 0 ≤ T := by omega
  have T1 : T < 65536 := by omega
  rw [hT]
  obtain ⟨TH, hTH⟩ : ∃ z, T / 256 = z := ⟨_, rfl⟩
  obtain ⟨PH, hPH⟩ : ∃ z, P / 256 = z := ⟨_, rfl⟩
  have hTH' : T.tdiv 256 = TH := by rw [Int.tdiv_eq_ediv_of_nonneg T0]; exact hTH
  have hPH' : P.tdiv 256 = PH := by rw [Int.tdiv_eq_ediv_of_nonneg P0]; exact hPH
  have wTH : IntKind.u16.wrap TH = TH := by rw [IntKind.wrap_u16]; omega
  have wPH : IntKind.u16.wrap PH = PH := by rw [IntKind.wrap_u16]; omega
  rw [hTH, hPH]
  have HT1 : Hid (M < 128 → IntKind.u16.wrap (P + 65536 + M) = T) := Lib.hid (fun hm => by rw [IntKind.wrap_u16, ← hT, show Al.sg M = M by unfold Al.sg; rw [if_neg (by omega)]]; omega)
  have HT2 : Hid (¬ M < 128 → IntKind.u16.wrap (P + 65536 + (M - 256)) = T) := Lib.hid (fun hm => by rw [IntKind.wrap_u16, ← hT, show Al.sg M = M - 256 by unfold Al.sg; rw [if_pos (by omega)]]; omega)
  clear H hO hB hS hM hP hT hTH hPH
  by_cases hm : M < 128
  · have wT := HT1.out hm
    clear HT1 HT2
    by_cases ho : o1 = must
    · subst ho
      simp only [if_true]
      by_cases hq : TH = PH
      · rw [if_pos hq]
        subst hq
        go_enter Tryd.func69, Tryd.ntmps69
        go_wp2_with fail
        (with_reducible refine (HC.out w v HR0.out HB0.out).mono ?_)
        intro e w1 hd
        obtain ⟨rfl, v1, hr, hf, hl⟩ := rdone_tr HF0.out HL0.out hd
        change RefAt w1 B q v1 ⟨a, x, y, s, p, P, h, b⟩ at hr
        have HR1 := Lib.hid hr
        have HF1 := Lib.hid hf
        have HL1 := Lib.hid hl
        have HB1 := Lib.hid (Nat.le_trans HB0.out hf.size)
        clear hd hr hf hl
        go_wp2_with fail
        (with_reducible refine (HCo.out w1 v1 HR1.out).mono ?_)
        rintro e wq ⟨rfl, rfl⟩
        obtain ⟨c0, c1, c2, c3, c4, c5, c6⟩ := regs HR1.out
        have f5 := RefAt.frozen HR1.out 5
        clear c0 c1 c2 c3 c4 c6
        have HR2 : Hid (RefAt (w1.setCell ⟨q, 5, none⟩ (.int .u16 (T))) B q v1 ⟨a, x, y, s, p, T, h, b⟩) := Lib.hid (put_pc HR1.out _)
        have HF2 : Hid (Fr (foot q v) w (w1.setCell ⟨q, 5, none⟩ (.int .u16 (T)))) := Lib.hid (HF1.out.setCell (by simp [foot]) _)
        have HL2 := Lib.hid HL1.out
        have HB2 : Hid (B ≤ (w1.setCell ⟨q, 5, none⟩ (.int .u16 (T))).heap.size) := Lib.hid (Nat.le_trans HB0.out HF2.out.size)
        go_upto_region 15 with fail
        clear c5 f5
        generalize w1.setCell _ _ = w2 at *
        obtain ⟨c0, c1, c2, c3, c4, c5, c6⟩ := regs HR2.out
        clear c0 c1 c2 c3 c4 c6
        go_wp2
        go_ret
        exact ⟨rfl, v1, HR2.out, HF2.out, HL2.out⟩
      · rw [if_neg hq]
        have hq' : (TH == PH) = false := by rw [beq_eq_false_iff_ne]; exact hq
        go_enter Tryd.func69, Tryd.ntmps69
        go_wp2_with fail
        (with_reducible refine (HC.out w v HR0.out HB0.out).mono ?_)
        intro e w1 hd
        obtain ⟨rfl, v1, hr, hf, hl⟩ := rdone_tr HF0.out HL0.out hd
        change RefAt w1 B q v1 ⟨a, x, y, s, p, P, h, b⟩ at hr
        have HR1 := Lib.hid hr
        have HF1 := Lib.hid hf
        have HL1 := Lib.hid hl
        have HB1 := Lib.hid (Nat.le_trans HB0.out hf.size)
        clear hd hr hf hl
        go_wp2_with fail
        (with_reducible refine (HCo.out w1 v1 HR1.out).mono ?_)
        rintro e wq ⟨rfl, rfl⟩
        obtain ⟨c0, c1, c2, c3, c4, c5, c6⟩ := regs HR1.out
        have f5 := RefAt.frozen HR1.out 5
        clear c0 c1 c2 c3 c4 c6
        have HR2 : Hid (RefAt (w1.setCell ⟨q, 5, none⟩ (.int .u16 (T))) B q v1 ⟨a, x, y, s, p, T, h, b⟩) := Lib.hid (put_pc HR1.out _)
        have HF2 : Hid (Fr (foot q v) w (w1.setCell ⟨q, 5, none⟩ (.int .u16 (T)))) := Lib.hid (HF1.out.setCell (by simp [foot]) _)
        have HL2 := Lib.hid HL1.out
        have HB2 : Hid (B ≤ (w1.setCell ⟨q, 5, none⟩ (.int .u16 (T))).heap.size) := Lib.hid (Nat.le_trans HB0.out HF2.out.size)
        go_upto_region 15 with fail
        clear c5 f5
        generalize w1.setCell _ _ = w2 at *
        obtain ⟨c0, c1, c2, c3, c4, c5, c6⟩ := regs HR2.out
        clear c0 c1 c2 c3 c4 c6
        go_wp2
        go_ret
        exact ⟨rfl, v1, HR2.out, HF2.out, HL2.out⟩
    · simp only [if_neg ho]
      obtain rfl : o1 = !must := by cases o1 <;> cases must <;> simp_all
      clear ho
      cases must
      · go_enter Tryd.func69, Tryd.ntmps69
        go_wp2_with fail
        (with_reducible refine (HC.out w v HR0.out HB0.out).mono ?_)
        intro e w1 hd
        obtain ⟨rfl, v1, hr, hf, hl⟩ := rdone_tr HF0.out HL0.out hd
        change RefAt w1 B q v1 ⟨a, x, y, s, p, P, h, b⟩ at hr
        have HR1 := Lib.hid hr
        have HF1 := Lib.hid hf
        have HL1 := Lib.hid hl
        have HB1 := Lib.hid (Nat.le_trans HB0.out hf.size)
        clear hd hr hf hl
        go_wp2_with fail
        (with_reducible refine (HCo.out w1 v1 HR1.out).mono ?_)
        rintro e wq ⟨rfl, rfl⟩
        go_wp2
        go_ret
        exact ⟨rfl, v1, HR1.out, HF1.out, HL1.out⟩
      · go_enter Tryd.func69, Tryd.ntmps69
        go_wp2_with fail
        (with_reducible refine (HC.out w v HR0.out HB0.out).mono ?_)
        intro e w1 hd
        obtain ⟨rfl, v1, hr, hf, hl⟩ := rdone_tr HF0.out HL0.out hd
        change RefAt w1 B q v1 ⟨a, x, y, s, p, P, h, b⟩ at hr
        have HR1 := Lib.hid hr
        have HF1 := Lib.hid hf
        have HL1 := Lib.hid hl
        have HB1 := Lib.hid (Nat.le_trans HB0.out hf.size)
        clear hd hr hf hl
        go_wp2_with fail
        (with_reducible refine (HCo.out w1 v1 HR1.out).mono ?_)
        rintro e wq ⟨rfl, rfl⟩
        go_wp2
        go_ret
        exact ⟨rfl, v1, HR1.out, HF1.out, HL1.out⟩
  · have wT := HT2.out hm
    clear HT1 HT2
    by_cases ho : o1 = must
    · subst ho
      simp only [if_true]
      by_cases hq : TH = PH
      · rw [if_pos hq]
        subst hq
        go_enter Tryd.func69, Tryd.ntmps69
        go_wp2_with fail
        (with_reducible refine (HC.out w v HR0.out HB0.out).mono ?_)
        intro e w1 hd
        obtain ⟨rfl, v1, hr, hf, hl⟩ := rdone_tr HF0.out HL0.out hd
        change RefAt w1 B q v1 ⟨a, x, y, s, p, P, h, b⟩ at hr
        have HR1 := Lib.hid hr
        have HF1 := Lib.hid hf
        have HL1 := Lib.hid hl
        have HB1 := Lib.hid (Nat.le_trans HB0.out hf.size)
        clear hd hr hf hl
        go_wp2_with fail
        (with_reducible refine (HCo.out w1 v1 HR1.out).mono ?_)
        rintro e wq ⟨rfl, rfl⟩
        obtain ⟨c0, c1, c2, c3, c4, c5, c6⟩ := regs HR1.out
        have f5 := RefAt.frozen HR1.out 5
        clear c0 c1 c2 c3 c4 c6
        have HR2 : Hid (RefAt (w1.setCell ⟨q, 5, none⟩ (.int .u16 (T))) B q v1 ⟨a, x, y, s, p, T, h, b⟩) := Lib.hid (put_pc HR1.out _)
        have HF2 : Hid (Fr (foot q v) w (w1.setCell ⟨q, 5, none⟩ (.int .u16 (T)))) := Lib.hid (HF1.out.setCell (by simp [foot]) _)
        have HL2 := Lib.hid HL1.out
        have HB2 : Hid (B ≤ (w1.setCell ⟨q, 5, none⟩ (.int .u16 (T))).heap.size) := Lib.hid (Nat.le_trans HB0.out HF2.out.size)
        go_upto_region 15 with fail
        clear c5 f5
        generalize w1.setCell _ _ = w2 at *
        obtain ⟨c0, c1, c2, c3, c4, c5, c6⟩ := regs HR2.out
        clear c0 c1 c2 c3 c4 c6
        go_wp2
        go_ret
        exact ⟨rfl, v1, HR2.out, HF2.out, HL2.out⟩
      · rw [if_neg hq]
        have hq' : (TH == PH) = false := by rw [beq_eq_false_iff_ne]; exact hq
        go_enter Tryd.func69, Tryd.ntmps69
        go_wp2_with fail
        (with_reducible refine (HC.out w v HR0.out HB0.out).mono ?_)
        intro e w1 hd
        obtain ⟨rfl, v1, hr, hf, hl⟩ := rdone_tr HF0.out HL0.out hd
        change RefAt w1 B q v1 ⟨a, x, y, s, p, P, h, b⟩ at hr
        have HR1 := Lib.hid hr
        have HF1 := Lib.hid hf
        have HL1 := Lib.hid hl
        have HB1 := Lib.hid (Nat.le_trans HB0.out hf.size)
        clear hd hr hf hl
        go_wp2_with fail
        (with_reducible refine (HCo.out w1 v1 HR1.out).mono ?_)
        rintro e wq ⟨rfl, rfl⟩
        obtain ⟨c0, c1, c2, c3, c4, c5, c6⟩ := regs HR1.out
        have f5 := RefAt.frozen HR1.out 5
        clear c0 c1 c2 c3 c4 c6
        have HR2 : Hid (RefAt (w1.setCell ⟨q, 5, none⟩ (.int .u16 (T))) B q v1 ⟨a, x, y, s, p, T, h, b⟩) := Lib.hid (put_pc HR1.out _)
        have HF2 : Hid (Fr (foot q v) w (w1.setCell ⟨q, 5, none⟩ (.int .u16 (T)))) := Lib.hid (HF1.out.setCell (by simp [foot]) _)
        have HL2 := Lib.hid HL1.out
        have HB2 : Hid (B ≤ (w1.setCell ⟨q, 5, none⟩ (.int .u16 (T))).heap.size) := Lib.hid (Nat.le_trans HB0.out HF2.out.size)
        go_upto_region 15 with fail
        clear c5 f5
        generalize w1.setCell _ _ = w2 at *
        obtain ⟨c0, c1, c2, c3, c4, c5, c6⟩ := regs HR2.out
        clear c0 c1 c2 c3 c4 c6
        go_wp2
        go_ret
        exact ⟨rfl, v1, HR2.out, HF2.out, HL2.out⟩
    · simp only [if_neg ho]
      obtain rfl : o1 = !must := by cases o1 <;> cases must <;> simp_all
      clear ho
      cases must
      · go_enter Tryd.func69, Tryd.ntmps69
        go_wp2_with fail
        (with_reducible refine (HC.out w v HR0.out HB0.out).mono ?_)
        intro e w1 hd
        obtain ⟨rfl, v1, hr, hf, hl⟩ := rdone_tr HF0.out HL0.out hd
        change RefAt w1 B q v1 ⟨a, x, y, s, p, P, h, b⟩ at hr
        have HR1 := Lib.hid hr
        have HF1 := Lib.hid hf
        have HL1 := Lib.hid hl
        have HB1 := Lib.hid (Nat.le_trans HB0.out hf.size)
        clear hd hr hf hl
        go_wp2_with fail
        (with_reducible refine (HCo.out w1 v1 HR1.out).mono ?_)
        rintro e wq ⟨rfl, rfl⟩
        go_wp2
        go_ret
        exact ⟨rfl, v1, HR1.out, HF1.out, HL1.out⟩
      · go_enter Tryd.func69, Tryd.ntmps69
        go_wp2_with fail
        (with_reducible refine (HC.out w v HR0.out HB0.out).mono ?_)
        intro e w1 hd
        obtain ⟨rfl, v1, hr, hf, hl⟩ := rdone_tr HF0.out HL0.out hd
        change RefAt w1 B q v1 ⟨a, x, y, s, p, P, h, b⟩ at hr
        have HR1 := Lib.hid hr
        have HF1 := Lib.hid hf
        have HL1 := Lib.hid hl
        have HB1 := Lib.hid (Nat.le_trans HB0.out hf.size)
        clear hd hr hf hl
        go_wp2_with fail
        (with_reducible refine (HCo.out w1 v1 HR1.out).mono ?_)
        rintro e wq ⟨rfl, rfl⟩
        go_wp2
        go_ret
        exact ⟨rfl, v1, HR1.out, HF1.out, HL1.out⟩

set_option maxRecDepth 100000 in
set_option maxHeartbeats 4000000 in
theorem rbranch2 (w : World) (B q : Nat) (v : Value) (S : S14) (n : Nat) (must : Bool) (H : RefAt w B q v S) (hO : Ok n S) (hB : B ≤ w.heap.size) :
    Calls Tryd.prog 69 #[.pointer (some ⟨q, 0, none⟩), .int .i64 2, .bool must] w (RDone w B q v (branch 2 must S) (.int .i64 (branchN 2 must S))) := by
  have HO := Lib.hid hO
  obtain ⟨a, x, y, s, p, pc, h, b⟩ := S
  have HR0 := Lib.hid H
  have HF0 : Hid (Fr (foot q v) w w) := Lib.hid (Fr.refl _ w)
  have HL0 : Hid (Lies w v v) := Lib.hid (Lies.refl w v)
  have HB0 := Lib.hid hB
  have hv := nextV_byte hO
  have HC := Lib.hid (fun W V (hr : RefAt W B q V ⟨a, x, y, s, p, pc, h, b⟩) hb => rnext_any W B q V (⟨a, x, y, s, p, pc, h, b⟩ : S14) n hr hO hb)
  change Hid (∀ W V, RefAt W B q V (⟨a, x, y, s, p, pc, h, b⟩ : S14) → B ≤ W.heap.size → Calls Tryd.prog 90 #[.pointer (some ⟨q, 0, none⟩)] W (RDone W B q V ⟨a, x, y, s, p, (pc + 1) % 65536, h, b⟩ (.int .u8 (nextV (⟨a, x, y, s, p, pc, h, b⟩ : S14))))) at HC
  have hS : branch 2 must (⟨a, x, y, s, p, pc, h, b⟩ : S14) = ⟨a, x, y, s, p, if on p 1 = must then ((pc + 1) % 65536 + Al.sg (nextV (⟨a, x, y, s, p, pc, h, b⟩ : S14))) % 65536 else (pc + 1) % 65536, h, b⟩ := rfl
  have hM : branchN 2 must (⟨a, x, y, s, p, pc, h, b⟩ : S14) = if on p 1 = must then (if ((pc + 1) % 65536 + Al.sg (nextV (⟨a, x, y, s, p, pc, h, b⟩ : S14))) % 65536 / 256 = (pc + 1) % 65536 / 256 then 3 else 4) else 2 := rfl
  rw [hS, hM]
  have HCo : Hid (∀ W V, RefAt W B q V (⟨a, x, y, s, p, (pc + 1) % 65536, h, b⟩ : S14) → Calls Tryd.prog 79 #[.pointer (some ⟨q, 0, none⟩), .int .u8 1] W fun e w' => e = .returned (.bool (on p 1)) ∧ W = w') := Lib.hid (fun W V hr => ron_any W B q V _ 1 hr isF1 HO.out.p)
  generalize on p 1 = o1 at *
  generalize nextV (⟨a, x, y, s, p, pc, h, b⟩ : S14) = M at *
  obtain ⟨m0, m1⟩ := hv
  obtain ⟨P, hP⟩ : ∃ P, (pc + 1) % 65536 = P := ⟨_, rfl⟩
  have P0 : 0 ≤ P := by omega
  have P1 : P < 65536 := by omega
  rw [hP] at HC HCo ⊢
  obtain ⟨T, hT⟩ : ∃ T, (P + Al.sg M) % 65536 = T := ⟨_, rfl⟩
  have T0 : 0 ≤ T := by omega
  have T1 : T < 65536 := by omega
  rw [hT]
  obtain ⟨TH, hTH⟩ : ∃ z, T / 256 = z := ⟨_, rfl⟩
  obtain ⟨PH, hPH⟩ : ∃ z, P / 256 = z := ⟨_, rfl⟩
  have hTH' : T.tdiv 256 = TH := by rw [Int.tdiv_eq_ediv_of_nonneg T0]; exact hTH
  have hPH' : P.tdiv 256 = PH := by rw [Int.tdiv_eq_ediv_of_nonneg P0]; exact hPH
  have wTH : IntKind.u16.wrap TH = TH := by rw [IntKind.wrap_u16]; omega
  have wPH : IntKind.u16.wrap PH = PH := by rw [IntKind.wrap_u16]; omega
  rw [hTH, hPH]
  have HT1 : Hid (M < 128 → IntKind.u16.wrap (P + 65536 + M) = T) := Lib.hid (fun hm => by rw [IntKind.wrap_u16, ← hT, show Al.sg M = M by unfold Al.sg; rw [if_neg (by omega)]]; omega)
  have HT2 : Hid (¬ M < 128 → IntKind.u16.wrap (P + 65536 + (M - 256)) = T) := Lib.hid (fun hm => by rw [IntKind.wrap_u16, ← hT, show Al.sg M = M - 256 by unfold Al.sg; rw [if_pos (by omega)]]; omega)
  clear H hO hB hS hM hP hT hTH hPH
  by_cases hm : M < 128
  · have wT := HT1.out hm
    clear HT1 HT2
    by_cases ho : o1 = must
    · subst ho
      simp only [if_true]
      by_cases hq : TH = PH
      · rw [if_pos hq]
        subst hq
        go_enter Tryd.func69, Tryd.ntmps69
        go_wp2_with fail
        (with_reducible refine (HC.out w v HR0.out HB0.out).mono ?_)
        intro e w1 hd
        obtain ⟨rfl, v1, hr, hf, hl⟩ := rdone_tr HF0.out HL0.out hd
        change RefAt w1 B q v1 ⟨a, x, y, s, p, P, h, b⟩ at hr
        have HR1 := Lib.hid hr
        have HF1 := Lib.hid hf
        have HL1 := Lib.hid hl
        have HB1 := Lib.hid (Nat.le_trans HB0.out hf.size)
        clear hd hr hf hl
        go_wp2_with fail
        (with_reducible refine (HCo.out w1 v1 HR1.out).mono ?_)
        rintro e wq ⟨rfl, rfl⟩
        obtain ⟨c0, c1, c2, c3, c4, c5, c6⟩ := regs HR1.out
        have f5 := RefAt.frozen HR1.out 5
        clear c0 c1 c2 c3 c4 c6
        have HR2 : Hid (RefAt (w1.setCell ⟨q, 5, none⟩ (.int .u16 (T))) B q v1 ⟨a, x, y, s, p, T, h, b⟩) := Lib.hid (put_pc HR1.out _)
        have HF2 : Hid (Fr (foot q v) w (w1.setCell ⟨q, 5, none⟩ (.int .u16 (T)))) := Lib.hid (HF1.out.setCell (by simp [foot]) _)
        have HL2 := Lib.hid HL1.out
        have HB2 : Hid (B ≤ (w1.setCell ⟨q, 5, none⟩ (.int .u16 (T))).heap.size) := Lib.hid (Nat.le_trans HB0.out HF2.out.size)
        go_upto_region 15 with fail
        clear c5 f5
        generalize w1.setCell _ _ = w2 at *
        obtain ⟨c0, c1, c2, c3, c4, c5, c6⟩ := regs HR2.out
        clear c0 c1 c2 c3 c4 c6
        go_wp2
        go_ret
        exact ⟨rfl, v1, HR2.out, HF2.out, HL2.out⟩
      · rw [if_neg hq]
        have hq' : (TH == PH) = false := by rw [beq_eq_false_iff_ne]; exact hq
        go_enter Tryd.func69, Tryd.ntmps69
        go_wp2_with fail
        (with_reducible refine (HC.out w v HR0.out HB0.out).mono ?_)
        intro e w1 hd
        obtain ⟨rfl, v1, hr, hf, hl⟩ := rdone_tr HF0.out HL0.out hd
        change RefAt w1 B q v1 ⟨a, x, y, s, p, P, h, b⟩ at hr
        have HR1 := Lib.hid hr
        have HF1 := Lib.hid hf
        have HL1 := Lib.hid hl
        have HB1 := Lib.hid (Nat.le_trans HB0.out hf.size)
        clear hd hr hf hl
        go_wp2_with fail
        (with_reducible refine (HCo.out w1 v1 HR1.out).mono ?_)
        rintro e wq ⟨rfl, rfl⟩
        obtain ⟨c0, c1, c2, c3, c4, c5, c6⟩ := regs HR1.out
        have f5 := RefAt.frozen HR1.out 5
        clear c0 c1 c2 c3 c4 c6
        have HR2 : Hid (RefAt (w1.setCell ⟨q, 5, none⟩ (.int .u16 (T))) B q v1 ⟨a, x, y, s, p, T, h, b⟩) := Lib.hid (put_pc HR1.out _)
        have HF2 : Hid (Fr (foot q v) w (w1.setCell ⟨q, 5, none⟩ (.int .u16 (T)))) := Lib.hid (HF1.out.setCell (by simp [foot]) _)
        have HL2 := Lib.hid HL1.out
        have HB2 : Hid (B ≤ (w1.setCell ⟨q, 5, none⟩ (.int .u16 (T))).heap.size) := Lib.hid (Nat.le_trans HB0.out HF2.out.size)
        go_upto_region 15 with fail
        clear c5 f5
        generalize w1.setCell _ _ = w2 at *
        obtain ⟨c0, c1, c2, c3, c4, c5, c6⟩ := regs HR2.out
        clear c0 c1 c2 c3 c4 c6
        go_wp2
        go_ret
        exact ⟨rfl, v1, HR2.out, HF2.out, HL2.out⟩
    · simp only [if_neg ho]
      obtain rfl : o1 = !must := by cases o1 <;> cases must <;> simp_all
      clear ho
      cases must
      · go_enter Tryd.func69, Tryd.ntmps69
        go_wp2_with fail
        (with_reducible refine (HC.out w v HR0.out HB0.out).mono ?_)
        intro e w1 hd
        obtain ⟨rfl, v1, hr, hf, hl⟩ := rdone_tr HF0.out HL0.out hd
        change RefAt w1 B q v1 ⟨a, x, y, s, p, P, h, b⟩ at hr
        have HR1 := Lib.hid hr
        have HF1 := Lib.hid hf
        have HL1 := Lib.hid hl
        have HB1 := Lib.hid (Nat.le_trans HB0.out hf.size)
        clear hd hr hf hl
        go_wp2_with fail
        (with_reducible refine (HCo.out w1 v1 HR1.out).mono ?_)
        rintro e wq ⟨rfl, rfl⟩
        go_wp2
        go_ret
        exact ⟨rfl, v1, HR1.out, HF1.out, HL1.out⟩
      · go_enter Tryd.func69, Tryd.ntmps69
        go_wp2_with fail
        (with_reducible refine (HC.out w v HR0.out HB0.out).mono ?_)
        intro e w1 hd
        obtain ⟨rfl, v1, hr, hf, hl⟩ := rdone_tr HF0.out HL0.out hd
        change RefAt w1 B q v1 ⟨a, x, y, s, p, P, h, b⟩ at hr
        have HR1 := Lib.hid hr
        have HF1 := Lib.hid hf
        have HL1 := Lib.hid hl
        have HB1 := Lib.hid (Nat.le_trans HB0.out hf.size)
        clear hd hr hf hl
        go_wp2_with fail
        (with_reducible refine (HCo.out w1 v1 HR1.out).mono ?_)
        rintro e wq ⟨rfl, rfl⟩
        go_wp2
        go_ret
        exact ⟨rfl, v1, HR1.out, HF1.out, HL1.out⟩
  · have wT := HT2.out hm
    clear HT1 HT2
    by_cases ho : o1 = must
    · subst ho
      simp only [if_true]
      by_cases hq : TH = PH
      · rw [if_pos hq]
        subst hq
        go_enter Tryd.func69, Tryd.ntmps69
        go_wp2_with fail
        (with_reducible refine (HC.out w v HR0.out HB0.out).mono ?_)
        intro e w1 hd
        obtain ⟨rfl, v1, hr, hf, hl⟩ := rdone_tr HF0.out HL0.out hd
        change RefAt w1 B q v1 ⟨a, x, y, s, p, P, h, b⟩ at hr
        have HR1 := Lib.hid hr
        have HF1 := Lib.hid hf
        have HL1 := Lib.hid hl
        have HB1 := Lib.hid (Nat.le_trans HB0.out hf.size)
        clear hd hr hf hl
        go_wp2_with fail
        (with_reducible refine (HCo.out w1 v1 HR1.out).mono ?_)
        rintro e wq ⟨rfl, rfl⟩
        obtain ⟨c0, c1, c2, c3, c4, c5, c6⟩ := regs HR1.out
        have f5 := RefAt.frozen HR1.out 5
        clear c0 c1 c2 c3 c4 c6
        have HR2 : Hid (RefAt (w1.setCell ⟨q, 5, none⟩ (.int .u16 (T))) B q v1 ⟨a, x, y, s, p, T, h, b⟩) := Lib.hid (put_pc HR1.out _)
        have HF2 : Hid (Fr (foot q v) w (w1.setCell ⟨q, 5, none⟩ (.int .u16 (T)))) := Lib.hid (HF1.out.setCell (by simp [foot]) _)
        have HL2 := Lib.hid HL1.out
        have HB2 : Hid (B ≤ (w1.setCell ⟨q, 5, none⟩ (.int .u16 (T))).heap.size) := Lib.hid (Nat.le_trans HB0.out HF2.out.size)
        go_upto_region 15 with fail
        clear c5 f5
        generalize w1.setCell _ _ = w2 at *
        obtain ⟨c0, c1, c2, c3, c4, c5, c6⟩ := regs HR2.out
        clear c0 c1 c2 c3 c4 c6
        go_wp2
        go_ret
        exact ⟨rfl, v1, HR2.out, HF2.out, HL2.out⟩
      · rw [if_neg hq]
        have hq' : (TH == PH) = false := by rw [beq_eq_false_iff_ne]; exact hq
        go_enter Tryd.func69, Tryd.ntmps69
        go_wp2_with fail
        (with_reducible refine (HC.out w v HR0.out HB0.out).mono ?_)
        intro e w1 hd
        obtain ⟨rfl, v1, hr, hf, hl⟩ := rdone_tr HF0.out HL0.out hd
        change RefAt w1 B q v1 ⟨a, x, y, s, p, P, h, b⟩ at hr
        have HR1 := Lib.hid hr
        have HF1 := Lib.hid hf
        have HL1 := Lib.hid hl
        have HB1 := Lib.hid (Nat.le_trans HB0.out hf.size)
        clear hd hr hf hl
        go_wp2_with fail
        (with_reducible refine (HCo.out w1 v1 HR1.out).mono ?_)
        rintro e wq ⟨rfl, rfl⟩
        obtain ⟨c0, c1, c2, c3, c4, c5, c6⟩ := regs HR1.out
        have f5 := RefAt.frozen HR1.out 5
        clear c0 c1 c2 c3 c4 c6
        have HR2 : Hid (RefAt (w1.setCell ⟨q, 5, none⟩ (.int .u16 (T))) B q v1 ⟨a, x, y, s, p, T, h, b⟩) := Lib.hid (put_pc HR1.out _)
        have HF2 : Hid (Fr (foot q v) w (w1.setCell ⟨q, 5, none⟩ (.int .u16 (T)))) := Lib.hid (HF1.out.setCell (by simp [foot]) _)
        have HL2 := Lib.hid HL1.out
        have HB2 : Hid (B ≤ (w1.setCell ⟨q, 5, none⟩ (.int .u16 (T))).heap.size) := Lib.hid (Nat.le_trans HB0.out HF2.out.size)
        go_upto_region 15 with fail
        clear c5 f5
        generalize w1.setCell _ _ = w2 at *
        obtain ⟨c0, c1, c2, c3, c4, c5, c6⟩ := regs HR2.out
        clear c0 c1 c2 c3 c4 c6
        go_wp2
        go_ret
        exact ⟨rfl, v1, HR2.out, HF2.out, HL2.out⟩
    · simp only [if_neg ho]
      obtain rfl : o1 = !must := by cases o1 <;> cases must <;> simp_all
      clear ho
      cases must
      · go_enter Tryd.func69, Tryd.ntmps69
        go_wp2_with fail
        (with_reducible refine (HC.out w v HR0.out HB0.out).mono ?_)
        intro e w1 hd
        obtain ⟨rfl, v1, hr, hf, hl⟩ := rdone_tr HF0.out HL0.out hd
        change RefAt w1 B q v1 ⟨a, x, y, s, p, P, h, b⟩ at hr
        have HR1 := Lib.hid hr
        have HF1 := Lib.hid hf
        have HL1 := Lib.hid hl
        have HB1 := Lib.hid (Nat.le_trans HB0.out hf.size)
        clear hd hr hf hl
        go_wp2_with fail
        (with_reducible refine (HCo.out w1 v1 HR1.out).mono ?_)
        rintro e wq ⟨rfl, rfl⟩
        go_wp2
        go_ret
        exact ⟨rfl, v1, HR1.out, HF1.out, HL1.out⟩
      · go_enter Tryd.func69, Tryd.ntmps69
        go_wp2_with fail
        (with_reducible refine (HC.out w v HR0.out HB0.out).mono ?_)
        intro e w1 hd
        obtain ⟨rfl, v1, hr, hf, hl⟩ := rdone_tr HF0.out HL0.out hd
        change RefAt w1 B q v1 ⟨a, x, y, s, p, P, h, b⟩ at hr
        have HR1 := Lib.hid hr
        have HF1 := Lib.hid hf
        have HL1 := Lib.hid hl
        have HB1 := Lib.hid (Nat.le_trans HB0.out hf.size)
        clear hd hr hf hl
        go_wp2_with fail
        (with_reducible refine (HCo.out w1 v1 HR1.out).mono ?_)
        rintro e wq ⟨rfl, rfl⟩
        go_wp2
        go_ret
        exact ⟨rfl, v1, HR1.out, HF1.out, HL1.out⟩

set_option maxRecDepth 100000 in
set_option maxHeartbeats 4000000 in
theorem rbranch3 (w : World) (B q : Nat) (v : Value) (S : S14) (n : Nat) (must : Bool) (H : RefAt w B q v S) (hO : Ok n S) (hB : B ≤ w.heap.size) :
    Calls Tryd.prog 69 #[.pointer (some ⟨q, 0, none⟩), .int .i64 3, .bool must] w (RDone w B q v (branch 3 must S) (.int .i64 (branchN 3 must S))) := by
  have HO := Lib.hid hO
  obtain ⟨a, x, y, s, p, pc, h, b⟩ := S
  have HR0 := Lib.hid H
  have HF0 : Hid (Fr (foot q v) w w) := Lib.hid (Fr.refl _ w)
  have HL0 : Hid (Lies w v v) := Lib.hid (Lies.refl w v)
  have HB0 := Lib.hid hB
  have hv := nextV_byte hO
  have HC := Lib.hid (fun W V (hr : RefAt W B q V ⟨a, x, y, s, p, pc, h, b⟩) hb => rnext_any W B q V (⟨a, x, y, s, p, pc, h, b⟩ : S14) n hr hO hb)
  change Hid (∀ W V, RefAt W B q V (⟨a, x, y, s, p, pc, h, b⟩ : S14) → B ≤ W.heap.size → Calls Tryd.prog 90 #[.pointer (some ⟨q, 0, none⟩)] W (RDone W B q V ⟨a, x, y, s, p, (pc + 1) % 65536, h, b⟩ (.int .u8 (nextV (⟨a, x, y, s, p, pc, h, b⟩ : S14))))) at HC
  have hS : branch 3 must (⟨a, x, y, s, p, pc, h, b⟩ : S14) = ⟨a, x, y, s, p, if on p 2 = must then ((pc + 1) % 65536 + Al.sg (nextV (⟨a, x, y, s, p, pc, h, b⟩ : S14))) % 65536 else (pc + 1) % 65536, h, b⟩ := rfl
  have hM : branchN 3 must (⟨a, x, y, s, p, pc, h, b⟩ : S14) = if on p 2 = must then (if ((pc + 1) % 65536 + Al.sg (nextV (⟨a, x, y, s, p, pc, h, b⟩ : S14))) % 65536 / 256 = (pc + 1) % 65536 / 256 then 3 else 4) else 2 := rfl
  rw [hS, hM]
  have HCo : Hid (∀ W V, RefAt W B q V (⟨a, x, y, s, p, (pc + 1) % 65536, h, b⟩ : S14) → Calls Tryd.prog 79 #[.pointer (some ⟨q, 0, none⟩), .int .u8 2] W fun e w' => e = .returned (.bool (on p 2)) ∧ W = w') := Lib.hid (fun W V hr => ron_any W B q V _ 2 hr isF2 HO.out.p)
  generalize on p 2 = o1 at *
  generalize nextV (⟨a, x, y, s, p, pc, h, b⟩ : S14) = M at *
  obtain ⟨m0, m1⟩ := hv
  obtain ⟨P, hP⟩ : ∃ P, (pc + 1) % 65536 = P := ⟨_, rfl⟩
  have P0 : 0 ≤ P := by omega
  have P1 : P < 65536 := by omega
  rw [hP] at HC HCo ⊢
  obtain ⟨T, hT⟩ : ∃ T, (P + Al.sg M) % 65536 = T := ⟨_, rfl⟩
  have T0 : 0 ≤ T := by omega
  have T1 : T < 65536 := by omega
  rw [hT]
  obtain ⟨TH, hTH⟩ : ∃ z, T / 256 = z := ⟨_, rfl⟩
  obtain ⟨PH, hPH⟩ : ∃ z, P / 256 = z := ⟨_, rfl⟩
  have hTH' : T.tdiv 256 = TH := by rw [Int.tdiv_eq_ediv_of_nonneg T0]; exact hTH
  have hPH' : P.tdiv 256 = PH := by rw [Int.tdiv_eq_ediv_of_nonneg P0]; exact hPH
  have wTH : IntKind.u16.wrap TH = TH := by rw [IntKind.wrap_u16]; omega
  have wPH : IntKind.u16.wrap PH = PH := by rw [IntKind.wrap_u16]; omega
  rw [hTH, hPH]
  have HT1 : Hid (M < 128 → IntKind.u16.wrap (P + 65536 + M) = T) := Lib.hid (fun hm => by rw [IntKind.wrap_u16, ← hT, show Al.sg M = M by unfold Al.sg; rw [if_neg (by omega)]]; omega)
  have HT2 : Hid (¬ M < 128 → IntKind.u16.wrap (P + 65536 + (M - 256)) = T) := Lib.hid (fun hm => by rw [IntKind.wrap_u16, ← hT, show Al.sg M = M - 256 by unfold Al.sg; rw [if_pos (by omega)]]; omega)
  clear H hO hB hS hM hP hT hTH hPH
  by_cases hm : M < 128
  · have wT := HT1.out hm
    clear HT1 HT2
    by_cases ho : o1 = must
    · subst ho
      simp only [if_true]
      by_cases hq : TH = PH
      · rw [if_pos hq]
        subst hq
        go_enter Tryd.func69, Tryd.ntmps69
        go_wp2_with fail
        (with_reducible refine (HC.out w v HR0.out HB0.out).mono ?_)
        intro e w1 hd
        obtain ⟨rfl, v1, hr, hf, hl⟩ := rdone_tr HF0.out HL0.out hd
        change RefAt w1 B q v1 ⟨a, x, y, s, p, P, h, b⟩ at hr
        have HR1 := Lib.hid hr
        have HF1 := Lib.hid hf
        have HL1 := Lib.hid hl
        have HB1 := Lib.hid (Nat.le_trans HB0.out hf.size)
        clear hd hr hf hl
        go_wp2_with fail
        (with_reducible refine (HCo.out w1 v1 HR1.out).mono ?_)
        rintro e wq ⟨rfl, rfl⟩
        obtain ⟨c0, c1, c2, c3, c4, c5, c6⟩ := regs HR1.out
        have f5 := RefAt.frozen HR1.out 5
        clear c0 c1 c2 c3 c4 c6
        have HR2 : Hid (RefAt (w1.setCell ⟨q, 5, none⟩ (.int .u16 (T))) B q v1 ⟨a, x, y, s, p, T, h, b⟩) := Lib.hid (put_pc HR1.out _)
        have HF2 : Hid (Fr (foot q v) w (w1.setCell ⟨q, 5, none⟩ (.int .u16 (T)))) := Lib.hid (HF1.out.setCell (by simp [foot]) _)
        have HL2 := Lib.hid HL1.out
        have HB2 : Hid (B ≤ (w1.setCell ⟨q, 5, none⟩ (.int .u16 (T))).heap.size) := Lib.hid (Nat.le_trans HB0.out HF2.out.size)
        go_upto_region 15 with fail
        clear c5 f5
        generalize w1.setCell _ _ = w2 at *
        obtain ⟨c0, c1, c2, c3, c4, c5, c6⟩ := regs HR2.out
        clear c0 c1 c2 c3 c4 c6
        go_wp2
        go_ret
        exact ⟨rfl, v1, HR2.out, HF2.out, HL2.out⟩
      · rw [if_neg hq]
        have hq' : (TH == PH) = false := by rw [beq_eq_false_iff_ne]; exact hq
        go_enter Tryd.func69, Tryd.ntmps69
        go_wp2_with fail
        (with_reducible refine (HC.out w v HR0.out HB0.out).mono ?_)
        intro e w1 hd
        obtain ⟨rfl, v1, hr, hf, hl⟩ := rdone_tr HF0.out HL0.out hd
        change RefAt w1 B q v1 ⟨a, x, y, s, p, P, h, b⟩ at hr
        have HR1 := Lib.hid hr
        have HF1 := Lib.hid hf
        have HL1 := Lib.hid hl
        have HB1 := Lib.hid (Nat.le_trans HB0.out hf.size)
        clear hd hr hf hl
        go_wp2_with fail
        (with_reducible refine (HCo.out w1 v1 HR1.out).mono ?_)
        rintro e wq ⟨rfl, rfl⟩
        obtain ⟨c0, c1, c2, c3, c4, c5, c6⟩ := regs HR1.out
        have f5 := RefAt.frozen HR1.out 5
        clear c0 c1 c2 c3 c4 c6
        have HR2 : Hid (RefAt (w1.setCell ⟨q, 5, none⟩ (.int .u16 (T))) B q v1 ⟨a, x, y, s, p, T, h, b⟩) := Lib.hid (put_pc HR1.out _)
        have HF2 : Hid (Fr (foot q v) w (w1.setCell ⟨q, 5, none⟩ (.int .u16 (T)))) := Lib.hid (HF1.out.setCell (by simp [foot]) _)
        have HL2 := Lib.hid HL1.out
        have HB2 : Hid (B ≤ (w1.setCell ⟨q, 5, none⟩ (.int .u16 (T))).heap.size) := Lib.hid (Nat.le_trans HB0.out HF2.out.size)
        go_upto_region 15 with fail
        clear c5 f5
        generalize w1.setCell _ _ = w2 at *
        obtain ⟨c0, c1, c2, c3, c4, c5, c6⟩ := regs HR2.out
        clear c0 c1 c2 c3 c4 c6
        go_wp2
        go_ret
        exact ⟨rfl, v1, HR2.out, HF2.out, HL2.out⟩
    · simp only [if_neg ho]
      obtain rfl : o1 = !must := by cases o1 <;> cases must <;> simp_all
      clear ho
      cases must
      · go_enter Tryd.func69, Tryd.ntmps69
        go_wp2_with fail
        (with_reducible refine (HC.out w v HR0.out HB0.out).mono ?_)
        intro e w1 hd
        obtain ⟨rfl, v1, hr, hf, hl⟩ := rdone_tr HF0.out HL0.out hd
        change RefAt w1 B q v1 ⟨a, x, y, s, p, P, h, b⟩ at hr
        have HR1 := Lib.hid hr
        have HF1 := Lib.hid hf
        have HL1 := Lib.hid hl
        have HB1 := Lib.hid (Nat.le_trans HB0.out hf.size)
        clear hd hr hf hl
        go_wp2_with fail
        (with_reducible refine (HCo.out w1 v1 HR1.out).mono ?_)
        rintro e wq ⟨rfl, rfl⟩
        go_wp2
        go_ret
        exact ⟨rfl, v1, HR1.out, HF1.out, HL1.out⟩
      · go_enter Tryd.func69, Tryd.ntmps69
        go_wp2_with fail
        (with_reducible refine (HC.out w v HR0.out HB0.out).mono ?_)
        intro e w1 hd
        obtain ⟨rfl, v1, hr, hf, hl⟩ := rdone_tr HF0.out HL0.out hd
        change RefAt w1 B q v1 ⟨a, x, y, s, p, P, h, b⟩ at hr
        have HR1 := Lib.hid hr
        have HF1 := Lib.hid hf
        have HL1 := Lib.hid hl
        have HB1 := Lib.hid (Nat.le_trans HB0.out hf.size)
        clear hd hr hf hl
        go_wp2_with fail
        (with_reducible refine (HCo.out w1 v1 HR1.out).mono ?_)
        rintro e wq ⟨rfl, rfl⟩
        go_wp2
        go_ret
        exact ⟨rfl, v1, HR1.out, HF1.out, HL1.out⟩
  · have wT := HT2.out hm
    clear HT1 HT2
    by_cases ho : o1 = must
    · subst ho
      simp only [if_true]
      by_cases hq : TH = PH
      · rw [if_pos hq]
        subst hq
        go_enter Tryd.func69, Tryd.ntmps69
        go_wp2_with fail
        (with_reducible refine (HC.out w v HR0.out HB0.out).mono ?_)
        intro e w1 hd
        obtain ⟨rfl, v1, hr, hf, hl⟩ := rdone_tr HF0.out HL0.out hd
        change RefAt w1 B q v1 ⟨a, x, y, s, p, P, h, b⟩ at hr
        have HR1 := Lib.hid hr
        have HF1 := Lib.hid hf
        have HL1 := Lib.hid hl
        have HB1 := Lib.hid (Nat.le_trans HB0.out hf.size)
        clear hd hr hf hl
        go_wp2_with fail
        (with_reducible refine (HCo.out w1 v1 HR1.out).mono ?_)
        rintro e wq ⟨rfl, rfl⟩
        obtain ⟨c0, c1, c2, c3, c4, c5, c6⟩ := regs HR1.out
        have f5 := RefAt.frozen HR1.out 5
        clear c0 c1 c2 c3 c4 c6
        have HR2 : Hid (RefAt (w1.setCell ⟨q, 5, none⟩ (.int .u16 (T))) B q v1 ⟨a, x, y, s, p, T, h, b⟩) := Lib.hid (put_pc HR1.out _)
        have HF2 : Hid (Fr (foot q v) w (w1.setCell ⟨q, 5, none⟩ (.int .u16 (T)))) := Lib.hid (HF1.out.setCell (by simp [foot]) _)
        have HL2 := Lib.hid HL1.out
        have HB2 : Hid (B ≤ (w1.setCell ⟨q, 5, none⟩ (.int .u16 (T))).heap.size) := Lib.hid (Nat.le_trans HB0.out HF2.out.size)
        go_upto_region 15 with fail
        clear c5 f5
        generalize w1.setCell _ _ = w2 at *
        obtain ⟨c0, c1, c2, c3, c4, c5, c6⟩ := regs HR2.out
        clear c0 c1 c2 c3 c4 c6
        go_wp2
        go_ret
        exact ⟨rfl, v1, HR2.out, HF2.out, HL2.out⟩
      · rw [if_neg hq]
        have hq' : (TH == PH) = false := by rw [beq_eq_false_iff_ne]; exact hq
        go_enter Tryd.func69, Tryd.ntmps69
        go_wp2_with fail
        (with_reducible refine (HC.out w v HR0.out HB0.out).mono ?_)
        intro e w1 hd
        obtain ⟨rfl, v1, hr, hf, hl⟩ := rdone_tr HF0.out HL0.out hd
        change RefAt w1 B q v1 ⟨a, x, y, s, p, P, h, b⟩ at hr
        have HR1 := Lib.hid hr
        have HF1 := Lib.hid hf
        have HL1 := Lib.hid hl
        have HB1 := Lib.hid (Nat.le_trans HB0.out hf.size)
        clear hd hr hf hl
        go_wp2_with fail
        (with_reducible refine (HCo.out w1 v1 HR1.out).mono ?_)
        rintro e wq ⟨rfl, rfl⟩
        obtain ⟨c0, c1, c2, c3, c4, c5, c6⟩ := regs HR1.out
        have f5 := RefAt.frozen HR1.out 5
        clear c0 c1 c2 c3 c4 c6
        have HR2 : Hid (RefAt (w1.setCell ⟨q, 5, none⟩ (.int .u16 (T))) B q v1 ⟨a, x, y, s, p, T, h, b⟩) := Lib.hid (put_pc HR1.out _)
        have HF2 : Hid (Fr (foot q v) w (w1.setCell ⟨q, 5, none⟩ (.int .u16 (T)))) := Lib.hid (HF1.out.setCell (by simp [foot]) _)
        have HL2 := Lib.hid HL1.out
        have HB2 : Hid (B ≤ (w1.setCell ⟨q, 5, none⟩ (.int .u16 (T))).heap.size) := Lib.hid (Nat.le_trans HB0.out HF2.out.size)
        go_upto_region 15 with fail
        clear c5 f5
        generalize w1.setCell _ _ = w2 at *
        obtain ⟨c0, c1, c2, c3, c4, c5, c6⟩ := regs HR2.out
        clear c0 c1 c2 c3 c4 c6
        go_wp2
        go_ret
        exact ⟨rfl, v1, HR2.out, HF2.out, HL2.out⟩
    · simp only [if_neg ho]
      obtain rfl : o1 = !must := by cases o1 <;> cases must <;> simp_all
      clear ho
      cases must
      · go_enter Tryd.func69, Tryd.ntmps69
        go_wp2_with fail
        (with_reducible refine (HC.out w v HR0.out HB0.out).mono ?_)
        intro e w1 hd
        obtain ⟨rfl, v1, hr, hf, hl⟩ := rdone_tr HF0.out HL0.out hd
        change RefAt w1 B q v1 ⟨a, x, y, s, p, P, h, b⟩ at hr
        have HR1 := Lib.hid hr
        have HF1 := Lib.hid hf
        have HL1 := Lib.hid hl
        have HB1 := Lib.hid (Nat.le_trans HB0.out hf.size)
        clear hd hr hf hl
        go_wp2_with fail
        (with_reducible refine (HCo.out w1 v1 HR1.out).mono ?_)
        rintro e wq ⟨rfl, rfl⟩
        go_wp2
        go_ret
        exact ⟨rfl, v1, HR1.out, HF1.out, HL1.out⟩
      · go_enter Tryd.func69, Tryd.ntmps69
        go_wp2_with fail
        (with_reducible refine (HC.out w v HR0.out HB0.out).mono ?_)
        intro e w1 hd
        obtain ⟨rfl, v1, hr, hf, hl⟩ := rdone_tr HF0.out HL0.out hd
        change RefAt w1 B q v1 ⟨a, x, y, s, p, P, h, b⟩ at hr
        have HR1 := Lib.hid hr
        have HF1 := Lib.hid hf
        have HL1 := Lib.hid hl
        have HB1 := Lib.hid (Nat.le_trans HB0.out hf.size)
        clear hd hr hf hl
        go_wp2_with fail
        (with_reducible refine (HCo.out w1 v1 HR1.out).mono ?_)
        rintro e wq ⟨rfl, rfl⟩
        go_wp2
        go_ret
        exact ⟨rfl, v1, HR1.out, HF1.out, HL1.out⟩

set_option maxRecDepth 100000 in
set_option maxHeartbeats 4000000 in
theorem rjump0 (w : World) (B q : Nat) (v : Value) (S : S14) (n : Nat) (H : RefAt w B q v S) (hO : Ok n S) (hn : n + 4 < 1000000000) (hB : B ≤ w.heap.size) :
    Calls Tryd.prog 72 #[.pointer (some ⟨q, 0, none⟩), .int .i64 0] w (RDone w B q v (jump 0 S) (.int .i64 7)) := by
  have HO := Lib.hid hO
  have HN := Lib.hid hn
  obtain ⟨a, x, y, s, p, pc, h, b⟩ := S
  obtain ⟨pc0, pc1⟩ : 0 ≤ pc ∧ pc < 65536 := hO.pc
  obtain ⟨p0, p1⟩ : 0 ≤ p ∧ p < 256 := hO.p
  have HR0 := Lib.hid H
  have HF0 : Hid (Fr (foot q v) w w) := Lib.hid (Fr.refl _ w)
  have HL0 : Hid (Lies w v v) := Lib.hid (Lies.refl w v)
  have HB0 := Lib.hid hB
  have HP48 : Hid (byte (p + 48)) := Lib.hid (p48 hO)
  have q0 := HP48.out.1
  have q1 := HP48.out.2
  obtain ⟨k, hk⟩ : ∃ k, (pc + 1) % 65536 = k := ⟨_, rfl⟩
  have wk : IntKind.u16.wrap (pc + 1) = k := by rw [IntKind.wrap_u16]; exact hk
  have HK : Hid (u16 k) := Lib.hid ⟨by omega, by omega⟩
  have k0 := HK.out.1
  have k1 := HK.out.2
  have hOA := ok_pushW k hO HK.out
  have hOB := ok_push (p + 48) hOA HP48.out
  have hA : pushW (⟨a, x, y, s, p, pc, h, b⟩ : S14) k = ⟨a, x, y, (pushW (⟨a, x, y, s, p, pc, h, b⟩ : S14) k).s, p, pc, h, (pushW (⟨a, x, y, s, p, pc, h, b⟩ : S14) k).b⟩ := rfl
  have hB2 : push (pushW (⟨a, x, y, s, p, pc, h, b⟩ : S14) k) (p + 48) = ⟨a, x, y, (push (pushW (⟨a, x, y, s, p, pc, h, b⟩ : S14) k) (p + 48)).s, p, pc, h, (push (pushW (⟨a, x, y, s, p, pc, h, b⟩ : S14) k) (p + 48)).b⟩ := rfl
  have hE : jump 0 (⟨a, x, y, s, p, pc, h, b⟩ : S14) = ⟨a, x, y, (push (pushW (⟨a, x, y, s, p, pc, h, b⟩ : S14) k) (p + 48)).s, setF p 4 true, pairV (push (pushW (⟨a, x, y, s, p, pc, h, b⟩ : S14) k) (p + 48)).b 65534 65535, h, (push (pushW (⟨a, x, y, s, p, pc, h, b⟩ : S14) k) (p + 48)).b⟩ := by rw [← hk]; rfl
  rw [hE]
  rw [hB2] at hOB
  rw [hA] at hOA
  have hu : u16 (pairV (push (pushW (⟨a, x, y, s, p, pc, h, b⟩ : S14) k) (p + 48)).b 65534 65535) := pairV_u16 _ _ hOB.b
  have H2 : Hid (push (⟨a, x, y, (pushW (⟨a, x, y, s, p, pc, h, b⟩ : S14) k).s, p, pc, h, (pushW (⟨a, x, y, s, p, pc, h, b⟩ : S14) k).b⟩ : S14) (p + 48) = ⟨a, x, y, (push (pushW (⟨a, x, y, s, p, pc, h, b⟩ : S14) k) (p + 48)).s, p, pc, h, (push (pushW (⟨a, x, y, s, p, pc, h, b⟩ : S14) k) (p + 48)).b⟩) := Lib.hid rfl
  have H1 : Hid (pushW (⟨a, x, y, s, p, pc, h, b⟩ : S14) k = ⟨a, x, y, (pushW (⟨a, x, y, s, p, pc, h, b⟩ : S14) k).s, p, pc, h, (pushW (⟨a, x, y, s, p, pc, h, b⟩ : S14) k).b⟩) := Lib.hid rfl
  clear hE hA hB2
  generalize (push (pushW (⟨a, x, y, s, p, pc, h, b⟩ : S14) k) (p + 48)).s = S2 at *
  generalize (push (pushW (⟨a, x, y, s, p, pc, h, b⟩ : S14) k) (p + 48)).b = B2 at *
  generalize (pushW (⟨a, x, y, s, p, pc, h, b⟩ : S14) k).s = S1 at *
  generalize (pushW (⟨a, x, y, s, p, pc, h, b⟩ : S14) k).b = B1 at *
  have HOA := Lib.hid hOA
  have hOC : Ok (n + 3) (⟨a, x, y, S2, setF p 4 true, pc, h, B2⟩ : S14) := ok_withP _ hOB (fl_setF _ _ _ isF4 hO.pf)
  have HPr : Hid (∀ W V, RefAt W B q V (⟨a, x, y, S2, setF p 4 true, pc, h, B2⟩ : S14) → Calls Tryd.prog 30 #[.pointer (some ⟨q, 0, none⟩), .int .u16 65534, .int .u16 65535] W fun e w' => e = .returned (.int .u16 (pairV B2 65534 65535)) ∧ W = w') := Lib.hid (fun W V hr => rpair_any W B q V _ 65534 65535 (n + 3) hr hOC ⟨by omega, by omega⟩ ⟨by omega, by omega⟩)
  generalize pairV B2 65534 65535 = V2 at *
  obtain ⟨u0, u1⟩ := hu
  clear hOA hOB hOC hk
  clear H hO hB hn
  go_enter Tryd.func72, Tryd.ntmps72
  obtain ⟨c0, c1, c2, c3, c4, c5, c6⟩ := regs HR0.out
  clear c0 c1 c2 c3 c4 c6
  go_wp2_with fail
  (with_reducible refine (rpushW_any w B q v (⟨a, x, y, s, p, pc, h, b⟩ : S14) n k HR0.out HO.out (by have := HN.out; omega) HK.out HB0.out).mono ?_)
  intro e w1 hd
  obtain ⟨rfl, v1, hr, hf, hl⟩ := rdone_tr HF0.out HL0.out hd
  rw [H1.out] at hr
  have HR1 := Lib.hid hr
  have HF1 := Lib.hid hf
  have HL1 := Lib.hid hl
  have HB1 := Lib.hid (Nat.le_trans HB0.out hf.size)
  clear hd hr hf hl
  clear c5
  obtain ⟨c0, c1, c2, c3, c4, c5, c6⟩ := regs HR1.out
  clear c0 c1 c2 c3 c5 c6
  go_wp2_with fail
  (with_reducible refine (rpush_any w1 B q v1 (⟨a, x, y, S1, p, pc, h, B1⟩ : S14) (n + 2) (p + 48) HR1.out HOA.out (by have := HN.out; omega) HP48.out HB1.out).mono ?_)
  intro e w2 hd
  obtain ⟨rfl, v2, hr, hf, hl⟩ := rdone_tr HF1.out HL1.out hd
  rw [H2.out] at hr
  have HR2 := Lib.hid hr
  have HF2 := Lib.hid hf
  have HL2 := Lib.hid hl
  have HB2 := Lib.hid (Nat.le_trans HB0.out hf.size)
  clear hd hr hf hl
  clear c4
  go_wp2_with fail
  (with_reducible refine (rset_any w2 B q v2 (⟨a, x, y, S2, p, pc, h, B2⟩ : S14) 4 true HR2.out isF4 HO.out.p HB2.out).mono ?_)
  intro e w3 hd
  obtain ⟨rfl, v3, hr, hf, hl⟩ := rdone_tr HF2.out HL2.out hd
  change RefAt w3 B q v3 ⟨a, x, y, S2, setF p 4 true, pc, h, B2⟩ at hr
  have HR3 := Lib.hid hr
  have HF3 := Lib.hid hf
  have HL3 := Lib.hid hl
  have HB3 := Lib.hid (Nat.le_trans HB0.out hf.size)
  clear hd hr hf hl
  go_wp2_with fail
  (with_reducible refine (HPr.out w3 v3 HR3.out).mono ?_)
  rintro e wq ⟨rfl, rfl⟩
  obtain ⟨c0, c1, c2, c3, c4, c5, c6⟩ := regs HR3.out
  have f5 := RefAt.frozen HR3.out 5
  clear c0 c1 c2 c3 c4 c6
  go_wp2
  go_ret
  exact rdone_set _ HF3.out HL3.out (put_pc HR3.out _)

set_option maxRecDepth 100000 in
set_option maxHeartbeats 4000000 in
theorem rjump1 (w : World) (B q : Nat) (v : Value) (S : S14) (n : Nat) (H : RefAt w B q v S) (hO : Ok n S) (hn : n + 4 < 1000000000) (hB : B ≤ w.heap.size) :
    Calls Tryd.prog 72 #[.pointer (some ⟨q, 0, none⟩), .int .i64 1] w (RDone w B q v (jump 1 S) (.int .i64 6)) := by
  have HO := Lib.hid hO
  have HN := Lib.hid hn
  obtain ⟨a, x, y, s, p, pc, h, b⟩ := S
  have HR0 := Lib.hid H
  have HF0 : Hid (Fr (foot q v) w w) := Lib.hid (Fr.refl _ w)
  have HL0 : Hid (Lies w v v) := Lib.hid (Lies.refl w v)
  have HB0 := Lib.hid hB
  have hv := wordV_u16 hO
  have hOW := ok_word hO
  obtain ⟨P2, hP2⟩ : ∃ z, ((pc + 1) % 65536 + 1) % 65536 = z := ⟨_, rfl⟩
  have hWE : word (⟨a, x, y, s, p, pc, h, b⟩ : S14) = ⟨a, x, y, s, p, P2, h, b⟩ := by rw [← hP2]; rfl
  obtain ⟨k, hk⟩ : ∃ k, (P2 - 1) % 65536 = k := ⟨_, rfl⟩
  have wk : IntKind.u16.wrap (P2 - 1) = k := by rw [IntKind.wrap_u16]; exact hk
  have HK : Hid (u16 k) := Lib.hid ⟨by omega, by omega⟩
  have k0 := HK.out.1
  have k1 := HK.out.2
  have p20 : 0 ≤ P2 := by omega
  have p21 : P2 < 65536 := by omega
  rw [hWE] at hOW
  have hE : jump 1 (⟨a, x, y, s, p, pc, h, b⟩ : S14) = ⟨a, x, y, (pushW (⟨a, x, y, s, p, P2, h, b⟩ : S14) k).s, p, wordV (⟨a, x, y, s, p, pc, h, b⟩ : S14), h, (pushW (⟨a, x, y, s, p, P2, h, b⟩ : S14) k).b⟩ := by rw [← hk, ← hP2]; rfl
  rw [hE]
  have H1 : Hid (pushW (⟨a, x, y, s, p, P2, h, b⟩ : S14) k = ⟨a, x, y, (pushW (⟨a, x, y, s, p, P2, h, b⟩ : S14) k).s, p, P2, h, (pushW (⟨a, x, y, s, p, P2, h, b⟩ : S14) k).b⟩) := Lib.hid rfl
  have HC : Hid (∀ W V, RefAt W B q V (⟨a, x, y, s, p, pc, h, b⟩ : S14) → B ≤ W.heap.size → Calls Tryd.prog 73 #[.pointer (some ⟨q, 0, none⟩)] W (RDone W B q V ⟨a, x, y, s, p, P2, h, b⟩ (.int .u16 (wordV (⟨a, x, y, s, p, pc, h, b⟩ : S14))))) := Lib.hid (fun W V hr hb => by rw [← hWE]; exact rword_any W B q V (⟨a, x, y, s, p, pc, h, b⟩ : S14) n hr HO.out hb)
  generalize wordV (⟨a, x, y, s, p, pc, h, b⟩ : S14) = WV at *
  generalize (pushW (⟨a, x, y, s, p, P2, h, b⟩ : S14) k).s = S1 at *
  generalize (pushW (⟨a, x, y, s, p, P2, h, b⟩ : S14) k).b = B1 at *
  have HOW := Lib.hid hOW
  obtain ⟨u0, u1⟩ := hv
  clear hE hWE hOW hk hP2
  clear H hO hB hn
  go_enter Tryd.func72, Tryd.ntmps72
  go_wp2_with fail
  (with_reducible refine (HC.out w v HR0.out HB0.out).mono ?_)
  intro e w1 hd
  obtain ⟨rfl, v1, hr, hf, hl⟩ := rdone_tr HF0.out HL0.out hd
  change RefAt w1 B q v1 ⟨a, x, y, s, p, P2, h, b⟩ at hr
  have HR1 := Lib.hid hr
  have HF1 := Lib.hid hf
  have HL1 := Lib.hid hl
  have HB1 := Lib.hid (Nat.le_trans HB0.out hf.size)
  clear hd hr hf hl
  obtain ⟨c0, c1, c2, c3, c4, c5, c6⟩ := regs HR1.out
  clear c0 c1 c2 c3 c4 c6
  go_wp2_with fail
  (with_reducible refine (rpushW_any w1 B q v1 (⟨a, x, y, s, p, P2, h, b⟩ : S14) n k HR1.out HOW.out (by have := HN.out; omega) HK.out HB1.out).mono ?_)
  intro e w2 hd
  obtain ⟨rfl, v2, hr, hf, hl⟩ := rdone_tr HF1.out HL1.out hd
  rw [H1.out] at hr
  have HR2 := Lib.hid hr
  have HF2 := Lib.hid hf
  have HL2 := Lib.hid hl
  have HB2 := Lib.hid (Nat.le_trans HB0.out hf.size)
  clear hd hr hf hl
  clear c5
  obtain ⟨c0, c1, c2, c3, c4, c5, c6⟩ := regs HR2.out
  have f5 := RefAt.frozen HR2.out 5
  clear c0 c1 c2 c3 c4 c6
  go_wp2
  go_ret
  exact rdone_set _ HF2.out HL2.out (put_pc HR2.out _)

set_option maxRecDepth 100000 in
set_option maxHeartbeats 4000000 in
theorem rjump2 (w : World) (B q : Nat) (v : Value) (S : S14) (n : Nat) (H : RefAt w B q v S) (hO : Ok n S) (hn : n + 4 < 1000000000) (hB : B ≤ w.heap.size) :
    Calls Tryd.prog 72 #[.pointer (some ⟨q, 0, none⟩), .int .i64 2] w (RDone w B q v (jump 2 S) (.int .i64 6)) := by
  have HO := Lib.hid hO
  have HN := Lib.hid hn
  obtain ⟨a, x, y, s, p, pc, h, b⟩ := S
  have HR0 := Lib.hid H
  have HF0 : Hid (Fr (foot q v) w w) := Lib.hid (Fr.refl _ w)
  have HL0 : Hid (Lies w v v) := Lib.hid (Lies.refl w v)
  have HB0 := Lib.hid hB
  have hv := pullV_byte hO
  have HM := Lib.hid hv
  have hE : jump 2 (⟨a, x, y, s, p, pc, h, b⟩ : S14) = ⟨a, x, y, (pullW (⟨a, x, y, (s + 1) % 256, noBU (pullV (⟨a, x, y, s, p, pc, h, b⟩ : S14)), pc, h, b⟩ : S14)).s, noBU (pullV (⟨a, x, y, s, p, pc, h, b⟩ : S14)), pullWV (⟨a, x, y, (s + 1) % 256, noBU (pullV (⟨a, x, y, s, p, pc, h, b⟩ : S14)), pc, h, b⟩ : S14), h, b⟩ := rfl
  rw [hE]
  have HC1 : Hid (∀ W V, RefAt W B q V (⟨a, x, y, s, p, pc, h, b⟩ : S14) → B ≤ W.heap.size → Calls Tryd.prog 91 #[.pointer (some ⟨q, 0, none⟩)] W (RDone W B q V ⟨a, x, y, (s + 1) % 256, p, pc, h, b⟩ (.int .u8 (pullV (⟨a, x, y, s, p, pc, h, b⟩ : S14))))) := Lib.hid (fun W V hr hb => rpull_any W B q V (⟨a, x, y, s, p, pc, h, b⟩ : S14) n hr HO.out hb)
  have hOP : Ok n (⟨a, x, y, (s + 1) % 256, noBU (pullV (⟨a, x, y, s, p, pc, h, b⟩ : S14)), pc, h, b⟩ : S14) := ok_withP _ (ok_pull hO) (fl_noBU _ hv)
  generalize pullV (⟨a, x, y, s, p, pc, h, b⟩ : S14) = M at *
  have hnb := andNot48 M HM.out
  have HNB := Lib.hid (noBU_all M HM.out)
  have nb0 := HNB.out.1
  have nb1 := HNB.out.2.1
  generalize noBU M = NB at *
  have hw := pullWV_u16 hOP
  have HC2 : Hid (∀ W V, RefAt W B q V ⟨a, x, y, (s + 1) % 256, NB, pc, h, b⟩ → B ≤ W.heap.size → Calls Tryd.prog 92 #[.pointer (some ⟨q, 0, none⟩)] W (RDone W B q V ⟨a, x, y, (pullW (⟨a, x, y, (s + 1) % 256, NB, pc, h, b⟩ : S14)).s, NB, pc, h, b⟩ (.int .u16 (pullWV (⟨a, x, y, (s + 1) % 256, NB, pc, h, b⟩ : S14))))) := Lib.hid (fun W V hr hb => rpullW_any W B q V (⟨a, x, y, (s + 1) % 256, NB, pc, h, b⟩ : S14) n hr hOP hb)
  generalize pullWV (⟨a, x, y, (s + 1) % 256, NB, pc, h, b⟩ : S14) = WV at *
  generalize (pullW (⟨a, x, y, (s + 1) % 256, NB, pc, h, b⟩ : S14)).s = S3 at *
  obtain ⟨m0, m1⟩ := hv
  obtain ⟨u0, u1⟩ := hw
  clear hE hOP
  clear H hO hB hn
  go_enter Tryd.func72, Tryd.ntmps72
  go_wp2_with fail
  (with_reducible refine (HC1.out w v HR0.out HB0.out).mono ?_)
  intro e w1 hd
  obtain ⟨rfl, v1, hr, hf, hl⟩ := rdone_tr HF0.out HL0.out hd
  change RefAt w1 B q v1 ⟨a, x, y, (s + 1) % 256, p, pc, h, b⟩ at hr
  have HR1 := Lib.hid hr
  have HF1 := Lib.hid hf
  have HL1 := Lib.hid hl
  have HB1 := Lib.hid (Nat.le_trans HB0.out hf.size)
  clear hd hr hf hl
  obtain ⟨c0, c1, c2, c3, c4, c5, c6⟩ := regs HR1.out
  have f4 := RefAt.frozen HR1.out 4
  clear c0 c1 c2 c3 c5 c6
  have HR2 : Hid (RefAt (w1.setCell ⟨q, 4, none⟩ (.int .u8 (NB))) B q v1 ⟨a, x, y, (s + 1) % 256, NB, pc, h, b⟩) := Lib.hid (put_p HR1.out _)
  have HF2 : Hid (Fr (foot q v) w (w1.setCell ⟨q, 4, none⟩ (.int .u8 (NB)))) := Lib.hid (HF1.out.setCell (by simp [foot]) _)
  have HL2 := Lib.hid HL1.out
  have HB2 : Hid (B ≤ (w1.setCell ⟨q, 4, none⟩ (.int .u8 (NB))).heap.size) := Lib.hid (Nat.le_trans HB0.out HF2.out.size)
  go_upto_region 14 with fail
  clear c4 f4
  generalize w1.setCell _ _ = w2 at *
  go_wp2_with fail
  (with_reducible refine (HC2.out w2 v1 HR2.out HB2.out).mono ?_)
  intro e w3 hd
  obtain ⟨rfl, v3, hr, hf, hl⟩ := rdone_tr HF2.out HL2.out hd
  change RefAt w3 B q v3 ⟨a, x, y, S3, NB, pc, h, b⟩ at hr
  have HR3 := Lib.hid hr
  have HF3 := Lib.hid hf
  have HL3 := Lib.hid hl
  have HB3 := Lib.hid (Nat.le_trans HB0.out hf.size)
  clear hd hr hf hl
  obtain ⟨c0, c1, c2, c3, c4, c5, c6⟩ := regs HR3.out
  have f5 := RefAt.frozen HR3.out 5
  clear c0 c1 c2 c3 c4 c6
  go_wp2
  go_ret
  exact rdone_set _ HF3.out HL3.out (put_pc HR3.out _)

set_option maxRecDepth 100000 in
set_option maxHeartbeats 4000000 in
theorem rjump3 (w : World) (B q : Nat) (v : Value) (S : S14) (n : Nat) (H : RefAt w B q v S) (hO : Ok n S) (hn : n + 4 < 1000000000) (hB : B ≤ w.heap.size) :
    Calls Tryd.prog 72 #[.pointer (some ⟨q, 0, none⟩), .int .i64 3] w (RDone w B q v (jump 3 S) (.int .i64 6)) := by
  have HO := Lib.hid hO
  have HN := Lib.hid hn
  obtain ⟨a, x, y, s, p, pc, h, b⟩ := S
  have HR0 := Lib.hid H
  have HF0 : Hid (Fr (foot q v) w w) := Lib.hid (Fr.refl _ w)
  have HL0 : Hid (Lies w v v) := Lib.hid (Lies.refl w v)
  have HB0 := Lib.hid hB
  have hw := pullWV_u16 hO
  have hE : jump 3 (⟨a, x, y, s, p, pc, h, b⟩ : S14) = ⟨a, x, y, (pullW (⟨a, x, y, s, p, pc, h, b⟩ : S14)).s, p, (pullWV (⟨a, x, y, s, p, pc, h, b⟩ : S14) + 1) % 65536, h, b⟩ := rfl
  rw [hE]
  have HC2 : Hid (∀ W V, RefAt W B q V (⟨a, x, y, s, p, pc, h, b⟩ : S14) → B ≤ W.heap.size → Calls Tryd.prog 92 #[.pointer (some ⟨q, 0, none⟩)] W (RDone W B q V ⟨a, x, y, (pullW (⟨a, x, y, s, p, pc, h, b⟩ : S14)).s, p, pc, h, b⟩ (.int .u16 (pullWV (⟨a, x, y, s, p, pc, h, b⟩ : S14))))) := Lib.hid (fun W V hr hb => rpullW_any W B q V (⟨a, x, y, s, p, pc, h, b⟩ : S14) n hr HO.out hb)
  generalize pullWV (⟨a, x, y, s, p, pc, h, b⟩ : S14) = WV at *
  generalize (pullW (⟨a, x, y, s, p, pc, h, b⟩ : S14)).s = S3 at *
  obtain ⟨u0, u1⟩ := hw
  obtain ⟨k, hk⟩ : ∃ k, (WV + 1) % 65536 = k := ⟨_, rfl⟩
  have wk : IntKind.u16.wrap (WV + 1) = k := by rw [IntKind.wrap_u16]; exact hk
  have k0 : 0 ≤ k := by omega
  have k1 : k < 65536 := by omega
  rw [hk]
  clear hE hk
  clear H hO hB hn
  go_enter Tryd.func72, Tryd.ntmps72
  go_wp2_with fail
  (with_reducible refine (HC2.out w v HR0.out HB0.out).mono ?_)
  intro e w1 hd
  obtain ⟨rfl, v1, hr, hf, hl⟩ := rdone_tr HF0.out HL0.out hd
  change RefAt w1 B q v1 ⟨a, x, y, S3, p, pc, h, b⟩ at hr
  have HR1 := Lib.hid hr
  have HF1 := Lib.hid hf
  have HL1 := Lib.hid hl
  have HB1 := Lib.hid (Nat.le_trans HB0.out hf.size)
  clear hd hr hf hl
  obtain ⟨c0, c1, c2, c3, c4, c5, c6⟩ := regs HR1.out
  have f5 := RefAt.frozen HR1.out 5
  clear c0 c1 c2 c3 c4 c6
  go_wp2
  go_ret
  exact rdone_set _ HF1.out HL1.out (put_pc HR1.out _)

end Ms
end Go.Proofs.YtlnpadekgakghaaDoor
