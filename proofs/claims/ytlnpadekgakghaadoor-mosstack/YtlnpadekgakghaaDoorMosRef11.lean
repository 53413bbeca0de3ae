/-
  Contracts of the document's CPU: a step, an interrupt, a reset. Conditions: the state is one that there is, few bytes were written.
-/
import Derived.Test.YtlnpadekgakghaaDoorMosRef10
import Derived.Test.YtlnpadekgakghaaDoorMosKnown
namespace Go.Proofs.YtlnpadekgakghaaDoor
open Go.RowKit
namespace Ms
open Al (byte of_byte)
set_option linter.unusedVariables false

/-- What stands in the table, by the lowest two bits. -/
theorem rthird_any (w : World) (B q : Nat) (v : Value) (S : S14) (n : Nat) (what mode : Int) (H : RefAt w B q v S) (hO : Ok n S) (hn : n + 4 < 1000000000) (hB : B ≤ w.heap.size) (w0 : 0 ≤ what) (w7 : what ≤ 7) (m0 : 0 ≤ mode) (m7 : mode ≤ 7) (hk : known (32 * what + (4 * mode + 0)) = true) :
    Calls Tryd.prog 47 #[.pointer (some ⟨q, 0, none⟩), .int .i64 what, .int .i64 mode] w (RDone w B q v (third what mode S) (.int .i64 (thirdN what mode S))) := by
  have m : mode = 0 ∨ mode = 1 ∨ mode = 2 ∨ mode = 3 ∨ mode = 4 ∨ mode = 5 ∨ mode = 6 ∨ mode = 7 := by omega
  have c : what = 0 ∨ what = 1 ∨ what = 2 ∨ what = 3 ∨ what = 4 ∨ what = 5 ∨ what = 6 ∨ what = 7 := by omega
  rcases m with rfl | rfl | rfl | rfl | rfl | rfl | rfl | rfl
  · rcases c with rfl | rfl | rfl | rfl | rfl | rfl | rfl | rfl
    · exact rthird_0 w B q v S n 0 H hO hn (by omega) (by omega) hB
    · exact rthird_0 w B q v S n 1 H hO hn (by omega) (by omega) hB
    · exact rthird_0 w B q v S n 2 H hO hn (by omega) (by omega) hB
    · exact rthird_0 w B q v S n 3 H hO hn (by omega) (by omega) hB
    · exact absurd hk (by decide)
    · exact rthird_5_0 w B q v S n H hO hn hB
    · exact rthird_6_0 w B q v S n H hO hn hB
    · exact rthird_7_0 w B q v S n H hO hn hB
  · rcases c with rfl | rfl | rfl | rfl | rfl | rfl | rfl | rfl
    · exact absurd hk (by decide)
    · exact rthird_1_1 w B q v S n H hO hn hB
    · exact absurd hk (by decide)
    · exact absurd hk (by decide)
    · exact rthird_4_1 w B q v S n H hO hn hB
    · exact rthird_5_1 w B q v S n H hO hn hB
    · exact rthird_6_1 w B q v S n H hO hn hB
    · exact rthird_7_1 w B q v S n H hO hn hB
  · exact rthird_2 w B q v S n what H hO hn w0 w7 hB
  · rcases c with rfl | rfl | rfl | rfl | rfl | rfl | rfl | rfl
    · exact absurd hk (by decide)
    · exact rthird_1_3 w B q v S n H hO hn hB
    · exact rthird_2_3 w B q v S n H hO hn hB
    · exact rthird_3_3 w B q v S n H hO hn hB
    · exact rthird_4_3 w B q v S n H hO hn hB
    · exact rthird_5_3 w B q v S n H hO hn hB
    · exact rthird_6_3 w B q v S n H hO hn hB
    · exact rthird_7_3 w B q v S n H hO hn hB
  · exact rthird_4 w B q v S n what H hO hn w0 w7 hB
  · rcases c with rfl | rfl | rfl | rfl | rfl | rfl | rfl | rfl
    · exact absurd hk (by decide)
    · exact absurd hk (by decide)
    · exact absurd hk (by decide)
    · exact absurd hk (by decide)
    · exact rthird_4_5 w B q v S n H hO hn hB
    · exact rthird_5_5 w B q v S n H hO hn hB
    · exact absurd hk (by decide)
    · exact absurd hk (by decide)
  · exact rthird_6 w B q v S n what H hO hn w0 w7 hB
  · rcases c with rfl | rfl | rfl | rfl | rfl | rfl | rfl | rfl
    · exact absurd hk (by decide)
    · exact absurd hk (by decide)
    · exact absurd hk (by decide)
    · exact absurd hk (by decide)
    · exact absurd hk (by decide)
    · exact rthird_5_7 w B q v S n H hO hn hB
    · exact absurd hk (by decide)
    · exact absurd hk (by decide)
theorem rsecond_any (w : World) (B q : Nat) (v : Value) (S : S14) (n : Nat) (what mode : Int) (H : RefAt w B q v S) (hO : Ok n S) (hn : n + 4 < 1000000000) (hB : B ≤ w.heap.size) (w0 : 0 ≤ what) (w7 : what ≤ 7) (m0 : 0 ≤ mode) (m7 : mode ≤ 7) (hk : known (32 * what + (4 * mode + 2)) = true) :
    Calls Tryd.prog 49 #[.pointer (some ⟨q, 0, none⟩), .int .i64 what, .int .i64 mode] w (RDone w B q v (second what mode S) (.int .i64 (secondN what mode S))) := by
  have hn2 : n + 2 < 1000000000 := by omega
  have m : mode = 0 ∨ mode = 1 ∨ mode = 2 ∨ mode = 3 ∨ mode = 4 ∨ mode = 5 ∨ mode = 6 ∨ mode = 7 := by omega
  have c : what = 0 ∨ what = 1 ∨ what = 2 ∨ what = 3 ∨ what = 4 ∨ what = 5 ∨ what = 6 ∨ what = 7 := by omega
  rcases m with rfl | rfl | rfl | rfl | rfl | rfl | rfl | rfl
  · rcases c with rfl | rfl | rfl | rfl | rfl | rfl | rfl | rfl
    · exact absurd hk (by decide)
    · exact absurd hk (by decide)
    · exact absurd hk (by decide)
    · exact absurd hk (by decide)
    · exact absurd hk (by decide)
    · exact rsecond_0 w B q v S n H hO hn2 hB
    · exact absurd hk (by decide)
    · exact absurd hk (by decide)
  · rcases c with rfl | rfl | rfl | rfl | rfl | rfl | rfl | rfl
    · exact rsecond_C1 w B q v S n 0 H hO hn2 (by omega) hB
    · exact rsecond_C1 w B q v S n 1 H hO hn2 (by omega) hB
    · exact rsecond_C1 w B q v S n 2 H hO hn2 (by omega) hB
    · exact rsecond_C1 w B q v S n 3 H hO hn2 (by omega) hB
    · exact rsecond_L41 w B q v S n H hO hn2 hB
    · exact rsecond_L51 w B q v S n H hO hn2 hB
    · exact rsecond_C1 w B q v S n 6 H hO hn2 (by omega) hB
    · exact rsecond_C1 w B q v S n 7 H hO hn2 (by omega) hB
  · rcases c with rfl | rfl | rfl | rfl | rfl | rfl | rfl | rfl
    · exact rsecond_2 w B q v S n 0 H hO hn2 (by omega) (by omega) hB
    · exact rsecond_2 w B q v S n 1 H hO hn2 (by omega) (by omega) hB
    · exact rsecond_2 w B q v S n 2 H hO hn2 (by omega) (by omega) hB
    · exact rsecond_2 w B q v S n 3 H hO hn2 (by omega) (by omega) hB
    · exact rsecond_102 w B q v S n 4 H hO hn2 (by omega) (by omega) hB
    · exact rsecond_102 w B q v S n 5 H hO hn2 (by omega) (by omega) hB
    · exact rsecond_102 w B q v S n 6 H hO hn2 (by omega) (by omega) hB
    · exact rsecond_102 w B q v S n 7 H hO hn2 (by omega) (by omega) hB
  · rcases c with rfl | rfl | rfl | rfl | rfl | rfl | rfl | rfl
    · exact rsecond_C3 w B q v S n 0 H hO hn2 (by omega) hB
    · exact rsecond_C3 w B q v S n 1 H hO hn2 (by omega) hB
    · exact rsecond_C3 w B q v S n 2 H hO hn2 (by omega) hB
    · exact rsecond_C3 w B q v S n 3 H hO hn2 (by omega) hB
    · exact rsecond_L43 w B q v S n H hO hn2 hB
    · exact rsecond_L53 w B q v S n H hO hn2 hB
    · exact rsecond_C3 w B q v S n 6 H hO hn2 (by omega) hB
    · exact rsecond_C3 w B q v S n 7 H hO hn2 (by omega) hB
  · rcases c with rfl | rfl | rfl | rfl | rfl | rfl | rfl | rfl
    · exact absurd hk (by decide)
    · exact absurd hk (by decide)
    · exact absurd hk (by decide)
    · exact absurd hk (by decide)
    · exact absurd hk (by decide)
    · exact absurd hk (by decide)
    · exact absurd hk (by decide)
    · exact absurd hk (by decide)
  · rcases c with rfl | rfl | rfl | rfl | rfl | rfl | rfl | rfl
    · exact rsecond_C5 w B q v S n 0 H hO hn2 (by omega) hB
    · exact rsecond_C5 w B q v S n 1 H hO hn2 (by omega) hB
    · exact rsecond_C5 w B q v S n 2 H hO hn2 (by omega) hB
    · exact rsecond_C5 w B q v S n 3 H hO hn2 (by omega) hB
    · exact rsecond_L45 w B q v S n H hO hn2 hB
    · exact rsecond_L55 w B q v S n H hO hn2 hB
    · exact rsecond_C5 w B q v S n 6 H hO hn2 (by omega) hB
    · exact rsecond_C5 w B q v S n 7 H hO hn2 (by omega) hB
  · rcases c with rfl | rfl | rfl | rfl | rfl | rfl | rfl | rfl
    · exact absurd hk (by decide)
    · exact absurd hk (by decide)
    · exact absurd hk (by decide)
    · exact absurd hk (by decide)
    · exact rsecond_6 w B q v S n 4 H hO hn2 (by omega) hB
    · exact rsecond_6 w B q v S n 5 H hO hn2 (by omega) hB
    · exact absurd hk (by decide)
    · exact absurd hk (by decide)
  · rcases c with rfl | rfl | rfl | rfl | rfl | rfl | rfl | rfl
    · exact rsecond_C7 w B q v S n 0 H hO hn2 (by omega) hB
    · exact rsecond_C7 w B q v S n 1 H hO hn2 (by omega) hB
    · exact rsecond_C7 w B q v S n 2 H hO hn2 (by omega) hB
    · exact rsecond_C7 w B q v S n 3 H hO hn2 (by omega) hB
    · exact absurd hk (by decide)
    · exact rsecond_L57 w B q v S n H hO hn2 hB
    · exact rsecond_C7 w B q v S n 6 H hO hn2 (by omega) hB
    · exact rsecond_C7 w B q v S n 7 H hO hn2 (by omega) hB
theorem rmain_any (w : World) (B q : Nat) (v : Value) (S : S14) (n : Nat) (what mode : Int) (H : RefAt w B q v S) (hO : Ok n S) (hn : n + 4 < 1000000000) (hB : B ≤ w.heap.size) (w0 : 0 ≤ what) (w7 : what ≤ 7) (m0 : 0 ≤ mode) (m7 : mode ≤ 7) :
    Calls Tryd.prog 48 #[.pointer (some ⟨q, 0, none⟩), .int .i64 what, .int .i64 mode] w (RDone w B q v (main what mode S) (.int .i64 (mainN what mode S))) := by
  have hn2 : n + 2 < 1000000000 := by omega
  have c : what = 0 ∨ what = 1 ∨ what = 2 ∨ what = 3 ∨ what = 4 ∨ what = 5 ∨ what = 6 ∨ what = 7 := by omega
  rcases c with rfl | rfl | rfl | rfl | rfl | rfl | rfl | rfl
  · exact rmain0 w B q v S n mode H hO hn2 m0 (by omega) hB
  · exact rmain1 w B q v S n mode H hO hn2 m0 (by omega) hB
  · exact rmain2 w B q v S n mode H hO hn2 m0 (by omega) hB
  · exact rmain3 w B q v S n mode H hO hn2 m0 (by omega) hB
  · exact rmain4 w B q v S n mode H hO hn2 m0 (by omega) hB
  · exact rmain5 w B q v S n mode H hO hn2 m0 (by omega) hB
  · exact rmain6 w B q v S n mode H hO hn2 m0 (by omega) hB
  · exact rmain7 w B q v S n mode H hO hn2 m0 (by omega) hB

set_option maxRecDepth 100000 in
set_option maxHeartbeats 4000000 in
theorem rdone_0a (w : World) (B q : Nat) (v : Value) (S : S14) (n : Nat) (op what mode : Int) (H : RefAt w B q v S) (hO : Ok n S) (hn : n + 4 < 1000000000) (hB : B ≤ w.heap.size) (h0 : 0 ≤ op) (h1 : op < 256) (hw : op / 32 = what) (hm : op / 4 % 8 = mode) (hc : op % 4 = 0) (hk : known (32 * what + (4 * mode + 0)) = true) (hne : ¬ what = 4) :
    Calls Tryd.prog 25 #[.pointer (some ⟨q, 0, none⟩), .int .u8 op] w (RDone w B q v (third what mode S) (.int .i64 (thirdN what mode S))) := by
  have HC : Hid (∀ W V, RefAt W B q V S → B ≤ W.heap.size → Calls Tryd.prog 47 #[.pointer (some ⟨q, 0, none⟩), .int .i64 what, .int .i64 mode] W (RDone W B q V (third what mode S) (.int .i64 (thirdN what mode S)))) := Lib.hid (fun W V hr hb => rthird_any W B q V S n what mode hr hO hn hb (by omega) (by omega) (by omega) (by omega) hk)
  have hw' : op.tdiv 32 = what := by rw [Int.tdiv_eq_ediv_of_nonneg h0]; exact hw
  obtain ⟨k4, hk4⟩ : ∃ z, op / 4 = z := ⟨_, rfl⟩
  have hk4' : op.tdiv 4 = k4 := by rw [Int.tdiv_eq_ediv_of_nonneg h0]; exact hk4
  rw [hk4] at hm
  have k40 : 0 ≤ k4 := by omega
  have k41 : k4 < 64 := by omega
  have hm' : k4.tmod 8 = mode := by rw [Int.tmod_eq_emod_of_nonneg k40]; exact hm
  have hc' : op.tmod 4 = 0 := by rw [Int.tmod_eq_emod_of_nonneg h0]; exact hc
  have wc : IntKind.u8.wrap 0 = 0 := by rw [IntKind.wrap_u8]; omega
  have w0 : 0 ≤ what := by omega
  have w7 : what ≤ 7 := by omega
  have m0 : 0 ≤ mode := by omega
  have m7 : mode ≤ 7 := by omega
  have nw : (what == 4) = false := by rw [beq_eq_false_iff_ne]; exact hne
  have HR0 := Lib.hid H
  have HF0 : Hid (Fr (foot q v) w w) := Lib.hid (Fr.refl _ w)
  have HL0 : Hid (Lies w v v) := Lib.hid (Lies.refl w v)
  have HB0 := Lib.hid hB
  generalize third what mode S = T at *
  generalize thirdN what mode S = N at *
  clear H hO hB hn
  go_enter Tryd.func25, Tryd.ntmps25
  go_wp2_with fail
  (with_reducible refine (HC.out w v HR0.out HB0.out).mono ?_)
  intro e w1 hd
  obtain ⟨rfl, v1, hr, hf, hl⟩ := rdone_tr HF0.out HL0.out hd
  change RefAt w1 B q v1 T at hr
  have HR1 := Lib.hid hr
  have HF1 := Lib.hid hf
  have HL1 := Lib.hid hl
  have HB1 := Lib.hid (Nat.le_trans HB0.out hf.size)
  clear hd hr hf hl
  go_wp2
  go_ret
  exact ⟨rfl, v1, HR1.out, HF1.out, HL1.out⟩

set_option maxRecDepth 100000 in
set_option maxHeartbeats 4000000 in
theorem rdone_0b (w : World) (B q : Nat) (v : Value) (S : S14) (n : Nat) (op what mode : Int) (H : RefAt w B q v S) (hO : Ok n S) (hn : n + 4 < 1000000000) (hB : B ≤ w.heap.size) (h0 : 0 ≤ op) (h1 : op < 256) (hw : op / 32 = what) (hm : op / 4 % 8 = mode) (hc : op % 4 = 0) (hk : known (32 * what + (4 * mode + 0)) = true) (he : what = 4) (h40 : ¬ mode = 0) (h47 : ¬ mode = 7) :
    Calls Tryd.prog 25 #[.pointer (some ⟨q, 0, none⟩), .int .u8 op] w (RDone w B q v (third what mode S) (.int .i64 (thirdN what mode S))) := by
  subst he
  have HC : Hid (∀ W V, RefAt W B q V S → B ≤ W.heap.size → Calls Tryd.prog 47 #[.pointer (some ⟨q, 0, none⟩), .int .i64 4, .int .i64 mode] W (RDone W B q V (third 4 mode S) (.int .i64 (thirdN 4 mode S)))) := Lib.hid (fun W V hr hb => rthird_any W B q V S n 4 mode hr hO hn hb (by omega) (by omega) (by omega) (by omega) hk)
  have hw' : op.tdiv 32 = 4 := by rw [Int.tdiv_eq_ediv_of_nonneg h0]; exact hw
  obtain ⟨k4, hk4⟩ : ∃ z, op / 4 = z := ⟨_, rfl⟩
  have hk4' : op.tdiv 4 = k4 := by rw [Int.tdiv_eq_ediv_of_nonneg h0]; exact hk4
  rw [hk4] at hm
  have k40 : 0 ≤ k4 := by omega
  have k41 : k4 < 64 := by omega
  have hm' : k4.tmod 8 = mode := by rw [Int.tmod_eq_emod_of_nonneg k40]; exact hm
  have hc' : op.tmod 4 = 0 := by rw [Int.tmod_eq_emod_of_nonneg h0]; exact hc
  have wc : IntKind.u8.wrap 0 = 0 := by rw [IntKind.wrap_u8]; omega
  have w0 : 0 ≤ 4 := by omega
  have w7 : 4 ≤ 7 := by omega
  have m0 : 0 ≤ mode := by omega
  have m7 : mode ≤ 7 := by omega
  have n0 : (mode == 0) = false := by rw [beq_eq_false_iff_ne]; exact h40
  have n7 : (mode == 7) = false := by rw [beq_eq_false_iff_ne]; exact h47
  have HR0 := Lib.hid H
  have HF0 : Hid (Fr (foot q v) w w) := Lib.hid (Fr.refl _ w)
  have HL0 : Hid (Lies w v v) := Lib.hid (Lies.refl w v)
  have HB0 := Lib.hid hB
  generalize third 4 mode S = T at *
  generalize thirdN 4 mode S = N at *
  clear H hO hB hn
  go_enter Tryd.func25, Tryd.ntmps25
  go_wp2_with fail
  (with_reducible refine (HC.out w v HR0.out HB0.out).mono ?_)
  intro e w1 hd
  obtain ⟨rfl, v1, hr, hf, hl⟩ := rdone_tr HF0.out HL0.out hd
  change RefAt w1 B q v1 T at hr
  have HR1 := Lib.hid hr
  have HF1 := Lib.hid hf
  have HL1 := Lib.hid hl
  have HB1 := Lib.hid (Nat.le_trans HB0.out hf.size)
  clear hd hr hf hl
  go_wp2
  go_ret
  exact ⟨rfl, v1, HR1.out, HF1.out, HL1.out⟩

set_option maxRecDepth 100000 in
set_option maxHeartbeats 4000000 in
theorem rdone_1a (w : World) (B q : Nat) (v : Value) (S : S14) (n : Nat) (op what mode : Int) (H : RefAt w B q v S) (hO : Ok n S) (hn : n + 4 < 1000000000) (hB : B ≤ w.heap.size) (h0 : 0 ≤ op) (h1 : op < 256) (hw : op / 32 = what) (hm : op / 4 % 8 = mode) (hc : op % 4 = 1) (hne : ¬ what = 4) :
    Calls Tryd.prog 25 #[.pointer (some ⟨q, 0, none⟩), .int .u8 op] w (RDone w B q v (main what mode S) (.int .i64 (mainN what mode S))) := by
  have HC : Hid (∀ W V, RefAt W B q V S → B ≤ W.heap.size → Calls Tryd.prog 48 #[.pointer (some ⟨q, 0, none⟩), .int .i64 what, .int .i64 mode] W (RDone W B q V (main what mode S) (.int .i64 (mainN what mode S)))) := Lib.hid (fun W V hr hb => rmain_any W B q V S n what mode hr hO hn hb (by omega) (by omega) (by omega) (by omega))
  have hw' : op.tdiv 32 = what := by rw [Int.tdiv_eq_ediv_of_nonneg h0]; exact hw
  obtain ⟨k4, hk4⟩ : ∃ z, op / 4 = z := ⟨_, rfl⟩
  have hk4' : op.tdiv 4 = k4 := by rw [Int.tdiv_eq_ediv_of_nonneg h0]; exact hk4
  rw [hk4] at hm
  have k40 : 0 ≤ k4 := by omega
  have k41 : k4 < 64 := by omega
  have hm' : k4.tmod 8 = mode := by rw [Int.tmod_eq_emod_of_nonneg k40]; exact hm
  have hc' : op.tmod 4 = 1 := by rw [Int.tmod_eq_emod_of_nonneg h0]; exact hc
  have wc : IntKind.u8.wrap 1 = 1 := by rw [IntKind.wrap_u8]; omega
  have w0 : 0 ≤ what := by omega
  have w7 : what ≤ 7 := by omega
  have m0 : 0 ≤ mode := by omega
  have m7 : mode ≤ 7 := by omega
  have nw : (what == 4) = false := by rw [beq_eq_false_iff_ne]; exact hne
  have HR0 := Lib.hid H
  have HF0 : Hid (Fr (foot q v) w w) := Lib.hid (Fr.refl _ w)
  have HL0 : Hid (Lies w v v) := Lib.hid (Lies.refl w v)
  have HB0 := Lib.hid hB
  generalize main what mode S = T at *
  generalize mainN what mode S = N at *
  clear H hO hB hn
  go_enter Tryd.func25, Tryd.ntmps25
  go_wp2_with fail
  (with_reducible refine (HC.out w v HR0.out HB0.out).mono ?_)
  intro e w1 hd
  obtain ⟨rfl, v1, hr, hf, hl⟩ := rdone_tr HF0.out HL0.out hd
  change RefAt w1 B q v1 T at hr
  have HR1 := Lib.hid hr
  have HF1 := Lib.hid hf
  have HL1 := Lib.hid hl
  have HB1 := Lib.hid (Nat.le_trans HB0.out hf.size)
  clear hd hr hf hl
  go_wp2
  go_ret
  exact ⟨rfl, v1, HR1.out, HF1.out, HL1.out⟩

set_option maxRecDepth 100000 in
set_option maxHeartbeats 4000000 in
theorem rdone_1b (w : World) (B q : Nat) (v : Value) (S : S14) (n : Nat) (op what mode : Int) (H : RefAt w B q v S) (hO : Ok n S) (hn : n + 4 < 1000000000) (hB : B ≤ w.heap.size) (h0 : 0 ≤ op) (h1 : op < 256) (hw : op / 32 = what) (hm : op / 4 % 8 = mode) (hc : op % 4 = 1) (he : what = 4) (h42 : ¬ mode = 2) :
    Calls Tryd.prog 25 #[.pointer (some ⟨q, 0, none⟩), .int .u8 op] w (RDone w B q v (main what mode S) (.int .i64 (mainN what mode S))) := by
  subst he
  have HC : Hid (∀ W V, RefAt W B q V S → B ≤ W.heap.size → Calls Tryd.prog 48 #[.pointer (some ⟨q, 0, none⟩), .int .i64 4, .int .i64 mode] W (RDone W B q V (main 4 mode S) (.int .i64 (mainN 4 mode S)))) := Lib.hid (fun W V hr hb => rmain_any W B q V S n 4 mode hr hO hn hb (by omega) (by omega) (by omega) (by omega))
  have hw' : op.tdiv 32 = 4 := by rw [Int.tdiv_eq_ediv_of_nonneg h0]; exact hw
  obtain ⟨k4, hk4⟩ : ∃ z, op / 4 = z := ⟨_, rfl⟩
  have hk4' : op.tdiv 4 = k4 := by rw [Int.tdiv_eq_ediv_of_nonneg h0]; exact hk4
  rw [hk4] at hm
  have k40 : 0 ≤ k4 := by omega
  have k41 : k4 < 64 := by omega
  have hm' : k4.tmod 8 = mode := by rw [Int.tmod_eq_emod_of_nonneg k40]; exact hm
  have hc' : op.tmod 4 = 1 := by rw [Int.tmod_eq_emod_of_nonneg h0]; exact hc
  have wc : IntKind.u8.wrap 1 = 1 := by rw [IntKind.wrap_u8]; omega
  have w0 : 0 ≤ 4 := by omega
  have w7 : 4 ≤ 7 := by omega
  have m0 : 0 ≤ mode := by omega
  have m7 : mode ≤ 7 := by omega
  have n2 : (mode == 2) = false := by rw [beq_eq_false_iff_ne]; exact h42
  have HR0 := Lib.hid H
  have HF0 : Hid (Fr (foot q v) w w) := Lib.hid (Fr.refl _ w)
  have HL0 : Hid (Lies w v v) := Lib.hid (Lies.refl w v)
  have HB0 := Lib.hid hB
  generalize main 4 mode S = T at *
  generalize mainN 4 mode S = N at *
  clear H hO hB hn
  go_enter Tryd.func25, Tryd.ntmps25
  go_wp2_with fail
  (with_reducible refine (HC.out w v HR0.out HB0.out).mono ?_)
  intro e w1 hd
  obtain ⟨rfl, v1, hr, hf, hl⟩ := rdone_tr HF0.out HL0.out hd
  change RefAt w1 B q v1 T at hr
  have HR1 := Lib.hid hr
  have HF1 := Lib.hid hf
  have HL1 := Lib.hid hl
  have HB1 := Lib.hid (Nat.le_trans HB0.out hf.size)
  clear hd hr hf hl
  go_wp2
  go_ret
  exact ⟨rfl, v1, HR1.out, HF1.out, HL1.out⟩

set_option maxRecDepth 100000 in
set_option maxHeartbeats 4000000 in
theorem rdone_2 (w : World) (B q : Nat) (v : Value) (S : S14) (n : Nat) (op what mode : Int) (H : RefAt w B q v S) (hO : Ok n S) (hn : n + 4 < 1000000000) (hB : B ≤ w.heap.size) (h0 : 0 ≤ op) (h1 : op < 256) (hw : op / 32 = what) (hm : op / 4 % 8 = mode) (hc : op % 4 = 2) (hk : known (32 * what + (4 * mode + 2)) = true) :
    Calls Tryd.prog 25 #[.pointer (some ⟨q, 0, none⟩), .int .u8 op] w (RDone w B q v (second what mode S) (.int .i64 (secondN what mode S))) := by
  have HC : Hid (∀ W V, RefAt W B q V S → B ≤ W.heap.size → Calls Tryd.prog 49 #[.pointer (some ⟨q, 0, none⟩), .int .i64 what, .int .i64 mode] W (RDone W B q V (second what mode S) (.int .i64 (secondN what mode S)))) := Lib.hid (fun W V hr hb => rsecond_any W B q V S n what mode hr hO hn hb (by omega) (by omega) (by omega) (by omega) hk)
  have hw' : op.tdiv 32 = what := by rw [Int.tdiv_eq_ediv_of_nonneg h0]; exact hw
  obtain ⟨k4, hk4⟩ : ∃ z, op / 4 = z := ⟨_, rfl⟩
  have hk4' : op.tdiv 4 = k4 := by rw [Int.tdiv_eq_ediv_of_nonneg h0]; exact hk4
  rw [hk4] at hm
  have k40 : 0 ≤ k4 := by omega
  have k41 : k4 < 64 := by omega
  have hm' : k4.tmod 8 = mode := by rw [Int.tmod_eq_emod_of_nonneg k40]; exact hm
  have hc' : op.tmod 4 = 2 := by rw [Int.tmod_eq_emod_of_nonneg h0]; exact hc
  have wc : IntKind.u8.wrap 2 = 2 := by rw [IntKind.wrap_u8]; omega
  have w0 : 0 ≤ what := by omega
  have w7 : what ≤ 7 := by omega
  have m0 : 0 ≤ mode := by omega
  have m7 : mode ≤ 7 := by omega
  have HR0 := Lib.hid H
  have HF0 : Hid (Fr (foot q v) w w) := Lib.hid (Fr.refl _ w)
  have HL0 : Hid (Lies w v v) := Lib.hid (Lies.refl w v)
  have HB0 := Lib.hid hB
  generalize second what mode S = T at *
  generalize secondN what mode S = N at *
  clear H hO hB hn
  go_enter Tryd.func25, Tryd.ntmps25
  go_wp2_with fail
  (with_reducible refine (HC.out w v HR0.out HB0.out).mono ?_)
  intro e w1 hd
  obtain ⟨rfl, v1, hr, hf, hl⟩ := rdone_tr HF0.out HL0.out hd
  change RefAt w1 B q v1 T at hr
  have HR1 := Lib.hid hr
  have HF1 := Lib.hid hf
  have HL1 := Lib.hid hl
  have HB1 := Lib.hid (Nat.le_trans HB0.out hf.size)
  clear hd hr hf hl
  go_wp2
  go_ret
  exact ⟨rfl, v1, HR1.out, HF1.out, HL1.out⟩

theorem known3 : ∀ op, byte op → op % 4 = 3 → known op = false := of_byte _ (by decide +kernel)
theorem known1 : ∀ op, byte op → (op % 4 = 1 → op / 32 = 4 → op / 4 % 8 = 2 → known op = false) := of_byte _ (by decide +kernel)
theorem known0 : ∀ op, byte op → (op % 4 = 0 → op / 32 = 4 → (op / 4 % 8 = 0 ∨ op / 4 % 8 = 7) → known op = false) := of_byte _ (by decide +kernel)
theorem rdone_any (w : World) (B q : Nat) (v : Value) (S : S14) (n : Nat) (op : Int) (H : RefAt w B q v S) (hO : Ok n S) (hn : n + 4 < 1000000000) (hB : B ≤ w.heap.size) (hb : byte op) (hk : known op = true) :
    Calls Tryd.prog 25 #[.pointer (some ⟨q, 0, none⟩), .int .u8 op] w (RDone w B q v (done op S) (.int .i64 (doneN op S))) := by
  obtain ⟨h0, h1⟩ := hb
  have hc : op % 4 = 0 ∨ op % 4 = 1 ∨ op % 4 = 2 ∨ op % 4 = 3 := by omega
  rcases hc with hc | hc | hc | hc
  · have e : 32 * (op / 32) + (4 * (op / 4 % 8) + 0) = op := by omega
    rw [show done op S = third (op / 32) (op / 4 % 8) S by unfold done; rw [if_pos hc], show doneN op S = thirdN (op / 32) (op / 4 % 8) S by unfold doneN; rw [if_pos hc]]
    by_cases h4 : op / 32 = 4
    · refine rdone_0b w B q v S n op _ _ H hO hn hB h0 h1 rfl rfl hc (by rw [e]; exact hk) h4 (fun hm => ?_) (fun hm => ?_)
      · rw [known0 op ⟨h0, h1⟩ hc h4 (.inl hm)] at hk; cases hk
      · rw [known0 op ⟨h0, h1⟩ hc h4 (.inr hm)] at hk; cases hk
    · exact rdone_0a w B q v S n op _ _ H hO hn hB h0 h1 rfl rfl hc (by rw [e]; exact hk) h4
  · rw [show done op S = main (op / 32) (op / 4 % 8) S by unfold done; rw [if_neg (by omega), if_pos hc], show doneN op S = mainN (op / 32) (op / 4 % 8) S by unfold doneN; rw [if_neg (by omega), if_pos hc]]
    by_cases h4 : op / 32 = 4
    · refine rdone_1b w B q v S n op _ _ H hO hn hB h0 h1 rfl rfl hc h4 (fun hm => ?_)
      rw [known1 op ⟨h0, h1⟩ hc h4 hm] at hk; cases hk
    · exact rdone_1a w B q v S n op _ _ H hO hn hB h0 h1 rfl rfl hc h4
  · have e : 32 * (op / 32) + (4 * (op / 4 % 8) + 2) = op := by omega
    rw [show done op S = second (op / 32) (op / 4 % 8) S by unfold done; rw [if_neg (by omega), if_neg (by omega)], show doneN op S = secondN (op / 32) (op / 4 % 8) S by unfold doneN; rw [if_neg (by omega), if_neg (by omega)]]
    exact rdone_2 w B q v S n op _ _ H hO hn hB h0 h1 rfl rfl hc (by rw [e]; exact hk)
  · rw [known3 op ⟨h0, h1⟩ hc] at hk; cases hk

set_option maxRecDepth 100000 in
set_option maxHeartbeats 4000000 in
theorem rstep_any (w : World) (B q : Nat) (v : Value) (S : S14) (n : Nat) (H : RefAt w B q v S) (hO : Ok n S) (hn : n + 5 < 1000000000) (hB : B ≤ w.heap.size) :
    Calls Tryd.prog 13 #[.pointer (some ⟨q, 0, none⟩)] w (RDone w B q v (step S) (.int .i64 (stepN S))) := by
  have HO := Lib.hid hO
  have HN := Lib.hid hn
  obtain ⟨a, x, y, s, p, pc, h, b⟩ := S
  obtain ⟨pc0, pc1⟩ : 0 ≤ pc ∧ pc < 65536 := hO.pc
  have HR0 := Lib.hid H
  have HF0 : Hid (Fr (foot q v) w w) := Lib.hid (Fr.refl _ w)
  have HL0 : Hid (Lies w v v) := Lib.hid (Lies.refl w v)
  have HB0 := Lib.hid hB
  have hv := nextV_byte hO
  have hx := ok_next hO
  have HVM : Hid (b.m pc = nextV (⟨a, x, y, s, p, pc, h, b⟩ : S14)) := Lib.hid rfl
  have hPC : next (⟨a, x, y, s, p, pc, h, b⟩ : S14) = ⟨a, x, y, s, p, (pc + 1) % 65536, h, b⟩ := rfl
  rw [hPC] at hx
  have HX := Lib.hid hx
  have hS : step (⟨a, x, y, s, p, pc, h, b⟩ : S14) = if h then (⟨a, x, y, s, p, pc, h, b⟩ : S14) else if known (nextV (⟨a, x, y, s, p, pc, h, b⟩ : S14)) then done (nextV (⟨a, x, y, s, p, pc, h, b⟩ : S14)) (next (⟨a, x, y, s, p, pc, h, b⟩ : S14)) else ⟨a, x, y, s, p, pc, true, b⟩ := rfl
  have hM : stepN (⟨a, x, y, s, p, pc, h, b⟩ : S14) = if h then 0 else if known (nextV (⟨a, x, y, s, p, pc, h, b⟩ : S14)) then doneN (nextV (⟨a, x, y, s, p, pc, h, b⟩ : S14)) (next (⟨a, x, y, s, p, pc, h, b⟩ : S14)) else 0 := rfl
  rw [hS, hM, hPC]
  clear hS hM hPC
  generalize nextV (⟨a, x, y, s, p, pc, h, b⟩ : S14) = M at *
  have HM := Lib.hid hv
  have HKn := Lib.hid (fun W => rknown_any W M hv)
  obtain ⟨m0, m1⟩ := hv
  obtain ⟨P, hP⟩ : ∃ P, (pc + 1) % 65536 = P := ⟨_, rfl⟩
  have wP : IntKind.u16.wrap (pc + 1) = P := by rw [IntKind.wrap_u16]; exact hP
  have P0 : 0 ≤ P := by omega
  have P1 : P < 65536 := by omega
  rw [hP] at HX ⊢
  have HPC := Lib.hid hO.pc
  clear H hO hB hn hx hP
  cases h
  · simp only [Bool.false_eq_true, if_false]
    obtain ⟨K, hK⟩ : ∃ K, known M = K := ⟨_, rfl⟩
    have HK := Lib.hid hK
    rw [hK] at HKn ⊢
    clear hK
    cases K
    · simp only [Bool.false_eq_true, if_false]
      go_enter Tryd.func13, Tryd.ntmps13
      obtain ⟨c0, c1, c2, c3, c4, c5, c6⟩ := regs HR0.out
      have f6 := RefAt.frozen HR0.out 6
      clear c0 c1 c2 c3 c4
      go_wp2_with fail
      (with_reducible refine (rread_any w B q v ⟨a, x, y, s, p, pc, false, b⟩ pc HR0.out HPC.out).mono ?_)
      rintro e wq ⟨rfl, rfl⟩
      rw [show (St.b (⟨a, x, y, s, p, pc, false, b⟩ : S14)).m pc = M from HVM.out]
      go_wp2_with fail
      (with_reducible refine (HKn.out w).mono ?_)
      rintro e wq ⟨rfl, rfl⟩
      go_wp2
      go_ret
      exact rdone_set _ HF0.out HL0.out (put_h HR0.out _)
    · simp only [if_true]
      have HD : Hid (∀ W V, RefAt W B q V (⟨a, x, y, s, p, P, false, b⟩ : S14) → B ≤ W.heap.size → Calls Tryd.prog 25 #[.pointer (some ⟨q, 0, none⟩), .int .u8 M] W (RDone W B q V (done M (⟨a, x, y, s, p, P, false, b⟩ : S14)) (.int .i64 (doneN M (⟨a, x, y, s, p, P, false, b⟩ : S14))))) := Lib.hid (fun W V hr hb => rdone_any W B q V _ n M hr HX.out (by have := HN.out; omega) hb HM.out HK.out)
      generalize done M (⟨a, x, y, s, p, P, false, b⟩ : S14) = T at *
      generalize doneN M (⟨a, x, y, s, p, P, false, b⟩ : S14) = N at *
      go_enter Tryd.func13, Tryd.ntmps13
      obtain ⟨c0, c1, c2, c3, c4, c5, c6⟩ := regs HR0.out
      have f5 := RefAt.frozen HR0.out 5
      clear c0 c1 c2 c3 c4
      go_wp2_with fail
      (with_reducible refine (rread_any w B q v ⟨a, x, y, s, p, pc, false, b⟩ pc HR0.out HPC.out).mono ?_)
      rintro e wq ⟨rfl, rfl⟩
      rw [show (St.b (⟨a, x, y, s, p, pc, false, b⟩ : S14)).m pc = M from HVM.out]
      go_wp2_with fail
      (with_reducible refine (HKn.out w).mono ?_)
      rintro e wq ⟨rfl, rfl⟩
      have HR1 : Hid (RefAt (w.setCell ⟨q, 5, none⟩ (.int .u16 (P))) B q v ⟨a, x, y, s, p, P, false, b⟩) := Lib.hid (put_pc HR0.out _)
      have HF1 : Hid (Fr (foot q v) w (w.setCell ⟨q, 5, none⟩ (.int .u16 (P)))) := Lib.hid (HF0.out.setCell (by simp [foot]) _)
      have HL1 := Lib.hid HL0.out
      have HB1 : Hid (B ≤ (w.setCell ⟨q, 5, none⟩ (.int .u16 (P))).heap.size) := Lib.hid (Nat.le_trans HB0.out HF1.out.size)
      go_upto_region 8 with fail
      clear c5 c6 f5
      generalize w.setCell _ _ = w1 at *
      go_wp2_with fail
      (with_reducible refine (HD.out w1 v HR1.out HB1.out).mono ?_)
      intro e w2 hd
      obtain ⟨rfl, v2, hr, hf, hl⟩ := rdone_tr HF1.out HL1.out hd
      change RefAt w2 B q v2 T at hr
      have HR2 := Lib.hid hr
      have HF2 := Lib.hid hf
      have HL2 := Lib.hid hl
      have HB2 := Lib.hid (Nat.le_trans HB0.out hf.size)
      clear hd hr hf hl
      go_wp2
      go_ret
      exact ⟨rfl, v2, HR2.out, HF2.out, HL2.out⟩
  · simp only [if_true]
    go_enter Tryd.func13, Tryd.ntmps13
    obtain ⟨c0, c1, c2, c3, c4, c5, c6⟩ := regs HR0.out
    clear c0 c1 c2 c3 c4 c5
    go_wp2
    go_ret
    exact ⟨rfl, v, HR0.out, HF0.out, HL0.out⟩

set_option maxRecDepth 100000 in
set_option maxHeartbeats 4000000 in
theorem rinterrupt_any (w : World) (B q : Nat) (v : Value) (S : S14) (n : Nat) (i : Int) (H : RefAt w B q v S) (hO : Ok n S) (hn : n + 5 < 1000000000) (hi : u16 i) (hB : B ≤ w.heap.size) :
    Calls Tryd.prog 16 #[.pointer (some ⟨q, 0, none⟩), .int .u16 i] w (RDone w B q v (interrupt S i) (.int .i64 (interruptN S))) := by
  have HO := Lib.hid hO
  have HN := Lib.hid hn
  obtain ⟨a, x, y, s, p, pc, h, b⟩ := S
  obtain ⟨pc0, pc1⟩ : 0 ≤ pc ∧ pc < 65536 := hO.pc
  obtain ⟨p0, p1⟩ : 0 ≤ p ∧ p < 256 := hO.p
  have HR0 := Lib.hid H
  have HF0 : Hid (Fr (foot q v) w w) := Lib.hid (Fr.refl _ w)
  have HL0 : Hid (Lies w v v) := Lib.hid (Lies.refl w v)
  have HB0 := Lib.hid hB
  cases h
  · have HP32 : Hid (byte (p + 32)) := Lib.hid (p32 hO)
    have q0 := HP32.out.1
    have q1 := HP32.out.2
    obtain ⟨j, hj⟩ : ∃ z, (i + 1) % 65536 = z := ⟨_, rfl⟩
    have wj : IntKind.u16.wrap (i + 1) = j := by rw [IntKind.wrap_u16]; exact hj
    have HJ : Hid (u16 j) := Lib.hid ⟨by omega, by omega⟩
    have HI := Lib.hid hi
    have j0 := HJ.out.1
    have j1 := HJ.out.2
    have hOA := ok_pushW pc hO HO.out.pc
    have hOB := ok_push (p + 32) hOA HP32.out
    have hA : pushW (⟨a, x, y, s, p, pc, false, b⟩ : S14) pc = ⟨a, x, y, (pushW (⟨a, x, y, s, p, pc, false, b⟩ : S14) pc).s, p, pc, false, (pushW (⟨a, x, y, s, p, pc, false, b⟩ : S14) pc).b⟩ := rfl
    have hB2 : push (pushW (⟨a, x, y, s, p, pc, false, b⟩ : S14) pc) (p + 32) = ⟨a, x, y, (push (pushW (⟨a, x, y, s, p, pc, false, b⟩ : S14) pc) (p + 32)).s, p, pc, false, (push (pushW (⟨a, x, y, s, p, pc, false, b⟩ : S14) pc) (p + 32)).b⟩ := rfl
    have hE : interrupt (⟨a, x, y, s, p, pc, false, b⟩ : S14) i = ⟨a, x, y, (push (pushW (⟨a, x, y, s, p, pc, false, b⟩ : S14) pc) (p + 32)).s, setF p 4 true, pairV (push (pushW (⟨a, x, y, s, p, pc, false, b⟩ : S14) pc) (p + 32)).b i j, false, (push (pushW (⟨a, x, y, s, p, pc, false, b⟩ : S14) pc) (p + 32)).b⟩ := by rw [← hj]; rfl
    have hM : interruptN (⟨a, x, y, s, p, pc, false, b⟩ : S14) = 7 := rfl
    rw [hE, hM]
    rw [hB2] at hOB
    rw [hA] at hOA
    have hu : u16 (pairV (push (pushW (⟨a, x, y, s, p, pc, false, b⟩ : S14) pc) (p + 32)).b i j) := pairV_u16 _ _ hOB.b
    have H2 : Hid (push (⟨a, x, y, (pushW (⟨a, x, y, s, p, pc, false, b⟩ : S14) pc).s, p, pc, false, (pushW (⟨a, x, y, s, p, pc, false, b⟩ : S14) pc).b⟩ : S14) (p + 32) = ⟨a, x, y, (push (pushW (⟨a, x, y, s, p, pc, false, b⟩ : S14) pc) (p + 32)).s, p, pc, false, (push (pushW (⟨a, x, y, s, p, pc, false, b⟩ : S14) pc) (p + 32)).b⟩) := Lib.hid rfl
    have H1 : Hid (pushW (⟨a, x, y, s, p, pc, false, b⟩ : S14) pc = ⟨a, x, y, (pushW (⟨a, x, y, s, p, pc, false, b⟩ : S14) pc).s, p, pc, false, (pushW (⟨a, x, y, s, p, pc, false, b⟩ : S14) pc).b⟩) := Lib.hid rfl
    clear hE hA hB2
    generalize (push (pushW (⟨a, x, y, s, p, pc, false, b⟩ : S14) pc) (p + 32)).s = S2 at *
    generalize (push (pushW (⟨a, x, y, s, p, pc, false, b⟩ : S14) pc) (p + 32)).b = B2 at *
    generalize (pushW (⟨a, x, y, s, p, pc, false, b⟩ : S14) pc).s = S1 at *
    generalize (pushW (⟨a, x, y, s, p, pc, false, b⟩ : S14) pc).b = B1 at *
    have HOA := Lib.hid hOA
    have hOC : Ok (n + 3) (⟨a, x, y, S2, setF p 4 true, pc, false, B2⟩ : S14) := ok_withP _ hOB (fl_setF _ _ _ isF4 hO.pf)
    have HPr : Hid (∀ W V, RefAt W B q V (⟨a, x, y, S2, setF p 4 true, pc, false, B2⟩ : S14) → Calls Tryd.prog 30 #[.pointer (some ⟨q, 0, none⟩), .int .u16 i, .int .u16 j] W fun e w' => e = .returned (.int .u16 (pairV B2 i j)) ∧ W = w') := Lib.hid (fun W V hr => rpair_any W B q V _ i j (n + 3) hr hOC HI.out HJ.out)
    generalize pairV B2 i j = V2 at *
    obtain ⟨u0, u1⟩ := hu
    obtain ⟨i0, i1⟩ := hi
    clear hOA hOB hOC hj hM H hO hB hn
    go_enter Tryd.func16, Tryd.ntmps16
    obtain ⟨c0, c1, c2, c3, c4, c5, c6⟩ := regs HR0.out
    clear c0 c1 c2 c3 c4
    go_wp2_with fail
    (with_reducible refine (rpushW_any w B q v (⟨a, x, y, s, p, pc, false, b⟩ : S14) n pc HR0.out HO.out (by have := HN.out; omega) HO.out.pc HB0.out).mono ?_)
    intro e w1 hd
    obtain ⟨rfl, v1, hr, hf, hl⟩ := rdone_tr HF0.out HL0.out hd
    rw [H1.out] at hr
    have HR1 := Lib.hid hr
    have HF1 := Lib.hid hf
    have HL1 := Lib.hid hl
    have HB1 := Lib.hid (Nat.le_trans HB0.out hf.size)
    clear hd hr hf hl
    clear c5 c6
    obtain ⟨c0, c1, c2, c3, c4, c5, c6⟩ := regs HR1.out
    clear c0 c1 c2 c3 c5 c6
    go_wp2_with fail
    (with_reducible refine (rpush_any w1 B q v1 (⟨a, x, y, S1, p, pc, false, B1⟩ : S14) (n + 2) (p + 32) HR1.out HOA.out (by have := HN.out; omega) HP32.out HB1.out).mono ?_)
    intro e w2 hd
    obtain ⟨rfl, v2, hr, hf, hl⟩ := rdone_tr HF1.out HL1.out hd
    rw [H2.out] at hr
    have HR2 := Lib.hid hr
    have HF2 := Lib.hid hf
    have HL2 := Lib.hid hl
    have HB2 := Lib.hid (Nat.le_trans HB0.out hf.size)
    clear hd hr hf hl
    clear c4
    go_wp2_with fail
    (with_reducible refine (rset_any w2 B q v2 (⟨a, x, y, S2, p, pc, false, B2⟩ : S14) 4 true HR2.out isF4 HO.out.p HB2.out).mono ?_)
    intro e w3 hd
    obtain ⟨rfl, v3, hr, hf, hl⟩ := rdone_tr HF2.out HL2.out hd
    change RefAt w3 B q v3 ⟨a, x, y, S2, setF p 4 true, pc, false, B2⟩ at hr
    have HR3 := Lib.hid hr
    have HF3 := Lib.hid hf
    have HL3 := Lib.hid hl
    have HB3 := Lib.hid (Nat.le_trans HB0.out hf.size)
    clear hd hr hf hl
    go_wp2_with fail
    (with_reducible refine (HPr.out w3 v3 HR3.out).mono ?_)
    rintro e wq ⟨rfl, rfl⟩
    obtain ⟨c0, c1, c2, c3, c4, c5, c6⟩ := regs HR3.out
    have f5 := RefAt.frozen HR3.out 5
    clear c0 c1 c2 c3 c4 c6
    go_wp2
    go_ret
    exact rdone_set _ HF3.out HL3.out (put_pc HR3.out _)
  · show Calls _ _ _ _ (RDone w B q v ⟨a, x, y, s, p, pc, true, b⟩ (.int .i64 0))
    clear H hO hB hn hi
    go_enter Tryd.func16, Tryd.ntmps16
    obtain ⟨c0, c1, c2, c3, c4, c5, c6⟩ := regs HR0.out
    clear c0 c1 c2 c3 c4 c5
    go_wp2
    go_ret
    exact ⟨rfl, v, HR0.out, HF0.out, HL0.out⟩

set_option maxRecDepth 100000 in
set_option maxHeartbeats 4000000 in
theorem rreset_any (w : World) (B q : Nat) (v : Value) (S : S14) (n : Nat) (H : RefAt w B q v S) (hO : Ok n S) (hn : n + 5 < 1000000000) (hB : B ≤ w.heap.size) :
    Calls Tryd.prog 18 #[.pointer (some ⟨q, 0, none⟩)] w (RDone w B q v (reset S) (.int .i64 7)) := by
  have HO := Lib.hid hO
  obtain ⟨a, x, y, s, p, pc, h, b⟩ := S
  have HR0 := Lib.hid H
  have HF0 : Hid (Fr (foot q v) w w) := Lib.hid (Fr.refl _ w)
  have HL0 : Hid (Lies w v v) := Lib.hid (Lies.refl w v)
  have HB0 := Lib.hid hB
  have hE : reset (⟨a, x, y, s, p, pc, h, b⟩ : S14) = ⟨0, 0, 0, 253, 4, pairV b 65532 65533, false, b⟩ := rfl
  rw [hE]
  have hu : u16 (pairV b 65532 65533) := pairV_u16 _ _ hO.b
  have hOC : Ok n (⟨0, 0, 0, 253, 4, pc, false, b⟩ : S14) := Ok.mk' ⟨by omega, by omega⟩ ⟨by omega, by omega⟩ ⟨by omega, by omega⟩ ⟨by omega, by omega⟩ ⟨⟨by omega, by omega⟩, by omega⟩ hO.pc hO.b
  have HPr : Hid (∀ W V, RefAt W B q V (⟨0, 0, 0, 253, 4, pc, false, b⟩ : S14) → Calls Tryd.prog 30 #[.pointer (some ⟨q, 0, none⟩), .int .u16 65532, .int .u16 65533] W fun e w' => e = .returned (.int .u16 (pairV b 65532 65533)) ∧ W = w') := Lib.hid (fun W V hr => rpair_any W B q V _ 65532 65533 n hr hOC ⟨by omega, by omega⟩ ⟨by omega, by omega⟩)
  generalize pairV b 65532 65533 = V2 at *
  obtain ⟨u0, u1⟩ := hu
  clear hE hOC H hO hB hn
  go_enter Tryd.func18, Tryd.ntmps18
  obtain ⟨c0, c1, c2, c3, c4, c5, c6⟩ := regs HR0.out
  have f0 := RefAt.frozen HR0.out 0
  clear c1 c2 c3 c4 c5 c6
  have HR1 : Hid (RefAt (w.setCell ⟨q, 0, none⟩ (.int .u8 (0))) B q v ⟨0, x, y, s, p, pc, h, b⟩) := Lib.hid (put_a HR0.out _)
  have HF1 : Hid (Fr (foot q v) w (w.setCell ⟨q, 0, none⟩ (.int .u8 (0)))) := Lib.hid (HF0.out.setCell (by simp [foot]) _)
  have HL1 := Lib.hid HL0.out
  have HB1 : Hid (B ≤ (w.setCell ⟨q, 0, none⟩ (.int .u8 (0))).heap.size) := Lib.hid (Nat.le_trans HB0.out HF1.out.size)
  go_upto_region 2 with fail
  clear c0 f0
  generalize w.setCell _ _ = w1 at *
  obtain ⟨c0, c1, c2, c3, c4, c5, c6⟩ := regs HR1.out
  have f1 := RefAt.frozen HR1.out 1
  clear c0 c2 c3 c4 c5 c6
  have HR2 : Hid (RefAt (w1.setCell ⟨q, 1, none⟩ (.int .u8 (0))) B q v ⟨0, 0, y, s, p, pc, h, b⟩) := Lib.hid (put_x HR1.out _)
  have HF2 : Hid (Fr (foot q v) w (w1.setCell ⟨q, 1, none⟩ (.int .u8 (0)))) := Lib.hid (HF1.out.setCell (by simp [foot]) _)
  have HL2 := Lib.hid HL1.out
  have HB2 : Hid (B ≤ (w1.setCell ⟨q, 1, none⟩ (.int .u8 (0))).heap.size) := Lib.hid (Nat.le_trans HB0.out HF2.out.size)
  go_upto_region 3 with fail
  clear c1 f1
  generalize w1.setCell _ _ = w2 at *
  obtain ⟨c0, c1, c2, c3, c4, c5, c6⟩ := regs HR2.out
  have f2 := RefAt.frozen HR2.out 2
  clear c0 c1 c3 c4 c5 c6
  have HR3 : Hid (RefAt (w2.setCell ⟨q, 2, none⟩ (.int .u8 (0))) B q v ⟨0, 0, 0, s, p, pc, h, b⟩) := Lib.hid (put_y HR2.out _)
  have HF3 : Hid (Fr (foot q v) w (w2.setCell ⟨q, 2, none⟩ (.int .u8 (0)))) := Lib.hid (HF2.out.setCell (by simp [foot]) _)
  have HL3 := Lib.hid HL2.out
  have HB3 : Hid (B ≤ (w2.setCell ⟨q, 2, none⟩ (.int .u8 (0))).heap.size) := Lib.hid (Nat.le_trans HB0.out HF3.out.size)
  go_upto_region 4 with fail
  clear c2 f2
  generalize w2.setCell _ _ = w3 at *
  obtain ⟨c0, c1, c2, c3, c4, c5, c6⟩ := regs HR3.out
  have f3 := RefAt.frozen HR3.out 3
  clear c0 c1 c2 c4 c5 c6
  have HR4 : Hid (RefAt (w3.setCell ⟨q, 3, none⟩ (.int .u8 (253))) B q v ⟨0, 0, 0, 253, p, pc, h, b⟩) := Lib.hid (put_s HR3.out _)
  have HF4 : Hid (Fr (foot q v) w (w3.setCell ⟨q, 3, none⟩ (.int .u8 (253)))) := Lib.hid (HF3.out.setCell (by simp [foot]) _)
  have HL4 := Lib.hid HL3.out
  have HB4 : Hid (B ≤ (w3.setCell ⟨q, 3, none⟩ (.int .u8 (253))).heap.size) := Lib.hid (Nat.le_trans HB0.out HF4.out.size)
  go_upto_region 5 with fail
  clear c3 f3
  generalize w3.setCell _ _ = w4 at *
  obtain ⟨c0, c1, c2, c3, c4, c5, c6⟩ := regs HR4.out
  have f4 := RefAt.frozen HR4.out 4
  clear c0 c1 c2 c3 c5 c6
  have HR5 : Hid (RefAt (w4.setCell ⟨q, 4, none⟩ (.int .u8 (4))) B q v ⟨0, 0, 0, 253, 4, pc, h, b⟩) := Lib.hid (put_p HR4.out _)
  have HF5 : Hid (Fr (foot q v) w (w4.setCell ⟨q, 4, none⟩ (.int .u8 (4)))) := Lib.hid (HF4.out.setCell (by simp [foot]) _)
  have HL5 := Lib.hid HL4.out
  have HB5 : Hid (B ≤ (w4.setCell ⟨q, 4, none⟩ (.int .u8 (4))).heap.size) := Lib.hid (Nat.le_trans HB0.out HF5.out.size)
  go_upto_region 6 with fail
  clear c4 f4
  generalize w4.setCell _ _ = w5 at *
  obtain ⟨c0, c1, c2, c3, c4, c5, c6⟩ := regs HR5.out
  have f6 := RefAt.frozen HR5.out 6
  clear c0 c1 c2 c3 c4 c5
  have HR6 : Hid (RefAt (w5.setCell ⟨q, 6, none⟩ (.bool (false))) B q v ⟨0, 0, 0, 253, 4, pc, false, b⟩) := Lib.hid (put_h HR5.out _)
  have HF6 : Hid (Fr (foot q v) w (w5.setCell ⟨q, 6, none⟩ (.bool (false)))) := Lib.hid (HF5.out.setCell (by simp [foot]) _)
  have HL6 := Lib.hid HL5.out
  have HB6 : Hid (B ≤ (w5.setCell ⟨q, 6, none⟩ (.bool (false))).heap.size) := Lib.hid (Nat.le_trans HB0.out HF6.out.size)
  go_upto_region 7 with fail
  clear c6 f6
  generalize w5.setCell _ _ = w6 at *
  go_wp2_with fail
  (with_reducible refine (HPr.out w6 v HR6.out).mono ?_)
  rintro e wq ⟨rfl, rfl⟩
  obtain ⟨c0, c1, c2, c3, c4, c5, c6⟩ := regs HR6.out
  have f5 := RefAt.frozen HR6.out 5
  clear c0 c1 c2 c3 c4 c6
  go_wp2
  go_ret
  exact rdone_set _ HF6.out HL6.out (put_pc HR6.out _)

end Ms
end Go.Proofs.YtlnpadekgakghaaDoor
