/-
  picklocklaw14.MosFlags returns true for every input. Condition: the program's Step, Interrupt and Reset do what the account says.
-/
import Derived.Test.YtlnpadekgakghaaDoorPlaysLaw
import Derived.Test.YtlnpadekgakghaaDoorMosCyc
namespace Go.Proofs.YtlnpadekgakghaaDoor
open Go.RowKit
namespace Ms
open Al (byte of_byte)
set_option linter.unusedVariables false

theorem ProgAt.ge {w : World} {B p f : Nat} {v : Value} {S : S14} (h : ProgAt w B p f v S) (hp : B ≤ p) (hf : B ≤ f) : ∀ k ∈ pfoot p f v, B ≤ k := by
  intro k hk
  simp only [pfoot, List.mem_cons, Option.mem_toList] at hk
  rcases hk with rfl | rfl | hk
  · exact hp
  · exact hf
  · exact (h.row.lt k hk).1
theorem and48 : ∀ v, byte v → (v / 16 % 4 = 0 → bits .and .u8 v 48 = 0) := of_byte _ (by decide +kernel)

theorem int_cyc (S : S14) (i : Int) : 0 ≤ interruptN S ∧ interruptN S ≤ 7 ∧ (interruptN S = 0 → (interrupt S i).h = true) := by
  unfold interruptN interrupt
  by_cases h : S.h
  · simp only [if_pos h]
    exact ⟨by omega, by omega, fun _ => h⟩
  · simp only [if_neg h]
    exact ⟨by omega, by omega, fun h => by omega⟩

set_option maxRecDepth 100000 in
set_option maxHeartbeats 8000000 in
theorem flags_walk (hS : StepC) (hI : IntC) (hR : ResetC) (a x y s p pc fl0 : Int) (A : Option Addr) (n c : Nat) (zs : List (Int × Int)) (A2 : Option Addr) (c2 : Nat) (l2 : List UInt8) (w : World) (hT : Tab w)
    (ha : byte a) (hx : byte x) (hy : byte y) (hs : byte s) (hp : byte p) (hpc : u16 pc) (hf : byte fl0) (hl : zs.length = n) (hz : Pk.PkRd w A zs) (hzb : ∀ z ∈ zs, u16 z.1 ∧ byte z.2) (hnc : n ≤ c) (hcm : c ≤ maxLen) (hr2 : Rd w A2 l2) (hlc2 : l2.length ≤ c2) (hcm2 : c2 ≤ maxLen) :
    Calls Tryd.prog 7 #[.agg #[.int .u8 a, .int .u8 x, .int .u8 y, .int .u8 s, .int .u8 p, .int .u16 pc], .agg #[.int .u8 fl0, .slice A n c], .slice A2 l2.length c2] w fun e w' => e = .returned (.bool true) ∧ Below w.heap.size w w' := by
  have HTab : Hid (∀ w', Fr [] w w' → Tab w') := Lib.hid fun _ h => hT.later h
  have HTps := Lib.hid hT.pos
  clear hT
  obtain ⟨g, hg⟩ : ∃ g, w.heap.size = g := ⟨_, rfl⟩
  obtain ⟨L, hL⟩ : ∃ L, l2.length = L := ⟨_, rfl⟩
  have hb0 := Blk.fresh w 24 #[.int .u8 a, .int .u8 x, .int .u8 y, .int .u8 s, .int .u8 p, .int .u16 pc]
  have hb1 := Blk.fresh (w.alloc (.cells #[.int .u8 a, .int .u8 x, .int .u8 y, .int .u8 s, .int .u8 p, .int .u16 pc] 24)) 28 #[.int .u8 fl0, .slice A n c]
  have hal : Fr [] (w.alloc (.cells #[.int .u8 a, .int .u8 x, .int .u8 y, .int .u8 s, .int .u8 p, .int .u16 pc] 24)) ((w.alloc (.cells #[.int .u8 a, .int .u8 x, .int .u8 y, .int .u8 s, .int .u8 p, .int .u16 pc] 24)).alloc (.cells #[.int .u8 fl0, .slice A n c] 28)) := (Fr.refl [] _).alloc _
  have hal0 : Fr [] w (w.alloc (.cells #[.int .u8 a, .int .u8 x, .int .u8 y, .int .u8 s, .int .u8 p, .int .u16 pc] 24)) := (Fr.refl [] _).alloc _
  have hs1 : (w.alloc (.cells #[.int .u8 a, .int .u8 x, .int .u8 y, .int .u8 s, .int .u8 p, .int .u16 pc] 24)).heap.size = g + 1 := by simp [hg]
  rw [hg] at hb0
  rw [hs1] at hb1
  have HB0 := Lib.hid (hb0.fr hal (by simp))
  have HB1 := Lib.hid hb1
  have HF0 : Hid (Fr [] w ((w.alloc (.cells #[.int .u8 a, .int .u8 x, .int .u8 y, .int .u8 s, .int .u8 p, .int .u16 pc] 24)).alloc (.cells #[.int .u8 fl0, .slice A n c] 28))) := Lib.hid (hal0.tr hal)
  have HZ := Lib.hid hz
  have HZL := Lib.hid hl
  have HZB := Lib.hid hzb
  have HRd := Lib.hid hr2
  have HLL := Lib.hid hL
  have HS := Lib.hid hS
  have HI := Lib.hid hI
  have HRs := Lib.hid hR
  have HA := Lib.hid ha
  have HX := Lib.hid hx
  have HY := Lib.hid hy
  have HSs := Lib.hid hs
  have HP := Lib.hid hp
  have HPC := Lib.hid hpc
  have HFl := Lib.hid hf
  have HNC := Lib.hid hnc
  have HCM := Lib.hid hcm
  rw [hL] at hlc2 ⊢
  have hLm : L ≤ 9223372036854775807 := by unfold maxLen at hcm2; omega
  clear hb0 hb1 hal hal0 hs1 hz hl hzb hr2 hL hS hI hR ha hx hy hs hp hpc hf hnc hcm hcm2
  go_enter Tryd.func7, Tryd.ntmps7
  go_upto_region 1 with fail
  clear hg
  generalize (w.alloc _).alloc _ = w0 at *
  go_wp2_with fail
  (with_reducible refine (shown14 HS.out w0 (HTab.out w0 HF0.out)).mono ?_)
  rintro e w1 ⟨rfl, hf1⟩
  have HF1 : Hid (Fr [] w w1) := Lib.hid (HF0.out.tr hf1)
  have hb0 := HB0.out.fr hf1 (by simp)
  have hb1 := HB1.out.fr hf1 (by simp)
  have c0 := hb0.cell 0
  have c1 := hb0.cell 1
  have c2' := hb0.cell 2
  have c3 := hb0.cell 3
  have c4 := hb0.cell 4
  have c5 := hb0.cell 5
  have d0 := hb1.cell 0
  have d1 := hb1.cell 1
  simp at c0 c1 c2' c3 c4 c5 d0 d1
  clear hf1 hb0 hb1 HB0 HB1 HF0
  go_wp2_with fail
  (with_reducible refine (made_any w1 w.heap.size a x y s p pc fl0 A n c zs HZL.out (HZ.out.later HF1.out (by simp)) HZB.out HNC.out HCM.out HF1.out.size (HTab.out w1 HF1.out) HTps.out HP.out HFl.out).mono ?_)
  rintro e w2 ⟨pp, f, q, m, rfl, hbo, hmb, hf2, hg1, hg2, hg3⟩
  have HBo := Lib.hid hbo
  have HF2 : Hid (Fr [] w w2) := Lib.hid (HF1.out.tr hf2)
  have HOk0 : Hid (Ok 0 (⟨a, x, y, s, noBU p, pc, false, ⟨m, []⟩⟩ : S14)) := Lib.hid (Ok.mk' HA.out HX.out HY.out HSs.out (fl_noBU p HP.out) HPC.out ⟨hmb, by simp, Nat.le_refl _⟩)
  have HG1 : Hid (w.heap.size ≤ pp) := Lib.hid (Nat.le_trans HF1.out.size hg1)
  have HG2 : Hid (w.heap.size ≤ f) := Lib.hid (Nat.le_trans HF1.out.size hg2)
  clear hbo hmb hf2 hg1 hg2 hg3 c0 c1 c2' c3 c4 c5 d0 d1 HF1
  go_wp2_with fail
  go_loopw [11] (fun s11 wr => ∃ (i : Nat) (v : Value) (S : S14), s11 = .int .i64 (i : Int) ∧ i ≤ L ∧ i ≤ 60 ∧ ProgAt wr w.heap.size pp f v S ∧ Ok (3 * i) S ∧ Fr [] w wr) (fun s11 _ => L - (intOf s11).toNat)
  case atStart => exact ⟨0, nil0, _, rfl, Nat.zero_le _, Nat.zero_le _, HBo.out.prog, HOk0.out, HF2.out⟩
  case round =>
    clear HBo HOk0 HF2
    obtain ⟨i, v, S, rfl, hi, hi60, hb, hok, hfr⟩ := hrel
    have HBr := Lib.hid hb
    have HOr := Lib.hid hok
    have HFr := Lib.hid hfr
    clear hb hok hfr
    have hi0 : (0 : Int) ≤ i := by omega
    rcases (show (i < L ∧ i < 60) ∨ (¬ i < L) ∨ (i < L ∧ ¬ i < 60) by omega) with ⟨h1, h2⟩ | h1 | ⟨h1, h2⟩
    · have h1' : (i : Int) < L := by omega
      have h2' : (i : Int) < 60 := by omega
      obtain ⟨ab, ao, rfl, hcs⟩ := (HRd.out.later HFr.out (by simp)) (by rw [HLL.out]; omega)
      have q0 := hcs i (by rw [HLL.out]; exact h1)
      have hby : byte (l2[i]'(by rw [HLL.out]; exact h1)).toNat := ⟨by omega, by have := (l2[i]'(by rw [HLL.out]; exact h1)).toNat_lt; omega⟩
      generalize ((l2[i]'(by rw [HLL.out]; exact h1)).toNat : Int) = Y at *
      have h7 := and7 Y hby
      obtain ⟨k, hk⟩ : ∃ k, Y % 8 = k := ⟨_, rfl⟩
      rw [hk] at h7
      have k0 : 0 ≤ k := by omega
      have k8 : k < 8 := by omega
      obtain ⟨y0, y1⟩ := hby
      have HI2 := Lib.hid h1
      have HI60 := Lib.hid h2
      have HNn : Hid (3 * i + 10 < 1000000000) := Lib.hid (by omega)
      clear hcs hk
      rcases (show k = 5 ∨ k = 6 ∨ k = 7 ∨ (¬ k = 5 ∧ ¬ k = 6 ∧ ¬ k = 7) by omega) with rfl | rfl | rfl | ⟨n5, n6, n7⟩
      · clear k0 k8
        have HOk4 : Hid (Ok (3 * (i + 1)) (interrupt S 65530)) := Lib.hid (ok_interrupt _ HOr.out)
        have hcy : ∃ N : Int, (interruptN S : Int) = N ∧ 0 ≤ N ∧ N ≤ 7 ∧ (N = 0 → (interrupt S 65530).h = true) := ⟨_, rfl, int_cyc S 65530⟩
        obtain ⟨N, hN, N0, N7, hNz⟩ := hcy
        have HC := Lib.hid (HI.out wr w.heap.size pp f v S (3 * i) 65530 HBr.out HOr.out HNn.out HFr.out.size (vec_u16 65530))
        rw [hN] at HC
        clear hN
        generalize interrupt S 65530 = T4 at *
        have hz48 := and48 T4.p HOk4.out.p HOk4.out.bu
        have HNz := Lib.hid hNz
        go_wp2_with fail
        (with_reducible refine (HC.out).mono ?_)
        intro e w3 hd
        obtain ⟨rfl, v3, hp3, hf3, hl3⟩ := hd
        have HP3 := Lib.hid hp3
        have HF3 : Hid (Fr [] w w3) := Lib.hid (HFr.out.trans hf3 (fun j hj => .inr (HBr.out.ge HG1.out HG2.out j hj)))
        have c4 := (ProgAt.regs hp3).2.2.2.2.1
        have c6 := (ProgAt.regs hp3).2.2.2.2.2.2
        clear hp3 hf3 hl3 HC hNz
        by_cases hN0 : N = 0
        · rw [HNz.out hN0] at c6
          subst hN0
          go_wp2
          go_roundw
          case rel => exact ⟨i + 1, v3, T4, by go_num, by have := HI2.out; omega, by have := HI60.out; omega, HP3.out, HOk4.out, HF3.out⟩
          case measure => simp [intOf]; have := HI2.out; omega
        · have hNb : (N == 0) = false := by rw [beq_eq_false_iff_ne]; exact hN0
          go_wp2
          go_roundw
          case rel => exact ⟨i + 1, v3, T4, by go_num, by have := HI2.out; omega, by have := HI60.out; omega, HP3.out, HOk4.out, HF3.out⟩
          case measure => simp [intOf]; have := HI2.out; omega
      · clear k0 k8
        have HOk4 : Hid (Ok (3 * (i + 1)) (interrupt S 65534)) := Lib.hid (ok_interrupt _ HOr.out)
        have hcy : ∃ N : Int, (interruptN S : Int) = N ∧ 0 ≤ N ∧ N ≤ 7 ∧ (N = 0 → (interrupt S 65534).h = true) := ⟨_, rfl, int_cyc S 65534⟩
        obtain ⟨N, hN, N0, N7, hNz⟩ := hcy
        have HC := Lib.hid (HI.out wr w.heap.size pp f v S (3 * i) 65534 HBr.out HOr.out HNn.out HFr.out.size (vec_u16 65534))
        rw [hN] at HC
        clear hN
        generalize interrupt S 65534 = T4 at *
        have hz48 := and48 T4.p HOk4.out.p HOk4.out.bu
        have HNz := Lib.hid hNz
        go_wp2_with fail
        (with_reducible refine (HC.out).mono ?_)
        intro e w3 hd
        obtain ⟨rfl, v3, hp3, hf3, hl3⟩ := hd
        have HP3 := Lib.hid hp3
        have HF3 : Hid (Fr [] w w3) := Lib.hid (HFr.out.trans hf3 (fun j hj => .inr (HBr.out.ge HG1.out HG2.out j hj)))
        have c4 := (ProgAt.regs hp3).2.2.2.2.1
        have c6 := (ProgAt.regs hp3).2.2.2.2.2.2
        clear hp3 hf3 hl3 HC hNz
        by_cases hN0 : N = 0
        · rw [HNz.out hN0] at c6
          subst hN0
          go_wp2
          go_roundw
          case rel => exact ⟨i + 1, v3, T4, by go_num, by have := HI2.out; omega, by have := HI60.out; omega, HP3.out, HOk4.out, HF3.out⟩
          case measure => simp [intOf]; have := HI2.out; omega
        · have hNb : (N == 0) = false := by rw [beq_eq_false_iff_ne]; exact hN0
          go_wp2
          go_roundw
          case rel => exact ⟨i + 1, v3, T4, by go_num, by have := HI2.out; omega, by have := HI60.out; omega, HP3.out, HOk4.out, HF3.out⟩
          case measure => simp [intOf]; have := HI2.out; omega
      · clear k0 k8
        have HOk4 : Hid (Ok (3 * (i + 1)) (reset S)) := Lib.hid ((ok_reset HOr.out).up (by omega))
        have hcy : ∃ N : Int, (7 : Int) = N ∧ 0 ≤ N ∧ N ≤ 7 ∧ (N = 0 → (reset S).h = true) := ⟨_, rfl, by omega, by omega, fun h => by omega⟩
        obtain ⟨N, hN, N0, N7, hNz⟩ := hcy
        have HC := Lib.hid (HRs.out wr w.heap.size pp f v S (3 * i) HBr.out HOr.out HNn.out HFr.out.size)
        subst hN
        generalize reset S = T4 at *
        have hz48 := and48 T4.p HOk4.out.p HOk4.out.bu
        have HNz := Lib.hid hNz
        go_wp2_with fail
        (with_reducible refine (HC.out).mono ?_)
        intro e w3 hd
        obtain ⟨rfl, v3, hp3, hf3, hl3⟩ := hd
        have HP3 := Lib.hid hp3
        have HF3 : Hid (Fr [] w w3) := Lib.hid (HFr.out.trans hf3 (fun j hj => .inr (HBr.out.ge HG1.out HG2.out j hj)))
        have c4 := (ProgAt.regs hp3).2.2.2.2.1
        have c6 := (ProgAt.regs hp3).2.2.2.2.2.2
        clear hp3 hf3 hl3 HC hNz
        go_wp2
        go_roundw
        case rel => exact ⟨i + 1, v3, T4, by go_num, by have := HI2.out; omega, by have := HI60.out; omega, HP3.out, HOk4.out, HF3.out⟩
        case measure => simp [intOf]; have := HI2.out; omega
      · have e5 : (k == 5) = false := by rw [beq_eq_false_iff_ne]; exact n5
        have e6 : (k == 6) = false := by rw [beq_eq_false_iff_ne]; exact n6
        have e7 : (k == 7) = false := by rw [beq_eq_false_iff_ne]; exact n7
        have HOk4 : Hid (Ok (3 * (i + 1)) (step S)) := Lib.hid (ok_step HOr.out)
        have hcy : ∃ N : Int, (stepN S : Int) = N ∧ 0 ≤ N ∧ N ≤ 7 ∧ (N = 0 → (step S).h = true) := ⟨_, rfl, (step_cyc HOr.out).1, (step_cyc HOr.out).2.1, (step_cyc HOr.out).2.2.1⟩
        obtain ⟨N, hN, N0, N7, hNz⟩ := hcy
        have HC := Lib.hid (HS.out wr w.heap.size pp f v S (3 * i) HBr.out HOr.out HNn.out HFr.out.size)
        rw [hN] at HC
        clear hN
        generalize step S = T4 at *
        have hz48 := and48 T4.p HOk4.out.p HOk4.out.bu
        have HNz := Lib.hid hNz
        go_wp2_with fail
        (with_reducible refine (HC.out).mono ?_)
        intro e w3 hd
        obtain ⟨rfl, v3, hp3, hf3, hl3⟩ := hd
        have HP3 := Lib.hid hp3
        have HF3 : Hid (Fr [] w w3) := Lib.hid (HFr.out.trans hf3 (fun j hj => .inr (HBr.out.ge HG1.out HG2.out j hj)))
        have c4 := (ProgAt.regs hp3).2.2.2.2.1
        have c6 := (ProgAt.regs hp3).2.2.2.2.2.2
        clear hp3 hf3 hl3 HC hNz
        by_cases hN0 : N = 0
        · rw [HNz.out hN0] at c6
          subst hN0
          go_wp2
          go_roundw
          case rel => exact ⟨i + 1, v3, T4, by go_num, by have := HI2.out; omega, by have := HI60.out; omega, HP3.out, HOk4.out, HF3.out⟩
          case measure => simp [intOf]; have := HI2.out; omega
        · have hNb : (N == 0) = false := by rw [beq_eq_false_iff_ne]; exact hN0
          go_wp2
          go_roundw
          case rel => exact ⟨i + 1, v3, T4, by go_num, by have := HI2.out; omega, by have := HI60.out; omega, HP3.out, HOk4.out, HF3.out⟩
          case measure => simp [intOf]; have := HI2.out; omega
    all_goals
      go_wp2
      go_ret
      exact ⟨rfl, HFr.out.below (by simp) (Nat.le_refl _)⟩

end Ms
end Go.Proofs.YtlnpadekgakghaaDoor
