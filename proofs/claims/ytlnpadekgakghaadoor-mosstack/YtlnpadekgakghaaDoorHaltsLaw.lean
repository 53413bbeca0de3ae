/-
  picklocklaw14.MosHalts returns true for every input. Condition: the program's Step, Interrupt and Reset do what the account says.
-/
import Derived.Test.YtlnpadekgakghaaDoorFlagsLaw
namespace Go.Proofs.YtlnpadekgakghaaDoor
open Go.RowKit
namespace Ms
open Al (byte of_byte)
set_option linter.unusedVariables false

theorem pk_nil (w : World) : Pk.PkRd w none [] := fun h => absurd h (by simp)
theorem cap0 : 0 ≤ maxLen := by unfold maxLen; omega
theorem ofInt16h (n : Nat) (hn : n < 65536) : (BitVec.ofInt 16 (n : Int)).toNat = n := by
  rw [BitVec.toNat_ofInt]
  omega
theorem or_wordh (x y : Int) (hx : byte x) (hy : byte y) : bits .or .u16 x (y * 256) = x + 256 * y := by
  obtain ⟨a, rfl⟩ : ∃ a : Nat, x = (a : Int) := ⟨x.toNat, by have := hx.1; omega⟩
  obtain ⟨b, rfl⟩ : ∃ b : Nat, y = (b : Int) := ⟨y.toNat, by have := hy.1; omega⟩
  have ha : a < 256 := by have := hx.2; omega
  have hb : b < 256 := by have := hy.2; omega
  have e : bits .or .u16 (a : Int) ((b : Int) * 256) = IntKind.u16.wrap ((BitVec.ofInt 16 (a : Int) ||| BitVec.ofInt 16 ((b * 256 : Nat) : Int)).toNat : Nat) := rfl
  have hl : b <<< 8 + a = b <<< 8 ||| a := Nat.shiftLeft_add_eq_or_of_lt (by omega) b
  have e8 : b <<< 8 = b * 256 := by rw [Nat.shiftLeft_eq]
  rw [e8] at hl
  rw [e, BitVec.toNat_or, ofInt16h a (by omega), ofInt16h (b * 256) (by omega), Nat.or_comm, ← hl, IntKind.wrap_u16]
  omega

set_option maxRecDepth 100000 in
set_option maxHeartbeats 8000000 in
theorem halts_walk (hS : StepC) (hI : IntC) (hR : ResetC) (a x y s p pc op fl0 : Int) (w : World) (hT : Tab w) (ha : byte a) (hx : byte x) (hy : byte y) (hs : byte s) (hp : byte p) (hpc : u16 pc) (hop : byte op) (hf : byte fl0) :
    Calls Tryd.prog 5 #[.agg #[.int .u8 a, .int .u8 x, .int .u8 y, .int .u8 s, .int .u8 p, .int .u16 pc], .int .u8 op, .int .u8 fl0] w fun e w' => e = .returned (.bool true) ∧ Below w.heap.size w w' := by
  have HTab : Hid (∀ w', Fr [] w w' → Tab w') := Lib.hid fun _ h => hT.later h
  have HTps := Lib.hid hT.pos
  clear hT
  obtain ⟨g, hg⟩ : ∃ g, w.heap.size = g := ⟨_, rfl⟩
  obtain ⟨w0, h01⟩ : ∃ z, w.alloc (.cells #[.int .u8 a, .int .u8 x, .int .u8 y, .int .u8 s, .int .u8 p, .int .u16 pc] 24) = z := ⟨_, rfl⟩
  have hb0 := Blk.fresh w 24 #[.int .u8 a, .int .u8 x, .int .u8 y, .int .u8 s, .int .u8 p, .int .u16 pc]
  rw [h01, hg] at hb0
  have hf01 : Fr [] w w0 := by rw [← h01]; exact (Fr.refl [] _).alloc _
  have HW0 := Lib.hid h01
  have HB0 := Lib.hid hb0
  have HF0 := Lib.hid hf01
  have HS := Lib.hid hS
  have HI := Lib.hid hI
  have HRs := Lib.hid hR
  have HA := Lib.hid ha
  have HX := Lib.hid hx
  have HY := Lib.hid hy
  have HSs := Lib.hid hs
  have HP := Lib.hid hp
  have HPC := Lib.hid hpc
  obtain ⟨pc0, pc1⟩ := hpc
  have HOp := Lib.hid hop
  have HFl := Lib.hid hf
  obtain ⟨op0, op1⟩ := hop
  clear hf
  clear h01 hb0 hf01 hS hI hR ha hx hy hs hp
  go_enter Tryd.func5, Tryd.ntmps5
  go_upto_region 1 with fail
  rw [HW0.out]
  clear hg HW0
  go_wp2_with fail
  (with_reducible refine (shown14 HS.out w0 (HTab.out w0 HF0.out)).mono ?_)
  rintro e w1 ⟨rfl, hf1⟩
  have HF1 := Lib.hid hf1
  have hb0 := HB0.out.fr hf1 (by simp)
  have c0 := hb0.cell 0
  have c1 := hb0.cell 1
  have c2 := hb0.cell 2
  have c3 := hb0.cell 3
  have c4 := hb0.cell 4
  have c5 := hb0.cell 5
  simp at c0 c1 c2 c3 c4 c5
  clear hf1 hb0
  go_wp2_with fail
  (with_reducible refine (made_any w1 w0.heap.size a x y s p pc fl0 none 0 0 [] rfl (pk_nil w1) (by simp) (by omega) cap0 HF1.out.size (HTab.out w1 (HF0.out.tr HF1.out)) (Nat.lt_of_lt_of_le HTps.out HF0.out.size) HP.out HFl.out).mono ?_)
  rintro e w2 ⟨pp, f, q, m, rfl, hbo, hmb, hf2, hg1, hg2, -⟩
  have HP2 := Lib.hid hbo.prog
  have HMb := Lib.hid hmb
  have HF2 : Hid (Fr [] w0 w2) := Lib.hid (HF1.out.tr hf2)
  have HG1 : Hid (w0.heap.size ≤ pp) := Lib.hid (Nat.le_trans HF1.out.size hg1)
  have HG2 : Hid (w0.heap.size ≤ f) := Lib.hid (Nat.le_trans HF1.out.size hg2)
  clear hbo hmb hf2 hg1 hg2 c0 c1 c2 c3 c4 c5
  have p5 := (HB0.out.fr HF2.out (by simp)).cell 5
  simp at p5
  have HPd : Hid (ProgAt w2.drew w0.heap.size pp f nil0 ⟨a, x, y, s, noBU p, pc, false, ⟨m, []⟩⟩) := Lib.hid (HP2.out.fr (Fr.refl [] w2).drew (by simp))
  have HFd : Hid (Fr [] w0 w2.drew) := Lib.hid HF2.out.drew
  go_upto_region 3 with fail
  go_still_tail 7, (by kernel_rfl)
  repeat still_step
  try refine wpStill_nil ?_
  change wpList _ _ _ _ _ w2.drew
  obtain ⟨wa, hwa⟩ : ∃ wa, w2.drew = wa := ⟨_, rfl⟩
  rw [hwa] at HPd HFd ⊢
  clear HP2 HF2 hwa p5
  have d0 := HPd.out.flat.mem (pc) HPC.out
  have e0 := HPd.out.flat.frozen (pc).toNat
  simp only at d0
  have HP3 : Hid (ProgAt (wa.setCell ⟨f, (pc).toNat, none⟩ (.int .u8 op)) w0.heap.size pp f nil0 ⟨a, x, y, s, noBU p, pc, false, ⟨upd m pc op, []⟩⟩) := Lib.hid (prog_putm HPd.out (pc) op HPC.out)
  have HF3 : Hid (Fr [] w0 (wa.setCell ⟨f, (pc).toNat, none⟩ (.int .u8 op))) := Lib.hid (HFd.out.setCell (.inr HG2.out) _)
  go_upto_region 4 with fail
  clear d0 e0 HPd HFd
  generalize wa.setCell _ _ = w3 at *
  have HOk : Hid (Ok 0 (⟨a, x, y, s, noBU p, pc, false, ⟨upd m pc op, []⟩⟩ : S14)) := Lib.hid (Ok.mk' HA.out HX.out HY.out HSs.out (fl_noBU p HP.out) HPC.out ⟨both_byte m pc op HMb.out HOp.out, by simp, Nat.le_refl _⟩)
  have hnv : nextV (⟨a, x, y, s, noBU p, pc, false, ⟨upd m pc op, []⟩⟩ : S14) = op := by show upd m pc op pc = op; unfold upd; rw [if_pos rfl]
  have HKn := Lib.hid (fun W => rknown_any W op HOp.out)
  by_cases hk : known op = true
  · have hc := (step_cyc HOk.out).2.2.2 rfl (by rw [hnv]; exact hk)
    have hc2 := (step_cyc HOk.out).2.1
    have HC := Lib.hid (HS.out w3 w0.heap.size pp f nil0 (⟨a, x, y, s, noBU p, pc, false, ⟨upd m pc op, []⟩⟩ : S14) 0 HP3.out HOk.out (by omega) HF3.out.size)
    rw [hk] at HKn
    obtain ⟨hc1, hch⟩ := hc
    generalize stepN (⟨a, x, y, s, noBU p, pc, false, ⟨upd m pc op, []⟩⟩ : S14) = N at *
    generalize step (⟨a, x, y, s, noBU p, pc, false, ⟨upd m pc op, []⟩⟩ : S14) = T4 at *
    clear hnv hk
    go_wp2_with fail
    (with_reducible refine (HC.out).mono ?_)
    intro e w4 hd
    obtain ⟨rfl, v4, hp, hf, -⟩ := hd
    have HP4 := Lib.hid hp
    have HF4 : Hid (Fr [] w0 w4) := Lib.hid (HF3.out.trans hf (fun j hj => .inr (HP3.out.ge HG1.out HG2.out j hj)))
    clear hp hf
    have c6 := (ProgAt.regs HP4.out).2.2.2.2.2.2
    rw [hch] at c6
    go_wp2_with fail
    (with_reducible refine (HKn.out _).mono ?_)
    rintro e wq ⟨rfl, rfl⟩
    go_wp2
    go_ret
    exact ⟨rfl, (HF0.out.tr HF4.out).below (by simp) (Nat.le_refl _)⟩
  · have hkf : known op = false := by simpa using hk
    rw [hkf] at HKn
    have hN : stepN (⟨a, x, y, s, noBU p, pc, false, ⟨upd m pc op, []⟩⟩ : S14) = 0 := by
      have : stepN (⟨a, x, y, s, noBU p, pc, false, ⟨upd m pc op, []⟩⟩ : S14) = if known (nextV (⟨a, x, y, s, noBU p, pc, false, ⟨upd m pc op, []⟩⟩ : S14)) then doneN (nextV (⟨a, x, y, s, noBU p, pc, false, ⟨upd m pc op, []⟩⟩ : S14)) (next (⟨a, x, y, s, noBU p, pc, false, ⟨upd m pc op, []⟩⟩ : S14)) else 0 := rfl
      rw [this, hnv, hkf]; rfl
    have hT : step (⟨a, x, y, s, noBU p, pc, false, ⟨upd m pc op, []⟩⟩ : S14) = (⟨a, x, y, s, noBU p, pc, true, ⟨upd m pc op, []⟩⟩ : S14) := by
      have : step (⟨a, x, y, s, noBU p, pc, false, ⟨upd m pc op, []⟩⟩ : S14) = if known (nextV (⟨a, x, y, s, noBU p, pc, false, ⟨upd m pc op, []⟩⟩ : S14)) then done (nextV (⟨a, x, y, s, noBU p, pc, false, ⟨upd m pc op, []⟩⟩ : S14)) (next (⟨a, x, y, s, noBU p, pc, false, ⟨upd m pc op, []⟩⟩ : S14)) else (⟨a, x, y, s, noBU p, pc, true, ⟨upd m pc op, []⟩⟩ : S14) := rfl
      rw [this, hnv, hkf]; rfl
    have HOk2 : Hid (Ok 0 (⟨a, x, y, s, noBU p, pc, true, ⟨upd m pc op, []⟩⟩ : S14)) := Lib.hid (Ok.mk' HA.out HX.out HY.out HSs.out (fl_noBU p HP.out) HPC.out HOk.out.b)
    have HC : Hid (Calls Tryd.prog 12 #[.pointer (some ⟨pp, 0, none⟩), .iface 31 (.pointer (some ⟨f, 0, none⟩))] w3 (PDone w3 w0.heap.size pp f nil0 (⟨a, x, y, s, noBU p, pc, true, ⟨upd m pc op, []⟩⟩ : S14) (.int .i64 0))) := Lib.hid (by
      rw [← hT, ← hN]
      exact HS.out w3 w0.heap.size pp f nil0 (⟨a, x, y, s, noBU p, pc, false, ⟨upd m pc op, []⟩⟩ : S14) 0 HP3.out HOk.out (by omega) HF3.out.size)
    clear hnv hk hkf hN hT
    go_wp2_with fail
    (with_reducible refine (HC.out).mono ?_)
    intro e w4 hd
    obtain ⟨rfl, v4, hp, hf, -⟩ := hd
    have HP4 := Lib.hid hp
    have HF4 : Hid (Fr [] w0 w4) := Lib.hid (HF3.out.trans hf (fun j hj => .inr (HP3.out.ge HG1.out HG2.out j hj)))
    clear hp hf
    have HC2 : Hid (Calls Tryd.prog 12 #[.pointer (some ⟨pp, 0, none⟩), .iface 31 (.pointer (some ⟨f, 0, none⟩))] w4 (PDone w4 w0.heap.size pp f v4 (⟨a, x, y, s, noBU p, pc, true, ⟨upd m pc op, []⟩⟩ : S14) (.int .i64 0))) := Lib.hid (HS.out w4 w0.heap.size pp f v4 (⟨a, x, y, s, noBU p, pc, true, ⟨upd m pc op, []⟩⟩ : S14) 0 HP4.out HOk2.out (by omega) HF4.out.size)
    go_wp2_with fail
    (with_reducible refine (HKn.out _).mono ?_)
    rintro e wq ⟨rfl, rfl⟩
    go_wp2_with fail
    (with_reducible refine (HC2.out).mono ?_)
    intro e w5 hd
    obtain ⟨rfl, v5, hp, hf, -⟩ := hd
    have HP5 := Lib.hid hp
    have HF5 : Hid (Fr [] w0 w5) := Lib.hid (HF4.out.trans hf (fun j hj => .inr (HP4.out.ge HG1.out HG2.out j hj)))
    clear hp hf
    have HC3 : Hid (Calls Tryd.prog 15 #[.pointer (some ⟨pp, 0, none⟩), .iface 31 (.pointer (some ⟨f, 0, none⟩)), .int .u16 65530] w5 (PDone w5 w0.heap.size pp f v5 (⟨a, x, y, s, noBU p, pc, true, ⟨upd m pc op, []⟩⟩ : S14) (.int .i64 0))) := Lib.hid (HI.out w5 w0.heap.size pp f v5 (⟨a, x, y, s, noBU p, pc, true, ⟨upd m pc op, []⟩⟩ : S14) 0 65530 HP5.out HOk2.out (by omega) HF5.out.size (vec_u16 65530))
    go_wp2_with fail
    (with_reducible refine (HC3.out).mono ?_)
    intro e w6 hd
    obtain ⟨rfl, v6, hp, hf, -⟩ := hd
    have HP6 := Lib.hid hp
    have HF6 : Hid (Fr [] w0 w6) := Lib.hid (HF5.out.trans hf (fun j hj => .inr (HP5.out.ge HG1.out HG2.out j hj)))
    clear hp hf
    obtain ⟨d0, d1, d2, d3, d4, d5, d6⟩ := ProgAt.regs HP6.out
    simp only at d0 d1 d2 d3 d4 d5 d6
    obtain ⟨A, k, hv6, -⟩ := HP6.out.row.slice
    have cw : w6.cell? ⟨f, 65536, none⟩ = some (.slice A 0 k) := by
      have := HP6.out.flat.cell 65536 (by omega)
      rw [this]
      show some v6 = _
      rw [hv6]
      rfl
    have hbq := HB0.out.fr HF6.out (by simp)
    have c0 := hbq.cell 0
    have c1 := hbq.cell 1
    have c2 := hbq.cell 2
    have c3 := hbq.cell 3
    have c4 := hbq.cell 4
    have c5 := hbq.cell 5
    simp at c0 c1 c2 c3 c4 c5
    have hnb := andNot48 p HP.out
    clear hbq HC HC2 HC3 hv6
    go_upto_region 9 with fail
    go_quiet (fail)
    clear c0 c1 c2 c3 c4 c5 d0 d1 d2 d3 d4 d5 d6 cw hnb
    have HPq := Lib.hid (HP6.out.fr ((Fr.refl [] w6).drewN nq) (by simp))
    have HFq : Hid (Fr [] w0 (w6.drewN nq)) := Lib.hid (HF6.out.drewN nq)
    generalize w6.drewN nq = w7 at *
    have hlo : byte (upd m pc op 65532) := HOk2.out.b.1 65532
    have hhi : byte (upd m pc op 65533) := HOk2.out.b.1 65533
    have hRS : reset (⟨a, x, y, s, noBU p, pc, true, ⟨upd m pc op, []⟩⟩ : S14) = ⟨0, 0, 0, 253, 4, upd m pc op 65532 + 256 * upd m pc op 65533, false, ⟨upd m pc op, []⟩⟩ := rfl
    have HC4 : Hid (Calls Tryd.prog 17 #[.pointer (some ⟨pp, 0, none⟩), .iface 31 (.pointer (some ⟨f, 0, none⟩))] w7 (PDone w7 w0.heap.size pp f v6 ⟨0, 0, 0, 253, 4, upd m pc op 65532 + 256 * upd m pc op 65533, false, ⟨upd m pc op, []⟩⟩ (.int .i64 7))) := Lib.hid (by
      rw [← hRS]
      exact HRs.out w7 w0.heap.size pp f v6 (⟨a, x, y, s, noBU p, pc, true, ⟨upd m pc op, []⟩⟩ : S14) 0 HPq.out HOk2.out (by omega) HFq.out.size)
    have HP7 := HPq
    have HF7 := HFq
    clear hRS
    go_wp2_with fail
    (with_reducible refine (HC4.out).mono ?_)
    intro e w8 hd
    obtain ⟨rfl, v8, hp, hf, -⟩ := hd
    have HP8 := Lib.hid hp
    have HF8 : Hid (Fr [] w0 w8) := Lib.hid (HF7.out.trans hf (fun j hj => .inr (HP7.out.ge HG1.out HG2.out j hj)))
    clear hp hf
    obtain ⟨d0, d1, d2, d3, d4, d5, d6⟩ := ProgAt.regs HP8.out
    simp only at d0 d1 d2 d3 d4 d5 d6
    have b0 : w8.cell? ⟨f, 65532, none⟩ = some (.int .u8 (upd m pc op 65532)) := HP8.out.flat.mem 65532 (vec_u16 65532)
    have b1 : w8.cell? ⟨f, 65533, none⟩ = some (.int .u8 (upd m pc op 65533)) := HP8.out.flat.mem 65533 (vec_u16 65533)
    generalize upd m pc op 65532 = lo at *
    generalize upd m pc op 65533 = hi at *
    have how := or_wordh lo hi hlo hhi
    obtain ⟨lo0, lo1⟩ := hlo
    obtain ⟨hi0, hi1⟩ := hhi
    have wh : IntKind.u16.wrap (hi * 256) = hi * 256 := by rw [IntKind.wrap_u16]; omega
    go_upto_region 12 with fail
    go_quiet (fail)
    go_wp2
    go_ret
    exact ⟨rfl, ((HF0.out.tr HF8.out).drewN _).below (by simp) (Nat.le_refl _)⟩

end Ms
end Go.Proofs.YtlnpadekgakghaaDoor
