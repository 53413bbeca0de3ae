/-
  picklocklaw14.MosBranches returns true for every input. Condition: the program's Step does what the account says.
-/
import Derived.Test.YtlnpadekgakghaaDoorMkTwo
import Derived.Test.YtlnpadekgakghaaDoorHaltsLaw
namespace Go.Proofs.YtlnpadekgakghaaDoor
open Go.RowKit
namespace Ms
open Al (byte of_byte)
set_option linter.unusedVariables false

theorem z_byte : byte 0 := ⟨by omega, by omega⟩

set_option maxRecDepth 100000 in
set_option maxHeartbeats 8000000 in
theorem branches_walk (hS : StepC) (a x y s p pc wh bb : Int) (w : World) (hT : Tab w) (ha : byte a) (hx : byte x) (hy : byte y) (hs : byte s) (hp : byte p) (hpc : u16 pc) (hwhich : byte wh) (hby : byte bb) :
    Calls Tryd.prog 9 #[.agg #[.int .u8 a, .int .u8 x, .int .u8 y, .int .u8 s, .int .u8 p, .int .u16 pc], .int .u8 wh, .int .u8 bb] w fun e w' => e = .returned (.bool true) ∧ Below w.heap.size w w' := by
  have HTab : Hid (∀ w', Fr [] w w' → Tab w') := Lib.hid fun _ h => hT.later h
  have HTps := Lib.hid hT.pos
  clear hT
  obtain ⟨g, hg⟩ : ∃ g, w.heap.size = g := ⟨_, rfl⟩
  obtain ⟨w0, h01⟩ : ∃ z, w.alloc (.cells #[.int .u8 a, .int .u8 x, .int .u8 y, .int .u8 s, .int .u8 p, .int .u16 pc] 24) = z := ⟨_, rfl⟩
  have hb0 := Blk.fresh w 24 #[.int .u8 a, .int .u8 x, .int .u8 y, .int .u8 s, .int .u8 p, .int .u16 pc]
  rw [h01, hg] at hb0
  have hf01 : Fr [] w w0 := by rw [← h01]; exact (Fr.refl [] _).alloc _
  have HW0 := Lib.hid h01
  have HB0 := Lib.hid hb0
  have HF0 := Lib.hid hf01
  have HS := Lib.hid hS
  have HA := Lib.hid ha
  have HX := Lib.hid hx
  have HY := Lib.hid hy
  have HSs := Lib.hid hs
  have HP := Lib.hid hp
  have HPC := Lib.hid hpc
  obtain ⟨pc0, pc1⟩ := hpc
  have hwh := or16 wh hwhich
  have hwh2 := or32 wh hwhich
  have h3 := and3 wh hwhich
  obtain ⟨k, hk⟩ : ∃ k, wh % 4 = k := ⟨_, rfl⟩
  rw [hk] at hwh hwh2 h3
  rw [h3] at hwh
  have k0 : 0 ≤ k := by omega
  have k4 : k < 4 := by omega
  have HK : Hid (0 ≤ k ∧ k < 4) := Lib.hid ⟨k0, k4⟩
  obtain ⟨one, hone⟩ : ∃ z, 16 + 64 * k = z := ⟨_, rfl⟩
  obtain ⟨two, htwo⟩ : ∃ z, 48 + 64 * k = z := ⟨_, rfl⟩
  rw [show IntKind.u8.wrap (k * 64) = k * 64 by rw [IntKind.wrap_u8]; omega, hone] at hwh
  rw [hone, htwo] at hwh2
  have HOne : Hid (one = (if false then 48 else 16) + 64 * k) := Lib.hid (by rw [← hone]; rfl)
  have HTwo : Hid (two = (if true then 48 else 16) + 64 * k) := Lib.hid (by rw [← htwo]; rfl)
  have HOb : Hid (byte one) := Lib.hid ⟨by omega, by omega⟩
  have HTb : Hid (byte two) := Lib.hid ⟨by omega, by omega⟩
  have one0 := HOb.out.1
  have one1 := HOb.out.2
  have two0 := HTb.out.1
  have two1 := HTb.out.2
  have HBy := Lib.hid hby
  obtain ⟨by0, by1⟩ := hby
  obtain ⟨wh0, wh1⟩ := hwhich
  obtain ⟨P1, hP1⟩ : ∃ z, (pc + 1) % 65536 = z := ⟨_, rfl⟩
  have wP1 : IntKind.u16.wrap (pc + 1) = P1 := by rw [IntKind.wrap_u16]; exact hP1
  have HU1 : Hid (u16 P1) := Lib.hid ⟨by omega, by omega⟩
  have P10 := HU1.out.1
  have P11 := HU1.out.2
  have HP1e := Lib.hid hP1
  clear hk hone htwo hP1
  clear h01 hb0 hf01 hS ha hx hy hs hp
  go_enter Tryd.func9, Tryd.ntmps9
  go_upto_region 1 with fail
  rw [HW0.out]
  clear hg HW0
  go_wp2_with fail
  (with_reducible refine (shown14 HS.out w0 (HTab.out w0 HF0.out)).mono ?_)
  rintro e w1 ⟨rfl, hf1⟩
  have HF1 := Lib.hid hf1
  have hb0 := HB0.out.fr hf1 (by simp)
  have c0 := hb0.cell 0
  have c1 := hb0.cell 1
  have c2 := hb0.cell 2
  have c3 := hb0.cell 3
  have c4 := hb0.cell 4
  have c5 := hb0.cell 5
  simp at c0 c1 c2 c3 c4 c5
  clear hf1 hb0
  go_wp2_with fail
  (with_reducible refine (made_any w1 w0.heap.size a x y s p pc 0 none 0 0 [] rfl (pk_nil w1) (by simp) (by omega) cap0 HF1.out.size (HTab.out w1 (HF0.out.tr HF1.out)) (Nat.lt_of_lt_of_le HTps.out HF0.out.size) HP.out z_byte).mono ?_)
  rintro e w2 ⟨pp, f, q, m, rfl, hbo, hmb, hf2, hg1, hg2, -⟩
  have HPa2 := Lib.hid hbo.prog
  have HMb := Lib.hid hmb
  have HF2 : Hid (Fr [] w0 w2) := Lib.hid (HF1.out.tr hf2)
  have HG1 : Hid (w0.heap.size ≤ pp) := Lib.hid (Nat.le_trans HF1.out.size hg1)
  have HG2 : Hid (w0.heap.size ≤ f) := Lib.hid (Nat.le_trans HF1.out.size hg2)
  have hb0 := HB0.out.fr HF2.out (by simp)
  have c0 := hb0.cell 0
  have c1 := hb0.cell 1
  have c2 := hb0.cell 2
  have c3 := hb0.cell 3
  have c4 := hb0.cell 4
  have c5 := hb0.cell 5
  simp at c0 c1 c2 c3 c4 c5
  clear hbo hmb hf2 hg1 hg2 hb0
  go_wp2_with fail
  (with_reducible refine (made_any w2 w0.heap.size a x y s p pc 0 none 0 0 [] rfl (pk_nil w2) (by simp) (by omega) cap0 HF2.out.size (HTab.out w2 (HF0.out.tr HF2.out)) (Nat.lt_of_lt_of_le HTps.out HF0.out.size) HP.out z_byte).mono ?_)
  rintro e w3 ⟨d, f2, q2, m2, rfl, hbo, hmb, hf3, hg1, hg2, -⟩
  have HPb3 := Lib.hid hbo.prog
  have HMb2 := Lib.hid hmb
  have HPa3 := Lib.hid (HPa2.out.fr hf3 (by simp))
  have HF3 : Hid (Fr [] w0 w3) := Lib.hid (HF2.out.tr hf3)
  have HG3 : Hid (w0.heap.size ≤ d) := Lib.hid (Nat.le_trans HF2.out.size hg1)
  have HG4 : Hid (w0.heap.size ≤ f2) := Lib.hid (Nat.le_trans HF2.out.size hg2)
  have hne1 : pp ≠ d := by have := HPa2.out.cpu.lt; omega
  have hne2 : f ≠ f2 := by have := HPa2.out.flat.lt; omega
  have HNe : Hid (pp ≠ d ∧ f ≠ f2) := Lib.hid ⟨hne1, hne2⟩
  have HDba : Hid (∀ k ∈ pfoot pp f nil0, k ∉ pfoot d f2 nil0) := Lib.hid (HPa3.out.apart2 HPb3.out hne1 hne2)
  have HDab : Hid (∀ k ∈ pfoot d f2 nil0, k ∉ pfoot pp f nil0) := Lib.hid (fun k hk hm => HDba.out k hm hk)
  clear hbo hmb hf3 hg1 hg2 hne1 hne2 c0 c1 c2 c3 c4 c5 HPa2 HF1 HF2
  have p5 := (HB0.out.fr HF3.out (by simp)).cell 5
  simp at p5
  have HPd : Hid (ProgAt w3.drew w0.heap.size pp f nil0 ⟨a, x, y, s, noBU p, pc, false, ⟨m, []⟩⟩) := Lib.hid (HPa3.out.fr (Fr.refl [] w3).drew (by simp))
  have HPo : Hid (ProgAt w3.drew w0.heap.size d f2 nil0 ⟨a, x, y, s, noBU p, pc, false, ⟨m2, []⟩⟩) := Lib.hid (HPb3.out.fr (Fr.refl [] w3).drew (by simp))
  have HFd : Hid (Fr [] w0 w3.drew) := Lib.hid HF3.out.drew
  go_upto_region 6 with fail
  go_still_tail 7, (by kernel_rfl)
  repeat still_step
  try refine wpStill_nil ?_
  change wpList _ _ _ _ _ w3.drew
  obtain ⟨wa, hwa⟩ : ∃ wa, w3.drew = wa := ⟨_, rfl⟩
  rw [hwa] at HPd HPo HFd ⊢
  clear HPa3 HPb3 HF3 hwa p5
  have d0 := HPd.out.flat.mem (pc) HPC.out
  have e0 := HPd.out.flat.frozen (pc).toNat
  simp only at d0
  have HPa4 : Hid (ProgAt (wa.setCell ⟨f, (pc).toNat, none⟩ (.int .u8 one)) w0.heap.size pp f nil0 ⟨a, x, y, s, noBU p, pc, false, ⟨upd m pc one, []⟩⟩) := Lib.hid (prog_putm HPd.out (pc) one HPC.out)
  have HPb4 : Hid (ProgAt (wa.setCell ⟨f, (pc).toNat, none⟩ (.int .u8 one)) w0.heap.size d f2 nil0 ⟨a, x, y, s, noBU p, pc, false, ⟨m2, []⟩⟩) := Lib.hid (HPo.out.fr ((Fr.refl [f] wa).setCell (by simp) _) (by intro k hk e; simp at e; exact HDab.out k hk (by simp [pfoot, e])) HPd.out.nof)
  have HF4 : Hid (Fr [] w0 (wa.setCell ⟨f, (pc).toNat, none⟩ (.int .u8 one))) := Lib.hid (HFd.out.setCell (.inr HG2.out) _)
  go_upto_region 7 with fail
  clear d0 e0 HPd HPo HFd
  generalize wa.setCell _ _ = w4 at *
  have p5 := (HB0.out.fr HF4.out (by simp)).cell 5
  simp at p5
  have HPd : Hid (ProgAt w4.drew w0.heap.size pp f nil0 ⟨a, x, y, s, noBU p, pc, false, ⟨upd m pc one, []⟩⟩) := Lib.hid (HPa4.out.fr (Fr.refl [] w4).drew (by simp))
  have HPo : Hid (ProgAt w4.drew w0.heap.size d f2 nil0 ⟨a, x, y, s, noBU p, pc, false, ⟨m2, []⟩⟩) := Lib.hid (HPb4.out.fr (Fr.refl [] w4).drew (by simp))
  have HFd : Hid (Fr [] w0 w4.drew) := Lib.hid HF4.out.drew
  go_upto_region 7 with fail
  go_still_tail 8, (by kernel_rfl)
  repeat still_step
  try refine wpStill_nil ?_
  change wpList _ _ _ _ _ w4.drew
  obtain ⟨wa, hwa⟩ : ∃ wa, w4.drew = wa := ⟨_, rfl⟩
  rw [hwa] at HPd HPo HFd ⊢
  clear HPa4 HPb4 HF4 hwa p5
  have d0 := HPd.out.flat.mem (P1) HU1.out
  have e0 := HPd.out.flat.frozen (P1).toNat
  simp only at d0
  have HPa5 : Hid (ProgAt (wa.setCell ⟨f, (P1).toNat, none⟩ (.int .u8 bb)) w0.heap.size pp f nil0 ⟨a, x, y, s, noBU p, pc, false, ⟨upd (upd m pc one) P1 bb, []⟩⟩) := Lib.hid (prog_putm HPd.out (P1) bb HU1.out)
  have HPb5 : Hid (ProgAt (wa.setCell ⟨f, (P1).toNat, none⟩ (.int .u8 bb)) w0.heap.size d f2 nil0 ⟨a, x, y, s, noBU p, pc, false, ⟨m2, []⟩⟩) := Lib.hid (HPo.out.fr ((Fr.refl [f] wa).setCell (by simp) _) (by intro k hk e; simp at e; exact HDab.out k hk (by simp [pfoot, e])) HPd.out.nof)
  have HF5 : Hid (Fr [] w0 (wa.setCell ⟨f, (P1).toNat, none⟩ (.int .u8 bb))) := Lib.hid (HFd.out.setCell (.inr HG2.out) _)
  go_upto_region 8 with fail
  clear d0 e0 HPd HPo HFd
  generalize wa.setCell _ _ = w5 at *
  have p5 := (HB0.out.fr HF5.out (by simp)).cell 5
  simp at p5
  have HPd : Hid (ProgAt w5.drew w0.heap.size d f2 nil0 ⟨a, x, y, s, noBU p, pc, false, ⟨m2, []⟩⟩) := Lib.hid (HPb5.out.fr (Fr.refl [] w5).drew (by simp))
  have HPo : Hid (ProgAt w5.drew w0.heap.size pp f nil0 ⟨a, x, y, s, noBU p, pc, false, ⟨upd (upd m pc one) P1 bb, []⟩⟩) := Lib.hid (HPa5.out.fr (Fr.refl [] w5).drew (by simp))
  have HFd : Hid (Fr [] w0 w5.drew) := Lib.hid HF5.out.drew
  go_upto_region 8 with fail
  go_still_tail 7, (by kernel_rfl)
  repeat still_step
  try refine wpStill_nil ?_
  change wpList _ _ _ _ _ w5.drew
  obtain ⟨wa, hwa⟩ : ∃ wa, w5.drew = wa := ⟨_, rfl⟩
  rw [hwa] at HPd HPo HFd ⊢
  clear HPb5 HPa5 HF5 hwa p5
  have d0 := HPd.out.flat.mem (pc) HPC.out
  have e0 := HPd.out.flat.frozen (pc).toNat
  simp only at d0
  have HPb6 : Hid (ProgAt (wa.setCell ⟨f2, (pc).toNat, none⟩ (.int .u8 two)) w0.heap.size d f2 nil0 ⟨a, x, y, s, noBU p, pc, false, ⟨upd m2 pc two, []⟩⟩) := Lib.hid (prog_putm HPd.out (pc) two HPC.out)
  have HPa6 : Hid (ProgAt (wa.setCell ⟨f2, (pc).toNat, none⟩ (.int .u8 two)) w0.heap.size pp f nil0 ⟨a, x, y, s, noBU p, pc, false, ⟨upd (upd m pc one) P1 bb, []⟩⟩) := Lib.hid (HPo.out.fr ((Fr.refl [f2] wa).setCell (by simp) _) (by intro k hk e; simp at e; exact HDba.out k hk (by simp [pfoot, e])) HPd.out.nof)
  have HF6 : Hid (Fr [] w0 (wa.setCell ⟨f2, (pc).toNat, none⟩ (.int .u8 two))) := Lib.hid (HFd.out.setCell (.inr HG4.out) _)
  go_upto_region 9 with fail
  clear d0 e0 HPd HPo HFd
  generalize wa.setCell _ _ = w6 at *
  have p5 := (HB0.out.fr HF6.out (by simp)).cell 5
  simp at p5
  have HPd : Hid (ProgAt w6.drew w0.heap.size d f2 nil0 ⟨a, x, y, s, noBU p, pc, false, ⟨upd m2 pc two, []⟩⟩) := Lib.hid (HPb6.out.fr (Fr.refl [] w6).drew (by simp))
  have HPo : Hid (ProgAt w6.drew w0.heap.size pp f nil0 ⟨a, x, y, s, noBU p, pc, false, ⟨upd (upd m pc one) P1 bb, []⟩⟩) := Lib.hid (HPa6.out.fr (Fr.refl [] w6).drew (by simp))
  have HFd : Hid (Fr [] w0 w6.drew) := Lib.hid HF6.out.drew
  go_upto_region 9 with fail
  go_still_tail 8, (by kernel_rfl)
  repeat still_step
  try refine wpStill_nil ?_
  change wpList _ _ _ _ _ w6.drew
  obtain ⟨wa, hwa⟩ : ∃ wa, w6.drew = wa := ⟨_, rfl⟩
  rw [hwa] at HPd HPo HFd ⊢
  clear HPb6 HPa6 HF6 hwa p5
  have d0 := HPd.out.flat.mem (P1) HU1.out
  have e0 := HPd.out.flat.frozen (P1).toNat
  simp only at d0
  have HPb7 : Hid (ProgAt (wa.setCell ⟨f2, (P1).toNat, none⟩ (.int .u8 bb)) w0.heap.size d f2 nil0 ⟨a, x, y, s, noBU p, pc, false, ⟨upd (upd m2 pc two) P1 bb, []⟩⟩) := Lib.hid (prog_putm HPd.out (P1) bb HU1.out)
  have HPa7 : Hid (ProgAt (wa.setCell ⟨f2, (P1).toNat, none⟩ (.int .u8 bb)) w0.heap.size pp f nil0 ⟨a, x, y, s, noBU p, pc, false, ⟨upd (upd m pc one) P1 bb, []⟩⟩) := Lib.hid (HPo.out.fr ((Fr.refl [f2] wa).setCell (by simp) _) (by intro k hk e; simp at e; exact HDba.out k hk (by simp [pfoot, e])) HPd.out.nof)
  have HF7 : Hid (Fr [] w0 (wa.setCell ⟨f2, (P1).toNat, none⟩ (.int .u8 bb))) := Lib.hid (HFd.out.setCell (.inr HG4.out) _)
  go_upto_region 10 with fail
  clear d0 e0 HPd HPo HFd
  generalize wa.setCell _ _ = w7 at *
  have HOka : Hid (Ok 0 (⟨a, x, y, s, noBU p, pc, false, ⟨upd (upd m pc one) P1 bb, []⟩⟩ : S14)) := Lib.hid (Ok.mk' HA.out HX.out HY.out HSs.out (fl_noBU p HP.out) HPC.out ⟨both_byte _ P1 bb (both_byte m pc one HMb.out HOb.out) HBy.out, by simp, Nat.le_refl _⟩)
  have HOkb : Hid (Ok 0 (⟨a, x, y, s, noBU p, pc, false, ⟨upd (upd m2 pc two) P1 bb, []⟩⟩ : S14)) := Lib.hid (Ok.mk' HA.out HX.out HY.out HSs.out (fl_noBU p HP.out) HPC.out ⟨both_byte _ P1 bb (both_byte m2 pc two HMb2.out HTb.out) HBy.out, by simp, Nat.le_refl _⟩)
  have hsa := branch_step a x y s (noBU p) pc k bb m false one HPC.out HK.out HOne.out
  have hsb := branch_step a x y s (noBU p) pc k bb m2 true two HPC.out HK.out HTwo.out
  rw [HP1e.out] at hsa hsb
  obtain ⟨hsa1, hsa2, hkn⟩ := hsa
  obtain ⟨hsb1, hsb2, -⟩ := hsb
  have hCa := HS.out w7 w0.heap.size pp f nil0 (⟨a, x, y, s, noBU p, pc, false, ⟨upd (upd m pc one) P1 bb, []⟩⟩ : S14) 0 HPa7.out HOka.out (by omega) HF7.out.size
  rw [hsa1, hsa2] at hCa
  have HCa := Lib.hid hCa
  have HKn := Lib.hid (fun W => rknown_any W one HOb.out)
  rw [hkn] at HKn
  obtain ⟨P2, hP2⟩ : ∃ z, (pc + 2) % 65536 = z := ⟨_, rfl⟩
  have wP2 : IntKind.u16.wrap (pc + 2) = P2 := by rw [IntKind.wrap_u16]; exact hP2
  have P20 : 0 ≤ P2 := by omega
  have P21 : P2 < 65536 := by omega
  rw [hP2] at HCa hsb1 hsb2
  obtain ⟨T, hT⟩ : ∃ z, (P2 + Al.sg bb) % 65536 = z := ⟨_, rfl⟩
  have T0 : 0 ≤ T := by omega
  have T1 : T < 65536 := by omega
  have wT : IntKind.u16.wrap (P2 + 65536 + Al.sg bb) = T := by rw [IntKind.wrap_u16]; omega
  have wsg := Al.i8_sg bb HBy.out
  have hsgb := Al.sg_bd bb HBy.out
  rw [hT] at HCa hsb1 hsb2
  generalize Al.sg bb = SG at *
  obtain ⟨sg0, sg1⟩ := hsgb
  obtain ⟨TH, hTH⟩ : ∃ z, T / 256 = z := ⟨_, rfl⟩
  obtain ⟨PH, hPH⟩ : ∃ z, P2 / 256 = z := ⟨_, rfl⟩
  rw [hTH, hPH] at HCa hsb2
  have HSb : Hid (step (⟨a, x, y, s, noBU p, pc, false, ⟨upd (upd m2 pc two) P1 bb, []⟩⟩ : S14) = _ ∧ stepN (⟨a, x, y, s, noBU p, pc, false, ⟨upd (upd m2 pc two) P1 bb, []⟩⟩ : S14) = _) := Lib.hid ⟨hsb1, hsb2⟩
  generalize on (noBU p) (flagOf k) = o1 at *
  have hnb := andNot48 p HP.out
  have TH0 : 0 ≤ TH := by omega
  have PH0 : 0 ≤ PH := by omega
  have HTP : Hid (T = P2 → TH = PH) := Lib.hid (by intro h; rw [← hTH, ← hPH, h])
  clear hsa1 hsa2 hsb1 hsb2 hkn hCa hP2 hT HP1e
  cases o1
  · by_cases hTe : T = P2
    · have hHe : TH = PH := HTP.out hTe
      subst hTe
      have HC1 : Hid (Calls Tryd.prog 12 #[.pointer (some ⟨pp, 0, none⟩), .iface 31 (.pointer (some ⟨f, 0, none⟩))] w7 (PDone w7 w0.heap.size pp f nil0 (⟨a, x, y, s, noBU p, T, false, ⟨upd (upd m pc one) P1 bb, []⟩⟩ : S14) (.int .i64 3))) := Lib.hid (by
        have h := HCa.out
        simpa [hHe] using h)
      have hsb : step (⟨a, x, y, s, noBU p, pc, false, ⟨upd (upd m2 pc two) P1 bb, []⟩⟩ : S14) = (⟨a, x, y, s, noBU p, T, false, ⟨upd (upd m2 pc two) P1 bb, []⟩⟩ : S14) ∧ stepN (⟨a, x, y, s, noBU p, pc, false, ⟨upd (upd m2 pc two) P1 bb, []⟩⟩ : S14) = 2 := by
        have h := HSb.out
        simpa [hHe] using h
      go_wp2_with fail
      (with_reducible refine (HC1.out).mono ?_)
      intro e w8 hd
      obtain ⟨rfl, v8, hp8, hf8, -⟩ := hd
      have HPa8 := Lib.hid hp8
      have HPb8 := Lib.hid (HPb7.out.fr hf8 HDab.out HPa7.out.nopf)
      have HF8 : Hid (Fr [] w0 w8) := Lib.hid (HF7.out.trans hf8 (fun j hj => .inr (HPa7.out.ge HG1.out HG2.out j hj)))
      have HDc := Lib.hid (hp8.apart2 HPb8.out HNe.out.1 HNe.out.2)
      have HC2 : Hid (Calls Tryd.prog 12 #[.pointer (some ⟨d, 0, none⟩), .iface 31 (.pointer (some ⟨f2, 0, none⟩))] w8 (PDone w8 w0.heap.size d f2 nil0 (⟨a, x, y, s, noBU p, T, false, ⟨upd (upd m2 pc two) P1 bb, []⟩⟩ : S14) (.int .i64 2))) := Lib.hid (by
        rw [← hsb.1, ← hsb.2]
        exact HS.out w8 w0.heap.size d f2 nil0 (⟨a, x, y, s, noBU p, pc, false, ⟨upd (upd m2 pc two) P1 bb, []⟩⟩ : S14) 0 HPb8.out HOkb.out (by omega) HF8.out.size)
      clear hp8 hf8 hsb HC1 HCa HSb
      go_wp2_with fail
      (with_reducible refine (HC2.out).mono ?_)
      intro e w9 hd
      obtain ⟨rfl, v9, hp9, hf9, -⟩ := hd
      have HPa9 := Lib.hid (HPa8.out.fr hf9 HDc.out HPb8.out.nopf)
      have HF9 : Hid (Fr [] w0 w9) := Lib.hid (HF8.out.trans hf9 (fun j hj => .inr (HPb8.out.ge HG3.out HG4.out j hj)))
      obtain ⟨-, -, -, -, d4, d5, -⟩ := ProgAt.regs HPa9.out
      obtain ⟨-, -, -, -, e4, e5, -⟩ := ProgAt.regs hp9
      simp only at d4 d5 e4 e5
      obtain ⟨A1, k1, hv1, -⟩ := HPa9.out.row.slice
      obtain ⟨A2, k2, hv2, -⟩ := hp9.row.slice
      have cw1 : w9.cell? ⟨f, 65536, none⟩ = some (.slice A1 0 k1) := by
        rw [HPa9.out.flat.cell 65536 (by omega)]
        show some v8 = _
        rw [hv1]
        rfl
      have cw2 : w9.cell? ⟨f2, 65536, none⟩ = some (.slice A2 0 k2) := by
        rw [hp9.flat.cell 65536 (by omega)]
        show some v9 = _
        rw [hv2]
        rfl
      have hbq := HB0.out.fr HF9.out (by simp)
      have c4 := hbq.cell 4
      have c5 := hbq.cell 5
      simp at c4 c5
      clear hbq hp9 hf9 hv1 hv2 HC2
      go_upto_region 19 with fail
      go_quiet (first | (go_at_call 19; with_reducible exact Calls.quiet_of_same ((HKn.out _).mono fun _ _ h => ⟨h.1, h.2.symm⟩)))
      go_wp2
      go_ret
      exact ⟨rfl, ((HF0.out.tr HF9.out).drewN _).below (by simp) (Nat.le_refl _)⟩
    · by_cases hHe : TH = PH
      · have HC1 : Hid (Calls Tryd.prog 12 #[.pointer (some ⟨pp, 0, none⟩), .iface 31 (.pointer (some ⟨f, 0, none⟩))] w7 (PDone w7 w0.heap.size pp f nil0 (⟨a, x, y, s, noBU p, T, false, ⟨upd (upd m pc one) P1 bb, []⟩⟩ : S14) (.int .i64 3))) := Lib.hid (by
          have h := HCa.out
          simpa [hTe, hHe] using h)
        have hsb : step (⟨a, x, y, s, noBU p, pc, false, ⟨upd (upd m2 pc two) P1 bb, []⟩⟩ : S14) = (⟨a, x, y, s, noBU p, P2, false, ⟨upd (upd m2 pc two) P1 bb, []⟩⟩ : S14) ∧ stepN (⟨a, x, y, s, noBU p, pc, false, ⟨upd (upd m2 pc two) P1 bb, []⟩⟩ : S14) = 2 := by
          have h := HSb.out
          simpa [hTe, hHe] using h
        go_wp2_with fail
        (with_reducible refine (HC1.out).mono ?_)
        intro e w8 hd
        obtain ⟨rfl, v8, hp8, hf8, -⟩ := hd
        have HPa8 := Lib.hid hp8
        have HPb8 := Lib.hid (HPb7.out.fr hf8 HDab.out HPa7.out.nopf)
        have HF8 : Hid (Fr [] w0 w8) := Lib.hid (HF7.out.trans hf8 (fun j hj => .inr (HPa7.out.ge HG1.out HG2.out j hj)))
        have HDc := Lib.hid (hp8.apart2 HPb8.out HNe.out.1 HNe.out.2)
        have HC2 : Hid (Calls Tryd.prog 12 #[.pointer (some ⟨d, 0, none⟩), .iface 31 (.pointer (some ⟨f2, 0, none⟩))] w8 (PDone w8 w0.heap.size d f2 nil0 (⟨a, x, y, s, noBU p, P2, false, ⟨upd (upd m2 pc two) P1 bb, []⟩⟩ : S14) (.int .i64 2))) := Lib.hid (by
          rw [← hsb.1, ← hsb.2]
          exact HS.out w8 w0.heap.size d f2 nil0 (⟨a, x, y, s, noBU p, pc, false, ⟨upd (upd m2 pc two) P1 bb, []⟩⟩ : S14) 0 HPb8.out HOkb.out (by omega) HF8.out.size)
        clear hp8 hf8 hsb HC1 HCa HSb
        go_wp2_with fail
        (with_reducible refine (HC2.out).mono ?_)
        intro e w9 hd
        obtain ⟨rfl, v9, hp9, hf9, -⟩ := hd
        have HPa9 := Lib.hid (HPa8.out.fr hf9 HDc.out HPb8.out.nopf)
        have HF9 : Hid (Fr [] w0 w9) := Lib.hid (HF8.out.trans hf9 (fun j hj => .inr (HPb8.out.ge HG3.out HG4.out j hj)))
        obtain ⟨-, -, -, -, d4, d5, -⟩ := ProgAt.regs HPa9.out
        obtain ⟨-, -, -, -, e4, e5, -⟩ := ProgAt.regs hp9
        simp only at d4 d5 e4 e5
        obtain ⟨A1, k1, hv1, -⟩ := HPa9.out.row.slice
        obtain ⟨A2, k2, hv2, -⟩ := hp9.row.slice
        have cw1 : w9.cell? ⟨f, 65536, none⟩ = some (.slice A1 0 k1) := by
          rw [HPa9.out.flat.cell 65536 (by omega)]
          show some v8 = _
          rw [hv1]
          rfl
        have cw2 : w9.cell? ⟨f2, 65536, none⟩ = some (.slice A2 0 k2) := by
          rw [hp9.flat.cell 65536 (by omega)]
          show some v9 = _
          rw [hv2]
          rfl
        have hbq := HB0.out.fr HF9.out (by simp)
        have c4 := hbq.cell 4
        have c5 := hbq.cell 5
        simp at c4 c5
        clear hbq hp9 hf9 hv1 hv2 HC2
        have q1 : (T == P2) = false := by rw [beq_eq_false_iff_ne]; exact hTe
        have q2 : (P2 == T) = false := by rw [beq_eq_false_iff_ne]; exact fun e => hTe e.symm
        subst hHe
        go_upto_region 19 with fail
        go_quiet (first | (go_at_call 19; with_reducible exact Calls.quiet_of_same ((HKn.out _).mono fun _ _ h => ⟨h.1, h.2.symm⟩)))
        go_wp2
        go_ret
        exact ⟨rfl, ((HF0.out.tr HF9.out).drewN _).below (by simp) (Nat.le_refl _)⟩
      · have HC1 : Hid (Calls Tryd.prog 12 #[.pointer (some ⟨pp, 0, none⟩), .iface 31 (.pointer (some ⟨f, 0, none⟩))] w7 (PDone w7 w0.heap.size pp f nil0 (⟨a, x, y, s, noBU p, T, false, ⟨upd (upd m pc one) P1 bb, []⟩⟩ : S14) (.int .i64 4))) := Lib.hid (by
          have h := HCa.out
          simpa [hTe, hHe] using h)
        have hsb : step (⟨a, x, y, s, noBU p, pc, false, ⟨upd (upd m2 pc two) P1 bb, []⟩⟩ : S14) = (⟨a, x, y, s, noBU p, P2, false, ⟨upd (upd m2 pc two) P1 bb, []⟩⟩ : S14) ∧ stepN (⟨a, x, y, s, noBU p, pc, false, ⟨upd (upd m2 pc two) P1 bb, []⟩⟩ : S14) = 2 := by
          have h := HSb.out
          simpa [hTe, hHe] using h
        go_wp2_with fail
        (with_reducible refine (HC1.out).mono ?_)
        intro e w8 hd
        obtain ⟨rfl, v8, hp8, hf8, -⟩ := hd
        have HPa8 := Lib.hid hp8
        have HPb8 := Lib.hid (HPb7.out.fr hf8 HDab.out HPa7.out.nopf)
        have HF8 : Hid (Fr [] w0 w8) := Lib.hid (HF7.out.trans hf8 (fun j hj => .inr (HPa7.out.ge HG1.out HG2.out j hj)))
        have HDc := Lib.hid (hp8.apart2 HPb8.out HNe.out.1 HNe.out.2)
        have HC2 : Hid (Calls Tryd.prog 12 #[.pointer (some ⟨d, 0, none⟩), .iface 31 (.pointer (some ⟨f2, 0, none⟩))] w8 (PDone w8 w0.heap.size d f2 nil0 (⟨a, x, y, s, noBU p, P2, false, ⟨upd (upd m2 pc two) P1 bb, []⟩⟩ : S14) (.int .i64 2))) := Lib.hid (by
          rw [← hsb.1, ← hsb.2]
          exact HS.out w8 w0.heap.size d f2 nil0 (⟨a, x, y, s, noBU p, pc, false, ⟨upd (upd m2 pc two) P1 bb, []⟩⟩ : S14) 0 HPb8.out HOkb.out (by omega) HF8.out.size)
        clear hp8 hf8 hsb HC1 HCa HSb
        go_wp2_with fail
        (with_reducible refine (HC2.out).mono ?_)
        intro e w9 hd
        obtain ⟨rfl, v9, hp9, hf9, -⟩ := hd
        have HPa9 := Lib.hid (HPa8.out.fr hf9 HDc.out HPb8.out.nopf)
        have HF9 : Hid (Fr [] w0 w9) := Lib.hid (HF8.out.trans hf9 (fun j hj => .inr (HPb8.out.ge HG3.out HG4.out j hj)))
        obtain ⟨-, -, -, -, d4, d5, -⟩ := ProgAt.regs HPa9.out
        obtain ⟨-, -, -, -, e4, e5, -⟩ := ProgAt.regs hp9
        simp only at d4 d5 e4 e5
        obtain ⟨A1, k1, hv1, -⟩ := HPa9.out.row.slice
        obtain ⟨A2, k2, hv2, -⟩ := hp9.row.slice
        have cw1 : w9.cell? ⟨f, 65536, none⟩ = some (.slice A1 0 k1) := by
          rw [HPa9.out.flat.cell 65536 (by omega)]
          show some v8 = _
          rw [hv1]
          rfl
        have cw2 : w9.cell? ⟨f2, 65536, none⟩ = some (.slice A2 0 k2) := by
          rw [hp9.flat.cell 65536 (by omega)]
          show some v9 = _
          rw [hv2]
          rfl
        have hbq := HB0.out.fr HF9.out (by simp)
        have c4 := hbq.cell 4
        have c5 := hbq.cell 5
        simp at c4 c5
        clear hbq hp9 hf9 hv1 hv2 HC2
        have q1 : (T == P2) = false := by rw [beq_eq_false_iff_ne]; exact hTe
        have q2 : (P2 == T) = false := by rw [beq_eq_false_iff_ne]; exact fun e => hTe e.symm
        have q3 : (TH == PH) = false := by rw [beq_eq_false_iff_ne]; exact hHe
        clear hHe
        go_upto_region 19 with fail
        go_quiet (first | (go_at_call 19; with_reducible exact Calls.quiet_of_same ((HKn.out _).mono fun _ _ h => ⟨h.1, h.2.symm⟩)))
        go_wp2
        go_ret
        exact ⟨rfl, ((HF0.out.tr HF9.out).drewN _).below (by simp) (Nat.le_refl _)⟩
  · by_cases hTe : T = P2
    · have hHe : TH = PH := HTP.out hTe
      subst hTe
      have HC1 : Hid (Calls Tryd.prog 12 #[.pointer (some ⟨pp, 0, none⟩), .iface 31 (.pointer (some ⟨f, 0, none⟩))] w7 (PDone w7 w0.heap.size pp f nil0 (⟨a, x, y, s, noBU p, T, false, ⟨upd (upd m pc one) P1 bb, []⟩⟩ : S14) (.int .i64 2))) := Lib.hid (by
        have h := HCa.out
        simpa [hHe] using h)
      have hsb : step (⟨a, x, y, s, noBU p, pc, false, ⟨upd (upd m2 pc two) P1 bb, []⟩⟩ : S14) = (⟨a, x, y, s, noBU p, T, false, ⟨upd (upd m2 pc two) P1 bb, []⟩⟩ : S14) ∧ stepN (⟨a, x, y, s, noBU p, pc, false, ⟨upd (upd m2 pc two) P1 bb, []⟩⟩ : S14) = 3 := by
        have h := HSb.out
        simpa [hHe] using h
      go_wp2_with fail
      (with_reducible refine (HC1.out).mono ?_)
      intro e w8 hd
      obtain ⟨rfl, v8, hp8, hf8, -⟩ := hd
      have HPa8 := Lib.hid hp8
      have HPb8 := Lib.hid (HPb7.out.fr hf8 HDab.out HPa7.out.nopf)
      have HF8 : Hid (Fr [] w0 w8) := Lib.hid (HF7.out.trans hf8 (fun j hj => .inr (HPa7.out.ge HG1.out HG2.out j hj)))
      have HDc := Lib.hid (hp8.apart2 HPb8.out HNe.out.1 HNe.out.2)
      have HC2 : Hid (Calls Tryd.prog 12 #[.pointer (some ⟨d, 0, none⟩), .iface 31 (.pointer (some ⟨f2, 0, none⟩))] w8 (PDone w8 w0.heap.size d f2 nil0 (⟨a, x, y, s, noBU p, T, false, ⟨upd (upd m2 pc two) P1 bb, []⟩⟩ : S14) (.int .i64 3))) := Lib.hid (by
        rw [← hsb.1, ← hsb.2]
        exact HS.out w8 w0.heap.size d f2 nil0 (⟨a, x, y, s, noBU p, pc, false, ⟨upd (upd m2 pc two) P1 bb, []⟩⟩ : S14) 0 HPb8.out HOkb.out (by omega) HF8.out.size)
      clear hp8 hf8 hsb HC1 HCa HSb
      go_wp2_with fail
      (with_reducible refine (HC2.out).mono ?_)
      intro e w9 hd
      obtain ⟨rfl, v9, hp9, hf9, -⟩ := hd
      have HPa9 := Lib.hid (HPa8.out.fr hf9 HDc.out HPb8.out.nopf)
      have HF9 : Hid (Fr [] w0 w9) := Lib.hid (HF8.out.trans hf9 (fun j hj => .inr (HPb8.out.ge HG3.out HG4.out j hj)))
      obtain ⟨-, -, -, -, d4, d5, -⟩ := ProgAt.regs HPa9.out
      obtain ⟨-, -, -, -, e4, e5, -⟩ := ProgAt.regs hp9
      simp only at d4 d5 e4 e5
      obtain ⟨A1, k1, hv1, -⟩ := HPa9.out.row.slice
      obtain ⟨A2, k2, hv2, -⟩ := hp9.row.slice
      have cw1 : w9.cell? ⟨f, 65536, none⟩ = some (.slice A1 0 k1) := by
        rw [HPa9.out.flat.cell 65536 (by omega)]
        show some v8 = _
        rw [hv1]
        rfl
      have cw2 : w9.cell? ⟨f2, 65536, none⟩ = some (.slice A2 0 k2) := by
        rw [hp9.flat.cell 65536 (by omega)]
        show some v9 = _
        rw [hv2]
        rfl
      have hbq := HB0.out.fr HF9.out (by simp)
      have c4 := hbq.cell 4
      have c5 := hbq.cell 5
      simp at c4 c5
      clear hbq hp9 hf9 hv1 hv2 HC2
      go_upto_region 19 with fail
      go_quiet (first | (go_at_call 19; with_reducible exact Calls.quiet_of_same ((HKn.out _).mono fun _ _ h => ⟨h.1, h.2.symm⟩)))
      go_wp2
      go_ret
      exact ⟨rfl, ((HF0.out.tr HF9.out).drewN _).below (by simp) (Nat.le_refl _)⟩
    · by_cases hHe : TH = PH
      · have HC1 : Hid (Calls Tryd.prog 12 #[.pointer (some ⟨pp, 0, none⟩), .iface 31 (.pointer (some ⟨f, 0, none⟩))] w7 (PDone w7 w0.heap.size pp f nil0 (⟨a, x, y, s, noBU p, P2, false, ⟨upd (upd m pc one) P1 bb, []⟩⟩ : S14) (.int .i64 2))) := Lib.hid (by
          have h := HCa.out
          simpa [hTe, hHe] using h)
        have hsb : step (⟨a, x, y, s, noBU p, pc, false, ⟨upd (upd m2 pc two) P1 bb, []⟩⟩ : S14) = (⟨a, x, y, s, noBU p, T, false, ⟨upd (upd m2 pc two) P1 bb, []⟩⟩ : S14) ∧ stepN (⟨a, x, y, s, noBU p, pc, false, ⟨upd (upd m2 pc two) P1 bb, []⟩⟩ : S14) = 3 := by
          have h := HSb.out
          simpa [hTe, hHe] using h
        go_wp2_with fail
        (with_reducible refine (HC1.out).mono ?_)
        intro e w8 hd
        obtain ⟨rfl, v8, hp8, hf8, -⟩ := hd
        have HPa8 := Lib.hid hp8
        have HPb8 := Lib.hid (HPb7.out.fr hf8 HDab.out HPa7.out.nopf)
        have HF8 : Hid (Fr [] w0 w8) := Lib.hid (HF7.out.trans hf8 (fun j hj => .inr (HPa7.out.ge HG1.out HG2.out j hj)))
        have HDc := Lib.hid (hp8.apart2 HPb8.out HNe.out.1 HNe.out.2)
        have HC2 : Hid (Calls Tryd.prog 12 #[.pointer (some ⟨d, 0, none⟩), .iface 31 (.pointer (some ⟨f2, 0, none⟩))] w8 (PDone w8 w0.heap.size d f2 nil0 (⟨a, x, y, s, noBU p, T, false, ⟨upd (upd m2 pc two) P1 bb, []⟩⟩ : S14) (.int .i64 3))) := Lib.hid (by
          rw [← hsb.1, ← hsb.2]
          exact HS.out w8 w0.heap.size d f2 nil0 (⟨a, x, y, s, noBU p, pc, false, ⟨upd (upd m2 pc two) P1 bb, []⟩⟩ : S14) 0 HPb8.out HOkb.out (by omega) HF8.out.size)
        clear hp8 hf8 hsb HC1 HCa HSb
        go_wp2_with fail
        (with_reducible refine (HC2.out).mono ?_)
        intro e w9 hd
        obtain ⟨rfl, v9, hp9, hf9, -⟩ := hd
        have HPa9 := Lib.hid (HPa8.out.fr hf9 HDc.out HPb8.out.nopf)
        have HF9 : Hid (Fr [] w0 w9) := Lib.hid (HF8.out.trans hf9 (fun j hj => .inr (HPb8.out.ge HG3.out HG4.out j hj)))
        obtain ⟨-, -, -, -, d4, d5, -⟩ := ProgAt.regs HPa9.out
        obtain ⟨-, -, -, -, e4, e5, -⟩ := ProgAt.regs hp9
        simp only at d4 d5 e4 e5
        obtain ⟨A1, k1, hv1, -⟩ := HPa9.out.row.slice
        obtain ⟨A2, k2, hv2, -⟩ := hp9.row.slice
        have cw1 : w9.cell? ⟨f, 65536, none⟩ = some (.slice A1 0 k1) := by
          rw [HPa9.out.flat.cell 65536 (by omega)]
          show some v8 = _
          rw [hv1]
          rfl
        have cw2 : w9.cell? ⟨f2, 65536, none⟩ = some (.slice A2 0 k2) := by
          rw [hp9.flat.cell 65536 (by omega)]
          show some v9 = _
          rw [hv2]
          rfl
        have hbq := HB0.out.fr HF9.out (by simp)
        have c4 := hbq.cell 4
        have c5 := hbq.cell 5
        simp at c4 c5
        clear hbq hp9 hf9 hv1 hv2 HC2
        have q1 : (T == P2) = false := by rw [beq_eq_false_iff_ne]; exact hTe
        have q2 : (P2 == T) = false := by rw [beq_eq_false_iff_ne]; exact fun e => hTe e.symm
        subst hHe
        go_upto_region 19 with fail
        go_quiet (first | (go_at_call 19; with_reducible exact Calls.quiet_of_same ((HKn.out _).mono fun _ _ h => ⟨h.1, h.2.symm⟩)))
        go_wp2
        go_ret
        exact ⟨rfl, ((HF0.out.tr HF9.out).drewN _).below (by simp) (Nat.le_refl _)⟩
      · have HC1 : Hid (Calls Tryd.prog 12 #[.pointer (some ⟨pp, 0, none⟩), .iface 31 (.pointer (some ⟨f, 0, none⟩))] w7 (PDone w7 w0.heap.size pp f nil0 (⟨a, x, y, s, noBU p, P2, false, ⟨upd (upd m pc one) P1 bb, []⟩⟩ : S14) (.int .i64 2))) := Lib.hid (by
          have h := HCa.out
          simpa [hTe, hHe] using h)
        have hsb : step (⟨a, x, y, s, noBU p, pc, false, ⟨upd (upd m2 pc two) P1 bb, []⟩⟩ : S14) = (⟨a, x, y, s, noBU p, T, false, ⟨upd (upd m2 pc two) P1 bb, []⟩⟩ : S14) ∧ stepN (⟨a, x, y, s, noBU p, pc, false, ⟨upd (upd m2 pc two) P1 bb, []⟩⟩ : S14) = 4 := by
          have h := HSb.out
          simpa [hTe, hHe] using h
        go_wp2_with fail
        (with_reducible refine (HC1.out).mono ?_)
        intro e w8 hd
        obtain ⟨rfl, v8, hp8, hf8, -⟩ := hd
        have HPa8 := Lib.hid hp8
        have HPb8 := Lib.hid (HPb7.out.fr hf8 HDab.out HPa7.out.nopf)
        have HF8 : Hid (Fr [] w0 w8) := Lib.hid (HF7.out.trans hf8 (fun j hj => .inr (HPa7.out.ge HG1.out HG2.out j hj)))
        have HDc := Lib.hid (hp8.apart2 HPb8.out HNe.out.1 HNe.out.2)
        have HC2 : Hid (Calls Tryd.prog 12 #[.pointer (some ⟨d, 0, none⟩), .iface 31 (.pointer (some ⟨f2, 0, none⟩))] w8 (PDone w8 w0.heap.size d f2 nil0 (⟨a, x, y, s, noBU p, T, false, ⟨upd (upd m2 pc two) P1 bb, []⟩⟩ : S14) (.int .i64 4))) := Lib.hid (by
          rw [← hsb.1, ← hsb.2]
          exact HS.out w8 w0.heap.size d f2 nil0 (⟨a, x, y, s, noBU p, pc, false, ⟨upd (upd m2 pc two) P1 bb, []⟩⟩ : S14) 0 HPb8.out HOkb.out (by omega) HF8.out.size)
        clear hp8 hf8 hsb HC1 HCa HSb
        go_wp2_with fail
        (with_reducible refine (HC2.out).mono ?_)
        intro e w9 hd
        obtain ⟨rfl, v9, hp9, hf9, -⟩ := hd
        have HPa9 := Lib.hid (HPa8.out.fr hf9 HDc.out HPb8.out.nopf)
        have HF9 : Hid (Fr [] w0 w9) := Lib.hid (HF8.out.trans hf9 (fun j hj => .inr (HPb8.out.ge HG3.out HG4.out j hj)))
        obtain ⟨-, -, -, -, d4, d5, -⟩ := ProgAt.regs HPa9.out
        obtain ⟨-, -, -, -, e4, e5, -⟩ := ProgAt.regs hp9
        simp only at d4 d5 e4 e5
        obtain ⟨A1, k1, hv1, -⟩ := HPa9.out.row.slice
        obtain ⟨A2, k2, hv2, -⟩ := hp9.row.slice
        have cw1 : w9.cell? ⟨f, 65536, none⟩ = some (.slice A1 0 k1) := by
          rw [HPa9.out.flat.cell 65536 (by omega)]
          show some v8 = _
          rw [hv1]
          rfl
        have cw2 : w9.cell? ⟨f2, 65536, none⟩ = some (.slice A2 0 k2) := by
          rw [hp9.flat.cell 65536 (by omega)]
          show some v9 = _
          rw [hv2]
          rfl
        have hbq := HB0.out.fr HF9.out (by simp)
        have c4 := hbq.cell 4
        have c5 := hbq.cell 5
        simp at c4 c5
        clear hbq hp9 hf9 hv1 hv2 HC2
        have q1 : (T == P2) = false := by rw [beq_eq_false_iff_ne]; exact hTe
        have q2 : (P2 == T) = false := by rw [beq_eq_false_iff_ne]; exact fun e => hTe e.symm
        have q3 : (TH == PH) = false := by rw [beq_eq_false_iff_ne]; exact hHe
        clear hHe
        go_upto_region 19 with fail
        go_quiet (first | (go_at_call 19; with_reducible exact Calls.quiet_of_same ((HKn.out _).mono fun _ _ h => ⟨h.1, h.2.symm⟩)))
        go_wp2
        go_ret
        exact ⟨rfl, ((HF0.out.tr HF9.out).drewN _).below (by simp) (Nat.le_refl _)⟩

end Ms
end Go.Proofs.YtlnpadekgakghaaDoor
