/-
  picklocklaw14.MosOne returns true for every input. Condition: the program's Step does what the account says.
-/
import Derived.Test.YtlnpadekgakghaaDoorPlaysLaw
namespace Go.Proofs.YtlnpadekgakghaaDoor
open Go.RowKit
namespace Ms
open Al (byte of_byte)
set_option linter.unusedVariables false

set_option maxRecDepth 100000 in
set_option maxHeartbeats 8000000 in
theorem one_walk (hS : StepC) (a x y s p pc fl0 y0 y1 y2 : Int) (A : Option Addr) (n c : Nat) (zs : List (Int × Int)) (w : World) (hT : Tab w)
    (ha : byte a) (hx : byte x) (hy : byte y) (hs : byte s) (hp : byte p) (hpc : u16 pc) (hy0 : byte y0) (hy1 : byte y1) (hy2 : byte y2) (hf : byte fl0) (hl : zs.length = n) (hz : Pk.PkRd w A zs) (hzb : ∀ z ∈ zs, u16 z.1 ∧ byte z.2) (hnc : n ≤ c) (hcm : c ≤ maxLen) :
    Calls Tryd.prog 3 #[.agg #[.int .u8 a, .int .u8 x, .int .u8 y, .int .u8 s, .int .u8 p, .int .u16 pc], .agg #[.int .u8 y0, .int .u8 y1, .int .u8 y2], .agg #[.int .u8 fl0, .slice A n c]] w fun e w' => e = .returned (.bool true) ∧ Below w.heap.size w w' := by
  have HTab : Hid (∀ w', Fr [] w w' → Tab w') := Lib.hid fun _ h => hT.later h
  have HTps := Lib.hid hT.pos
  clear hT
  obtain ⟨g, hg⟩ : ∃ g, w.heap.size = g := ⟨_, rfl⟩
  obtain ⟨w01, h01⟩ : ∃ z, (w.alloc (.cells #[.int .u8 a, .int .u8 x, .int .u8 y, .int .u8 s, .int .u8 p, .int .u16 pc] 24)) = z := ⟨_, rfl⟩
  have hb0 := Blk.fresh w 24 #[.int .u8 a, .int .u8 x, .int .u8 y, .int .u8 s, .int .u8 p, .int .u16 pc]
  rw [h01, hg] at hb0
  have hs1 : w01.heap.size = g + 1 := by rw [← h01]; simp [hg]
  have hf01 : Fr [] w w01 := by rw [← h01]; exact (Fr.refl [] _).alloc _
  obtain ⟨w02, h02⟩ : ∃ z, w01.alloc (.cells #[.int .u8 y0, .int .u8 y1, .int .u8 y2] 25) = z := ⟨_, rfl⟩
  have hb1 := Blk.fresh w01 25 #[.int .u8 y0, .int .u8 y1, .int .u8 y2]
  rw [h02, hs1] at hb1
  have hs2 : w02.heap.size = g + 1 + 1 := by rw [← h02]; simp [hs1]
  have hf02 : Fr [] w01 w02 := by rw [← h02]; exact (Fr.refl [] _).alloc _
  obtain ⟨w0, h03⟩ : ∃ z, w02.alloc (.cells #[.int .u8 fl0, .slice A n c] 28) = z := ⟨_, rfl⟩
  have hb2 := Blk.fresh w02 28 #[.int .u8 fl0, .slice A n c]
  rw [h03, hs2] at hb2
  have hf03 : Fr [] w02 w0 := by rw [← h03]; exact (Fr.refl [] _).alloc _
  have HW0 : Hid ((((w.alloc (.cells #[.int .u8 a, .int .u8 x, .int .u8 y, .int .u8 s, .int .u8 p, .int .u16 pc] 24)).alloc (.cells #[.int .u8 y0, .int .u8 y1, .int .u8 y2] 25)).alloc (.cells #[.int .u8 fl0, .slice A n c] 28)) = w0) := Lib.hid (by rw [h01, h02, h03])
  have HB0 := Lib.hid ((hb0.fr hf02 (by simp)).fr hf03 (by simp))
  have HB1 := Lib.hid (hb1.fr hf03 (by simp))
  have HB2 := Lib.hid hb2
  have HF0 : Hid (Fr [] w w0) := Lib.hid ((hf01.tr hf02).tr hf03)
  have HZ : Hid (Pk.PkRd w0 A zs) := Lib.hid (hz.later ((hf01.tr hf02).tr hf03) (by simp))
  have HZL := Lib.hid hl
  have HZB := Lib.hid hzb
  have HS := Lib.hid hS
  have HA := Lib.hid ha
  have HX := Lib.hid hx
  have HY := Lib.hid hy
  have HSs := Lib.hid hs
  have HP := Lib.hid hp
  have HPC := Lib.hid hpc
  have HFl := Lib.hid hf
  have HNC := Lib.hid hnc
  have HCM := Lib.hid hcm
  have HY0 := Lib.hid hy0
  have HY1 := Lib.hid hy1
  have HY2 := Lib.hid hy2
  clear h01 h02 h03 hb0 hb1 hb2 hs1 hs2 hf01 hf02 hf03 hz hl hzb hS ha hx hy hs hp hpc hf hnc hcm hy0 hy1 hy2
  go_enter Tryd.func3, Tryd.ntmps3
  go_upto_region 1 with fail
  rw [HW0.out]
  clear hg HW0
  go_wp2_with fail
  (with_reducible refine (shown14 HS.out w0 (HTab.out w0 HF0.out)).mono ?_)
  rintro e w1 ⟨rfl, hf1⟩
  have HF1 := Lib.hid hf1
  have hb0 := HB0.out.fr hf1 (by simp)
  have hb2 := HB2.out.fr hf1 (by simp)
  have c0 := hb0.cell 0
  have c1 := hb0.cell 1
  have c2 := hb0.cell 2
  have c3 := hb0.cell 3
  have c4 := hb0.cell 4
  have c5 := hb0.cell 5
  have d0 := hb2.cell 0
  have d1 := hb2.cell 1
  simp at c0 c1 c2 c3 c4 c5 d0 d1
  clear hf1 hb0 hb2
  go_wp2_with fail
  (with_reducible refine (made_any w1 w0.heap.size a x y s p pc fl0 A n c zs HZL.out (HZ.out.later HF1.out (by simp)) HZB.out HNC.out HCM.out HF1.out.size (HTab.out w1 (HF0.out.tr HF1.out)) (Nat.lt_of_lt_of_le HTps.out HF0.out.size) HP.out HFl.out).mono ?_)
  rintro e w2 ⟨pp, f, q, m, rfl, hbo, hmb, hf2, hg1, hg2, hg3⟩
  have HBo := Lib.hid hbo
  have HMb := Lib.hid hmb
  have HF2 : Hid (Fr [] w0 w2) := Lib.hid (HF1.out.tr hf2)
  have HG1 : Hid (w0.heap.size ≤ pp) := Lib.hid (Nat.le_trans HF1.out.size hg1)
  have HG2 : Hid (w0.heap.size ≤ f) := Lib.hid (Nat.le_trans HF1.out.size hg2)
  have HG3 : Hid (w0.heap.size ≤ q) := Lib.hid (Nat.le_trans HF1.out.size hg3)
  clear hbo hmb hf2 hg1 hg2 hg3 c0 c1 c2 c3 c4 c5 d0 d1 HF1
  go_wp2_with fail
  go_loopw [11] (fun s11 wr => ∃ (i : Nat) (m : Int → Int), s11 = .int .i64 (i : Int) ∧ i ≤ 3 ∧ Both wr w0.heap.size pp f q nil0 nil0 ⟨a, x, y, s, noBU p, pc, false, ⟨m, []⟩⟩ ∧ (∀ j, byte (m j)) ∧ Fr [] w0 wr) (fun s11 _ => 3 - (intOf s11).toNat)
  case atStart => exact ⟨0, m, rfl, by omega, HBo.out, HMb.out, HF2.out⟩
  case round =>
    clear HBo HMb HF2
    obtain ⟨i, m, rfl, hi, hb, hmb, hfr⟩ := hrel
    have HBr := Lib.hid hb
    have HMb := Lib.hid hmb
    have HFr := Lib.hid hfr
    clear hb hmb hfr
    obtain rfl | rfl | rfl | rfl : i = 0 ∨ i = 1 ∨ i = 2 ∨ i = 3 := by omega
    · obtain ⟨z, hz⟩ : ∃ z, (pc + 0) % 65536 = z := ⟨_, rfl⟩
      have wz : IntKind.u16.wrap (pc + IntKind.u16.wrap 0) = z := by rw [show IntKind.u16.wrap 0 = 0 from rfl, IntKind.wrap_u16]; exact hz
      have z0 : 0 ≤ z := by omega
      have z1 : z < 65536 := by omega
      have HU : Hid (u16 z) := Lib.hid ⟨z0, z1⟩
      clear hz hi
      have p5 := (HB0.out.fr HFr.out (by simp)).cell 5
      have o0 := (HB1.out.fr HFr.out (by simp)).cell 0
      simp at p5 o0
      have HBd : Hid (Both wr.drew w0.heap.size pp f q nil0 nil0 ⟨a, x, y, s, noBU p, pc, false, ⟨m, []⟩⟩) := Lib.hid (HBr.out.fr (Fr.refl [] wr).drew (by simp))
      have HFd : Hid (Fr [] w0 wr.drew) := Lib.hid HFr.out.drew
      go_upto_region 6 with fail
      go_still_tail 12, (by kernel_rfl)
      repeat still_step
      try refine wpStill_nil ?_
      change wpList _ _ _ _ _ wr.drew
      obtain ⟨wa, hwa⟩ : ∃ wa, wr.drew = wa := ⟨_, rfl⟩
      rw [hwa] at HBd HFd ⊢
      clear HBr HFr hwa p5 o0
      have d0 : wa.cell? ⟨f, z.toNat, none⟩ = some (.int .u8 (m z)) := HBd.out.prog.flat.mem z HU.out
      have e0 := HBd.out.prog.flat.frozen z.toNat
      have HP1 := Lib.hid (both_put1 HBd.out z y0 HU.out)
      have HF1 : Hid (Fr [] w0 (wa.setCell ⟨f, z.toNat, none⟩ (.int .u8 y0))) := Lib.hid (HFd.out.setCell (.inr HG2.out) _)
      have HDj := Lib.hid (And.intro HBd.out.disj HBd.out.qp)
      go_upto_region 7 with fail
      clear d0 e0 HBd HFd
      generalize wa.setCell _ _ = wb at *
      have HPd : Hid (ProgAt wb.drew w0.heap.size pp f nil0 ⟨a, x, y, s, noBU p, pc, false, ⟨upd m z y0, []⟩⟩) := Lib.hid (HP1.out.1.fr (Fr.refl [] wb).drew (by simp))
      have HRd : Hid (RefAt wb.drew w0.heap.size q nil0 ⟨a, x, y, s, noBU p, pc, false, ⟨m, []⟩⟩) := Lib.hid (HP1.out.2.fr (Fr.refl [] wb).drew (by simp))
      have HFd : Hid (Fr [] w0 wb.drew) := Lib.hid HF1.out.drew
      have p5 := (HB0.out.fr HF1.out (by simp)).cell 5
      have o0 := (HB1.out.fr HF1.out (by simp)).cell 0
      simp at p5 o0
      go_still_tail 12, (by kernel_rfl)
      repeat still_step
      try refine wpStill_nil ?_
      change wpList _ _ _ _ _ wb.drew
      clear p5 o0 HP1 HF1
      generalize wb.drew = wc at *
      have d1 : wc.cell? ⟨q, 7 + z.toNat, none⟩ = some (.int .u8 (m z)) := HRd.out.mem z HU.out
      have e1 := HRd.out.frozen (7 + z.toNat)
      have HB2' := Lib.hid (both_put2 HPd.out HRd.out HDj.out z y0 HU.out rfl)
      have HF2 : Hid (Fr [] w0 (wc.setCell ⟨q, 7 + z.toNat, none⟩ (.int .u8 y0))) := Lib.hid (HFd.out.setCell (.inr HG3.out) _)
      go_wp2
      go_roundw
      case rel => exact ⟨1, upd m z y0, rfl, by omega, HB2'.out, both_byte m z y0 HMb.out HY0.out, HF2.out⟩
      case measure => simp [intOf]
    · obtain ⟨z, hz⟩ : ∃ z, (pc + 1) % 65536 = z := ⟨_, rfl⟩
      have wz : IntKind.u16.wrap (pc + IntKind.u16.wrap 1) = z := by rw [show IntKind.u16.wrap 1 = 1 from rfl, IntKind.wrap_u16]; exact hz
      have z0 : 0 ≤ z := by omega
      have z1 : z < 65536 := by omega
      have HU : Hid (u16 z) := Lib.hid ⟨z0, z1⟩
      clear hz hi
      have p5 := (HB0.out.fr HFr.out (by simp)).cell 5
      have o1 := (HB1.out.fr HFr.out (by simp)).cell 1
      simp at p5 o1
      have HBd : Hid (Both wr.drew w0.heap.size pp f q nil0 nil0 ⟨a, x, y, s, noBU p, pc, false, ⟨m, []⟩⟩) := Lib.hid (HBr.out.fr (Fr.refl [] wr).drew (by simp))
      have HFd : Hid (Fr [] w0 wr.drew) := Lib.hid HFr.out.drew
      go_upto_region 6 with fail
      go_still_tail 12, (by kernel_rfl)
      repeat still_step
      try refine wpStill_nil ?_
      change wpList _ _ _ _ _ wr.drew
      obtain ⟨wa, hwa⟩ : ∃ wa, wr.drew = wa := ⟨_, rfl⟩
      rw [hwa] at HBd HFd ⊢
      clear HBr HFr hwa p5 o1
      have d0 : wa.cell? ⟨f, z.toNat, none⟩ = some (.int .u8 (m z)) := HBd.out.prog.flat.mem z HU.out
      have e0 := HBd.out.prog.flat.frozen z.toNat
      have HP1 := Lib.hid (both_put1 HBd.out z y1 HU.out)
      have HF1 : Hid (Fr [] w0 (wa.setCell ⟨f, z.toNat, none⟩ (.int .u8 y1))) := Lib.hid (HFd.out.setCell (.inr HG2.out) _)
      have HDj := Lib.hid (And.intro HBd.out.disj HBd.out.qp)
      go_upto_region 7 with fail
      clear d0 e0 HBd HFd
      generalize wa.setCell _ _ = wb at *
      have HPd : Hid (ProgAt wb.drew w0.heap.size pp f nil0 ⟨a, x, y, s, noBU p, pc, false, ⟨upd m z y1, []⟩⟩) := Lib.hid (HP1.out.1.fr (Fr.refl [] wb).drew (by simp))
      have HRd : Hid (RefAt wb.drew w0.heap.size q nil0 ⟨a, x, y, s, noBU p, pc, false, ⟨m, []⟩⟩) := Lib.hid (HP1.out.2.fr (Fr.refl [] wb).drew (by simp))
      have HFd : Hid (Fr [] w0 wb.drew) := Lib.hid HF1.out.drew
      have p5 := (HB0.out.fr HF1.out (by simp)).cell 5
      have o1 := (HB1.out.fr HF1.out (by simp)).cell 1
      simp at p5 o1
      go_still_tail 12, (by kernel_rfl)
      repeat still_step
      try refine wpStill_nil ?_
      change wpList _ _ _ _ _ wb.drew
      clear p5 o1 HP1 HF1
      generalize wb.drew = wc at *
      have d1 : wc.cell? ⟨q, 7 + z.toNat, none⟩ = some (.int .u8 (m z)) := HRd.out.mem z HU.out
      have e1 := HRd.out.frozen (7 + z.toNat)
      have HB2' := Lib.hid (both_put2 HPd.out HRd.out HDj.out z y1 HU.out rfl)
      have HF2 : Hid (Fr [] w0 (wc.setCell ⟨q, 7 + z.toNat, none⟩ (.int .u8 y1))) := Lib.hid (HFd.out.setCell (.inr HG3.out) _)
      go_wp2
      go_roundw
      case rel => exact ⟨2, upd m z y1, rfl, by omega, HB2'.out, both_byte m z y1 HMb.out HY1.out, HF2.out⟩
      case measure => simp [intOf]
    · obtain ⟨z, hz⟩ : ∃ z, (pc + 2) % 65536 = z := ⟨_, rfl⟩
      have wz : IntKind.u16.wrap (pc + IntKind.u16.wrap 2) = z := by rw [show IntKind.u16.wrap 2 = 2 from rfl, IntKind.wrap_u16]; exact hz
      have z0 : 0 ≤ z := by omega
      have z1 : z < 65536 := by omega
      have HU : Hid (u16 z) := Lib.hid ⟨z0, z1⟩
      clear hz hi
      have p5 := (HB0.out.fr HFr.out (by simp)).cell 5
      have o2 := (HB1.out.fr HFr.out (by simp)).cell 2
      simp at p5 o2
      have HBd : Hid (Both wr.drew w0.heap.size pp f q nil0 nil0 ⟨a, x, y, s, noBU p, pc, false, ⟨m, []⟩⟩) := Lib.hid (HBr.out.fr (Fr.refl [] wr).drew (by simp))
      have HFd : Hid (Fr [] w0 wr.drew) := Lib.hid HFr.out.drew
      go_upto_region 6 with fail
      go_still_tail 12, (by kernel_rfl)
      repeat still_step
      try refine wpStill_nil ?_
      change wpList _ _ _ _ _ wr.drew
      obtain ⟨wa, hwa⟩ : ∃ wa, wr.drew = wa := ⟨_, rfl⟩
      rw [hwa] at HBd HFd ⊢
      clear HBr HFr hwa p5 o2
      have d0 : wa.cell? ⟨f, z.toNat, none⟩ = some (.int .u8 (m z)) := HBd.out.prog.flat.mem z HU.out
      have e0 := HBd.out.prog.flat.frozen z.toNat
      have HP1 := Lib.hid (both_put1 HBd.out z y2 HU.out)
      have HF1 : Hid (Fr [] w0 (wa.setCell ⟨f, z.toNat, none⟩ (.int .u8 y2))) := Lib.hid (HFd.out.setCell (.inr HG2.out) _)
      have HDj := Lib.hid (And.intro HBd.out.disj HBd.out.qp)
      go_upto_region 7 with fail
      clear d0 e0 HBd HFd
      generalize wa.setCell _ _ = wb at *
      have HPd : Hid (ProgAt wb.drew w0.heap.size pp f nil0 ⟨a, x, y, s, noBU p, pc, false, ⟨upd m z y2, []⟩⟩) := Lib.hid (HP1.out.1.fr (Fr.refl [] wb).drew (by simp))
      have HRd : Hid (RefAt wb.drew w0.heap.size q nil0 ⟨a, x, y, s, noBU p, pc, false, ⟨m, []⟩⟩) := Lib.hid (HP1.out.2.fr (Fr.refl [] wb).drew (by simp))
      have HFd : Hid (Fr [] w0 wb.drew) := Lib.hid HF1.out.drew
      have p5 := (HB0.out.fr HF1.out (by simp)).cell 5
      have o2 := (HB1.out.fr HF1.out (by simp)).cell 2
      simp at p5 o2
      go_still_tail 12, (by kernel_rfl)
      repeat still_step
      try refine wpStill_nil ?_
      change wpList _ _ _ _ _ wb.drew
      clear p5 o2 HP1 HF1
      generalize wb.drew = wc at *
      have d1 : wc.cell? ⟨q, 7 + z.toNat, none⟩ = some (.int .u8 (m z)) := HRd.out.mem z HU.out
      have e1 := HRd.out.frozen (7 + z.toNat)
      have HB2' := Lib.hid (both_put2 HPd.out HRd.out HDj.out z y2 HU.out rfl)
      have HF2 : Hid (Fr [] w0 (wc.setCell ⟨q, 7 + z.toNat, none⟩ (.int .u8 y2))) := Lib.hid (HFd.out.setCell (.inr HG3.out) _)
      go_wp2
      go_roundw
      case rel => exact ⟨3, upd m z y2, rfl, by omega, HB2'.out, both_byte m z y2 HMb.out HY2.out, HF2.out⟩
      case measure => simp [intOf]
    · obtain ⟨w3, rfl⟩ : ∃ x, x = wr := ⟨_, rfl⟩
      have HOk : Hid (Ok 0 (⟨a, x, y, s, noBU p, pc, false, ⟨m, []⟩⟩ : S14)) := Lib.hid (Ok.mk' HA.out HX.out HY.out HSs.out (fl_noBU p HP.out) HPC.out ⟨HMb.out, by simp, Nat.le_refl _⟩)
      generalize (⟨a, x, y, s, noBU p, pc, false, ⟨m, []⟩⟩ : S14) = ST at *
      clear hi
      go_wp2_with fail
      (with_reducible refine (HS.out w3 w0.heap.size pp f nil0 ST 0 HBr.out.prog HOk.out (by omega) HFr.out.size).mono ?_)
      intro e w4 hd
      obtain ⟨rfl, v3, hp3, hf3, hl3⟩ := hd
      have HPd : Hid (PDone w3 w0.heap.size pp f nil0 (step ST) (.int .i64 (stepN ST)) (.returned (.int .i64 (stepN ST))) w4) := Lib.hid ⟨rfl, v3, hp3, hf3, hl3⟩
      have HRr := Lib.hid (HBr.out.ref_after hf3)
      have HSz : Hid (w0.heap.size ≤ w4.heap.size) := Lib.hid (Nat.le_trans HFr.out.size hf3.size)
      clear hp3 hf3 hl3
      go_wp2_with fail
      (with_reducible refine (rstep_any w4 w0.heap.size q nil0 ST 0 HRr.out HOk.out (by omega) HSz.out).mono ?_)
      intro e w5 hd
      obtain ⟨-, rfl, v4, u4, hb4, hf4, -⟩ := Both.step HBr.out HPd.out hd
      have HB4 := Lib.hid hb4
      have HF4 : Hid (Fr [] w0 w5) := Lib.hid (HFr.out.trans hf4 (fun j hj => .inr (HBr.out.ge HG1.out HG2.out HG3.out j hj)))
      have HOk4 : Hid (Ok 3 (step ST)) := Lib.hid (ok_step HOk.out)
      clear hd hb4 hf4 HPd HRr HSz
      generalize stepN ST = NN at *
      generalize step ST = T4 at *
      have HSm : Hid (∀ k, Calls Tryd.prog 14 #[.pointer (some ⟨pp, 0, none⟩), .pointer (some ⟨f, 0, none⟩), .pointer (some ⟨q, 0, none⟩)] (w5.drewN k) fun e w' => e = .returned (.bool true) ∧ ∃ m, w' = (w5.drewN k).drewN m) := Lib.hid (fun k => same_any (w5.drewN k) w0.heap.size pp f q v4 u4 T4 3 (HB4.out.fr ((Fr.refl [] w5).drewN k) (by simp)) HOk4.out (by omega))
      obtain ⟨C, hC, hl1, hl2⟩ := both_mem HB4.out
      have hgd := guardA
      have heq : ∀ W, (Op.equalIn 10000 35 (.agg C) (.agg C)).run Tryd.prog W = .ok true W := eqA C C (fun i => T4.b.m (i : Int)) hC hC
      clear hC
      go_upto_region 10 with fail
      refine wp_region_quiet_lit (by kernel_rfl) (by kernel_rfl) ?_
      iterate 16 (quiet_step (first | (go_at_call 14; with_reducible exact Calls.quiet_of (HSm.out _))))
      refine Go.BigFrame.wpQuiet_want rfl (fun K hK => quiet_load 35 _ rfl (.agg C) (fun w hw => ?_) (hK _ ?_))
      · obtain ⟨k, rfl⟩ := hw
        exact hl1 k
      clear hK K
      iterate 3 (quiet_step (fail))
      refine Go.BigFrame.wpQuiet_want rfl (fun K hK => quiet_load 35 _ rfl (.agg C) (fun w hw => ?_) (hK _ ?_))
      · obtain ⟨k, rfl⟩ := hw
        exact hl2 k
      clear hK K hl1 hl2
      repeat (quiet_step (fail))
      refine wpQuiet_nil ?_
      intro _ hw'
      obtain ⟨nq, hw''⟩ := hw'
      subst hw''
      go_wp2
      go_ret
      exact ⟨rfl, ((HF0.out.tr HF4.out).drewN _).below (by simp) (Nat.le_refl _)⟩

end Ms
end Go.Proofs.YtlnpadekgakghaaDoor
