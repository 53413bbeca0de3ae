/-
  picklocklaw14.MosStack returns true for every input. Condition: the program's Step and Interrupt do what the account says.
-/
import Derived.Test.YtlnpadekgakghaaDoorStackTwo
import Derived.Test.YtlnpadekgakghaaDoorMkTwo
import Derived.Test.YtlnpadekgakghaaDoorHaltsLaw
namespace Go.Proofs.YtlnpadekgakghaaDoor
open Go.RowKit
namespace Ms
open Al (byte of_byte)
set_option linter.unusedVariables false

set_option maxRecDepth 100000 in
theorem and4set : ∀ v, byte v → bits .and .u8 (setF v 4 true) 4 = 4 := of_byte _ (by decide +kernel)
/-- A CPU's block that is not the machine's own is not among what its calls turn. -/
theorem ProgAt.notin {w : World} {B p f n : Nat} {v : Value} {S : S14} {C : Array Value} (H : ProgAt w B p f v S) (hb : Blk w n 50 C) (h1 : n ≠ p) (h2 : n ≠ f) : n ∉ pfoot p f v := by
  have h3 : v.ownBlock ≠ some n := H.row.other hb (by decide)
  intro hm
  simp [pfoot] at hm
  rcases hm with h | h | h
  · exact h1 h
  · exact h2 h
  · exact h3 h

set_option maxRecDepth 100000 in
set_option maxHeartbeats 8000000 in
theorem stack_walk (hS : StepC) (hI : IntC) (a x y s p pc fl0 wh : Int) (w : World) (hT : Tab w) (ha : byte a) (hx : byte x) (hy : byte y) (hs : byte s) (hp : byte p) (hpc : u16 pc) (hf : byte fl0) (hwhich : byte wh) :
    Calls Tryd.prog 6 #[.agg #[.int .u8 a, .int .u8 x, .int .u8 y, .int .u8 s, .int .u8 p, .int .u16 pc], .int .u8 fl0, .int .u8 wh] w fun e w' => e = .returned (.bool true) ∧ Below w.heap.size w w' := by
  have HTab : Hid (∀ w', Fr [] w w' → Tab w') := Lib.hid fun _ h => hT.later h
  have HTps := Lib.hid hT.pos
  clear hT
  obtain ⟨g, hg⟩ : ∃ g, w.heap.size = g := ⟨_, rfl⟩
  obtain ⟨w0, h01⟩ : ∃ z, w.alloc (.cells #[.int .u8 a, .int .u8 x, .int .u8 y, .int .u8 s, .int .u8 p, .int .u16 pc] 24) = z := ⟨_, rfl⟩
  have hb0 := Blk.fresh w 24 #[.int .u8 a, .int .u8 x, .int .u8 y, .int .u8 s, .int .u8 p, .int .u16 pc]
  rw [h01, hg] at hb0
  have hf01 : Fr [] w w0 := by rw [← h01]; exact (Fr.refl [] _).alloc _
  have HW0 := Lib.hid h01
  have HB0 := Lib.hid hb0
  have HF0 := Lib.hid hf01
  have HS := Lib.hid hS
  have HI := Lib.hid hI
  have HA := Lib.hid ha
  have HX := Lib.hid hx
  have HY := Lib.hid hy
  have HP := Lib.hid hp
  have HPC := Lib.hid hpc
  obtain ⟨pc0, pc1⟩ := hpc
  have HFl := Lib.hid hf
  have hwh := and3 wh hwhich
  obtain ⟨k, hk⟩ : ∃ k, wh % 4 = k := ⟨_, rfl⟩
  rw [hk] at hwh
  have HK : Hid (0 ≤ k ∧ k < 4) := Lib.hid ⟨by omega, by omega⟩
  have k0 := HK.out.1
  have k4 := HK.out.2
  obtain ⟨wh0, wh1⟩ := hwhich
  obtain ⟨P, hP⟩ : ∃ z, bits .or .u16 1024 (bits .and .u16 pc 31743) = z := ⟨_, rfl⟩
  have HPs : Hid (1024 ≤ P ∧ P < 32768) := Lib.hid (by rw [← hP]; exact pc_stack pc ⟨pc0, pc1⟩)
  have P0 := HPs.out.1
  have P1 := HPs.out.2
  obtain ⟨S, hS8⟩ : ∃ z, 16 + s % 200 = z := ⟨_, rfl⟩
  have HSt : Hid (16 ≤ S ∧ S < 216) := Lib.hid (by have := hs.1; have := hs.2; omega)
  have S0 := HSt.out.1
  have S1 := HSt.out.2
  obtain ⟨s0, s1⟩ := hs
  have hsr : s.tmod 200 = s % 200 := Int.tmod_eq_emod_of_nonneg s0
  have hsw : IntKind.u8.wrap (s % 200) = s % 200 := by rw [IntKind.wrap_u8]; omega
  have hsw2 : IntKind.u8.wrap (16 + s % 200) = 16 + s % 200 := by rw [IntKind.wrap_u8]; omega
  have HGw : Hid (w.heap.size = g) := Lib.hid hg
  clear hf hk
  clear h01 hb0 hf01 hS hI ha hx hy hp
  go_enter Tryd.func6, Tryd.ntmps6
  go_upto_region 1 with fail
  rw [HW0.out]
  clear hg HW0
  go_wp2_with fail
  (with_reducible refine (shown14 HS.out w0 (HTab.out w0 HF0.out)).mono ?_)
  rintro e w1 ⟨rfl, hf1⟩
  have HF1 := Lib.hid hf1
  have hb0 := HB0.out.fr hf1 (by simp)
  have c0 := hb0.cell 0
  have c1 := hb0.cell 1
  have c2 := hb0.cell 2
  have c3 := hb0.cell 3
  have c4 := hb0.cell 4
  have c5 := hb0.cell 5
  simp at c0 c1 c2 c3 c4 c5
  have e5 := hb0.frozen 5
  have e3 := hb0.frozen 3
  clear hf1 hb0
  go_upto_region 4 with fail
  have HFb : Hid (Fr [] w ((w1.setCell ⟨g, 5, none⟩ (.int .u16 P)).setCell ⟨g, 3, none⟩ (.int .u8 S))) := Lib.hid (((HF0.out.tr HF1.out).setCell (.inr (by rw [HGw.out]; exact Nat.le_refl _)) _).setCell (.inr (by rw [HGw.out]; exact Nat.le_refl _)) _)
  have HBb : Hid (Blk ((w1.setCell ⟨g, 5, none⟩ (.int .u16 P)).setCell ⟨g, 3, none⟩ (.int .u8 S)) g 24 #[.int .u8 a, .int .u8 x, .int .u8 y, .int .u8 S, .int .u8 p, .int .u16 P]) := Lib.hid (((HB0.out.fr HF1.out (by simp)).put 5 (.int .u16 P)).put 3 (.int .u8 S))
  clear HF0 HB0 HF1 c0 c1 c2 c3 c4 c5 e5 e3 HGw hsr hsw hsw2 hP hS8 pc0 pc1 s0 s1 HPC
  generalize World.setCell _ _ _ = w0 at *
  have HF0 := HFb
  have HB0 := HBb
  clear HFb HBb
  have hb0 := HB0.out
  have c0 := hb0.cell 0
  have c1 := hb0.cell 1
  have c2 := hb0.cell 2
  have c3 := hb0.cell 3
  have c4 := hb0.cell 4
  have c5 := hb0.cell 5
  simp at c0 c1 c2 c3 c4 c5
  clear hb0
  go_wp2_with fail
  (with_reducible refine (made_any w0 w0.heap.size a x y S p P fl0 none 0 0 [] rfl (pk_nil w0) (by simp) (by omega) cap0 (Nat.le_refl _) (HTab.out w0 HF0.out) (Nat.lt_of_lt_of_le HTps.out HF0.out.size) HP.out HFl.out).mono ?_)
  rintro e w2 ⟨pp, f, q, m, rfl, hbo, hmb, hf2, hg1, hg2, -⟩
  have HP2 := Lib.hid hbo.prog
  have HMb := Lib.hid hmb
  have HF2 : Hid (Fr [] w0 w2) := Lib.hid hf2
  have HG1 : Hid (w0.heap.size ≤ pp) := Lib.hid hg1
  have HG2 : Hid (w0.heap.size ≤ f) := Lib.hid hg2
  clear hbo hmb hf2 hg1 hg2 c0 c1 c2 c3 c4 c5
  obtain ⟨n, hn⟩ : ∃ n, w2.heap.size = n := ⟨_, rfl⟩
  have HNp : Hid (n ≠ pp) := Lib.hid (by have := HP2.out.cpu.lt; omega)
  have HNf : Hid (n ≠ f) := Lib.hid (by have := HP2.out.flat.lt; omega)
  obtain ⟨d0, d1, d2, d3, d4, d5, d6⟩ := ProgAt.regs HP2.out
  simp only at d0 d1 d2 d3 d4 d5 d6
  go_upto_region 6 with fail
  have HW3 : Hid (Blk (w2.alloc (.cells #[.int .u8 a, .int .u8 x, .int .u8 y, .int .u8 S, .int .u8 (noBU p), .int .u16 P, .bool false] 50)) n 50 (cpuC (⟨a, x, y, S, noBU p, P, false, ⟨m, []⟩⟩ : S14))) := Lib.hid (by have h := Blk.fresh w2 50 #[.int .u8 a, .int .u8 x, .int .u8 y, .int .u8 S, .int .u8 (noBU p), .int .u16 P, .bool false]; rw [hn] at h; exact h)
  have HP3 : Hid (ProgAt (w2.alloc (.cells #[.int .u8 a, .int .u8 x, .int .u8 y, .int .u8 S, .int .u8 (noBU p), .int .u16 P, .bool false] 50)) w0.heap.size pp f nil0 ⟨a, x, y, S, noBU p, P, false, ⟨m, []⟩⟩) := Lib.hid (HP2.out.fr ((Fr.refl [] w2).alloc _) (by simp))
  have HF3 : Hid (Fr [] w0 (w2.alloc (.cells #[.int .u8 a, .int .u8 x, .int .u8 y, .int .u8 S, .int .u8 (noBU p), .int .u16 P, .bool false] 50))) := Lib.hid (HF2.out.alloc _)
  clear HP2 HF2 hn d0 d1 d2 d3 d4 d5 d6
  generalize World.alloc _ _ = w3 at *
  have hi1 := index4 w3 72 8 32 234 k k0 k4
  have hi2 := index4 w3 104 40 96 64 k k0 k4
  obtain ⟨fi, hfi⟩ : ∃ z, pick4 72 8 32 234 k = z := ⟨_, rfl⟩
  obtain ⟨la, hla⟩ : ∃ z, pick4 104 40 96 64 k = z := ⟨_, rfl⟩
  rw [hfi] at hi1
  rw [hla] at hi2
  have HK4 : Hid ((k = 0 ∧ fi = 72 ∧ la = 104) ∨ (k = 1 ∧ fi = 8 ∧ la = 40) ∨ (k = 2 ∧ fi = 32 ∧ la = 96) ∨ (k = 3 ∧ fi = 234 ∧ la = 64)) := Lib.hid (by
    have hk : k = 0 ∨ k = 1 ∨ k = 2 ∨ k = 3 := by omega
    rcases hk with rfl | rfl | rfl | rfl <;> simp [pick4] at hfi hla <;> omega)
  have HFb : Hid (byte fi) := Lib.hid (by rcases HK4.out with h | h | h | h <;> exact ⟨by omega, by omega⟩)
  have HLb : Hid (byte la) := Lib.hid (by rcases HK4.out with h | h | h | h <;> exact ⟨by omega, by omega⟩)
  have fi0 := HFb.out.1
  have fi1 := HFb.out.2
  have la0 := HLb.out.1
  have la1 := HLb.out.2
  obtain ⟨Q, hQ⟩ : ∃ z, P + 1 = z := ⟨_, rfl⟩
  have HQe := Lib.hid hQ
  have wQ : IntKind.u16.wrap (P + 1) = Q := by rw [IntKind.wrap_u16]; omega
  have HPu : Hid (u16 P) := Lib.hid ⟨by omega, by omega⟩
  have HQu : Hid (u16 Q) := Lib.hid ⟨by omega, by omega⟩
  have Q0 := HQu.out.1
  have Q1 := HQu.out.2
  have pp0 := HPu.out.1
  have pp1 := HPu.out.2
  clear hfi hla hQ
  have p5 := (HB0.out.fr HF3.out (by simp)).cell 5
  simp at p5
  have HPd : Hid (ProgAt w3.drew w0.heap.size pp f nil0 ⟨a, x, y, S, noBU p, P, false, ⟨m, []⟩⟩) := Lib.hid (HP3.out.fr (Fr.refl [] w3).drew (by simp))
  have HFd : Hid (Fr [] w0 w3.drew) := Lib.hid HF3.out.drew
  have HWd : Hid (Blk w3.drew n 50 (cpuC (⟨a, x, y, S, noBU p, P, false, ⟨m, []⟩⟩ : S14))) := Lib.hid (HW3.out.fr (Fr.refl [] w3).drew (by simp))
  go_upto_region 8 with fail
  go_still_tail 7, (by kernel_rfl)
  repeat still_step
  try refine wpStill_nil ?_
  change wpList _ _ _ _ _ w3.drew
  obtain ⟨wa, hwa⟩ : ∃ wa, w3.drew = wa := ⟨_, rfl⟩
  rw [hwa] at HPd HFd HWd ⊢
  clear HP3 HF3 HW3 hwa p5
  have d0 := HPd.out.flat.mem (P) HPu.out
  have e0 := HPd.out.flat.frozen (P).toNat
  simp only at d0
  have HP4 : Hid (ProgAt (wa.setCell ⟨f, (P).toNat, none⟩ (.int .u8 fi)) w0.heap.size pp f nil0 ⟨a, x, y, S, noBU p, P, false, ⟨upd m P fi, []⟩⟩) := Lib.hid (prog_putm HPd.out (P) fi HPu.out)
  have HF4 : Hid (Fr [] w0 (wa.setCell ⟨f, (P).toNat, none⟩ (.int .u8 fi))) := Lib.hid (HFd.out.setCell (.inr HG2.out) _)
  have HW4 : Hid (Blk (wa.setCell ⟨f, (P).toNat, none⟩ (.int .u8 fi)) n 50 (cpuC (⟨a, x, y, S, noBU p, P, false, ⟨m, []⟩⟩ : S14))) := Lib.hid (HWd.out.fr ((Fr.refl [f] wa).setCell (by simp) _) (by simpa using HNf.out))
  go_upto_region 9 with fail
  clear d0 e0 HPd HFd HWd
  generalize wa.setCell _ _ = w4 at *
  clear hi1 hi2
  have p5 := (HB0.out.fr HF4.out (by simp)).cell 5
  simp at p5
  have HPd : Hid (ProgAt w4.drew w0.heap.size pp f nil0 ⟨a, x, y, S, noBU p, P, false, ⟨upd m P fi, []⟩⟩) := Lib.hid (HP4.out.fr (Fr.refl [] w4).drew (by simp))
  have HFd : Hid (Fr [] w0 w4.drew) := Lib.hid HF4.out.drew
  have HWd : Hid (Blk w4.drew n 50 (cpuC (⟨a, x, y, S, noBU p, P, false, ⟨m, []⟩⟩ : S14))) := Lib.hid (HW4.out.fr (Fr.refl [] w4).drew (by simp))
  go_upto_region 9 with fail
  go_still_tail 8, (by kernel_rfl)
  repeat still_step
  try refine wpStill_nil ?_
  change wpList _ _ _ _ _ w4.drew
  obtain ⟨wa, hwa⟩ : ∃ wa, w4.drew = wa := ⟨_, rfl⟩
  rw [hwa] at HPd HFd HWd ⊢
  clear HP4 HF4 HW4 hwa p5
  have d0 := HPd.out.flat.mem (Q) HQu.out
  have e0 := HPd.out.flat.frozen (Q).toNat
  simp only at d0
  have HP5 : Hid (ProgAt (wa.setCell ⟨f, (Q).toNat, none⟩ (.int .u8 la)) w0.heap.size pp f nil0 ⟨a, x, y, S, noBU p, P, false, ⟨upd (upd m P fi) Q la, []⟩⟩) := Lib.hid (prog_putm HPd.out (Q) la HQu.out)
  have HF5 : Hid (Fr [] w0 (wa.setCell ⟨f, (Q).toNat, none⟩ (.int .u8 la))) := Lib.hid (HFd.out.setCell (.inr HG2.out) _)
  have HW5 : Hid (Blk (wa.setCell ⟨f, (Q).toNat, none⟩ (.int .u8 la)) n 50 (cpuC (⟨a, x, y, S, noBU p, P, false, ⟨m, []⟩⟩ : S14))) := Lib.hid (HWd.out.fr ((Fr.refl [f] wa).setCell (by simp) _) (by simpa using HNf.out))
  go_upto_region 10 with fail
  clear d0 e0 HPd HFd HWd
  generalize wa.setCell _ _ = w5 at *
  have HMP : Hid ((upd (upd m P fi) Q la) P = fi) := Lib.hid (by have := HQe.out; rw [upd_other _ _ _ _ (by omega), upd_same])
  have HMQ : Hid ((upd (upd m P fi) Q la) (P + 1) = la) := Lib.hid (by rw [HQe.out, upd_same])
  have HMb2 : Hid (∀ j, byte (((upd (upd m P fi) Q la)) j)) := Lib.hid (both_byte _ Q la (both_byte m P fi HMb.out HFb.out) HLb.out)
  generalize (upd (upd m P fi) Q la) = M at *
  rcases HK4.out with ⟨hk, hfi, hla⟩ | ⟨hk, hfi, hla⟩ | ⟨hk, hfi, hla⟩ | ⟨hk, hfi, hla⟩
  · subst hk hfi hla
    have HOk5 : Hid (Ok 0 (⟨a, x, y, S, noBU p, P, false, ⟨M, []⟩⟩ : S14)) := Lib.hid (Ok.mk' HA.out HX.out HY.out ⟨by omega, by omega⟩ (fl_noBU p HP.out) HPu.out ⟨HMb2.out, by simp, Nat.le_refl _⟩)
    obtain ⟨V1, hV1⟩ : ∃ z, IntKind.u8.wrap (a + 1) = z := ⟨_, rfl⟩
    have HV1 := Lib.hid hV1
    have HE := Lib.hid (fun l' => two_pha a x y S (noBU p) P V1 M [] l' HMP.out HMQ.out HPs.out.1 HPs.out.2 HSt.out.1 HSt.out.2)
    have hOk6 : Ok 3 (step (⟨a, x, y, S, noBU p, P, false, ⟨M, []⟩⟩ : S14)) := ok_step HOk5.out
    have hC := HS.out w5 w0.heap.size pp f nil0 (⟨a, x, y, S, noBU p, P, false, ⟨M, []⟩⟩ : S14) 0 HP5.out HOk5.out (by omega) HF5.out.size
    have he1 := (HE.out []).1
    rw [he1] at hC hOk6
    have HE2 := Lib.hid (fun l' => (HE.out l').2)
    clear HE he1
    generalize upd M (256 + S) a = M1 at *
    generalize ([] ++ [(256 + S, a)] : List (Int × Int)) = l1 at *
    generalize stepN (⟨a, x, y, S, noBU p, P, false, ⟨M, []⟩⟩ : S14) = N1 at *
    have HC := Lib.hid hC
    have HOk6 := Lib.hid hOk6
    clear hC hOk6
    have HNo : n ∉ pfoot pp f nil0 := ProgAt.notin HP5.out HW5.out HNp.out HNf.out
    go_wp2_with fail
    (with_reducible refine (HC.out).mono ?_)
    intro e w6 hd
    obtain ⟨rfl, v6, hp, hf, -⟩ := hd
    have HP6 : Hid (ProgAt w6 w0.heap.size pp f v6 ⟨a, x, y, S - 1, noBU p, P + 1, false, ⟨M1, l1⟩⟩) := Lib.hid hp
    have HF6 : Hid (Fr [] w0 w6) := Lib.hid (HF5.out.trans hf (fun j hj => .inr (HP5.out.ge HG1.out HG2.out j hj)))
    have HW6 := Lib.hid (HW5.out.fr hf HNo)
    clear hp hf HNo HP5 HF5 HW5
    clear HC
    have d0 := (ProgAt.regs HP6.out).1
    have e0 := HP6.out.cpu.frozen 0
    simp only at d0
    go_upto_region 30 with fail
    have HP7 : Hid (ProgAt (w6.setCell ⟨pp, 0, none⟩ (.int .u8 V1)) w0.heap.size pp f v6 ⟨V1, x, y, S - 1, noBU p, P + 1, false, ⟨M1, l1⟩⟩) := Lib.hid (prog_seta HP6.out V1)
    have HF7 : Hid (Fr [] w0 (w6.setCell ⟨pp, 0, none⟩ (.int .u8 V1))) := Lib.hid (HF6.out.setCell (.inr HG1.out) _)
    have HW7 : Hid (Blk (w6.setCell ⟨pp, 0, none⟩ (.int .u8 V1)) n 50 (cpuC (⟨a, x, y, S, noBU p, P, false, ⟨m, []⟩⟩ : S14))) := Lib.hid (HW6.out.fr ((Fr.refl [pp] w6).setCell (by simp) _) (by simpa using HNp.out))
    clear d0 e0 HP6 HF6 HW6
    generalize w6.setCell _ _ = w7 at *
    have HOk7 : Hid (Ok 3 (⟨V1, x, y, S - 1, noBU p, P + 1, false, ⟨M1, l1⟩⟩ : S14)) := Lib.hid (Ok.mk' (by rw [← HV1.out]; exact wrap_byte _) HX.out HY.out ⟨by omega, by omega⟩ (fl_noBU p HP.out) ⟨by omega, by omega⟩ HOk6.out.b)
    have hC := HS.out w7 w0.heap.size pp f v6 (⟨V1, x, y, S - 1, noBU p, P + 1, false, ⟨M1, l1⟩⟩ : S14) 3 HP7.out HOk7.out (by omega) HF7.out.size
    rw [HE2.out l1] at hC
    generalize stepN (⟨V1, x, y, S - 1, noBU p, P + 1, false, ⟨M1, l1⟩⟩ : S14) = N2 at *
    have HC := Lib.hid hC
    clear hC HE2 HOk6 HOk7 hV1
    have HNo : n ∉ pfoot pp f v6 := ProgAt.notin HP7.out HW7.out HNp.out HNf.out
    go_wp2_with fail
    (with_reducible refine (HC.out).mono ?_)
    intro e w8 hd
    obtain ⟨rfl, v8, hp, hf, -⟩ := hd
    have HP8 : Hid (ProgAt w8 w0.heap.size pp f v8 ⟨a, x, y, S, zn (noBU p) a, P + 2, false, ⟨M1, l1⟩⟩) := Lib.hid hp
    have HF8 : Hid (Fr [] w0 w8) := Lib.hid (HF7.out.trans hf (fun j hj => .inr (HP7.out.ge HG1.out HG2.out j hj)))
    have HW8 := Lib.hid (HW7.out.fr hf HNo)
    clear hp hf HNo HP7 HF7 HW7
    clear HC
    have wR : IntKind.u16.wrap (P + 2) = P + 2 := by rw [IntKind.wrap_u16]; omega
    have hn := andNot_zn (noBU p) a (fl_noBU p HP.out).1
    obtain ⟨Z, hZ⟩ : ∃ z, zn (noBU p) a = z := ⟨_, rfl⟩
    obtain ⟨X, hX⟩ : ∃ z, bits .andNot .u8 (noBU p) 130 = z := ⟨_, rfl⟩
    rw [hX, hZ] at hn
    rw [hZ] at HP8
    clear hZ
    by_cases hz : Z = noBU p
    · subst hz
      obtain ⟨d0, d1, d2, d3, d4, d5, d6⟩ := ProgAt.regs HP8.out
      simp only at d0 d1 d2 d3 d4 d5 d6
      have b0 := HW8.out.cell 0
      have b1 := HW8.out.cell 1
      have b2 := HW8.out.cell 2
      have b3 := HW8.out.cell 3
      have b4 := HW8.out.cell 4
      have b5 := HW8.out.cell 5
      have b6 := HW8.out.cell 6
      simp [cpuC] at b0 b1 b2 b3 b4 b5 b6
      have c5 := (HB0.out.fr HF8.out (by simp)).cell 5
      simp at c5
      go_upto_region 34 with fail
      go_quiet (fail)
      clear d0 d1 d2 d3 d4 d5 d6 b0 b1 b2 b3 b4 b5 b6 c5
      have HPq : Hid (ProgAt (w8.drewN nq) w0.heap.size pp f v8 ⟨a, x, y, S, noBU p, P + 2, false, ⟨M1, l1⟩⟩) := Lib.hid (HP8.out.fr ((Fr.refl [] w8).drewN nq) (by simp))
      have HFq : Hid (Fr [] w0 (w8.drewN nq)) := Lib.hid (HF8.out.drewN nq)
      have HWq : Hid (Blk (w8.drewN nq) n 50 (cpuC (⟨a, x, y, S, noBU p, P, false, ⟨m, []⟩⟩ : S14))) := Lib.hid (HW8.out.fr ((Fr.refl [] w8).drewN nq) (by simp))
      have HPz := HPq
      have HFz := HFq
      have HWz := HWq
      clear HPq HFq HWq HP8 HF8 HW8
      generalize w8.drewN nq = wz at *
      obtain ⟨d0, d1, d2, d3, d4, d5, d6⟩ := ProgAt.regs HPz.out
      simp only at d0 d1 d2 d3 d4 d5 d6
      have b0 := HWz.out.cell 0
      have b1 := HWz.out.cell 1
      have b2 := HWz.out.cell 2
      have b3 := HWz.out.cell 3
      have b4 := HWz.out.cell 4
      have b5 := HWz.out.cell 5
      have b6 := HWz.out.cell 6
      simp [cpuC] at b0 b1 b2 b3 b4 b5 b6
      have c5 := (HB0.out.fr HFz.out (by simp)).cell 5
      simp at c5
      try go_upto_region 35 with fail
      go_quiet (fail)
      go_wp2
      go_ret
      exact ⟨rfl, ((HF0.out.tr HFz.out).drewN _).below (by simp) (Nat.le_refl _)⟩
    · have q1 : (Z == noBU p) = false := by rw [beq_eq_false_iff_ne]; exact hz
      clear hz
      obtain ⟨d0, d1, d2, d3, d4, d5, d6⟩ := ProgAt.regs HP8.out
      simp only at d0 d1 d2 d3 d4 d5 d6
      have b0 := HW8.out.cell 0
      have b1 := HW8.out.cell 1
      have b2 := HW8.out.cell 2
      have b3 := HW8.out.cell 3
      have b4 := HW8.out.cell 4
      have b5 := HW8.out.cell 5
      have b6 := HW8.out.cell 6
      simp [cpuC] at b0 b1 b2 b3 b4 b5 b6
      have c5 := (HB0.out.fr HF8.out (by simp)).cell 5
      simp at c5
      go_upto_region 34 with fail
      go_quiet (fail)
      clear d0 d1 d2 d3 d4 d5 d6 b0 b1 b2 b3 b4 b5 b6 c5
      have HPq : Hid (ProgAt (w8.drewN nq) w0.heap.size pp f v8 ⟨a, x, y, S, Z, P + 2, false, ⟨M1, l1⟩⟩) := Lib.hid (HP8.out.fr ((Fr.refl [] w8).drewN nq) (by simp))
      have HFq : Hid (Fr [] w0 (w8.drewN nq)) := Lib.hid (HF8.out.drewN nq)
      have HWq : Hid (Blk (w8.drewN nq) n 50 (cpuC (⟨a, x, y, S, noBU p, P, false, ⟨m, []⟩⟩ : S14))) := Lib.hid (HW8.out.fr ((Fr.refl [] w8).drewN nq) (by simp))
      have HPz := HPq
      have HFz := HFq
      have HWz := HWq
      clear HPq HFq HWq HP8 HF8 HW8
      generalize w8.drewN nq = wz at *
      obtain ⟨d0, d1, d2, d3, d4, d5, d6⟩ := ProgAt.regs HPz.out
      simp only at d0 d1 d2 d3 d4 d5 d6
      have b0 := HWz.out.cell 0
      have b1 := HWz.out.cell 1
      have b2 := HWz.out.cell 2
      have b3 := HWz.out.cell 3
      have b4 := HWz.out.cell 4
      have b5 := HWz.out.cell 5
      have b6 := HWz.out.cell 6
      simp [cpuC] at b0 b1 b2 b3 b4 b5 b6
      have c5 := (HB0.out.fr HFz.out (by simp)).cell 5
      simp at c5
      try go_upto_region 35 with fail
      go_quiet (fail)
      go_wp2
      go_ret
      exact ⟨rfl, ((HF0.out.tr HFz.out).drewN _).below (by simp) (Nat.le_refl _)⟩
  · subst hk hfi hla
    have HOk5 : Hid (Ok 0 (⟨a, x, y, S, noBU p, P, false, ⟨M, []⟩⟩ : S14)) := Lib.hid (Ok.mk' HA.out HX.out HY.out ⟨by omega, by omega⟩ (fl_noBU p HP.out) HPu.out ⟨HMb2.out, by simp, Nat.le_refl _⟩)
    obtain ⟨V1, hV1⟩ : ∃ z, bits .xor .u8 (noBU p) 207 = z := ⟨_, rfl⟩
    have HV1 := Lib.hid hV1
    have HE := Lib.hid (fun l' => two_php a x y S (noBU p) P V1 M [] l' HMP.out HMQ.out HPs.out.1 HPs.out.2 HSt.out.1 HSt.out.2 (fl_noBU p HP.out))
    have hOk6 : Ok 3 (step (⟨a, x, y, S, noBU p, P, false, ⟨M, []⟩⟩ : S14)) := ok_step HOk5.out
    have hC := HS.out w5 w0.heap.size pp f nil0 (⟨a, x, y, S, noBU p, P, false, ⟨M, []⟩⟩ : S14) 0 HP5.out HOk5.out (by omega) HF5.out.size
    have he1 := (HE.out []).1
    rw [he1] at hC hOk6
    have HE2 := Lib.hid (fun l' => (HE.out l').2)
    clear HE he1
    generalize upd M (256 + S) (noBU p + 48) = M1 at *
    generalize ([] ++ [(256 + S, (noBU p + 48))] : List (Int × Int)) = l1 at *
    generalize stepN (⟨a, x, y, S, noBU p, P, false, ⟨M, []⟩⟩ : S14) = N1 at *
    have HC := Lib.hid hC
    have HOk6 := Lib.hid hOk6
    clear hC hOk6
    have HNo : n ∉ pfoot pp f nil0 := ProgAt.notin HP5.out HW5.out HNp.out HNf.out
    go_wp2_with fail
    (with_reducible refine (HC.out).mono ?_)
    intro e w6 hd
    obtain ⟨rfl, v6, hp, hf, -⟩ := hd
    have HP6 : Hid (ProgAt w6 w0.heap.size pp f v6 ⟨a, x, y, S - 1, noBU p, P + 1, false, ⟨M1, l1⟩⟩) := Lib.hid hp
    have HF6 : Hid (Fr [] w0 w6) := Lib.hid (HF5.out.trans hf (fun j hj => .inr (HP5.out.ge HG1.out HG2.out j hj)))
    have HW6 := Lib.hid (HW5.out.fr hf HNo)
    clear hp hf HNo HP5 HF5 HW5
    clear HC
    have d4 := (ProgAt.regs HP6.out).2.2.2.2.1
    have e0 := HP6.out.cpu.frozen 4
    simp only at d4
    go_upto_region 30 with fail
    have HP7 : Hid (ProgAt (w6.setCell ⟨pp, 4, none⟩ (.int .u8 V1)) w0.heap.size pp f v6 ⟨a, x, y, S - 1, V1, P + 1, false, ⟨M1, l1⟩⟩) := Lib.hid (prog_setp HP6.out V1)
    have HF7 : Hid (Fr [] w0 (w6.setCell ⟨pp, 4, none⟩ (.int .u8 V1))) := Lib.hid (HF6.out.setCell (.inr HG1.out) _)
    have HW7 : Hid (Blk (w6.setCell ⟨pp, 4, none⟩ (.int .u8 V1)) n 50 (cpuC (⟨a, x, y, S, noBU p, P, false, ⟨m, []⟩⟩ : S14))) := Lib.hid (HW6.out.fr ((Fr.refl [pp] w6).setCell (by simp) _) (by simpa using HNp.out))
    clear d4 e0 HP6 HF6 HW6
    generalize w6.setCell _ _ = w7 at *
    have HOk7 : Hid (Ok 3 (⟨a, x, y, S - 1, V1, P + 1, false, ⟨M1, l1⟩⟩ : S14)) := Lib.hid (Ok.mk' HA.out HX.out HY.out ⟨by omega, by omega⟩ (by rw [← HV1.out]; exact fl_xor _ (fl_noBU p HP.out)) ⟨by omega, by omega⟩ HOk6.out.b)
    have hC := HS.out w7 w0.heap.size pp f v6 (⟨a, x, y, S - 1, V1, P + 1, false, ⟨M1, l1⟩⟩ : S14) 3 HP7.out HOk7.out (by omega) HF7.out.size
    rw [HE2.out l1] at hC
    generalize stepN (⟨a, x, y, S - 1, V1, P + 1, false, ⟨M1, l1⟩⟩ : S14) = N2 at *
    have HC := Lib.hid hC
    clear hC HE2 HOk6 HOk7 hV1
    have HNo : n ∉ pfoot pp f v6 := ProgAt.notin HP7.out HW7.out HNp.out HNf.out
    go_wp2_with fail
    (with_reducible refine (HC.out).mono ?_)
    intro e w8 hd
    obtain ⟨rfl, v8, hp, hf, -⟩ := hd
    have HP8 : Hid (ProgAt w8 w0.heap.size pp f v8 ⟨a, x, y, S, noBU p, P + 2, false, ⟨M1, l1⟩⟩) := Lib.hid hp
    have HF8 : Hid (Fr [] w0 w8) := Lib.hid (HF7.out.trans hf (fun j hj => .inr (HP7.out.ge HG1.out HG2.out j hj)))
    have HW8 := Lib.hid (HW7.out.fr hf HNo)
    clear hp hf HNo HP7 HF7 HW7
    clear HC
    have wR : IntKind.u16.wrap (P + 2) = P + 2 := by rw [IntKind.wrap_u16]; omega
    obtain ⟨d0, d1, d2, d3, d4, d5, d6⟩ := ProgAt.regs HP8.out
    simp only at d0 d1 d2 d3 d4 d5 d6
    have b0 := HW8.out.cell 0
    have b1 := HW8.out.cell 1
    have b2 := HW8.out.cell 2
    have b3 := HW8.out.cell 3
    have b4 := HW8.out.cell 4
    have b5 := HW8.out.cell 5
    have b6 := HW8.out.cell 6
    simp [cpuC] at b0 b1 b2 b3 b4 b5 b6
    have c5 := (HB0.out.fr HF8.out (by simp)).cell 5
    simp at c5
    go_upto_region 34 with fail
    go_quiet (fail)
    clear d0 d1 d2 d3 d4 d5 d6 b0 b1 b2 b3 b4 b5 b6 c5
    have HPq : Hid (ProgAt (w8.drewN nq) w0.heap.size pp f v8 ⟨a, x, y, S, noBU p, P + 2, false, ⟨M1, l1⟩⟩) := Lib.hid (HP8.out.fr ((Fr.refl [] w8).drewN nq) (by simp))
    have HFq : Hid (Fr [] w0 (w8.drewN nq)) := Lib.hid (HF8.out.drewN nq)
    have HWq : Hid (Blk (w8.drewN nq) n 50 (cpuC (⟨a, x, y, S, noBU p, P, false, ⟨m, []⟩⟩ : S14))) := Lib.hid (HW8.out.fr ((Fr.refl [] w8).drewN nq) (by simp))
    have HPz := HPq
    have HFz := HFq
    have HWz := HWq
    clear HPq HFq HWq HP8 HF8 HW8
    generalize w8.drewN nq = wz at *
    obtain ⟨d0, d1, d2, d3, d4, d5, d6⟩ := ProgAt.regs HPz.out
    simp only at d0 d1 d2 d3 d4 d5 d6
    have b0 := HWz.out.cell 0
    have b1 := HWz.out.cell 1
    have b2 := HWz.out.cell 2
    have b3 := HWz.out.cell 3
    have b4 := HWz.out.cell 4
    have b5 := HWz.out.cell 5
    have b6 := HWz.out.cell 6
    simp [cpuC] at b0 b1 b2 b3 b4 b5 b6
    have c5 := (HB0.out.fr HFz.out (by simp)).cell 5
    simp at c5
    try go_upto_region 35 with fail
    go_quiet (fail)
    go_wp2
    go_ret
    exact ⟨rfl, ((HF0.out.tr HFz.out).drewN _).below (by simp) (Nat.le_refl _)⟩
  · subst hk hfi hla
    obtain ⟨R, hR⟩ : ∃ z, P + 2 = z := ⟨_, rfl⟩
    have HRe := Lib.hid hR
    have wR : IntKind.u16.wrap (P + 2) = R := by rw [IntKind.wrap_u16]; omega
    have wR3 : IntKind.u16.wrap (P + 3) = P + 3 := by rw [IntKind.wrap_u16]; omega
    have HRu : Hid (u16 R) := Lib.hid ⟨by omega, by omega⟩
    have R0 := HRu.out.1
    have R1 := HRu.out.2
    clear hR
    have p5 := (HB0.out.fr HF5.out (by simp)).cell 5
    simp at p5
    have HPd : Hid (ProgAt w5.drew w0.heap.size pp f nil0 ⟨a, x, y, S, noBU p, P, false, ⟨M, []⟩⟩) := Lib.hid (HP5.out.fr (Fr.refl [] w5).drew (by simp))
    have HFd : Hid (Fr [] w0 w5.drew) := Lib.hid HF5.out.drew
    have HWd : Hid (Blk w5.drew n 50 (cpuC (⟨a, x, y, S, noBU p, P, false, ⟨m, []⟩⟩ : S14))) := Lib.hid (HW5.out.fr (Fr.refl [] w5).drew (by simp))
    go_upto_region 12 with fail
    go_still_tail 7, (by kernel_rfl)
    repeat still_step
    try refine wpStill_nil ?_
    change wpList _ _ _ _ _ w5.drew
    obtain ⟨wa, hwa⟩ : ∃ wa, w5.drew = wa := ⟨_, rfl⟩
    rw [hwa] at HPd HFd HWd ⊢
    clear HP5 HF5 HW5 hwa p5
    have d0 := HPd.out.flat.mem (Q) HQu.out
    have e0 := HPd.out.flat.frozen (Q).toNat
    simp only at d0
    have HP6 : Hid (ProgAt (wa.setCell ⟨f, (Q).toNat, none⟩ (.int .u8 0)) w0.heap.size pp f nil0 ⟨a, x, y, S, noBU p, P, false, ⟨upd M Q 0, []⟩⟩) := Lib.hid (prog_putm HPd.out (Q) 0 HQu.out)
    have HF6 : Hid (Fr [] w0 (wa.setCell ⟨f, (Q).toNat, none⟩ (.int .u8 0))) := Lib.hid (HFd.out.setCell (.inr HG2.out) _)
    have HW6 : Hid (Blk (wa.setCell ⟨f, (Q).toNat, none⟩ (.int .u8 0)) n 50 (cpuC (⟨a, x, y, S, noBU p, P, false, ⟨m, []⟩⟩ : S14))) := Lib.hid (HWd.out.fr ((Fr.refl [f] wa).setCell (by simp) _) (by simpa using HNf.out))
    go_upto_region 13 with fail
    clear d0 e0 HPd HFd HWd
    generalize wa.setCell _ _ = w6 at *
    have p5 := (HB0.out.fr HF6.out (by simp)).cell 5
    simp at p5
    have HPd : Hid (ProgAt w6.drew w0.heap.size pp f nil0 ⟨a, x, y, S, noBU p, P, false, ⟨upd M Q 0, []⟩⟩) := Lib.hid (HP6.out.fr (Fr.refl [] w6).drew (by simp))
    have HFd : Hid (Fr [] w0 w6.drew) := Lib.hid HF6.out.drew
    have HWd : Hid (Blk w6.drew n 50 (cpuC (⟨a, x, y, S, noBU p, P, false, ⟨m, []⟩⟩ : S14))) := Lib.hid (HW6.out.fr (Fr.refl [] w6).drew (by simp))
    go_upto_region 13 with fail
    go_still_tail 7, (by kernel_rfl)
    repeat still_step
    try refine wpStill_nil ?_
    change wpList _ _ _ _ _ w6.drew
    obtain ⟨wa, hwa⟩ : ∃ wa, w6.drew = wa := ⟨_, rfl⟩
    rw [hwa] at HPd HFd HWd ⊢
    clear HP6 HF6 HW6 hwa p5
    have d0 := HPd.out.flat.mem (R) HRu.out
    have e0 := HPd.out.flat.frozen (R).toNat
    simp only at d0
    have HP7 : Hid (ProgAt (wa.setCell ⟨f, (R).toNat, none⟩ (.int .u8 144)) w0.heap.size pp f nil0 ⟨a, x, y, S, noBU p, P, false, ⟨upd (upd M Q 0) R 144, []⟩⟩) := Lib.hid (prog_putm HPd.out (R) 144 HRu.out)
    have HF7 : Hid (Fr [] w0 (wa.setCell ⟨f, (R).toNat, none⟩ (.int .u8 144))) := Lib.hid (HFd.out.setCell (.inr HG2.out) _)
    have HW7 : Hid (Blk (wa.setCell ⟨f, (R).toNat, none⟩ (.int .u8 144)) n 50 (cpuC (⟨a, x, y, S, noBU p, P, false, ⟨m, []⟩⟩ : S14))) := Lib.hid (HWd.out.fr ((Fr.refl [f] wa).setCell (by simp) _) (by simpa using HNf.out))
    go_upto_region 14 with fail
    clear d0 e0 HPd HFd HWd
    generalize wa.setCell _ _ = w7 at *
    have HWd := HW7
    have HPd := HP7
    have HFd := HF7
    have dd0 := HP7.out.flat.mem 36864 (vec_u16 36864)
    have ee0 := HP7.out.flat.frozen 36864
    have HPn0 : Hid (ProgAt (w7.setCell ⟨f, 36864, none⟩ (.int .u8 96)) w0.heap.size pp f nil0 ⟨a, x, y, S, noBU p, P, false, ⟨upd (upd (upd M Q 0) R 144) 36864 96, []⟩⟩) := Lib.hid (prog_putm HPd.out 36864 96 (vec_u16 36864))
    have HFn0 : Hid (Fr [] w0 (w7.setCell ⟨f, 36864, none⟩ (.int .u8 96))) := Lib.hid (HFd.out.setCell (.inr HG2.out) _)
    have HWn0 : Hid (Blk (w7.setCell ⟨f, 36864, none⟩ (.int .u8 96)) n 50 (cpuC (⟨a, x, y, S, noBU p, P, false, ⟨m, []⟩⟩ : S14))) := Lib.hid (HWd.out.fr ((Fr.refl [f] _).setCell (by simp) _) (by simpa using HNf.out))
    simp only at dd0
    rw [show ((36864 : Int).toNat) = 36864 from rfl] at dd0
    go_wp2_with fail
    clear HPd HFd HWd dd0 ee0
    have HP8 := HPn0
    have HF8 := HFn0
    have HW8 := HWn0
    clear HPn0 HFn0 HWn0 HP7 HF7 HW7
    generalize (w7.setCell ⟨f, 36864, none⟩ (.int .u8 96)) = w8 at *
    have HN0 : Hid ((upd (upd (upd M Q 0) R 144) 36864 96) P = 32) := Lib.hid (by have := HQe.out; have := HRe.out; rw [upd_other _ _ _ _ (by omega), upd_other _ _ _ _ (by omega), upd_other _ _ _ _ (by omega)]; exact HMP.out)
    have HN1 : Hid ((upd (upd (upd M Q 0) R 144) 36864 96) (P + 1) = 0) := Lib.hid (by have := HQe.out; have := HRe.out; rw [upd_other _ _ _ _ (by omega), upd_other _ _ _ _ (by omega), HQe.out, upd_same])
    have HN2 : Hid ((upd (upd (upd M Q 0) R 144) 36864 96) (P + 2) = 144) := Lib.hid (by have := HQe.out; rw [upd_other _ _ _ _ (by omega), HRe.out, upd_same])
    have HN3 : Hid ((upd (upd (upd M Q 0) R 144) 36864 96) 36864 = 96) := Lib.hid (upd_same _ _ _)
    have HMb3 : Hid (∀ j, byte ((upd (upd (upd M Q 0) R 144) 36864 96) j)) := Lib.hid (both_byte _ _ _ (both_byte _ _ _ (both_byte _ _ _ HMb2.out ⟨by omega, by omega⟩) ⟨by omega, by omega⟩) ⟨by omega, by omega⟩)
    generalize (upd (upd (upd M Q 0) R 144) 36864 96) = M3 at *
    have HOk8 : Hid (Ok 0 (⟨a, x, y, S, noBU p, P, false, ⟨M3, []⟩⟩ : S14)) := Lib.hid (Ok.mk' HA.out HX.out HY.out ⟨by omega, by omega⟩ (fl_noBU p HP.out) HPu.out ⟨HMb3.out, by simp, Nat.le_refl _⟩)
    obtain ⟨M1, hM1, he1, -⟩ := two_jsr a x y S (noBU p) P M3 [] [] HN0.out HN1.out HN2.out HN3.out HPs.out.1 HPs.out.2 HSt.out.1 HSt.out.2
    have HE2 : Hid (∀ l', step (⟨a, x, y, S - 2, noBU p, 36864, false, ⟨M1, l'⟩⟩ : S14) = ⟨a, x, y, S, noBU p, P + 3, false, ⟨M1, l'⟩⟩) := Lib.hid (fun l' => by
      obtain ⟨M9, hM9, -, e2⟩ := two_jsr a x y S (noBU p) P M3 [] l' HN0.out HN1.out HN2.out HN3.out HPs.out.1 HPs.out.2 HSt.out.1 HSt.out.2
      have h9 : M1 = M9 := hM1.trans hM9.symm
      rw [h9]
      exact e2)
    have hOk6 : Ok 3 (step (⟨a, x, y, S, noBU p, P, false, ⟨M3, []⟩⟩ : S14)) := ok_step HOk8.out
    have hC := HS.out w8 w0.heap.size pp f nil0 (⟨a, x, y, S, noBU p, P, false, ⟨M3, []⟩⟩ : S14) 0 HP8.out HOk8.out (by omega) HF8.out.size
    rw [he1] at hC hOk6
    clear he1 hM1
    generalize ([] ++ [(256 + S, (P + 2) / 256)] ++ [(256 + (S - 1), (P + 2) % 256)] : List (Int × Int)) = l1 at *
    generalize stepN (⟨a, x, y, S, noBU p, P, false, ⟨M3, []⟩⟩ : S14) = N1 at *
    have HC := Lib.hid hC
    have HOk6 := Lib.hid hOk6
    clear hC hOk6
    have HNo : n ∉ pfoot pp f nil0 := ProgAt.notin HP8.out HW8.out HNp.out HNf.out
    (with_reducible refine (HC.out).mono ?_)
    intro e w9 hd
    obtain ⟨rfl, v9, hp, hf, -⟩ := hd
    have HP9 : Hid (ProgAt w9 w0.heap.size pp f v9 ⟨a, x, y, S - 2, noBU p, 36864, false, ⟨M1, l1⟩⟩) := Lib.hid hp
    have HF9 : Hid (Fr [] w0 w9) := Lib.hid (HF8.out.trans hf (fun j hj => .inr (HP8.out.ge HG1.out HG2.out j hj)))
    have HW9 := Lib.hid (HW8.out.fr hf HNo)
    clear hp hf HNo HP8 HF8 HW8
    clear HC
    have hC := HS.out w9 w0.heap.size pp f v9 (⟨a, x, y, S - 2, noBU p, 36864, false, ⟨M1, l1⟩⟩ : S14) 3 HP9.out HOk6.out (by omega) HF9.out.size
    rw [HE2.out l1] at hC
    generalize stepN (⟨a, x, y, S - 2, noBU p, 36864, false, ⟨M1, l1⟩⟩ : S14) = N2 at *
    have HC := Lib.hid hC
    clear hC HE2 HOk6
    have HNo : n ∉ pfoot pp f v9 := ProgAt.notin HP9.out HW9.out HNp.out HNf.out
    go_wp2_with fail
    (with_reducible refine (HC.out).mono ?_)
    intro e w10 hd
    obtain ⟨rfl, v10, hp, hf, -⟩ := hd
    have HP10 : Hid (ProgAt w10 w0.heap.size pp f v10 ⟨a, x, y, S, noBU p, P + 3, false, ⟨M1, l1⟩⟩) := Lib.hid hp
    have HF10 : Hid (Fr [] w0 w10) := Lib.hid (HF9.out.trans hf (fun j hj => .inr (HP9.out.ge HG1.out HG2.out j hj)))
    have HW10 := Lib.hid (HW9.out.fr hf HNo)
    clear hp hf HNo HP9 HF9 HW9
    clear HC
    obtain ⟨d0, d1, d2, d3, d4, d5, d6⟩ := ProgAt.regs HP10.out
    simp only at d0 d1 d2 d3 d4 d5 d6
    have b0 := HW10.out.cell 0
    have b1 := HW10.out.cell 1
    have b2 := HW10.out.cell 2
    have b3 := HW10.out.cell 3
    have b4 := HW10.out.cell 4
    have b5 := HW10.out.cell 5
    have b6 := HW10.out.cell 6
    simp [cpuC] at b0 b1 b2 b3 b4 b5 b6
    have c5 := (HB0.out.fr HF10.out (by simp)).cell 5
    simp at c5
    go_upto_region 34 with fail
    go_quiet (fail)
    clear d0 d1 d2 d3 d4 d5 d6 b0 b1 b2 b3 b4 b5 b6 c5
    have HPq : Hid (ProgAt (w10.drewN nq) w0.heap.size pp f v10 ⟨a, x, y, S, noBU p, P + 3, false, ⟨M1, l1⟩⟩) := Lib.hid (HP10.out.fr ((Fr.refl [] w10).drewN nq) (by simp))
    have HFq : Hid (Fr [] w0 (w10.drewN nq)) := Lib.hid (HF10.out.drewN nq)
    have HWq : Hid (Blk (w10.drewN nq) n 50 (cpuC (⟨a, x, y, S, noBU p, P, false, ⟨m, []⟩⟩ : S14))) := Lib.hid (HW10.out.fr ((Fr.refl [] w10).drewN nq) (by simp))
    have HPz := HPq
    have HFz := HFq
    have HWz := HWq
    clear HPq HFq HWq HP10 HF10 HW10
    generalize w10.drewN nq = wz at *
    obtain ⟨d0, d1, d2, d3, d4, d5, d6⟩ := ProgAt.regs HPz.out
    simp only at d0 d1 d2 d3 d4 d5 d6
    have b0 := HWz.out.cell 0
    have b1 := HWz.out.cell 1
    have b2 := HWz.out.cell 2
    have b3 := HWz.out.cell 3
    have b4 := HWz.out.cell 4
    have b5 := HWz.out.cell 5
    have b6 := HWz.out.cell 6
    simp [cpuC] at b0 b1 b2 b3 b4 b5 b6
    have c5 := (HB0.out.fr HFz.out (by simp)).cell 5
    simp at c5
    try go_upto_region 35 with fail
    go_quiet (fail)
    go_wp2
    go_ret
    exact ⟨rfl, ((HF0.out.tr HFz.out).drewN _).below (by simp) (Nat.le_refl _)⟩
  · subst hk hfi hla
    have HWd := HW5
    have HPd := HP5
    have HFd := HF5
    have dd0 := HP5.out.flat.mem 65530 (vec_u16 65530)
    have ee0 := HP5.out.flat.frozen 65530
    have dd1 := HP5.out.flat.mem 65531 (vec_u16 65531)
    have ee1 := HP5.out.flat.frozen 65531
    have dd2 := HP5.out.flat.mem 36864 (vec_u16 36864)
    have ee2 := HP5.out.flat.frozen 36864
    have HPn0 : Hid (ProgAt (w5.setCell ⟨f, 65530, none⟩ (.int .u8 0)) w0.heap.size pp f nil0 ⟨a, x, y, S, noBU p, P, false, ⟨upd M 65530 0, []⟩⟩) := Lib.hid (prog_putm HPd.out 65530 0 (vec_u16 65530))
    have HFn0 : Hid (Fr [] w0 (w5.setCell ⟨f, 65530, none⟩ (.int .u8 0))) := Lib.hid (HFd.out.setCell (.inr HG2.out) _)
    have HWn0 : Hid (Blk (w5.setCell ⟨f, 65530, none⟩ (.int .u8 0)) n 50 (cpuC (⟨a, x, y, S, noBU p, P, false, ⟨m, []⟩⟩ : S14))) := Lib.hid (HWd.out.fr ((Fr.refl [f] _).setCell (by simp) _) (by simpa using HNf.out))
    have HPn1 : Hid (ProgAt ((w5.setCell ⟨f, 65530, none⟩ (.int .u8 0)).setCell ⟨f, 65531, none⟩ (.int .u8 144)) w0.heap.size pp f nil0 ⟨a, x, y, S, noBU p, P, false, ⟨upd (upd M 65530 0) 65531 144, []⟩⟩) := Lib.hid (prog_putm HPn0.out 65531 144 (vec_u16 65531))
    have HFn1 : Hid (Fr [] w0 ((w5.setCell ⟨f, 65530, none⟩ (.int .u8 0)).setCell ⟨f, 65531, none⟩ (.int .u8 144))) := Lib.hid (HFn0.out.setCell (.inr HG2.out) _)
    have HWn1 : Hid (Blk ((w5.setCell ⟨f, 65530, none⟩ (.int .u8 0)).setCell ⟨f, 65531, none⟩ (.int .u8 144)) n 50 (cpuC (⟨a, x, y, S, noBU p, P, false, ⟨m, []⟩⟩ : S14))) := Lib.hid (HWn0.out.fr ((Fr.refl [f] _).setCell (by simp) _) (by simpa using HNf.out))
    have HPn2 : Hid (ProgAt (((w5.setCell ⟨f, 65530, none⟩ (.int .u8 0)).setCell ⟨f, 65531, none⟩ (.int .u8 144)).setCell ⟨f, 36864, none⟩ (.int .u8 64)) w0.heap.size pp f nil0 ⟨a, x, y, S, noBU p, P, false, ⟨upd (upd (upd M 65530 0) 65531 144) 36864 64, []⟩⟩) := Lib.hid (prog_putm HPn1.out 36864 64 (vec_u16 36864))
    have HFn2 : Hid (Fr [] w0 (((w5.setCell ⟨f, 65530, none⟩ (.int .u8 0)).setCell ⟨f, 65531, none⟩ (.int .u8 144)).setCell ⟨f, 36864, none⟩ (.int .u8 64))) := Lib.hid (HFn1.out.setCell (.inr HG2.out) _)
    have HWn2 : Hid (Blk (((w5.setCell ⟨f, 65530, none⟩ (.int .u8 0)).setCell ⟨f, 65531, none⟩ (.int .u8 144)).setCell ⟨f, 36864, none⟩ (.int .u8 64)) n 50 (cpuC (⟨a, x, y, S, noBU p, P, false, ⟨m, []⟩⟩ : S14))) := Lib.hid (HWn1.out.fr ((Fr.refl [f] _).setCell (by simp) _) (by simpa using HNf.out))
    simp only at dd0 dd1 dd2
    rw [show ((65530 : Int).toNat) = 65530 from rfl] at dd0
    rw [show ((65531 : Int).toNat) = 65531 from rfl] at dd1
    rw [show ((36864 : Int).toNat) = 36864 from rfl] at dd2
    go_wp2_with fail
    clear HPd HFd HWd dd0 ee0 dd1 ee1 dd2 ee2 HPn0 HFn0 HWn0 HPn1 HFn1 HWn1
    have HP6 := HPn2
    have HF6 := HFn2
    have HW6 := HWn2
    clear HPn2 HFn2 HWn2 HP5 HF5 HW5
    generalize (((w5.setCell ⟨f, 65530, none⟩ (.int .u8 0)).setCell ⟨f, 65531, none⟩ (.int .u8 144)).setCell ⟨f, 36864, none⟩ (.int .u8 64)) = w6 at *
    have HN0 : Hid ((upd (upd (upd M 65530 0) 65531 144) 36864 64) 65530 = 0) := Lib.hid (by rw [upd_other _ _ _ _ (by omega), upd_other _ _ _ _ (by omega), upd_same])
    have HN1 : Hid ((upd (upd (upd M 65530 0) 65531 144) 36864 64) 65531 = 144) := Lib.hid (by rw [upd_other _ _ _ _ (by omega), upd_same])
    have HN3 : Hid ((upd (upd (upd M 65530 0) 65531 144) 36864 64) 36864 = 64) := Lib.hid (upd_same _ _ _)
    have HMb3 : Hid (∀ j, byte ((upd (upd (upd M 65530 0) 65531 144) 36864 64) j)) := Lib.hid (both_byte _ _ _ (both_byte _ _ _ (both_byte _ _ _ HMb2.out ⟨by omega, by omega⟩) ⟨by omega, by omega⟩) ⟨by omega, by omega⟩)
    generalize (upd (upd (upd M 65530 0) 65531 144) 36864 64) = M3 at *
    have HOk8 : Hid (Ok 0 (⟨a, x, y, S, noBU p, P, false, ⟨M3, []⟩⟩ : S14)) := Lib.hid (Ok.mk' HA.out HX.out HY.out ⟨by omega, by omega⟩ (fl_noBU p HP.out) HPu.out ⟨HMb3.out, by simp, Nat.le_refl _⟩)
    obtain ⟨M1, hM1, he1, -⟩ := two_int a x y S (noBU p) P M3 [] [] HN0.out HN1.out HN3.out HPs.out.1 HPs.out.2 HSt.out.1 HSt.out.2 (fl_noBU p HP.out)
    have HE2 : Hid (∀ l', step (⟨a, x, y, S - 3, setF (noBU p) 4 true, 36864, false, ⟨M1, l'⟩⟩ : S14) = ⟨a, x, y, S, noBU p, P, false, ⟨M1, l'⟩⟩) := Lib.hid (fun l' => by
      obtain ⟨M9, hM9, -, e2⟩ := two_int a x y S (noBU p) P M3 [] l' HN0.out HN1.out HN3.out HPs.out.1 HPs.out.2 HSt.out.1 HSt.out.2 (fl_noBU p HP.out)
      have h9 : M1 = M9 := hM1.trans hM9.symm
      rw [h9]
      exact e2)
    have hOk6 : Ok 3 (interrupt (⟨a, x, y, S, noBU p, P, false, ⟨M3, []⟩⟩ : S14) 65530) := ok_interrupt 65530 HOk8.out
    have hC := HI.out w6 w0.heap.size pp f nil0 (⟨a, x, y, S, noBU p, P, false, ⟨M3, []⟩⟩ : S14) 0 65530 HP6.out HOk8.out (by omega) HF6.out.size (vec_u16 65530)
    have h4 := and4set (noBU p) (fl_noBU p HP.out).1
    rw [he1] at hC hOk6
    clear he1 hM1
    generalize ([] ++ [(256 + S, P / 256)] ++ [(256 + (S - 1), P % 256)] ++ [(256 + (S - 2), noBU p + 32)] : List (Int × Int)) = l1 at *
    generalize setF (noBU p) 4 true = F4 at *
    generalize interruptN (⟨a, x, y, S, noBU p, P, false, ⟨M3, []⟩⟩ : S14) = N1 at *
    have HC := Lib.hid hC
    have HOk6 := Lib.hid hOk6
    clear hC hOk6
    have HNo : n ∉ pfoot pp f nil0 := ProgAt.notin HP6.out HW6.out HNp.out HNf.out
    (with_reducible refine (HC.out).mono ?_)
    intro e w7 hd
    obtain ⟨rfl, v7, hp, hf, -⟩ := hd
    have HP7 : Hid (ProgAt w7 w0.heap.size pp f v7 ⟨a, x, y, S - 3, F4, 36864, false, ⟨M1, l1⟩⟩) := Lib.hid hp
    have HF7 : Hid (Fr [] w0 w7) := Lib.hid (HF6.out.trans hf (fun j hj => .inr (HP6.out.ge HG1.out HG2.out j hj)))
    have HW7 := Lib.hid (HW6.out.fr hf HNo)
    clear hp hf HNo HP6 HF6 HW6
    clear HC
    obtain ⟨-, -, -, -, d4, d5, -⟩ := ProgAt.regs HP7.out
    simp only at d4 d5
    have hC := HS.out w7 w0.heap.size pp f v7 (⟨a, x, y, S - 3, F4, 36864, false, ⟨M1, l1⟩⟩ : S14) 3 HP7.out HOk6.out (by omega) HF7.out.size
    rw [HE2.out l1] at hC
    generalize stepN (⟨a, x, y, S - 3, F4, 36864, false, ⟨M1, l1⟩⟩ : S14) = N2 at *
    have HC := Lib.hid hC
    clear hC HE2 HOk6
    have HNo : n ∉ pfoot pp f v7 := ProgAt.notin HP7.out HW7.out HNp.out HNf.out
    go_wp2_with fail
    (with_reducible refine (HC.out).mono ?_)
    intro e w8 hd
    obtain ⟨rfl, v8, hp, hf, -⟩ := hd
    have HP8 : Hid (ProgAt w8 w0.heap.size pp f v8 ⟨a, x, y, S, noBU p, P, false, ⟨M1, l1⟩⟩) := Lib.hid hp
    have HF8 : Hid (Fr [] w0 w8) := Lib.hid (HF7.out.trans hf (fun j hj => .inr (HP7.out.ge HG1.out HG2.out j hj)))
    have HW8 := Lib.hid (HW7.out.fr hf HNo)
    clear hp hf HNo HP7 HF7 HW7
    clear HC d4 d5 h4
    obtain ⟨d0, d1, d2, d3, d4, d5, d6⟩ := ProgAt.regs HP8.out
    simp only at d0 d1 d2 d3 d4 d5 d6
    have b0 := HW8.out.cell 0
    have b1 := HW8.out.cell 1
    have b2 := HW8.out.cell 2
    have b3 := HW8.out.cell 3
    have b4 := HW8.out.cell 4
    have b5 := HW8.out.cell 5
    have b6 := HW8.out.cell 6
    simp [cpuC] at b0 b1 b2 b3 b4 b5 b6
    have c5 := (HB0.out.fr HF8.out (by simp)).cell 5
    simp at c5
    go_upto_region 24 with fail
    go_quiet (fail)
    go_wp2
    go_ret
    exact ⟨rfl, ((HF0.out.tr HF8.out).drewN _).below (by simp) (Nat.le_refl _)⟩

end Ms
end Go.Proofs.YtlnpadekgakghaaDoor
