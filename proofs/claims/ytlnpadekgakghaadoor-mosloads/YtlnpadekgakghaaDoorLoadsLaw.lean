/-
  picklocklaw14.MosLoads returns true for every input. Condition: the program's Step does what the account says.
-/
import Derived.Test.YtlnpadekgakghaaDoorLoadsMath
import Derived.Test.YtlnpadekgakghaaDoorHaltsLaw
import Derived.Test.YtlnpadekgakghaaDoorMosBits
namespace Go.Proofs.YtlnpadekgakghaaDoor
open Go.RowKit
namespace Ms
open Al (byte of_byte)
set_option linter.unusedVariables false

def lsP (p U : Int) (k : Nat) : Int := if k < 2 then p else if k < 4 then zn p U else if k < 6 then zn (zn p U) U else zn (zn (zn p U) U) U
/-- Memory behind k steps of the second loop. -/
def lsM (m : Int → Int) (A v U : Int) : Nat → Int → Int
  | 0 => m
  | k + 1 => upd (lsM m A v U k) A (if k % 2 = 0 then v else U)
/-- The state behind k steps, and the one that step k finds. -/
def LS (s p A v U : Int) (m : Int → Int) (k : Nat) : S14 := ⟨if k < 2 then v else U, if k < 4 then v else U, if k < 6 then v else U, s, lsP p U k, 32768 + 3 * (k : Int), false, ⟨lsM m A v U k, List.replicate ((k + 1) / 2) (A, v)⟩⟩
def LT (s p A v U : Int) (m : Int → Int) (k : Nat) : S14 := ⟨if k < 2 then v else U, if k < 4 then v else U, if k < 6 then v else U, s, lsP p U k, 32768 + 3 * (k : Int), false, ⟨if k % 2 = 0 then lsM m A v U k else lsM m A v U (k + 1), List.replicate ((k + 1) / 2) (A, v)⟩⟩
section
variable {s p A v U : Int} {m : Int → Int}
theorem ls_code (hc : LCode m A 3) (hA : A < 32768) : ∀ k, LCode (lsM m A v U k) A 3
  | 0 => hc
  | k + 1 => (ls_code hc hA k).low _ _ hA
theorem ls_byte (hm : ∀ j, byte (m j)) (hv : byte v) (hU : byte U) : ∀ k, ∀ j, byte (lsM m A v U k j)
  | 0 => hm
  | k + 1 => both_byte _ _ _ (ls_byte hm hv hU k) (by split; exact hv; exact hU)
theorem lsP_fl (hp : fl p) (k : Nat) : fl (lsP p U k) := by
  unfold lsP
  split
  · exact hp
  split
  · exact fl_zn _ _ hp
  split
  · exact fl_zn _ _ (fl_zn _ _ hp)
  · exact fl_zn _ _ (fl_zn _ _ (fl_zn _ _ hp))
theorem lt_ok (hs : byte s) (hp : fl p) (hA : u16 A) (hv : byte v) (hU : byte U) (hm : ∀ j, byte (m j)) (k : Nat) (hk : k ≤ 5) : Ok 3 (LT s p A v U m k) := by
  refine Ok.mk' ?_ ?_ ?_ hs (lsP_fl hp k) ⟨by omega, by omega⟩ ⟨?_, ?_, ?_⟩
  · split; exact hv; exact hU
  · split; exact hv; exact hU
  · split; exact hv; exact hU
  · split
    · exact ls_byte hm hv hU k
    · exact ls_byte hm hv hU (k + 1)
  · intro z hz
    obtain rfl := List.eq_of_mem_replicate hz
    exact ⟨hA, hv⟩
  · simp
    omega
theorem ls_step (hc : LCode m A 3) (hA : A < 32768) (k : Nat) (hk : k < 6) : step (LT s p A v U m k) = LS s p A v U m (k + 1) ∧ stepN (LT s p A v U m k) = 4 := by
  obtain rfl | rfl | rfl | rfl | rfl | rfl : k = 0 ∨ k = 1 ∨ k = 2 ∨ k = 3 ∨ k = 4 ∨ k = 5 := by omega
  · exact (loads_round 0 v v v s p A v U (lsM m A v U 0) (List.replicate 0 (A, v)) (List.replicate 1 (A, v)) (.inl rfl) (ls_code hc hA 0) hA rfl).1
  · exact (loads_round 0 v v v s p A v U (lsM m A v U 0) (List.replicate 0 (A, v)) (List.replicate 1 (A, v)) (.inl rfl) (ls_code hc hA 0) hA rfl).2
  · exact (loads_round 1 U v v s (zn p U) A v U (lsM m A v U 2) (List.replicate 1 (A, v)) (List.replicate 2 (A, v)) (.inr (.inl rfl)) (ls_code hc hA 2) hA rfl).1
  · exact (loads_round 1 U v v s (zn p U) A v U (lsM m A v U 2) (List.replicate 1 (A, v)) (List.replicate 2 (A, v)) (.inr (.inl rfl)) (ls_code hc hA 2) hA rfl).2
  · exact (loads_round 2 U U v s (zn (zn p U) U) A v U (lsM m A v U 4) (List.replicate 2 (A, v)) (List.replicate 3 (A, v)) (.inr (.inr rfl)) (ls_code hc hA 4) hA rfl).1
  · exact (loads_round 2 U U v s (zn (zn p U) U) A v U (lsM m A v U 4) (List.replicate 2 (A, v)) (List.replicate 3 (A, v)) (.inr (.inr rfl)) (ls_code hc hA 4) hA rfl).2
end

set_option maxRecDepth 100000 in
theorem flag2 (z g : Bool) : ∀ q, byte q → bits .and .u8 (setF (setF q 2 z) 128 g) 2 = (if z then 2 else 0) ∧ bits .and .u8 (setF (setF q 2 z) 128 g) 128 = (if g then 128 else 0) := by
  cases z <;> cases g <;> exact of_byte _ (by decide +kernel)
set_option maxRecDepth 100000 in
theorem and7fff (x : Int) (hx : u16 x) : 0 ≤ bits .and .u16 x 32767 ∧ bits .and .u16 x 32767 < 32768 := by
  obtain ⟨n, rfl, hn⟩ := nat_of x hx
  have h := and_nat n 32767 hn (by decide)
  rw [show (32767 : Int) = ((32767 : Nat) : Int) from rfl, h]
  have : n &&& 32767 < 2 ^ 15 := Nat.and_lt_two_pow _ (by decide)
  omega

/-- The law's table of opcodes lies in no block of the bus. -/
theorem notof {w : World} {B p f ob : Nat} {v : Value} {S : S14} {C : Array Value} (H : ProgAt w B p f v S) (h : Blk w ob 55 C) : ob ≠ f := by
  obtain ⟨cs, hb, -, -⟩ := H.flat
  exact h.other hb (by decide)

set_option maxRecDepth 100000 in
set_option maxHeartbeats 8000000 in
theorem loads_walk (hS : StepC) (a x y s p pc v aa : Int) (w : World) (hT : Tab w) (ha : byte a) (hx : byte x) (hy : byte y) (hs : byte s) (hp : byte p) (hpc : u16 pc) (hv : byte v) (haa : u16 aa) :
    Calls Tryd.prog 8 #[.agg #[.int .u8 a, .int .u8 x, .int .u8 y, .int .u8 s, .int .u8 p, .int .u16 pc], .int .u8 v, .int .u16 aa] w fun e w' => e = .returned (.bool true) ∧ Below w.heap.size w w' := by
  have HTab : Hid (∀ w', Fr [] w w' → Tab w') := Lib.hid fun _ h => hT.later h
  have HTps := Lib.hid hT.pos
  clear hT
  obtain ⟨g, hg⟩ : ∃ g, w.heap.size = g := ⟨_, rfl⟩
  obtain ⟨w0, h01⟩ : ∃ z, w.alloc (.cells #[.int .u8 a, .int .u8 x, .int .u8 y, .int .u8 s, .int .u8 p, .int .u16 pc] 24) = z := ⟨_, rfl⟩
  have hb0 := Blk.fresh w 24 #[.int .u8 a, .int .u8 x, .int .u8 y, .int .u8 s, .int .u8 p, .int .u16 pc]
  rw [h01, hg] at hb0
  have hf01 : Fr [] w w0 := by rw [← h01]; exact (Fr.refl [] _).alloc _
  have HW0 := Lib.hid h01
  have HB0 := Lib.hid hb0
  have HF0 := Lib.hid hf01
  have HS := Lib.hid hS
  have HSs := Lib.hid hs
  have HP := Lib.hid hp
  have HV := Lib.hid hv
  have h48 := andNot48 p hp
  have HA1 : Hid (0 ≤ bits .and .u16 aa 32767 ∧ bits .and .u16 aa 32767 < 32768) := Lib.hid (and7fff aa haa)
  have HU1 : Hid (byte (bits .xor .u8 v 85)) := Lib.hid (wrap_byte _)
  obtain ⟨v0, v1⟩ := hv
  obtain ⟨aa0, aa1⟩ := haa
  clear h01 hb0 hf01 hS ha hx hy hs hp hpc
  go_enter Tryd.func8, Tryd.ntmps8
  go_upto_region 1 with fail
  rw [HW0.out]
  clear hg HW0
  go_wp2_with fail
  (with_reducible refine (shown14 HS.out w0 (HTab.out w0 HF0.out)).mono ?_)
  rintro e w1 ⟨rfl, hf1⟩
  have HF1 := Lib.hid hf1
  have hb0 := HB0.out.fr hf1 (by simp)
  have c3 : ∀ o, (w1.alloc o).cell? ⟨g, 3, none⟩ = some (.int .u8 s) := fun o => ((Fr.refl [] w1).alloc o).cell (hb0.cell 3) (by simp)
  have c4 : ∀ o, (w1.alloc o).cell? ⟨g, 4, none⟩ = some (.int .u8 p) := fun o => ((Fr.refl [] w1).alloc o).cell (hb0.cell 4) (by simp)
  clear hf1 hb0
  obtain ⟨f, hf⟩ : ∃ f, w1.heap.size = f := ⟨_, rfl⟩
  obtain ⟨pp, hpp⟩ : ∃ pp, f + 1 = pp := ⟨_, rfl⟩
  have HP0 := Lib.hid (flat_alloc w1 w0.heap.size pp f v v v s (noBU p) 32768 hf hpp (HTab.out w1 (HF0.out.tr HF1.out)) (Nat.lt_of_lt_of_le HTps.out HF0.out.size))
  have HF2 : Hid (Fr [] w0 ((w1.alloc (.cells Tryd.zeroCells37 37)).alloc (.cells #[.int .u8 v, .int .u8 v, .int .u8 v, .int .u8 s, .int .u8 (noBU p), .int .u16 32768, .bool false] 50))) := Lib.hid ((HF1.out.alloc _).alloc _)
  have HG2 : Hid (w0.heap.size ≤ f) := Lib.hid (by rw [← hf]; exact HF1.out.size)
  have HG1 : Hid (w0.heap.size ≤ pp) := Lib.hid (by have := HG2.out; omega)
  go_upto_region 4 with fail
  clear hf hpp c3 c4 h48 HF1
  generalize (w1.alloc _).alloc _ = w2 at *
  generalize Tryd.zeroCells37 = ZC at *
  obtain ⟨A, hA⟩ : ∃ z, bits .and .u16 aa 32767 = z := ⟨_, rfl⟩
  obtain ⟨U, hU⟩ : ∃ z, bits .xor .u8 v 85 = z := ⟨_, rfl⟩
  rw [hA] at HA1
  rw [hU] at HU1
  have A0 := HA1.out.1
  have A1 := HA1.out.2
  have HAu : Hid (u16 A) := Lib.hid ⟨A0, by omega⟩
  have A2 : A < 65536 := HAu.out.2
  have U0 := HU1.out.1
  have U1 := HU1.out.2
  obtain ⟨ob, hob⟩ : ∃ z, w2.heap.size = z := ⟨_, rfl⟩
  have HP3 : Hid (ProgAt (w2.alloc (.cells #[.int .u8 141, .int .u8 173, .int .u8 142, .int .u8 174, .int .u8 140, .int .u8 172] 55)) w0.heap.size pp f nil0 ⟨v, v, v, s, noBU p, 32768, false, ⟨m0, []⟩⟩) := Lib.hid (HP0.out.fr ((Fr.refl [] w2).alloc _) (by simp))
  have HF3 : Hid (Fr [] w0 (w2.alloc (.cells #[.int .u8 141, .int .u8 173, .int .u8 142, .int .u8 174, .int .u8 140, .int .u8 172] 55))) := Lib.hid (HF2.out.alloc _)
  have HO3 : Hid (Blk (w2.alloc (.cells #[.int .u8 141, .int .u8 173, .int .u8 142, .int .u8 174, .int .u8 140, .int .u8 172] 55)) ob 55 #[.int .u8 141, .int .u8 173, .int .u8 142, .int .u8 174, .int .u8 140, .int .u8 172]) := Lib.hid (by rw [← hob]; exact Blk.fresh _ _ _)
  go_upto_region 6 with fail
  clear hob HP0 HF2 hA aa0 aa1
  generalize w2.alloc _ = w3 at *
  have wLO : IntKind.u8.wrap A = A % 256 := by rw [IntKind.wrap_u8]
  have wHI : IntKind.u8.wrap (A / 256) = A / 256 := by rw [IntKind.wrap_u8]; omega
  have HLO : Hid (byte (A % 256)) := Lib.hid (mod_byte _)
  have HHI : Hid (byte (A / 256)) := Lib.hid ⟨by omega, by omega⟩
  go_wp2_with fail
  go_loopw [11, 12] (fun s11 s12 wr => ∃ (i : Nat) (m : Int → Int) (t : Int), s11 = .int .u16 t ∧ t = 32768 + 6 * (i : Int) ∧ s12 = .int .i64 (i : Int) ∧ i ≤ 3 ∧ ProgAt wr w0.heap.size pp f nil0 ⟨v, v, v, s, noBU p, 32768, false, ⟨m, []⟩⟩ ∧ LCode m A i ∧ (∀ j, byte (m j)) ∧ Blk wr ob 55 #[.int .u8 141, .int .u8 173, .int .u8 142, .int .u8 174, .int .u8 140, .int .u8 172] ∧ Fr [] w0 wr) (fun _ s12 _ => 3 - (intOf s12).toNat)
  case atStart => exact ⟨0, m0, 32768, rfl, by omega, rfl, by omega, HP3.out, LCode.zero _ _, fun j => ⟨by show (0:Int) ≤ 0; omega, by show (0:Int) < 256; omega⟩, HO3.out, HF3.out⟩
  case round =>
    clear HP3 HF3 HO3
    obtain ⟨i, m, t, rfl, ht, rfl, hi, hp, hc, hmb, hbo, hfr⟩ := hrel
    have HPr := Lib.hid hp
    have HC := Lib.hid hc
    have HMb := Lib.hid hmb
    have HOr := Lib.hid hbo
    have HFr := Lib.hid hfr
    clear hp hc hmb hbo hfr
    obtain rfl | rfl | rfl | rfl : i = 0 ∨ i = 1 ∨ i = 2 ∨ i = 3 := by omega
    · skip
      obtain rfl : t = 32768 := by omega
      clear ht hi
      have HPwr := HPr
      have HFwr := HFr
      have HOwr := HOr
      clear HPr HFr HOr
      have o1 := HOwr.out.cell 0
      simp at o1
      have w3a : IntKind.u16.wrap 32768 = 32768 := rfl
      have HPd : Hid (ProgAt wr.drew w0.heap.size pp f nil0 ⟨v, v, v, s, noBU p, 32768, false, ⟨m, []⟩⟩) := Lib.hid (HPwr.out.fr (Fr.refl [] wr).drew (by simp))
      have HFd : Hid (Fr [] w0 wr.drew) := Lib.hid HFwr.out.drew
      have HOd : Hid (Blk wr.drew ob 55 #[.int .u8 141, .int .u8 173, .int .u8 142, .int .u8 174, .int .u8 140, .int .u8 172]) := Lib.hid (HOwr.out.fr (Fr.refl [] wr).drew (by simp))
      go_upto_region 10 with fail
      go_still_tail 9, (by kernel_rfl)
      repeat still_step
      try refine wpStill_nil ?_
      change wpList _ _ _ _ _ wr.drew
      clear o1 w3a HPwr HFwr HOwr
      generalize wr.drew = wa at *
      have d0 := HPd.out.flat.mem 32768 ⟨by omega, by omega⟩
      have e0 := HPd.out.flat.frozen 32768
      simp only at d0
      rw [show ((32768 : Int).toNat) = 32768 from rfl] at d0
      have HPwb : Hid (ProgAt (wa.setCell ⟨f, 32768, none⟩ (.int .u8 141)) w0.heap.size pp f nil0 ⟨v, v, v, s, noBU p, 32768, false, ⟨(upd m 32768 141), []⟩⟩) := Lib.hid (prog_putm HPd.out 32768 141 ⟨by omega, by omega⟩)
      have HFwb : Hid (Fr [] w0 (wa.setCell ⟨f, 32768, none⟩ (.int .u8 141))) := Lib.hid (HFd.out.setCell (.inr HG2.out) _)
      have HOwb : Hid (Blk (wa.setCell ⟨f, 32768, none⟩ (.int .u8 141)) ob 55 #[.int .u8 141, .int .u8 173, .int .u8 142, .int .u8 174, .int .u8 140, .int .u8 172]) := Lib.hid (HOd.out.fr ((Fr.refl [f] wa).setCell (by simp) _) (by have := notof HPd.out HOd.out; simpa using this))
      go_upto_region 11 with fail
      clear d0 e0 HPd HFd HOd
      generalize wa.setCell _ _ = wb at *
      have d0 := HPwb.out.flat.mem 32769 ⟨by omega, by omega⟩
      have d1 := HPwb.out.flat.mem 32770 ⟨by omega, by omega⟩
      have e0 := HPwb.out.flat.frozen 32769
      have e1 := HPwb.out.flat.frozen 32770
      simp only at d0 d1
      rw [show ((32769 : Int).toNat) = 32769 from rfl] at d0
      rw [show ((32770 : Int).toNat) = 32770 from rfl] at d1
      have HPn : Hid (ProgAt (wb.setCell ⟨f, 32769, none⟩ (.int .u8 (A % 256))) w0.heap.size pp f nil0 ⟨v, v, v, s, noBU p, 32768, false, ⟨(upd (upd m 32768 141) 32769 (A % 256)), []⟩⟩) := Lib.hid (prog_putm HPwb.out 32769 (A % 256) ⟨by omega, by omega⟩)
      have HPwc : Hid (ProgAt ((wb.setCell ⟨f, 32769, none⟩ (.int .u8 (A % 256))).setCell ⟨f, 32770, none⟩ (.int .u8 (A / 256))) w0.heap.size pp f nil0 ⟨v, v, v, s, noBU p, 32768, false, ⟨(upd (upd (upd m 32768 141) 32769 (A % 256)) 32770 (A / 256)), []⟩⟩) := Lib.hid (prog_putm HPn.out 32770 (A / 256) ⟨by omega, by omega⟩)
      have HFwc : Hid (Fr [] w0 ((wb.setCell ⟨f, 32769, none⟩ (.int .u8 (A % 256))).setCell ⟨f, 32770, none⟩ (.int .u8 (A / 256)))) := Lib.hid ((HFwb.out.setCell (.inr HG2.out) _).setCell (.inr HG2.out) _)
      have HOwc : Hid (Blk ((wb.setCell ⟨f, 32769, none⟩ (.int .u8 (A % 256))).setCell ⟨f, 32770, none⟩ (.int .u8 (A / 256))) ob 55 #[.int .u8 141, .int .u8 173, .int .u8 142, .int .u8 174, .int .u8 140, .int .u8 172]) := Lib.hid (HOwb.out.fr (((Fr.refl [f] wb).setCell (by simp) _).setCell (by simp) _) (by have := notof HPwb.out HOwb.out; simpa using this))
      go_upto_region 13 with fail
      clear d0 d1 e0 e1 HPn HPwb HFwb HOwb
      generalize (wb.setCell _ _).setCell _ _ = wc at *
      have o1 := HOwc.out.cell 1
      simp at o1
      have w3a : IntKind.u16.wrap 32771 = 32771 := rfl
      have HPd : Hid (ProgAt wc.drew w0.heap.size pp f nil0 ⟨v, v, v, s, noBU p, 32768, false, ⟨(upd (upd (upd m 32768 141) 32769 (A % 256)) 32770 (A / 256)), []⟩⟩) := Lib.hid (HPwc.out.fr (Fr.refl [] wc).drew (by simp))
      have HFd : Hid (Fr [] w0 wc.drew) := Lib.hid HFwc.out.drew
      have HOd : Hid (Blk wc.drew ob 55 #[.int .u8 141, .int .u8 173, .int .u8 142, .int .u8 174, .int .u8 140, .int .u8 172]) := Lib.hid (HOwc.out.fr (Fr.refl [] wc).drew (by simp))
      go_upto_region 13 with fail
      go_still_tail 10, (by kernel_rfl)
      repeat still_step
      try refine wpStill_nil ?_
      change wpList _ _ _ _ _ wc.drew
      clear o1 w3a HPwc HFwc HOwc
      generalize wc.drew = wa at *
      have d0 := HPd.out.flat.mem 32771 ⟨by omega, by omega⟩
      have e0 := HPd.out.flat.frozen 32771
      simp only at d0
      rw [show ((32771 : Int).toNat) = 32771 from rfl] at d0
      have HPwd : Hid (ProgAt (wa.setCell ⟨f, 32771, none⟩ (.int .u8 173)) w0.heap.size pp f nil0 ⟨v, v, v, s, noBU p, 32768, false, ⟨(upd (upd (upd (upd m 32768 141) 32769 (A % 256)) 32770 (A / 256)) 32771 173), []⟩⟩) := Lib.hid (prog_putm HPd.out 32771 173 ⟨by omega, by omega⟩)
      have HFwd : Hid (Fr [] w0 (wa.setCell ⟨f, 32771, none⟩ (.int .u8 173))) := Lib.hid (HFd.out.setCell (.inr HG2.out) _)
      have HOwd : Hid (Blk (wa.setCell ⟨f, 32771, none⟩ (.int .u8 173)) ob 55 #[.int .u8 141, .int .u8 173, .int .u8 142, .int .u8 174, .int .u8 140, .int .u8 172]) := Lib.hid (HOd.out.fr ((Fr.refl [f] wa).setCell (by simp) _) (by have := notof HPd.out HOd.out; simpa using this))
      go_upto_region 14 with fail
      clear d0 e0 HPd HFd HOd
      generalize wa.setCell _ _ = wd at *
      have d0 := HPwd.out.flat.mem 32772 ⟨by omega, by omega⟩
      have d1 := HPwd.out.flat.mem 32773 ⟨by omega, by omega⟩
      have e0 := HPwd.out.flat.frozen 32772
      have e1 := HPwd.out.flat.frozen 32773
      simp only at d0 d1
      rw [show ((32772 : Int).toNat) = 32772 from rfl] at d0
      rw [show ((32773 : Int).toNat) = 32773 from rfl] at d1
      have HPn : Hid (ProgAt (wd.setCell ⟨f, 32772, none⟩ (.int .u8 (A % 256))) w0.heap.size pp f nil0 ⟨v, v, v, s, noBU p, 32768, false, ⟨(upd (upd (upd (upd (upd m 32768 141) 32769 (A % 256)) 32770 (A / 256)) 32771 173) 32772 (A % 256)), []⟩⟩) := Lib.hid (prog_putm HPwd.out 32772 (A % 256) ⟨by omega, by omega⟩)
      have HPwe : Hid (ProgAt ((wd.setCell ⟨f, 32772, none⟩ (.int .u8 (A % 256))).setCell ⟨f, 32773, none⟩ (.int .u8 (A / 256))) w0.heap.size pp f nil0 ⟨v, v, v, s, noBU p, 32768, false, ⟨(upd (upd (upd (upd (upd (upd m 32768 141) 32769 (A % 256)) 32770 (A / 256)) 32771 173) 32772 (A % 256)) 32773 (A / 256)), []⟩⟩) := Lib.hid (prog_putm HPn.out 32773 (A / 256) ⟨by omega, by omega⟩)
      have HFwe : Hid (Fr [] w0 ((wd.setCell ⟨f, 32772, none⟩ (.int .u8 (A % 256))).setCell ⟨f, 32773, none⟩ (.int .u8 (A / 256)))) := Lib.hid ((HFwd.out.setCell (.inr HG2.out) _).setCell (.inr HG2.out) _)
      have HOwe : Hid (Blk ((wd.setCell ⟨f, 32772, none⟩ (.int .u8 (A % 256))).setCell ⟨f, 32773, none⟩ (.int .u8 (A / 256))) ob 55 #[.int .u8 141, .int .u8 173, .int .u8 142, .int .u8 174, .int .u8 140, .int .u8 172]) := Lib.hid (HOwd.out.fr (((Fr.refl [f] wd).setCell (by simp) _).setCell (by simp) _) (by have := notof HPwd.out HOwd.out; simpa using this))
      go_upto_region 16 with fail
      clear d0 d1 e0 e1 HPn HPwd HFwd HOwd
      generalize (wd.setCell _ _).setCell _ _ = we at *
      go_wp2
      go_roundw
      case rel => exact ⟨1, (upd (upd (upd (upd (upd (upd m 32768 141) 32769 (A % 256)) 32770 (A / 256)) 32771 173) 32772 (A % 256)) 32773 (A / 256)), 32774, rfl, by omega, rfl, by omega, HPwe.out, HC.out.round (by omega) (by omega), (both_byte (upd (upd (upd (upd (upd m 32768 141) 32769 (A % 256)) 32770 (A / 256)) 32771 173) 32772 (A % 256)) 32773 (A / 256) (both_byte (upd (upd (upd (upd m 32768 141) 32769 (A % 256)) 32770 (A / 256)) 32771 173) 32772 (A % 256) (both_byte (upd (upd (upd m 32768 141) 32769 (A % 256)) 32770 (A / 256)) 32771 173 (both_byte (upd (upd m 32768 141) 32769 (A % 256)) 32770 (A / 256) (both_byte (upd m 32768 141) 32769 (A % 256) (both_byte m 32768 141 HMb.out ⟨by omega, by omega⟩) HLO.out) HHI.out) ⟨by omega, by omega⟩) HLO.out) HHI.out), HOwe.out, HFwe.out⟩
      case measure => simp [intOf]
    · skip
      obtain rfl : t = 32774 := by omega
      clear ht hi
      have HPwr := HPr
      have HFwr := HFr
      have HOwr := HOr
      clear HPr HFr HOr
      have o1 := HOwr.out.cell 2
      simp at o1
      have w3a : IntKind.u16.wrap 32774 = 32774 := rfl
      have HPd : Hid (ProgAt wr.drew w0.heap.size pp f nil0 ⟨v, v, v, s, noBU p, 32768, false, ⟨m, []⟩⟩) := Lib.hid (HPwr.out.fr (Fr.refl [] wr).drew (by simp))
      have HFd : Hid (Fr [] w0 wr.drew) := Lib.hid HFwr.out.drew
      have HOd : Hid (Blk wr.drew ob 55 #[.int .u8 141, .int .u8 173, .int .u8 142, .int .u8 174, .int .u8 140, .int .u8 172]) := Lib.hid (HOwr.out.fr (Fr.refl [] wr).drew (by simp))
      go_upto_region 10 with fail
      go_still_tail 9, (by kernel_rfl)
      repeat still_step
      try refine wpStill_nil ?_
      change wpList _ _ _ _ _ wr.drew
      clear o1 w3a HPwr HFwr HOwr
      generalize wr.drew = wa at *
      have d0 := HPd.out.flat.mem 32774 ⟨by omega, by omega⟩
      have e0 := HPd.out.flat.frozen 32774
      simp only at d0
      rw [show ((32774 : Int).toNat) = 32774 from rfl] at d0
      have HPwb : Hid (ProgAt (wa.setCell ⟨f, 32774, none⟩ (.int .u8 142)) w0.heap.size pp f nil0 ⟨v, v, v, s, noBU p, 32768, false, ⟨(upd m 32774 142), []⟩⟩) := Lib.hid (prog_putm HPd.out 32774 142 ⟨by omega, by omega⟩)
      have HFwb : Hid (Fr [] w0 (wa.setCell ⟨f, 32774, none⟩ (.int .u8 142))) := Lib.hid (HFd.out.setCell (.inr HG2.out) _)
      have HOwb : Hid (Blk (wa.setCell ⟨f, 32774, none⟩ (.int .u8 142)) ob 55 #[.int .u8 141, .int .u8 173, .int .u8 142, .int .u8 174, .int .u8 140, .int .u8 172]) := Lib.hid (HOd.out.fr ((Fr.refl [f] wa).setCell (by simp) _) (by have := notof HPd.out HOd.out; simpa using this))
      go_upto_region 11 with fail
      clear d0 e0 HPd HFd HOd
      generalize wa.setCell _ _ = wb at *
      have d0 := HPwb.out.flat.mem 32775 ⟨by omega, by omega⟩
      have d1 := HPwb.out.flat.mem 32776 ⟨by omega, by omega⟩
      have e0 := HPwb.out.flat.frozen 32775
      have e1 := HPwb.out.flat.frozen 32776
      simp only at d0 d1
      rw [show ((32775 : Int).toNat) = 32775 from rfl] at d0
      rw [show ((32776 : Int).toNat) = 32776 from rfl] at d1
      have HPn : Hid (ProgAt (wb.setCell ⟨f, 32775, none⟩ (.int .u8 (A % 256))) w0.heap.size pp f nil0 ⟨v, v, v, s, noBU p, 32768, false, ⟨(upd (upd m 32774 142) 32775 (A % 256)), []⟩⟩) := Lib.hid (prog_putm HPwb.out 32775 (A % 256) ⟨by omega, by omega⟩)
      have HPwc : Hid (ProgAt ((wb.setCell ⟨f, 32775, none⟩ (.int .u8 (A % 256))).setCell ⟨f, 32776, none⟩ (.int .u8 (A / 256))) w0.heap.size pp f nil0 ⟨v, v, v, s, noBU p, 32768, false, ⟨(upd (upd (upd m 32774 142) 32775 (A % 256)) 32776 (A / 256)), []⟩⟩) := Lib.hid (prog_putm HPn.out 32776 (A / 256) ⟨by omega, by omega⟩)
      have HFwc : Hid (Fr [] w0 ((wb.setCell ⟨f, 32775, none⟩ (.int .u8 (A % 256))).setCell ⟨f, 32776, none⟩ (.int .u8 (A / 256)))) := Lib.hid ((HFwb.out.setCell (.inr HG2.out) _).setCell (.inr HG2.out) _)
      have HOwc : Hid (Blk ((wb.setCell ⟨f, 32775, none⟩ (.int .u8 (A % 256))).setCell ⟨f, 32776, none⟩ (.int .u8 (A / 256))) ob 55 #[.int .u8 141, .int .u8 173, .int .u8 142, .int .u8 174, .int .u8 140, .int .u8 172]) := Lib.hid (HOwb.out.fr (((Fr.refl [f] wb).setCell (by simp) _).setCell (by simp) _) (by have := notof HPwb.out HOwb.out; simpa using this))
      go_upto_region 13 with fail
      clear d0 d1 e0 e1 HPn HPwb HFwb HOwb
      generalize (wb.setCell _ _).setCell _ _ = wc at *
      have o1 := HOwc.out.cell 3
      simp at o1
      have w3a : IntKind.u16.wrap 32777 = 32777 := rfl
      have HPd : Hid (ProgAt wc.drew w0.heap.size pp f nil0 ⟨v, v, v, s, noBU p, 32768, false, ⟨(upd (upd (upd m 32774 142) 32775 (A % 256)) 32776 (A / 256)), []⟩⟩) := Lib.hid (HPwc.out.fr (Fr.refl [] wc).drew (by simp))
      have HFd : Hid (Fr [] w0 wc.drew) := Lib.hid HFwc.out.drew
      have HOd : Hid (Blk wc.drew ob 55 #[.int .u8 141, .int .u8 173, .int .u8 142, .int .u8 174, .int .u8 140, .int .u8 172]) := Lib.hid (HOwc.out.fr (Fr.refl [] wc).drew (by simp))
      go_upto_region 13 with fail
      go_still_tail 10, (by kernel_rfl)
      repeat still_step
      try refine wpStill_nil ?_
      change wpList _ _ _ _ _ wc.drew
      clear o1 w3a HPwc HFwc HOwc
      generalize wc.drew = wa at *
      have d0 := HPd.out.flat.mem 32777 ⟨by omega, by omega⟩
      have e0 := HPd.out.flat.frozen 32777
      simp only at d0
      rw [show ((32777 : Int).toNat) = 32777 from rfl] at d0
      have HPwd : Hid (ProgAt (wa.setCell ⟨f, 32777, none⟩ (.int .u8 174)) w0.heap.size pp f nil0 ⟨v, v, v, s, noBU p, 32768, false, ⟨(upd (upd (upd (upd m 32774 142) 32775 (A % 256)) 32776 (A / 256)) 32777 174), []⟩⟩) := Lib.hid (prog_putm HPd.out 32777 174 ⟨by omega, by omega⟩)
      have HFwd : Hid (Fr [] w0 (wa.setCell ⟨f, 32777, none⟩ (.int .u8 174))) := Lib.hid (HFd.out.setCell (.inr HG2.out) _)
      have HOwd : Hid (Blk (wa.setCell ⟨f, 32777, none⟩ (.int .u8 174)) ob 55 #[.int .u8 141, .int .u8 173, .int .u8 142, .int .u8 174, .int .u8 140, .int .u8 172]) := Lib.hid (HOd.out.fr ((Fr.refl [f] wa).setCell (by simp) _) (by have := notof HPd.out HOd.out; simpa using this))
      go_upto_region 14 with fail
      clear d0 e0 HPd HFd HOd
      generalize wa.setCell _ _ = wd at *
      have d0 := HPwd.out.flat.mem 32778 ⟨by omega, by omega⟩
      have d1 := HPwd.out.flat.mem 32779 ⟨by omega, by omega⟩
      have e0 := HPwd.out.flat.frozen 32778
      have e1 := HPwd.out.flat.frozen 32779
      simp only at d0 d1
      rw [show ((32778 : Int).toNat) = 32778 from rfl] at d0
      rw [show ((32779 : Int).toNat) = 32779 from rfl] at d1
      have HPn : Hid (ProgAt (wd.setCell ⟨f, 32778, none⟩ (.int .u8 (A % 256))) w0.heap.size pp f nil0 ⟨v, v, v, s, noBU p, 32768, false, ⟨(upd (upd (upd (upd (upd m 32774 142) 32775 (A % 256)) 32776 (A / 256)) 32777 174) 32778 (A % 256)), []⟩⟩) := Lib.hid (prog_putm HPwd.out 32778 (A % 256) ⟨by omega, by omega⟩)
      have HPwe : Hid (ProgAt ((wd.setCell ⟨f, 32778, none⟩ (.int .u8 (A % 256))).setCell ⟨f, 32779, none⟩ (.int .u8 (A / 256))) w0.heap.size pp f nil0 ⟨v, v, v, s, noBU p, 32768, false, ⟨(upd (upd (upd (upd (upd (upd m 32774 142) 32775 (A % 256)) 32776 (A / 256)) 32777 174) 32778 (A % 256)) 32779 (A / 256)), []⟩⟩) := Lib.hid (prog_putm HPn.out 32779 (A / 256) ⟨by omega, by omega⟩)
      have HFwe : Hid (Fr [] w0 ((wd.setCell ⟨f, 32778, none⟩ (.int .u8 (A % 256))).setCell ⟨f, 32779, none⟩ (.int .u8 (A / 256)))) := Lib.hid ((HFwd.out.setCell (.inr HG2.out) _).setCell (.inr HG2.out) _)
      have HOwe : Hid (Blk ((wd.setCell ⟨f, 32778, none⟩ (.int .u8 (A % 256))).setCell ⟨f, 32779, none⟩ (.int .u8 (A / 256))) ob 55 #[.int .u8 141, .int .u8 173, .int .u8 142, .int .u8 174, .int .u8 140, .int .u8 172]) := Lib.hid (HOwd.out.fr (((Fr.refl [f] wd).setCell (by simp) _).setCell (by simp) _) (by have := notof HPwd.out HOwd.out; simpa using this))
      go_upto_region 16 with fail
      clear d0 d1 e0 e1 HPn HPwd HFwd HOwd
      generalize (wd.setCell _ _).setCell _ _ = we at *
      go_wp2
      go_roundw
      case rel => exact ⟨2, (upd (upd (upd (upd (upd (upd m 32774 142) 32775 (A % 256)) 32776 (A / 256)) 32777 174) 32778 (A % 256)) 32779 (A / 256)), 32780, rfl, by omega, rfl, by omega, HPwe.out, HC.out.round (by omega) (by omega), (both_byte (upd (upd (upd (upd (upd m 32774 142) 32775 (A % 256)) 32776 (A / 256)) 32777 174) 32778 (A % 256)) 32779 (A / 256) (both_byte (upd (upd (upd (upd m 32774 142) 32775 (A % 256)) 32776 (A / 256)) 32777 174) 32778 (A % 256) (both_byte (upd (upd (upd m 32774 142) 32775 (A % 256)) 32776 (A / 256)) 32777 174 (both_byte (upd (upd m 32774 142) 32775 (A % 256)) 32776 (A / 256) (both_byte (upd m 32774 142) 32775 (A % 256) (both_byte m 32774 142 HMb.out ⟨by omega, by omega⟩) HLO.out) HHI.out) ⟨by omega, by omega⟩) HLO.out) HHI.out), HOwe.out, HFwe.out⟩
      case measure => simp [intOf]
    · skip
      obtain rfl : t = 32780 := by omega
      clear ht hi
      have HPwr := HPr
      have HFwr := HFr
      have HOwr := HOr
      clear HPr HFr HOr
      have o1 := HOwr.out.cell 4
      simp at o1
      have w3a : IntKind.u16.wrap 32780 = 32780 := rfl
      have HPd : Hid (ProgAt wr.drew w0.heap.size pp f nil0 ⟨v, v, v, s, noBU p, 32768, false, ⟨m, []⟩⟩) := Lib.hid (HPwr.out.fr (Fr.refl [] wr).drew (by simp))
      have HFd : Hid (Fr [] w0 wr.drew) := Lib.hid HFwr.out.drew
      have HOd : Hid (Blk wr.drew ob 55 #[.int .u8 141, .int .u8 173, .int .u8 142, .int .u8 174, .int .u8 140, .int .u8 172]) := Lib.hid (HOwr.out.fr (Fr.refl [] wr).drew (by simp))
      go_upto_region 10 with fail
      go_still_tail 9, (by kernel_rfl)
      repeat still_step
      try refine wpStill_nil ?_
      change wpList _ _ _ _ _ wr.drew
      clear o1 w3a HPwr HFwr HOwr
      generalize wr.drew = wa at *
      have d0 := HPd.out.flat.mem 32780 ⟨by omega, by omega⟩
      have e0 := HPd.out.flat.frozen 32780
      simp only at d0
      rw [show ((32780 : Int).toNat) = 32780 from rfl] at d0
      have HPwb : Hid (ProgAt (wa.setCell ⟨f, 32780, none⟩ (.int .u8 140)) w0.heap.size pp f nil0 ⟨v, v, v, s, noBU p, 32768, false, ⟨(upd m 32780 140), []⟩⟩) := Lib.hid (prog_putm HPd.out 32780 140 ⟨by omega, by omega⟩)
      have HFwb : Hid (Fr [] w0 (wa.setCell ⟨f, 32780, none⟩ (.int .u8 140))) := Lib.hid (HFd.out.setCell (.inr HG2.out) _)
      have HOwb : Hid (Blk (wa.setCell ⟨f, 32780, none⟩ (.int .u8 140)) ob 55 #[.int .u8 141, .int .u8 173, .int .u8 142, .int .u8 174, .int .u8 140, .int .u8 172]) := Lib.hid (HOd.out.fr ((Fr.refl [f] wa).setCell (by simp) _) (by have := notof HPd.out HOd.out; simpa using this))
      go_upto_region 11 with fail
      clear d0 e0 HPd HFd HOd
      generalize wa.setCell _ _ = wb at *
      have d0 := HPwb.out.flat.mem 32781 ⟨by omega, by omega⟩
      have d1 := HPwb.out.flat.mem 32782 ⟨by omega, by omega⟩
      have e0 := HPwb.out.flat.frozen 32781
      have e1 := HPwb.out.flat.frozen 32782
      simp only at d0 d1
      rw [show ((32781 : Int).toNat) = 32781 from rfl] at d0
      rw [show ((32782 : Int).toNat) = 32782 from rfl] at d1
      have HPn : Hid (ProgAt (wb.setCell ⟨f, 32781, none⟩ (.int .u8 (A % 256))) w0.heap.size pp f nil0 ⟨v, v, v, s, noBU p, 32768, false, ⟨(upd (upd m 32780 140) 32781 (A % 256)), []⟩⟩) := Lib.hid (prog_putm HPwb.out 32781 (A % 256) ⟨by omega, by omega⟩)
      have HPwc : Hid (ProgAt ((wb.setCell ⟨f, 32781, none⟩ (.int .u8 (A % 256))).setCell ⟨f, 32782, none⟩ (.int .u8 (A / 256))) w0.heap.size pp f nil0 ⟨v, v, v, s, noBU p, 32768, false, ⟨(upd (upd (upd m 32780 140) 32781 (A % 256)) 32782 (A / 256)), []⟩⟩) := Lib.hid (prog_putm HPn.out 32782 (A / 256) ⟨by omega, by omega⟩)
      have HFwc : Hid (Fr [] w0 ((wb.setCell ⟨f, 32781, none⟩ (.int .u8 (A % 256))).setCell ⟨f, 32782, none⟩ (.int .u8 (A / 256)))) := Lib.hid ((HFwb.out.setCell (.inr HG2.out) _).setCell (.inr HG2.out) _)
      have HOwc : Hid (Blk ((wb.setCell ⟨f, 32781, none⟩ (.int .u8 (A % 256))).setCell ⟨f, 32782, none⟩ (.int .u8 (A / 256))) ob 55 #[.int .u8 141, .int .u8 173, .int .u8 142, .int .u8 174, .int .u8 140, .int .u8 172]) := Lib.hid (HOwb.out.fr (((Fr.refl [f] wb).setCell (by simp) _).setCell (by simp) _) (by have := notof HPwb.out HOwb.out; simpa using this))
      go_upto_region 13 with fail
      clear d0 d1 e0 e1 HPn HPwb HFwb HOwb
      generalize (wb.setCell _ _).setCell _ _ = wc at *
      have o1 := HOwc.out.cell 5
      simp at o1
      have w3a : IntKind.u16.wrap 32783 = 32783 := rfl
      have HPd : Hid (ProgAt wc.drew w0.heap.size pp f nil0 ⟨v, v, v, s, noBU p, 32768, false, ⟨(upd (upd (upd m 32780 140) 32781 (A % 256)) 32782 (A / 256)), []⟩⟩) := Lib.hid (HPwc.out.fr (Fr.refl [] wc).drew (by simp))
      have HFd : Hid (Fr [] w0 wc.drew) := Lib.hid HFwc.out.drew
      have HOd : Hid (Blk wc.drew ob 55 #[.int .u8 141, .int .u8 173, .int .u8 142, .int .u8 174, .int .u8 140, .int .u8 172]) := Lib.hid (HOwc.out.fr (Fr.refl [] wc).drew (by simp))
      go_upto_region 13 with fail
      go_still_tail 10, (by kernel_rfl)
      repeat still_step
      try refine wpStill_nil ?_
      change wpList _ _ _ _ _ wc.drew
      clear o1 w3a HPwc HFwc HOwc
      generalize wc.drew = wa at *
      have d0 := HPd.out.flat.mem 32783 ⟨by omega, by omega⟩
      have e0 := HPd.out.flat.frozen 32783
      simp only at d0
      rw [show ((32783 : Int).toNat) = 32783 from rfl] at d0
      have HPwd : Hid (ProgAt (wa.setCell ⟨f, 32783, none⟩ (.int .u8 172)) w0.heap.size pp f nil0 ⟨v, v, v, s, noBU p, 32768, false, ⟨(upd (upd (upd (upd m 32780 140) 32781 (A % 256)) 32782 (A / 256)) 32783 172), []⟩⟩) := Lib.hid (prog_putm HPd.out 32783 172 ⟨by omega, by omega⟩)
      have HFwd : Hid (Fr [] w0 (wa.setCell ⟨f, 32783, none⟩ (.int .u8 172))) := Lib.hid (HFd.out.setCell (.inr HG2.out) _)
      have HOwd : Hid (Blk (wa.setCell ⟨f, 32783, none⟩ (.int .u8 172)) ob 55 #[.int .u8 141, .int .u8 173, .int .u8 142, .int .u8 174, .int .u8 140, .int .u8 172]) := Lib.hid (HOd.out.fr ((Fr.refl [f] wa).setCell (by simp) _) (by have := notof HPd.out HOd.out; simpa using this))
      go_upto_region 14 with fail
      clear d0 e0 HPd HFd HOd
      generalize wa.setCell _ _ = wd at *
      have d0 := HPwd.out.flat.mem 32784 ⟨by omega, by omega⟩
      have d1 := HPwd.out.flat.mem 32785 ⟨by omega, by omega⟩
      have e0 := HPwd.out.flat.frozen 32784
      have e1 := HPwd.out.flat.frozen 32785
      simp only at d0 d1
      rw [show ((32784 : Int).toNat) = 32784 from rfl] at d0
      rw [show ((32785 : Int).toNat) = 32785 from rfl] at d1
      have HPn : Hid (ProgAt (wd.setCell ⟨f, 32784, none⟩ (.int .u8 (A % 256))) w0.heap.size pp f nil0 ⟨v, v, v, s, noBU p, 32768, false, ⟨(upd (upd (upd (upd (upd m 32780 140) 32781 (A % 256)) 32782 (A / 256)) 32783 172) 32784 (A % 256)), []⟩⟩) := Lib.hid (prog_putm HPwd.out 32784 (A % 256) ⟨by omega, by omega⟩)
      have HPwe : Hid (ProgAt ((wd.setCell ⟨f, 32784, none⟩ (.int .u8 (A % 256))).setCell ⟨f, 32785, none⟩ (.int .u8 (A / 256))) w0.heap.size pp f nil0 ⟨v, v, v, s, noBU p, 32768, false, ⟨(upd (upd (upd (upd (upd (upd m 32780 140) 32781 (A % 256)) 32782 (A / 256)) 32783 172) 32784 (A % 256)) 32785 (A / 256)), []⟩⟩) := Lib.hid (prog_putm HPn.out 32785 (A / 256) ⟨by omega, by omega⟩)
      have HFwe : Hid (Fr [] w0 ((wd.setCell ⟨f, 32784, none⟩ (.int .u8 (A % 256))).setCell ⟨f, 32785, none⟩ (.int .u8 (A / 256)))) := Lib.hid ((HFwd.out.setCell (.inr HG2.out) _).setCell (.inr HG2.out) _)
      have HOwe : Hid (Blk ((wd.setCell ⟨f, 32784, none⟩ (.int .u8 (A % 256))).setCell ⟨f, 32785, none⟩ (.int .u8 (A / 256))) ob 55 #[.int .u8 141, .int .u8 173, .int .u8 142, .int .u8 174, .int .u8 140, .int .u8 172]) := Lib.hid (HOwd.out.fr (((Fr.refl [f] wd).setCell (by simp) _).setCell (by simp) _) (by have := notof HPwd.out HOwd.out; simpa using this))
      go_upto_region 16 with fail
      clear d0 d1 e0 e1 HPn HPwd HFwd HOwd
      generalize (wd.setCell _ _).setCell _ _ = we at *
      go_wp2
      go_roundw
      case rel => exact ⟨3, (upd (upd (upd (upd (upd (upd m 32780 140) 32781 (A % 256)) 32782 (A / 256)) 32783 172) 32784 (A % 256)) 32785 (A / 256)), 32786, rfl, by omega, rfl, by omega, HPwe.out, HC.out.round (by omega) (by omega), (both_byte (upd (upd (upd (upd (upd m 32780 140) 32781 (A % 256)) 32782 (A / 256)) 32783 172) 32784 (A % 256)) 32785 (A / 256) (both_byte (upd (upd (upd (upd m 32780 140) 32781 (A % 256)) 32782 (A / 256)) 32783 172) 32784 (A % 256) (both_byte (upd (upd (upd m 32780 140) 32781 (A % 256)) 32782 (A / 256)) 32783 172 (both_byte (upd (upd m 32780 140) 32781 (A % 256)) 32782 (A / 256) (both_byte (upd m 32780 140) 32781 (A % 256) (both_byte m 32780 140 HMb.out ⟨by omega, by omega⟩) HLO.out) HHI.out) ⟨by omega, by omega⟩) HLO.out) HHI.out), HOwe.out, HFwe.out⟩
      case measure => simp [intOf]
    · skip
      clear ht hi HOr HLO HHI wLO wHI
      go_wp2_with fail
      obtain ⟨wz, hwz⟩ : ∃ z, z = wr := ⟨_, rfl⟩
      rw [← hwz] at HPr HFr ⊢
      clear hwz
      go_loopw [13] (fun s13 wr => ∃ (k : Nat) (u : Value), s13 = .int .i64 (k : Int) ∧ k ≤ 6 ∧ ProgAt wr w0.heap.size pp f u (LS s (noBU p) A v U m k) ∧ Fr [] w0 wr) (fun s13 _ => 6 - (intOf s13).toNat)
      case atStart => exact ⟨0, nil0, rfl, by omega, HPr.out, HFr.out⟩
      case round =>
        clear HPr HFr
        obtain ⟨k, u, rfl, hk, hp, hfr⟩ := hrel
        have HPr := Lib.hid hp
        have HFr := Lib.hid hfr
        clear hp hfr
        obtain rfl | rfl | rfl | rfl | rfl | rfl | rfl : k = 0 ∨ k = 1 ∨ k = 2 ∨ k = 3 ∨ k = 4 ∨ k = 5 ∨ k = 6 := by omega
        · skip
          clear hk
          have HPn : Hid (ProgAt wr w0.heap.size pp f u (LT s (noBU p) A v U m 0)) := HPr
          have HFn := HFr
          have HCl : Hid (Calls Tryd.prog 12 #[.pointer (some ⟨pp, 0, none⟩), .iface 31 (.pointer (some ⟨f, 0, none⟩))] wr (PDone wr w0.heap.size pp f u (LS s (noBU p) A v U m 1) (.int .i64 4))) := Lib.hid (by
            have h := HS.out wr w0.heap.size pp f u (LT s (noBU p) A v U m 0) 3 HPn.out (lt_ok HSs.out (fl_noBU p HP.out) HAu.out HV.out HU1.out HMb.out 0 (by omega)) (by omega) HFn.out.size
            obtain ⟨e1, e2⟩ := ls_step (s := s) (p := noBU p) (A := A) (v := v) (U := U) (m := m) HC.out HA1.out.2 0 (by omega)
            rw [e1, e2] at h
            exact h)
          clear HPr HFr
          go_wp2_with fail
          (with_reducible refine HCl.out.mono ?_)
          intro e wz2 hd
          obtain ⟨rfl, u2, hp2, hf2, -⟩ := hd
          have HP2 := Lib.hid hp2
          have HF2 : Hid (Fr [] w0 wz2) := Lib.hid (HFn.out.trans hf2 (fun j hj => .inr (HPn.out.ge HG1.out HG2.out j hj)))
          clear hp2 hf2 HPn HFn HCl
          go_wp2
          refine ⟨⟨_, _, _, _, _, _, _, _, _, _, _, _, _, _, _, _, _, _, _, _, _, _, _, _, _, _, _, _, ⟨1, u2, by go_num, by omega, HP2.out, HF2.out⟩, rfl⟩, ?_⟩
          simp [intOf]
        · skip
          clear hk
          have dl : wr.cell? ⟨f, A.toNat, none⟩ = some (.int .u8 v) := by
            have h := HPr.out.flat.mem A HAu.out
            rw [h]
            exact congrArg (fun z => some (Value.int IntKind.u8 z)) (upd_same _ _ _)
          have HPd : Hid (ProgAt wr.drew w0.heap.size pp f u (LS s (noBU p) A v U m 1)) := Lib.hid (HPr.out.fr (Fr.refl [] wr).drew (by simp))
          have HFd : Hid (Fr [] w0 wr.drew) := Lib.hid HFr.out.drew
          go_upto_region 21 with fail
          go_still_tail 12, (by kernel_rfl)
          repeat still_step
          try refine wpStill_nil ?_
          change wpList _ _ _ _ _ wr.drew
          have d0 : wr.drew.cell? ⟨f, A.toNat, none⟩ = some (.int .u8 v) := dl
          clear HPr HFr dl
          generalize wr.drew = wa at *
          have e0 := HPd.out.flat.frozen A.toNat
          have HPn : Hid (ProgAt (wa.setCell ⟨f, A.toNat, none⟩ (.int .u8 U)) w0.heap.size pp f u (LT s (noBU p) A v U m 1)) := Lib.hid (prog_putm HPd.out A U HAu.out)
          have HFn : Hid (Fr [] w0 (wa.setCell ⟨f, A.toNat, none⟩ (.int .u8 U))) := Lib.hid (HFd.out.setCell (.inr HG2.out) _)
          go_upto_region 22 with fail
          clear d0 e0 HPd HFd
          generalize wa.setCell _ _ = wb at *
          have HCl : Hid (Calls Tryd.prog 12 #[.pointer (some ⟨pp, 0, none⟩), .iface 31 (.pointer (some ⟨f, 0, none⟩))] wb (PDone wb w0.heap.size pp f u (LS s (noBU p) A v U m 2) (.int .i64 4))) := Lib.hid (by
            have h := HS.out wb w0.heap.size pp f u (LT s (noBU p) A v U m 1) 3 HPn.out (lt_ok HSs.out (fl_noBU p HP.out) HAu.out HV.out HU1.out HMb.out 1 (by omega)) (by omega) HFn.out.size
            obtain ⟨e1, e2⟩ := ls_step (s := s) (p := noBU p) (A := A) (v := v) (U := U) (m := m) HC.out HA1.out.2 1 (by omega)
            rw [e1, e2] at h
            exact h)
          go_wp2_with fail
          (with_reducible refine HCl.out.mono ?_)
          intro e wz2 hd
          obtain ⟨rfl, u2, hp2, hf2, -⟩ := hd
          have HP2 := Lib.hid hp2
          have HF2 : Hid (Fr [] w0 wz2) := Lib.hid (HFn.out.trans hf2 (fun j hj => .inr (HPn.out.ge HG1.out HG2.out j hj)))
          clear hp2 hf2 HPn HFn HCl
          go_wp2
          refine ⟨⟨_, _, _, _, _, _, _, _, _, _, _, _, _, _, _, _, _, _, _, _, _, _, _, _, _, _, _, _, ⟨2, u2, by go_num, by omega, HP2.out, HF2.out⟩, rfl⟩, ?_⟩
          simp [intOf]
        · skip
          clear hk
          have HPn : Hid (ProgAt wr w0.heap.size pp f u (LT s (noBU p) A v U m 2)) := HPr
          have HFn := HFr
          have HCl : Hid (Calls Tryd.prog 12 #[.pointer (some ⟨pp, 0, none⟩), .iface 31 (.pointer (some ⟨f, 0, none⟩))] wr (PDone wr w0.heap.size pp f u (LS s (noBU p) A v U m 3) (.int .i64 4))) := Lib.hid (by
            have h := HS.out wr w0.heap.size pp f u (LT s (noBU p) A v U m 2) 3 HPn.out (lt_ok HSs.out (fl_noBU p HP.out) HAu.out HV.out HU1.out HMb.out 2 (by omega)) (by omega) HFn.out.size
            obtain ⟨e1, e2⟩ := ls_step (s := s) (p := noBU p) (A := A) (v := v) (U := U) (m := m) HC.out HA1.out.2 2 (by omega)
            rw [e1, e2] at h
            exact h)
          clear HPr HFr
          go_wp2_with fail
          (with_reducible refine HCl.out.mono ?_)
          intro e wz2 hd
          obtain ⟨rfl, u2, hp2, hf2, -⟩ := hd
          have HP2 := Lib.hid hp2
          have HF2 : Hid (Fr [] w0 wz2) := Lib.hid (HFn.out.trans hf2 (fun j hj => .inr (HPn.out.ge HG1.out HG2.out j hj)))
          clear hp2 hf2 HPn HFn HCl
          go_wp2
          refine ⟨⟨_, _, _, _, _, _, _, _, _, _, _, _, _, _, _, _, _, _, _, _, _, _, _, _, _, _, _, _, ⟨3, u2, by go_num, by omega, HP2.out, HF2.out⟩, rfl⟩, ?_⟩
          simp [intOf]
        · skip
          clear hk
          have dl : wr.cell? ⟨f, A.toNat, none⟩ = some (.int .u8 v) := by
            have h := HPr.out.flat.mem A HAu.out
            rw [h]
            exact congrArg (fun z => some (Value.int IntKind.u8 z)) (upd_same _ _ _)
          have HPd : Hid (ProgAt wr.drew w0.heap.size pp f u (LS s (noBU p) A v U m 3)) := Lib.hid (HPr.out.fr (Fr.refl [] wr).drew (by simp))
          have HFd : Hid (Fr [] w0 wr.drew) := Lib.hid HFr.out.drew
          go_upto_region 21 with fail
          go_still_tail 12, (by kernel_rfl)
          repeat still_step
          try refine wpStill_nil ?_
          change wpList _ _ _ _ _ wr.drew
          have d0 : wr.drew.cell? ⟨f, A.toNat, none⟩ = some (.int .u8 v) := dl
          clear HPr HFr dl
          generalize wr.drew = wa at *
          have e0 := HPd.out.flat.frozen A.toNat
          have HPn : Hid (ProgAt (wa.setCell ⟨f, A.toNat, none⟩ (.int .u8 U)) w0.heap.size pp f u (LT s (noBU p) A v U m 3)) := Lib.hid (prog_putm HPd.out A U HAu.out)
          have HFn : Hid (Fr [] w0 (wa.setCell ⟨f, A.toNat, none⟩ (.int .u8 U))) := Lib.hid (HFd.out.setCell (.inr HG2.out) _)
          go_upto_region 22 with fail
          clear d0 e0 HPd HFd
          generalize wa.setCell _ _ = wb at *
          have HCl : Hid (Calls Tryd.prog 12 #[.pointer (some ⟨pp, 0, none⟩), .iface 31 (.pointer (some ⟨f, 0, none⟩))] wb (PDone wb w0.heap.size pp f u (LS s (noBU p) A v U m 4) (.int .i64 4))) := Lib.hid (by
            have h := HS.out wb w0.heap.size pp f u (LT s (noBU p) A v U m 3) 3 HPn.out (lt_ok HSs.out (fl_noBU p HP.out) HAu.out HV.out HU1.out HMb.out 3 (by omega)) (by omega) HFn.out.size
            obtain ⟨e1, e2⟩ := ls_step (s := s) (p := noBU p) (A := A) (v := v) (U := U) (m := m) HC.out HA1.out.2 3 (by omega)
            rw [e1, e2] at h
            exact h)
          go_wp2_with fail
          (with_reducible refine HCl.out.mono ?_)
          intro e wz2 hd
          obtain ⟨rfl, u2, hp2, hf2, -⟩ := hd
          have HP2 := Lib.hid hp2
          have HF2 : Hid (Fr [] w0 wz2) := Lib.hid (HFn.out.trans hf2 (fun j hj => .inr (HPn.out.ge HG1.out HG2.out j hj)))
          clear hp2 hf2 HPn HFn HCl
          go_wp2
          refine ⟨⟨_, _, _, _, _, _, _, _, _, _, _, _, _, _, _, _, _, _, _, _, _, _, _, _, _, _, _, _, ⟨4, u2, by go_num, by omega, HP2.out, HF2.out⟩, rfl⟩, ?_⟩
          simp [intOf]
        · skip
          clear hk
          have HPn : Hid (ProgAt wr w0.heap.size pp f u (LT s (noBU p) A v U m 4)) := HPr
          have HFn := HFr
          have HCl : Hid (Calls Tryd.prog 12 #[.pointer (some ⟨pp, 0, none⟩), .iface 31 (.pointer (some ⟨f, 0, none⟩))] wr (PDone wr w0.heap.size pp f u (LS s (noBU p) A v U m 5) (.int .i64 4))) := Lib.hid (by
            have h := HS.out wr w0.heap.size pp f u (LT s (noBU p) A v U m 4) 3 HPn.out (lt_ok HSs.out (fl_noBU p HP.out) HAu.out HV.out HU1.out HMb.out 4 (by omega)) (by omega) HFn.out.size
            obtain ⟨e1, e2⟩ := ls_step (s := s) (p := noBU p) (A := A) (v := v) (U := U) (m := m) HC.out HA1.out.2 4 (by omega)
            rw [e1, e2] at h
            exact h)
          clear HPr HFr
          go_wp2_with fail
          (with_reducible refine HCl.out.mono ?_)
          intro e wz2 hd
          obtain ⟨rfl, u2, hp2, hf2, -⟩ := hd
          have HP2 := Lib.hid hp2
          have HF2 : Hid (Fr [] w0 wz2) := Lib.hid (HFn.out.trans hf2 (fun j hj => .inr (HPn.out.ge HG1.out HG2.out j hj)))
          clear hp2 hf2 HPn HFn HCl
          go_wp2
          refine ⟨⟨_, _, _, _, _, _, _, _, _, _, _, _, _, _, _, _, _, _, _, _, _, _, _, _, _, _, _, _, ⟨5, u2, by go_num, by omega, HP2.out, HF2.out⟩, rfl⟩, ?_⟩
          simp [intOf]
        · skip
          clear hk
          have dl : wr.cell? ⟨f, A.toNat, none⟩ = some (.int .u8 v) := by
            have h := HPr.out.flat.mem A HAu.out
            rw [h]
            exact congrArg (fun z => some (Value.int IntKind.u8 z)) (upd_same _ _ _)
          have HPd : Hid (ProgAt wr.drew w0.heap.size pp f u (LS s (noBU p) A v U m 5)) := Lib.hid (HPr.out.fr (Fr.refl [] wr).drew (by simp))
          have HFd : Hid (Fr [] w0 wr.drew) := Lib.hid HFr.out.drew
          go_upto_region 21 with fail
          go_still_tail 12, (by kernel_rfl)
          repeat still_step
          try refine wpStill_nil ?_
          change wpList _ _ _ _ _ wr.drew
          have d0 : wr.drew.cell? ⟨f, A.toNat, none⟩ = some (.int .u8 v) := dl
          clear HPr HFr dl
          generalize wr.drew = wa at *
          have e0 := HPd.out.flat.frozen A.toNat
          have HPn : Hid (ProgAt (wa.setCell ⟨f, A.toNat, none⟩ (.int .u8 U)) w0.heap.size pp f u (LT s (noBU p) A v U m 5)) := Lib.hid (prog_putm HPd.out A U HAu.out)
          have HFn : Hid (Fr [] w0 (wa.setCell ⟨f, A.toNat, none⟩ (.int .u8 U))) := Lib.hid (HFd.out.setCell (.inr HG2.out) _)
          go_upto_region 22 with fail
          clear d0 e0 HPd HFd
          generalize wa.setCell _ _ = wb at *
          have HCl : Hid (Calls Tryd.prog 12 #[.pointer (some ⟨pp, 0, none⟩), .iface 31 (.pointer (some ⟨f, 0, none⟩))] wb (PDone wb w0.heap.size pp f u (LS s (noBU p) A v U m 6) (.int .i64 4))) := Lib.hid (by
            have h := HS.out wb w0.heap.size pp f u (LT s (noBU p) A v U m 5) 3 HPn.out (lt_ok HSs.out (fl_noBU p HP.out) HAu.out HV.out HU1.out HMb.out 5 (by omega)) (by omega) HFn.out.size
            obtain ⟨e1, e2⟩ := ls_step (s := s) (p := noBU p) (A := A) (v := v) (U := U) (m := m) HC.out HA1.out.2 5 (by omega)
            rw [e1, e2] at h
            exact h)
          go_wp2_with fail
          (with_reducible refine HCl.out.mono ?_)
          intro e wz2 hd
          obtain ⟨rfl, u2, hp2, hf2, -⟩ := hd
          have HP2 := Lib.hid hp2
          have HF2 : Hid (Fr [] w0 wz2) := Lib.hid (HFn.out.trans hf2 (fun j hj => .inr (HPn.out.ge HG1.out HG2.out j hj)))
          clear hp2 hf2 HPn HFn HCl
          go_wp2
          refine ⟨⟨_, _, _, _, _, _, _, _, _, _, _, _, _, _, _, _, _, _, _, _, _, _, _, _, _, _, _, _, ⟨6, u2, by go_num, by omega, HP2.out, HF2.out⟩, rfl⟩, ?_⟩
          simp [intOf]
        · skip
          clear hk
          have HPf : Hid (ProgAt wr w0.heap.size pp f u ⟨U, U, U, s, zn (zn (zn (noBU p) U) U) U, 32786, false, ⟨lsM m A v U 6, [(A, v), (A, v), (A, v)]⟩⟩) := HPr
          obtain ⟨A9, k9, rfl, hr9, hk9, hk9m, -⟩ := HPf.out.row.slice
          obtain ⟨b9, o9, rfl, hc9⟩ := hr9 (by simp)
          obtain ⟨q0, q1⟩ := hc9 0 (by simp)
          simp at q0 q1
          have cw : wr.cell? ⟨f, 65536, none⟩ = some (.slice (some ⟨b9, o9, none⟩) 3 k9) := HPf.out.flat.cell 65536 (by omega)
          obtain ⟨c0, c1, c2, c3, c4, c5, c6⟩ := ProgAt.regs HPf.out
          simp only at c0 c1 c2 c3 c4 c5 c6
          have hk9' : 3 ≤ k9 := by simpa using hk9
          clear c3 c6 hr9 hc9 hk9 HPr
          obtain ⟨h2, h128⟩ := flag2 (U == 0) (decide (128 ≤ U)) (zn (zn (noBU p) U) U) (fl_zn _ _ (fl_zn _ _ (fl_noBU p HP.out))).1
          change bits .and .u8 (zn (zn (zn (noBU p) U) U) U) 2 = _ at h2
          change bits .and .u8 (zn (zn (zn (noBU p) U) U) U) 128 = _ at h128
          have HFin := Lib.hid (HF0.out.tr HFr.out)
          generalize zn (zn (zn (noBU p) U) U) U = Q at *
          clear HPf HFr HC HMb HS HU1 HV HSs HP HA1 HAu HTab HTps HB0
          by_cases z0 : U = 0
          · subst z0
            simp at h2 h128
            go_wp2
            go_ret
            exact ⟨by simp, HFin.out.below (by simp) (Nat.le_refl _)⟩
          · have hz : (U == 0) = false := by simpa using z0
            rw [hz] at h2
            by_cases hn : 128 ≤ U
            · rw [decide_eq_true hn] at h128
              simp at h2 h128
              go_wp2
              go_ret
              exact ⟨by simp, HFin.out.below (by simp) (Nat.le_refl _)⟩
            · rw [decide_eq_false hn] at h128
              simp at h2 h128
              go_wp2
              go_ret
              exact ⟨by simp, HFin.out.below (by simp) (Nat.le_refl _)⟩

end Ms
end Go.Proofs.YtlnpadekgakghaaDoor
