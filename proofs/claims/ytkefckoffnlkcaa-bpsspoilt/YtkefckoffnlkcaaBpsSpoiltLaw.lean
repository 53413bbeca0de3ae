/-
  picklocklaw07.BpsSpoilt returns true for every input: a patch of which at most four bytes next to each other were changed is refused. No condition.
-/
import Derived.Test.YtkefckoffnlkcaaBpsShown
import Derived.Test.YtkefckoffnlkcaaBpsCut
namespace Go.Proofs.Ytkefckoffnlkcaa
open Go.RowKit
namespace Bps
open Acts (ActRd ActOwn)
open Ups (sum word4 spoil spoil_length spoil_at spoil_sum spoil_none byte_u xor_byte signed)

theorem own_max {w : World} {B n c : Nat} {A : Option Addr} {l : List UInt8} (h : Own w B (.slice A n c) l) : c ≤ maxLen := by
  obtain ⟨_, _, e, _, _, _, h, _⟩ := h.slice
  injection e with e1 e2 e3
  rw [e3]
  exact h

theorem ActOwn_slice' {w : World} {B n c : Nat} {T : TypeId} {A : Option Addr} {L : List Act} (h : ActOwn w B T (.slice A n c) L) : ActRd w A L := by
  obtain ⟨_, _, e, hr, _⟩ := h.slice
  injection e with e1 e2 e3
  rw [e1]
  exact hr

set_option maxRecDepth 100000 in
set_option maxHeartbeats 4000000 in
theorem spoilt_walk (a0 : Option Addr) (n0 cap0 : Nat) (zs : List Raw) (z0 : Int) (B : BitVec 32) (w : World) (hn0 : zs.length = n0) (hr : RawIn w a0 zs) (hlc : n0 ≤ cap0) (hcm : cap0 ≤ maxLen) :
    Calls Try.prog 5 #[.slice a0 n0 cap0, .int .i64 z0, .int .u32 (Crc.u B)] w fun e w' => e = .returned (.bool true) ∧ Below w.heap.size w w' := by
  have HR := Lib.hid hr
  have Hn0 := Lib.hid hn0
  have Hlc := Lib.hid hlc
  have Hcm := Lib.hid hcm
  clear hr hn0 hlc hcm
  go_enter Try.func5, Try.ntmps5
  go_wp2_with fail
  refine (shown7 w).mono ?_
  rintro e w1 ⟨rfl, hf1⟩
  have HF1 := Lib.hid hf1
  clear hf1
  go_wp2_with fail
  refine (cut_any w1 a0 n0 cap0 zs Hn0.out (HR.out.later HF1.out) Hlc.out Hcm.out).mono ?_
  rintro e w2 ⟨A2, c2, L, rfl, ho2, hok, htot, hf2⟩
  obtain ⟨P, hP⟩ : ∃ P : Pat, P = ⟨0, total L, 0#32, 0#32, [], L⟩ := ⟨_, rfl⟩
  have HFi : Hid (Fine P) := Lib.hid (by rw [hP]; exact fine_of _ hok rfl (by simp) (by simp only; omega) (by simp))
  have HPb : Hid (∃ l, P.whole = signed l) := Lib.hid ⟨_, rfl⟩
  have HWb := whole_bound P (by rw [hP]; exact hok) (by rw [hP]; simp) (by rw [hP]; simp only; omega) (by rw [hP]; simp)
  have hlong := whole_long P.i P.o P.s1 P.s2 P.mt P.L
  change 19 ≤ P.whole.length at hlong
  have hPb : P.mt.length = 0 ∧ total P.L ≤ 480 := by rw [hP]; exact ⟨rfl, htot⟩
  have HWh := Lib.hid (rwhole_ok w2 P none 0 A2 c2 HFi.out (by rw [hP]; exact rd_nil _) (fun _ => rfl) (by rw [hP]; exact ActOwn_slice' ho2))
  have HPx : Hid (patA P none 0 A2 c2 = .agg #[.int .i64 0, .int .i64 ((total L : Nat) : Int), .int .u32 0, .int .u32 0, .slice none 0 0, .slice A2 L.length c2]) := Lib.hid (by rw [hP]; rfl)
  rw [HPx.out] at HWh
  obtain ⟨n, hn⟩ : ∃ n, P.whole.length = n := ⟨_, rfl⟩
  rw [hn] at HWb hlong
  have Hn := Lib.hid hn
  have HF2 := Lib.hid (HF1.out.tr hf2)
  obtain ⟨tt, htt⟩ : ∃ tt, total L = tt := ⟨_, rfl⟩
  rw [htt] at HWh ⊢
  obtain ⟨Ln, hLn⟩ : ∃ Ln, L.length = Ln := ⟨_, rfl⟩
  rw [hLn] at HWh ⊢
  clear hP hn ho2 hf2 HPx hok htot htt hLn
  go_wp2_with fail
  refine HWh.out.mono ?_
  rintro e w4 ⟨A4, cq, rfl, ho4, hf4⟩
  rw [Hn.out] at ho4 ⊢
  obtain ⟨gq, rfl⟩ : ∃ g, A4 = some ⟨g, 0, none⟩ := by
    obtain ⟨g, hg, _⟩ := ho4.head (by omega)
    exact ⟨g, hg⟩
  have HO4 := Lib.hid ho4
  have hgq := (ho4.lt gq rfl).1
  obtain ⟨hcq, hcq2⟩ := ho4.caps
  have HF4 := Lib.hid (HF2.out.tr hf4)
  have hws : w.heap.size ≤ w2.heap.size := HF2.out.size
  clear ho4 hf4 HWh
  obtain ⟨p, hp1, hp2⟩ := place_of z0 ((n : Int) - 4) (by omega)
  rw [show (n : Int) - 4 + 1 = (n : Int) - 3 by omega] at hp1
  have hp3 : p + 4 ≤ n := by omega
  have hL3 : ¬ (n : Int) - 3 = 0 := by omega
  obtain ⟨l, hl⟩ : ∃ l, P.whole = l := ⟨_, rfl⟩
  have Hl := Lib.hid hl
  rw [hl] at HO4 Hn HPb
  clear hl
  go_wp2_with fail
  clear hp1
  go_loopw [11] (fun i wr => ∃ j : Nat, j ≤ 4 ∧ i = .int .i64 (j : Int) ∧ Own wr w2.heap.size (.slice (some ⟨gq, 0, none⟩) n cq) (spoil l p B j) ∧ Fr [gq] w4 wr) (fun i _ => 4 - (intOf i).toNat)
  case atStart => exact ⟨0, by omega, rfl, HO4.out, Fr.refl _ _⟩
  case round =>
    obtain ⟨j, hj, rfl, ho, hf⟩ := hrel
    have HO := Lib.hid ho
    have HFj := Lib.hid hf
    by_cases hlt : j < 4
    · have hlt' : (j : Int) < 4 := by omega
      obtain ⟨e, he⟩ : ∃ e, p + j = e := ⟨_, rfl⟩
      have he' : (p : Int) + (j : Int) = (e : Int) := by omega
      have heL : (e : Int) < n := by omega
      have he0 : (0 : Int) ≤ e := by omega
      obtain ⟨bq, oq, v, hA, hv, cv⟩ := ho.rd.at e (by rw [spoil_length, Hn.out]; omega)
      cases hA
      have hv2 := spoil_at l p B j (by rw [Hn.out]; omega)
      rw [he, hv] at hv2
      injection hv2 with hv2
      obtain ⟨gq', hgq', -, -, hfz, hset⟩ := ho.head (by omega)
      cases hgq'
      have zv := hfz e
      have HSet := Lib.hid (hset e (v ^^^ Crc.byteAt B j))
      have HSp : Hid (spoil l p B (j + 1) = (spoil l p B j).set e (v ^^^ Crc.byteAt B j)) := Lib.hid (by rw [spoil, he, hv2])
      have hv8 := v.toNat_lt
      rw [Nat.zero_add] at cv
      have HBy := Lib.hid (Crc.u_bounds B)
      clear ho hf hv hv2 hset hfz
      have HXr : Hid (bits .xor .u8 (v.toNat : Int) (Crc.u B / 2 ^ (8 * j) % 256) = ((v ^^^ Crc.byteAt B j).toNat : Int)) := Lib.hid (by rw [byte_u, xor_byte])
      go_wp2
      rw [HXr.out]
      refine ⟨⟨j + 1, by omega, by go_num, ?_, HFj.out.setCell (by simp) _⟩, by simp [intOf]; omega⟩
      rw [HSp.out]
      exact HSet.out
    · obtain rfl : j = 4 := by omega
      have HRq := Lib.hid ho.rd
      have HFw : Hid (Fr [] w wr) := Lib.hid (HF4.out.trans hf (by simp; omega))
      have hcmx := own_max ho
      clear ho hf HO HFj HO4
      by_cases hB : B = 0#32
      · subst hB
        have hu0 : Crc.u 0#32 = 0 := by decide
        rw [spoil_none l p (by rw [Hn.out]; exact hp3)] at HRq
        have HPm := Lib.hid (parse_made wr (some ⟨gq, 0, none⟩) n cq P HFi.out (by rw [Hl.out]; exact Hn.out) (by rw [Hl.out]; exact HRq.out) hcq hcmx)
        rw [hu0]
        go_wp2_with fail
        refine HPm.out.mono ?_
        rintro e w6 ⟨gm, AL, cL, rfl, -, -, hf6⟩
        have HF6 := Lib.hid (HFw.out.tr hf6)
        clear hf6 HPm
        go_wp2
        go_ret
        exact ⟨rfl, (HF6.out.alloc _).below (by simp) (Nat.le_refl _)⟩
      · have hu0 : ¬ Crc.u B = 0 := fun h => hB (Crc.u_inj (by rw [h]; decide))
        have hu1 : (Crc.u B == 0) = false := by simpa using hu0
        have HLs : Hid ((spoil l p B 4).length = n) := Lib.hid (by rw [spoil_length, Hn.out])
        by_cases ht : (spoil l p B 4).take 4 = [66, 80, 83, 49]
        · have HPm := Lib.hid (parse_sum wr (some ⟨gq, 0, none⟩) n cq (spoil l p B 4) HLs.out HRq.out hlong hcq hcmx (by omega) ht (by
            obtain ⟨l0, e0⟩ := HPb.out
            have h1 := Hn.out
            rw [e0] at h1 ⊢
            exact spoil_sum l0 p n B h1 hp3 hB))
          go_wp2_with fail
          refine HPm.out.mono ?_
          rintro e w6 ⟨rfl, hf6⟩
          have HF6 := Lib.hid (HFw.out.tr hf6)
          unfold zeroP
          clear hf6 HPm
          go_wp2
          go_ret
          exact ⟨congrArg (fun b => Ending.returned (Value.bool b)) (show (Crc.u B != 0) = true by simpa using hu0), (HF6.out.alloc _).below (by simp) (Nat.le_refl _)⟩
        · have HPm := Lib.hid (parse_form wr (some ⟨gq, 0, none⟩) n cq (spoil l p B 4) HLs.out HRq.out hlong (by omega) hcq ht)
          go_wp2_with fail
          refine HPm.out.mono ?_
          rintro e w6 ⟨rfl, hf6⟩
          have HF6 := Lib.hid (HFw.out.tr hf6)
          unfold zeroP
          clear hf6 HPm
          go_wp2
          go_ret
          exact ⟨congrArg (fun b => Ending.returned (Value.bool b)) (show (Crc.u B != 0) = true by simpa using hu0), (HF6.out.alloc _).below (by simp) (Nat.le_refl _)⟩

end Bps
end Go.Proofs.Ytkefckoffnlkcaa
