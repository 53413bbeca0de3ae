/-
  picklocklaw05.IpsmakeEof returns true for every input: no record stands at the place that spells EOF, whatever is changed about it. No condition.
-/
import Derived.Test.YtchakjknndpmpaaMkMake
import Derived.Deep.DeepCutAuto
namespace Go.Proofs.Ytchakjknndpmpaa
open Go.RowKit
namespace Ips

/-- Bytes that are 0 but for n from T on. -/
def Flat (y : List UInt8) (m T n : Nat) : Prop := y.length = m ∧ ∀ i, i < m → (i < T ∨ T + n ≤ i) → y[i]? = some 0
theorem Flat.zero (m T n : Nat) : Flat (List.replicate m 0) m T n := ⟨by simp, fun i hi _ => by simp [hi]⟩
theorem Flat.set {y : List UInt8} {m T n : Nat} (h : Flat y m T n) (j : Nat) (hj : j < n) (x : UInt8) : Flat (y.set (T + j) x) m T n :=
  ⟨by simpa using h.1, fun i hi hc => by rw [List.getElem?_set_ne (by omega)]; exact h.2 i hi hc⟩

set_option maxRecDepth 100000 in
set_option maxHeartbeats 4000000 in
theorem meof_walk (a0 : Option Addr) (cap0 : Nat) (l : List UInt8) (zb ze : Int) (w : World) (hr : Rd w a0 l) (hc : a0 = none → cap0 = 0) (hlc : l.length ≤ cap0) (_hcm : cap0 ≤ maxLen) :
    Calls Try.prog 7 #[.slice a0 l.length cap0, .int .i64 zb, .int .i64 ze] w fun e w' => e = .returned (.bool true) ∧ Below w.heap.size w w' := by
  obtain ⟨i0, hi, hz0, hz1, hz2⟩ := info_parts info5
  obtain ⟨P, hP, hP2⟩ := place_of zb 10 (by omega)
  have hP' : (bits .and .i64 zb 65535).tmod 11 = (P : Int) := hP
  obtain ⟨T, hT⟩ : ∃ T : Nat, (4542278 : Int) - (P : Int) = (T : Int) := ⟨4542278 - P, by omega⟩
  have hT1 : (T : Int) ≤ 4542278 := by omega
  have hT2 : (4542268 : Int) ≤ T := by omega
  obtain ⟨BL, hBL⟩ : ∃ BL : Nat, BL = 4542320 := ⟨_, rfl⟩
  have HBL := Lib.hid hBL
  have hB1 : (BL : Int) ≤ 4542320 := by omega
  have hB2 : (4542320 : Int) ≤ BL := by omega
  have HR := Lib.hid hr
  have HC := Lib.hid hc
  have HL := Lib.hid (take_len l 20 (by omega))
  have hcnt : (min (l.length : Int) 20).toNat ≤ 20 := by omega
  unfold maxLen at _hcm
  clear hr hc hP hBL
  go_enter Try.func7, Try.ntmps7
  go_wp2_with (first
    | (go_at_call 8; refine (shown5 _).mono ?_; rintro e w1 ⟨rfl, hf1⟩; have HF1 := Lib.hid hf1; have hs1 := hf1.size; clear hf1)
    | (at_builtin; refine wpList_app _ rfl (.tmp 21) (.tmp 26) 22 rfl w.heap.size i0 Try.underlying22 hi hz0 hz1 hz2 (.slice (some ⟨w1.heap.size, 0, none⟩) 0 0) [] rfl (Own.empty w1 _ hs1) a0 _ cap0 (l.take (min (l.length : Int) 20).toNat) rfl HL.out (rd_take (HR.out.later (HF1.out.alloc _) (by simp)) _) HC.out (by simp; omega) (by simp; omega) ?_))
  intro A1 c1 w2 ho2 hf2 hlies
  have HF2 : Hid (Fr [] w w2) := Lib.hid ((HF1.out.alloc _).trans hf2 (by simp [Value.ownBlock]; omega))
  have HM1 : Hid ((l.take (min (l.length : Int) 20).toNat).length = (min (l.length : Int) 20).toNat) := HL.out
  have HX : Hid (Rd w2 A1 (l.take (min (l.length : Int) 20).toNat)) := Lib.hid ho2.rd
  clear ho2 hf2 HR HC HL hlc hs1 hlies HF1
  generalize (min (l.length : Int) 20).toNat = n1 at *
  generalize l.take n1 = x at *
  have hn1 : (n1 : Int) ≤ 20 := by omega
  go_wp2_with (at_make; refine wpList_makeB _ rfl _ _ 22 rfl w2.heap.size i0 Try.underlying22 hi hz0 hz1 hz2 _ _ BL BL (by rw [HBL.out]; rfl) (by rw [HBL.out]; rfl) (Nat.le_refl _) (by omega) (Nat.le_refl _) ?_)
  intro w3 ho3 hf3
  have HO3 := Lib.hid ho3
  have HF3 := Lib.hid hf3
  obtain ⟨g3, hg3⟩ : ∃ g3, w2.heap.size = g3 := ⟨_, rfl⟩
  have HG3 := Lib.hid hg3
  rw [hg3] at HO3 ⊢
  clear ho3 hf3 hg3
  go_wp2_with fail
  go_loopw [10] (fun s10 wr => ∃ j y, s10 = .int .i64 ((j : Nat) : Int) ∧ j ≤ n1 ∧ Own wr g3 (.slice (some ⟨g3, 0, none⟩) BL BL) y ∧ Flat y BL T n1 ∧ Fr [] w2 wr) (fun s10 _ => n1 - (intOf s10).toNat)
  case atStart => exact ⟨0, _, rfl, Nat.zero_le _, HO3.out, Flat.zero BL T n1, HF3.out⟩
  case round =>
    obtain ⟨j, y, rfl, hj, ho, hfl, hf⟩ := hrel
    have HO := Lib.hid ho
    have HFl := Lib.hid hfl
    have HF := Lib.hid hf
    clear ho hfl hf HO3 HF3
    by_cases hlt : j < n1
    · have hlt' : (j : Int) < n1 := by omega
      obtain ⟨ab, ao, v, rfl, hv, cv⟩ := (HX.out.later HF.out (by simp)).at j (by rw [HM1.out]; exact hlt)
      obtain ⟨g', e', -, hcells, hfz, hset⟩ := HO.out.head (by omega)
      cases e'
      obtain ⟨Q, hQ⟩ : ∃ Q : Nat, (T : Int) + (j : Int) = (Q : Int) := ⟨T + j, by omega⟩
      have HQ : Hid (Q = T + j) := Lib.hid (by omega)
      have hQ1 : (Q : Int) < BL := by omega
      obtain ⟨u, hu⟩ := hcells Q (by omega)
      have hz := hfz Q
      have HSet := Lib.hid (hset Q v)
      clear hcells hfz hset hv
      go_wp2
      go_roundw
      case rel => exact ⟨j + 1, _, by go_num, by omega, HSet.out, by rw [HQ.out]; exact HFl.out.set j hlt v, HF.out.trans ((Fr.refl [g3] wr).setCell (by simp) _) (by have := HG3.out; simp; omega)⟩
      case measure => simp [intOf]; omega
    · have hlt' : ¬ (j : Int) < n1 := by omega
      obtain ⟨g', e', -⟩ := HO.out.head (by omega)
      have hs3 := HF.out.size
      have HY := Lib.hid HO.out.rd
      have HFw : Hid (Fr [] w wr) := Lib.hid (HF2.out.tr HF.out)
      clear HO HF e'
      go_wp2_with (at_make; refine wpList_makeB _ rfl _ _ 22 rfl wr.heap.size i0 Try.underlying22 hi hz0 hz1 hz2 _ _ BL BL (by rw [HBL.out]; rfl) (by rw [HBL.out]; rfl) (Nat.le_refl _) (by omega) (Nat.le_refl _) ?_)
      intro w4 ho4 hf4
      have HA := Lib.hid ho4.rd
      have HY4 := Lib.hid (HY.out.later hf4 (by simp))
      have HF4 : Hid (Fr [] w w4) := Lib.hid (HFw.out.tr hf4)
      obtain ⟨g4, hg4⟩ : ∃ g4, wr.heap.size = g4 := ⟨_, rfl⟩
      rw [hg4] at HA ⊢
      clear ho4 hf4 hg4 HY HFw HF2 HX HM1 hs3
      go_upto_if 51 with fail
      obtain ⟨bb, hbb⟩ : ∃ bb, (bits .and .i64 ze 1 == 1) = bb := ⟨_, rfl⟩
      rw [hbb]
      clear hbb
      go_cut [9, 11] (fun s9 s11 wx => ∃ nA nB la lb, s11 = .slice (some ⟨g4, 0, none⟩) nA BL ∧ s9 = .slice (some ⟨g3, 0, none⟩) nB BL ∧ la.length = nA ∧ lb.length = nB ∧ nA ≤ BL ∧ nB ≤ BL ∧ 4542268 ≤ nB ∧ Rd wx (some ⟨g4, 0, none⟩) la ∧ Rd wx (some ⟨g3, 0, none⟩) lb ∧ (∀ i, i < 4542268 → la[i]? = lb[i]?) ∧ Fr [] w wx)
      case first =>
        cases bb with
        | true =>
          obtain ⟨E, hE, hE2⟩ := place_of (ze / 2) 10 (by omega)
          have hE' : (bits .and .i64 (ze / 2) 65535).tmod 11 = (E : Int) := hE
          obtain ⟨nA, hnA⟩ : ∃ nA : Nat, (4542278 : Int) - (E : Int) = (nA : Int) := ⟨4542278 - E, by omega⟩
          obtain ⟨S, hS⟩ : ∃ S : Nat, (T : Int) + (n1 : Int) = (S : Int) := ⟨T + n1, by omega⟩
          obtain ⟨nB, hnB⟩ : ∃ nB : Nat, (S : Int) + 3 = (nB : Int) := ⟨S + 3, by omega⟩
          have hmin : min (nB : Int) (BL : Int) = (nB : Int) := by omega
          have hA1 : (nA : Int) ≤ BL := by omega
          have hB3 : (nB : Int) ≤ BL := by omega
          have hA2 : 4542268 ≤ nA := by omega
          have hB4 : 4542268 ≤ nB := by omega
          have hS2 : (S : Int) ≤ 4542298 := by omega
          clear hE
          go_wp2
          go_meet
          refine ⟨nA, nB, (List.replicate BL 0).take nA, y.take nB, rfl, rfl, by simp; omega, by rw [List.length_take, HFl.out.1]; omega, by omega, by omega, by omega, rd_take HA.out nA, rd_take HY4.out nB, fun i hi => ?_, HF4.out⟩
          rw [List.getElem?_take_of_lt (by omega), List.getElem?_take_of_lt (by omega), HFl.out.2 i (by omega) (.inl (by omega)), List.getElem?_replicate, if_pos (by omega)]
        | false =>
          go_wp2
          go_meet
          refine ⟨BL, BL, List.replicate BL 0, y, rfl, rfl, by simp, HFl.out.1, Nat.le_refl _, Nat.le_refl _, by omega, HA.out, HY4.out, fun i hi => ?_, HF4.out⟩
          rw [HFl.out.2 i (by omega) (.inl (by omega)), List.getElem?_replicate, if_pos (by omega)]
      case rest =>
        obtain ⟨nA, nB, la, lb, rfl, rfl, hla, hlb, hnA, hnB, hnB2, hra, hrb, hsame, hfx⟩ := hcut
        obtain ⟨w5, rfl⟩ : ∃ w5, w5 = wc := ⟨_, rfl⟩
        have HAl := Lib.hid hla
        have HYl := Lib.hid hlb
        have HA5 := Lib.hid hra
        have HY5 := Lib.hid hrb
        have HFw := Lib.hid hfx
        have hDn : D la lb nB ≤ 52 := by
          have h := D_from la lb 4542268 (nB - 4542268) hsame
          rw [show 4542268 + (nB - 4542268) = nB by omega] at h
          omega
        clear hla hlb hra hrb hsame hfx HA HY4 HF4 HFl
        go_wp2_with fail
        refine (create5 w5 (some ⟨g4, 0, none⟩) (some ⟨g3, 0, none⟩) nA BL nB BL la lb HAl.out HYl.out (by omega) (by omega) HA5.out HY5.out (by omega) (by unfold maxLen; omega)).mono ?_
        rintro e w6 ⟨rs, g, hM6, rfl, ho6, hf6⟩
        have HMk := Lib.hid hM6
        have HR6 := Lib.hid ho6.rd
        have HF6 := Lib.hid hf6
        have hL := made_length la lb rs hM6
        have hCt := made_count la lb rs
        rw [HYl.out] at hL
        obtain ⟨L, hLe⟩ : ∃ L, (made la lb rs).length = L := ⟨_, rfl⟩
        have HLe := Lib.hid hLe
        rw [hLe] at hL hCt ⊢
        have hL2 : ¬ (1000 : Int) < L := by omega
        have hL3 : decide ((1000 : Int) < L) = false := by simp; omega
        have hL4 : L ≤ 1000 := by omega
        have HX6 := Lib.hid (HA5.out.later hf6 (by simp))
        have HY6 := Lib.hid (HY5.out.later hf6 (by simp))
        clear hM6 ho6 hf6 hLe hL hDn HA5 HY5
        go_wp2_with fail
        refine (refparseM w6 (some ⟨g, 0, none⟩) L L la lb rs HMk.out HLe.out HR6.out (Nat.le_refl _) (by omega) (by rw [HAl.out]; omega)).mono ?_
        rintro e w7 ⟨A7, c7, rfl, hr7, hf7⟩
        simp only at hr7 ⊢
        have HR7 := Lib.hid hr7
        have HF7 := Lib.hid hf7
        obtain ⟨q, hq⟩ : ∃ q, rs.length = q := ⟨_, rfl⟩
        have HQ := Lib.hid hq
        rw [hq] at hCt ⊢
        generalize cutOf la lb = cut
        clear hr7 hf7 hq
        go_wp2_with fail
        refine (applyM w7 (some ⟨g, 0, none⟩) (some ⟨g4, 0, none⟩) L L nA BL la lb rs HMk.out HLe.out (HR6.out.later HF7.out (by simp)) (by omega) HAl.out (by omega) (by rw [HYl.out]; omega) (HX6.out.later HF7.out (by simp))).mono ?_
        rintro e w8 ⟨A8, c8, rfl, hr8, -, -, -, hf8⟩
        simp only at hr8 ⊢
        rw [HYl.out]
        have HR8 := Lib.hid hr8
        have HF8 := Lib.hid hf8
        have HRec := Lib.hid (HR7.out.later hf8 (by simp))
        clear hr8 hf8
        go_wp2_with fail
        go_loopw [19] (fun s19 wr => ∃ j : Nat, s19 = .int .i64 (j : Int) ∧ j ≤ q ∧ w8 = wr) (fun s19 _ => q - (intOf s19).toNat)
        case atStart => exact ⟨0, rfl, Nat.zero_le _, rfl⟩
        case round =>
          obtain ⟨j, rfl, hj, rfl⟩ := hrel
          by_cases hlt : j < q
          · have hlt' : (j : Int) < q := by omega
            obtain ⟨b, o, r, D, d, rfl, hrj, q0, -, -, -⟩ := HRec.out.at j (by rw [HQ.out]; exact hlt)
            have hok := HMk.out.ok r (List.mem_of_getElem? hrj)
            have hpos : ((r.pos : Int) == 4542278) = false := by have := hok.2.2; simp; omega
            have hpos' : ¬ (r.pos : Int) = 4542278 := by have := hok.2.2; omega
            have hpos'' : ¬ r.pos = 4542278 := hok.2.2
            clear hok hrj
            go_wp2
            go_roundw
            case rel => exact ⟨j + 1, by go_num, by omega, trivial⟩
            case measure => simp [intOf]; omega
          · have hlt' : ¬ (j : Int) < q := by omega
            have k1 := run_str (P := Try.prog) (w := w8) 22 9 5 (cap := c8) Try.underlying22 Try.underlying5 Try.underlying9 HR8.out
            have k2 := run_str (P := Try.prog) (w := w8) 22 9 5 (cap := BL) Try.underlying22 Try.underlying5 Try.underlying9 (HY6.out.later (HF7.out.tr HF8.out) (by simp))
            rw [HYl.out] at k1 k2
            go_wp2
            go_ret
            exact ⟨rfl, (((HFw.out.tr HF6.out).tr HF7.out).tr HF8.out).below (by simp) (Nat.le_refl _)⟩

end Ips
end Go.Proofs.Ytchakjknndpmpaa
