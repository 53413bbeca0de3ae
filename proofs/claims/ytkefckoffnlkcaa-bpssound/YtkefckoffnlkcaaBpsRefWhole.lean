/-
  Contract of the document's own Whole of layer 7 (picklockref07): a patch's bytes.
-/
import Derived.Test.YtkefckoffnlkcaaBpsRefPut
import Derived.Test.YtkefckoffnlkcaaBpsParse2
import Derived.Deep.DeepCutAuto
namespace Go.Proofs.Ytkefckoffnlkcaa
open Go.RowKit
namespace Bps
open Ups (signed signed_length le4 le4_length rput4 sum)
open Acts (ActRd)
open Ips (Ap)

/-- A patch's value. -/
def patA (P : Pat) (M : Option Addr) (mc : Nat) (A : Option Addr) (c : Nat) : Value := .agg #[.int .i64 (P.i : Int), .int .i64 (P.o : Int), .int .u32 (Crc.u P.s1), .int .u32 (Crc.u P.s2), .slice M P.mt.length mc, .slice A P.L.length c]

theorem Bytes.base {w W : World} {l : List UInt8} {e : Ending} {W' : World} (hf : Fr [] w W) (h : Bytes W l e W') : Bytes w l e W' := by
  obtain ⟨A, c, rfl, ho, hf'⟩ := h
  exact ⟨A, c, rfl, ho.base hf.size, hf.tr hf'⟩

set_option maxRecDepth 100000 in
set_option maxHeartbeats 2000000 in
theorem rwhole_ok (w : World) (P : Pat) (M : Option Addr) (mc : Nat) (A : Option Addr) (c : Nat) (hP : Fine P) (hM : Rd w M P.mt) (hMn : M = none → mc = 0) (hA : ActRd w A P.L) :
    Calls Try.prog 10 #[patA P M mc A c] w (Bytes w P.whole) := by
  obtain ⟨i0, hi, hz0, hz1, hz2⟩ := info_parts info5
  have HBody : Hid (((((([66, 80, 83, 49] ++ Var.putV P.i) ++ Var.putV P.o) ++ Var.putV P.mt.length) ++ P.mt) ++ P.L.flatMap actB) ++ le4 P.s1 ++ le4 P.s2 = body P.i P.o P.s1 P.s2 P.mt P.L) := Lib.hid (by unfold body inner; simp [List.append_assoc])
  have hall := hP.all
  have hall' : (body P.i P.o P.s1 P.s2 P.mt P.L).length + 4 ≤ 16777216 := by
    have : P.whole.length = (body P.i P.o P.s1 P.s2 P.mt P.L).length + 4 := signed_length _
    omega
  have HQ : Hid (∀ W e W', Fr [] w W → Bytes W (signed (body P.i P.o P.s1 P.s2 P.mt P.L)) e W' → Bytes w P.whole e W') := Lib.hid fun W e W' hf h => h.base hf
  generalize Bytes w P.whole = Q at *
  generalize body P.i P.o P.s1 P.s2 P.mt P.L = bd at *
  have Hok := Lib.hid hP.ok
  have hPi := hP.i
  have hPo := hP.o
  have hPm := hP.mt
  have hLm : P.L.length ≤ 16777216 := by
    have := total_ge P.L (fun a ha => (hP.ok a ha).pos)
    rw [hP.tot] at this
    omega
  unfold patA
  clear hP hall
  obtain ⟨i, oo, s1, s2, mt, L⟩ := P
  simp only at *
  obtain ⟨ml, hml⟩ : ∃ ml, mt.length = ml := ⟨_, rfl⟩
  have HMl := Lib.hid hml
  rw [hml] at hPm HBody ⊢
  obtain ⟨n, hn⟩ : ∃ n, L.length = n := ⟨_, rfl⟩
  have HLn := Lib.hid hn
  rw [hn] at hLm ⊢
  obtain ⟨P1, hP1⟩ : ∃ P1, (Var.putV i).length = P1 := ⟨_, rfl⟩
  obtain ⟨P2, hP2⟩ : ∃ P2, (Var.putV oo).length = P2 := ⟨_, rfl⟩
  obtain ⟨P3, hP3⟩ : ∃ P3, (Var.putV ml).length = P3 := ⟨_, rfl⟩
  have hP15 : P1 ≤ 5 := by rw [← hP1]; exact Var.putV_le5 (by unfold Var.most; omega)
  have hP25 : P2 ≤ 5 := by rw [← hP2]; exact Var.putV_le5 (by unfold Var.most; omega)
  have hP35 : P3 ≤ 5 := by rw [← hP3]; exact Var.putV_le5 (by unfold Var.most; omega)
  have HP1 := Lib.hid hP1
  have HP2 := Lib.hid hP2
  have HP3 := Lib.hid hP3
  have HLen : Hid (∀ j, j ≤ n → (((((([66, 80, 83, 49] ++ Var.putV i) ++ Var.putV oo) ++ Var.putV ml) ++ mt) ++ (L.take j).flatMap actB)).length ≤ 16777216) := Lib.hid (by
    intro j _
    have h1 := congrArg List.length HBody.out
    have h2 : (L.flatMap actB).length = ((L.take j).flatMap actB).length + ((L.drop j).flatMap actB).length := by
      rw [← List.length_append, ← List.flatMap_append, List.take_append_drop]
    simp only [List.length_append] at h1 ⊢
    omega)
  have e1 : IntKind.u64.wrap (i : Int) = (i : Int) := by rw [IntKind.wrap_u64]; omega
  have e2 : IntKind.u64.wrap (oo : Int) = (oo : Int) := by rw [IntKind.wrap_u64]; omega
  have e3 : IntKind.u64.wrap (ml : Int) = (ml : Int) := by rw [IntKind.wrap_u64]; omega
  have HM := Lib.hid hM
  have HMn := Lib.hid hMn
  have HA := Lib.hid hA
  obtain ⟨s, hs⟩ : ∃ s, w.heap.size = s := ⟨_, rfl⟩
  have Hs := Lib.hid hs
  have hn0 := Blk.fresh w 30 #[.int .i64 (i : Int), .int .i64 (oo : Int), .int .u32 (Crc.u s1), .int .u32 (Crc.u s2), .slice M ml mc, .slice A n c]
  have hal0 : Fr [] w (w.alloc (.cells #[.int .i64 (i : Int), .int .i64 (oo : Int), .int .u32 (Crc.u s1), .int .u32 (Crc.u s2), .slice M ml mc, .slice A n c] 30)) := (Fr.refl [] w).alloc _
  have hsz0 : (w.alloc (.cells #[.int .i64 (i : Int), .int .i64 (oo : Int), .int .u32 (Crc.u s1), .int .u32 (Crc.u s2), .slice M ml mc, .slice A n c] 30)).heap.size = s + 1 := by simp [hs]
  rw [hs] at hn0
  have HN0 := Lib.hid hn0
  have HF0 := Lib.hid hal0
  have HS0 := Lib.hid hsz0
  clear hM hMn hA hP1 hP2 hP3 hml hn hn0 hal0 hsz0
  go_enter Try.func10, Try.ntmps10
  go_upto_region 1 with fail
  generalize w.alloc _ = w0 at *
  have kc := conv_const w0 (s + 1) HS0.out #[.int .u8 66, .int .u8 80, .int .u8 83, .int .u8 49] 4 4
  simp only [List.size_toArray, List.length_cons, List.length_nil, Nat.reduceAdd, Nat.zero_add] at kc
  have f0 : Fr [] w0 (w0.alloc (.cells #[.int .u8 66, .int .u8 80, .int .u8 83, .int .u8 49] 5 (4, 5))) := (Fr.refl [] w0).alloc _
  have HAp0 : Hid (Ap (w0.alloc (.cells #[.int .u8 66, .int .u8 80, .int .u8 83, .int .u8 49] 5 (4, 5))) (s + 1) (.slice (some ⟨s + 1, 0, none⟩) 4 4) [66, 80, 83, 49]) := Lib.hid (.inr ⟨s + 1, rfl, rd_const w0 (s + 1) HS0.out [66, 80, 83, 49] 5 (4, 5), Nat.le_refl _, by simp [HS0.out]⟩)
  obtain ⟨y0, y1, y2, y3, y4, y5⟩ := blk6 HN0.out
  obtain ⟨z0, z1, z2, z3, z4, z5⟩ := blk6 (HN0.out.fr f0 (by simp))
  have HN1 := Lib.hid (HN0.out.fr f0 (by simp))
  have HF1 := Lib.hid (HF0.out.tr f0)
  have hs0 := HS0.out
  clear f0 HN0 HF0
  go_wp2_with fail
  clear kc y0 y1 y2 y3 y4 y5 z0 z1 z2 z3 z4 z5 hs0
  generalize w0.alloc _ = W0 at *
  refine (Var.refPut_any W0 i (by unfold Var.most; omega)).mono ?_
  rintro e w1 ⟨A1, c1', rfl, ho1, hf1⟩
  rw [HP1.out] at ho1 ⊢
  have HO1 := Lib.hid ho1
  have HNc1 := Lib.hid (Ref.own_nilcap ho1)
  have HF2 := Lib.hid (HF1.out.tr hf1)
  have HAp1 := Lib.hid (HAp0.out.fr hf1 (by simp))
  have hn2 := HN1.out.fr hf1 (by simp)
  have HN2 := Lib.hid hn2
  have hs1 : s + 1 ≤ w1.heap.size := hn2.lt
  clear ho1 hf1 HAp0 hn2 HN1 HF1
  go_wp2_with (at_builtin; refine Ips.wpList_ap _ rfl (.tmp 6) (.tmp 10) 23 rfl (s + 1) i0 Try.underlying23 hi hz0 hz1 hz2 (.slice (some ⟨s + 1, 0, none⟩) 4 4) [66, 80, 83, 49] rfl HAp1.out A1 P1 c1' (Var.putV i) rfl HP1.out HO1.out.rd HNc1.out (4 + P1) rfl (by omega) hs1 ?_)
  intro A2 c2' w2 ha2 hf2
  obtain ⟨L2, hL2⟩ : ∃ L2, L2 = [66, 80, 83, 49] ++ Var.putV i := ⟨_, rfl⟩
  have HAq2 : Hid (Ap w2 (s + 1) (.slice A2 (4 + P1) c2') L2) := Lib.hid (hL2 ▸ ha2)
  have HLn2 : Hid (L2.length = 4 + P1) := Lib.hid (by rw [hL2, List.length_append, HP1.out]; rfl)
  have hx2 : ∀ k ∈ (Value.slice (some ⟨s + 1, 0, none⟩) (4) 4).ownBlock.toList, s + 1 ≤ k := fun k hk => (HAp1.out.lt k hk).1
  have HFq2 : Hid (Fr [] w w2) := Lib.hid (HF2.out.trans hf2 (by intro k hk; exact .inr (by have := hx2 k hk; have := Hs.out; omega)))
  have hnq2 := HN2.out.fr hf2 (fun hm => by have := hx2 s hm; omega)
  have HNq2 := Lib.hid hnq2
  obtain ⟨y0, y1, y2, y3, y4, y5⟩ := blk6 hnq2
  rw [← hL2] at HBody HLen
  clear ha2 hf2 HAp1 HO1 hL2 hnq2 hx2 HN2 HF2
  go_wp2_with fail
  refine (Var.refPut_any w2 oo (by unfold Var.most; omega)).mono ?_
  rintro e w3 ⟨A3', c3'', rfl, ho3, hf3⟩
  rw [HP2.out] at ho3 ⊢
  have HO3 := Lib.hid ho3
  have HNc3 := Lib.hid (Ref.own_nilcap ho3)
  have HF3 := Lib.hid (HFq2.out.tr hf3)
  have HAp3 := Lib.hid (HAq2.out.fr hf3 (by simp))
  have hn3 := HNq2.out.fr hf3 (by simp)
  have HN3 := Lib.hid hn3
  have hs3 : s + 1 ≤ w3.heap.size := hn3.lt
  clear ho3 hf3 HAq2 hn3 HNq2 HFq2 y0 y1 y2 y3 y4 y5
  go_wp2_with (at_builtin; refine Ips.wpList_ap _ rfl (.tmp 12) (.tmp 16) 23 rfl (s + 1) i0 Try.underlying23 hi hz0 hz1 hz2 (.slice A2 (4 + P1) c2') L2 rfl HAp3.out A3' P2 c3'' (Var.putV oo) rfl HP2.out HO3.out.rd HNc3.out (4 + P1 + P2) (by rw [HLn2.out]) (by omega) hs3 ?_)
  intro A4 c4' w4 ha4 hf4
  obtain ⟨L4, hL4⟩ : ∃ L4, L4 = L2 ++ Var.putV oo := ⟨_, rfl⟩
  have HAq4 : Hid (Ap w4 (s + 1) (.slice A4 (4 + P1 + P2) c4') L4) := Lib.hid (hL4 ▸ ha4)
  have HLn4 : Hid (L4.length = 4 + P1 + P2) := Lib.hid (by rw [hL4, List.length_append, HLn2.out, HP2.out])
  have hx4 : ∀ k ∈ (Value.slice A2 (4 + P1) c2').ownBlock.toList, s + 1 ≤ k := fun k hk => (HAp3.out.lt k hk).1
  have HFq4 : Hid (Fr [] w w4) := Lib.hid (HF3.out.trans hf4 (by intro k hk; exact .inr (by have := hx4 k hk; have := Hs.out; omega)))
  have hnq4 := HN3.out.fr hf4 (fun hm => by have := hx4 s hm; omega)
  have HNq4 := Lib.hid hnq4
  obtain ⟨y0, y1, y2, y3, y4, y5⟩ := blk6 hnq4
  rw [← hL4] at HBody HLen
  clear ha4 hf4 HAp3 HO3 hL4 hnq4 hx4 HN3 HF3
  go_wp2_with fail
  refine (Var.refPut_any w4 ml (by unfold Var.most; omega)).mono ?_
  rintro e w5 ⟨A5', c5'', rfl, ho5, hf5⟩
  rw [HP3.out] at ho5 ⊢
  have HO5 := Lib.hid ho5
  have HNc5 := Lib.hid (Ref.own_nilcap ho5)
  have HF5 := Lib.hid (HFq4.out.tr hf5)
  have HAp5 := Lib.hid (HAq4.out.fr hf5 (by simp))
  have hn5 := HNq4.out.fr hf5 (by simp)
  have HN5 := Lib.hid hn5
  have hs5 : s + 1 ≤ w5.heap.size := hn5.lt
  clear ho5 hf5 HAq4 hn5 HNq4 HFq4 y0 y1 y2 y3 y4 y5
  go_wp2_with (at_builtin; refine Ips.wpList_ap _ rfl (.tmp 18) (.tmp 23) 23 rfl (s + 1) i0 Try.underlying23 hi hz0 hz1 hz2 (.slice A4 (4 + P1 + P2) c4') L4 rfl HAp5.out A5' P3 c5'' (Var.putV ml) rfl HP3.out HO5.out.rd HNc5.out (4 + P1 + P2 + P3) (by rw [HLn4.out]) (by omega) hs5 ?_)
  intro A6 c6' w6 ha6 hf6
  obtain ⟨L6, hL6⟩ : ∃ L6, L6 = L4 ++ Var.putV ml := ⟨_, rfl⟩
  have HAq6 : Hid (Ap w6 (s + 1) (.slice A6 (4 + P1 + P2 + P3) c6') L6) := Lib.hid (hL6 ▸ ha6)
  have HLn6 : Hid (L6.length = 4 + P1 + P2 + P3) := Lib.hid (by rw [hL6, List.length_append, HLn4.out, HP3.out])
  have hx6 : ∀ k ∈ (Value.slice A4 (4 + P1 + P2) c4').ownBlock.toList, s + 1 ≤ k := fun k hk => (HAp5.out.lt k hk).1
  have HFq6 : Hid (Fr [] w w6) := Lib.hid (HF5.out.trans hf6 (by intro k hk; exact .inr (by have := hx6 k hk; have := Hs.out; omega)))
  have hnq6 := HN5.out.fr hf6 (fun hm => by have := hx6 s hm; omega)
  have HNq6 := Lib.hid hnq6
  obtain ⟨y0, y1, y2, y3, y4, y5⟩ := blk6 hnq6
  rw [← hL6] at HBody HLen
  have HM6 := Lib.hid (HM.out.later HFq6.out (by simp))
  have hs6 : s + 1 ≤ w6.heap.size := hnq6.lt
  clear ha6 hf6 HAp5 HO5 hL6 hnq6 hx6 HN5 HF5
  go_wp2_with (at_builtin; refine Ips.wpList_ap _ rfl (.tmp 25) (.tmp 27) 23 rfl (s + 1) i0 Try.underlying23 hi hz0 hz1 hz2 (.slice A6 (4 + P1 + P2 + P3) c6') L6 rfl HAq6.out M ml mc mt rfl HMl.out HM6.out HMn.out (4 + P1 + P2 + P3 + ml) (by rw [HLn6.out]) (by omega) hs6 ?_)
  intro A8 c8' w8 ha8 hf8
  obtain ⟨L8, hL8⟩ : ∃ L8, L8 = L6 ++ mt := ⟨_, rfl⟩
  have HAq8 : Hid (Ap w8 (s + 1) (.slice A8 (4 + P1 + P2 + P3 + ml) c8') L8) := Lib.hid (hL8 ▸ ha8)
  have HLn8 : Hid (L8.length = 4 + P1 + P2 + P3 + ml) := Lib.hid (by rw [hL8, List.length_append, HLn6.out, HMl.out])
  have hx8 : ∀ k ∈ (Value.slice A6 (4 + P1 + P2 + P3) c6').ownBlock.toList, s + 1 ≤ k := fun k hk => (HAq6.out.lt k hk).1
  have HFq8 : Hid (Fr [] w w8) := Lib.hid (HFq6.out.trans hf8 (by intro k hk; exact .inr (by have := hx8 k hk; have := Hs.out; omega)))
  have hnq8 := HNq6.out.fr hf8 (fun hm => by have := hx8 s hm; omega)
  have HNq8 := Lib.hid hnq8
  obtain ⟨y0, y1, y2, y3, y4, y5⟩ := blk6 hnq8
  rw [← hL8] at HBody HLen
  clear ha8 hf8 HAq6 hL8 hnq8 hx8 HNq6 HFq6 HM6 y0 y1 y2 y3 y4 y5
  go_wp2_with fail
  go_loopw [3, 4] (fun o ii wr => ∃ (j K cc : Nat) (A' : Option Addr), j ≤ n ∧ o = .slice A' K cc ∧ ii = .int .i64 (j : Int) ∧ (L8 ++ (L.take j).flatMap actB).length = K ∧ Ap wr (s + 1) (.slice A' K cc) (L8 ++ (L.take j).flatMap actB) ∧ Blk wr s 30 #[.int .i64 (i : Int), .int .i64 (oo : Int), .int .u32 (Crc.u s1), .int .u32 (Crc.u s2), .slice M ml mc, .slice A n c] ∧ Fr [] w wr) (fun _ ii _ => n - (intOf ii).toNat)
  case atStart => exact ⟨0, _, c8', A8, Nat.zero_le _, rfl, rfl, by simp [HLn8.out], by simpa using HAq8.out, HNq8.out, HFq8.out⟩
  case round =>
    obtain ⟨j, K, c9, A9, hj, rfl, rfl, hK, hap, hnb, hfr⟩ := hrel
    have HK := Lib.hid hK
    have HAp9 := Lib.hid hap
    have HN9 := Lib.hid hnb
    have HF9 := Lib.hid hfr
    obtain ⟨y0, y1, y2, y3, y4, y5⟩ := blk6 hnb
    have hKm : K ≤ 16777216 := by rw [← hK]; exact HLen.out j hj
    clear hK hap hnb hfr HAq8 HNq8 HFq8
    by_cases hlt : j < n
    · have hji : (j : Int) < n := by omega
      obtain ⟨b, o, rfl, hcell⟩ := (HA.out.later HF9.out (by simp)) (by rw [HLn.out]; omega)
      have hlt' : j < L.length := by rw [HLn.out]; exact hlt
      obtain ⟨D, cD, k0, k1, k2, k3, hD, hDn, -, -⟩ := hcell j hlt'
      have HTk : Hid ((L.take (j + 1)).flatMap actB = (L.take j).flatMap actB ++ actB L[j]) := Lib.hid (by rw [List.take_succ_eq_append_getElem hlt', List.flatMap_append]; simp)
      have ha := Hok.out L[j] (List.getElem_mem hlt')
      obtain ⟨a, haa⟩ : ∃ a, L[j] = a := ⟨_, rfl⟩
      rw [haa] at k0 k1 k2 k3 hD HTk ha
      have HPut := Lib.hid fun W (hW : Fr [] wr W) => rput_ok W a D cD ha (hD.later hW (by simp)) hDn
      unfold actA at HPut
      have hl1 := HLen.out (j + 1) (by omega)
      rw [HTk.out, ← List.append_assoc, List.length_append, HK.out] at hl1
      clear hcell hD hDn ha haa
      go_wp2_with fail
      refine (HPut.out wr (Fr.refl [] _)).mono ?_
      rintro e w10 ⟨A10, c10, rfl, ho10, hf10⟩
      obtain ⟨q, hq⟩ : ∃ q, (actB a).length = q := ⟨_, rfl⟩
      rw [hq] at ho10 hl1 ⊢
      have Hq := Lib.hid hq
      have HO10 := Lib.hid ho10
      have HNc := Lib.hid (Ref.own_nilcap ho10)
      have HAp10 := Lib.hid (HAp9.out.fr hf10 (by simp))
      have hn10 := HN9.out.fr hf10 (by simp)
      have HN10 := Lib.hid hn10
      have HF10 := Lib.hid (HF9.out.tr hf10)
      have hs10 : s + 1 ≤ w10.heap.size := hn10.lt
      clear ho10 hf10 hn10 HAp9 HN9 HF9 hq HPut
      go_wp2_with (at_builtin; refine Ips.wpList_ap _ rfl (.tmp 36) (.tmp 42) 23 rfl (s + 1) i0 Try.underlying23 hi hz0 hz1 hz2 (.slice A9 K c9) (L8 ++ (L.take j).flatMap actB) rfl HAp10.out A10 q c10 (actB a) rfl Hq.out HO10.out.rd HNc.out (K + q) (by rw [HK.out]) (by omega) hs10 ?_)
      intro A11 c11 w11 ha11 hf11
      have hx : ∀ k ∈ (Value.slice A9 K c9).ownBlock.toList, s + 1 ≤ k := fun k hk => (HAp10.out.lt k hk).1
      have HF11 : Hid (Fr [] w w11) := Lib.hid (HF10.out.trans hf11 (by intro k hk; exact .inr (by have := hx k hk; have := Hs.out; omega)))
      have HN11 := Lib.hid (HN10.out.fr hf11 (fun hm => by have := hx s hm; omega))
      have HAp11 := Lib.hid ha11
      clear ha11 hf11 hx
      go_wp2
      go_roundw
      case rel => exact ⟨j + 1, K + q, c11, A11, by omega, rfl, by go_num, by rw [HTk.out, ← List.append_assoc, List.length_append, HK.out, Hq.out], by rw [HTk.out]; exact HAp11.out, HN11.out, HF11.out⟩
      case measure => simp [intOf]; omega
    · obtain rfl : j = n := by omega
      have hji : ¬ (j : Int) < j := by omega
      have HTk : Hid (L.take j = L) := Lib.hid (List.take_of_length_le (by rw [HLn.out]; exact Nat.le_refl _))
      rw [HTk.out] at HK HAp9
      obtain ⟨L9, hL9⟩ : ∃ L9, L8 ++ L.flatMap actB = L9 := ⟨_, rfl⟩
      rw [hL9] at HK HAp9 HBody
      have hw1 : IntKind.u64.wrap (Crc.u s1) = Crc.u s1 := by have := Crc.u_bounds s1; rw [IntKind.wrap_u64]; omega
      have hw2 : IntKind.u64.wrap (Crc.u s2) = Crc.u s2 := by have := Crc.u_bounds s2; rw [IntKind.wrap_u64]; omega
      clear hL9
      go_wp2_with fail
      refine (rput4 wr s1).mono ?_
      rintro e w10 ⟨A10, c10, rfl, ho10, hf10⟩
      have HO10 := Lib.hid ho10
      have HNc := Lib.hid (Ref.own_nilcap ho10)
      have HAp10 := Lib.hid (HAp9.out.fr hf10 (by simp))
      have hn10 := HN9.out.fr hf10 (by simp)
      have HN10 := Lib.hid hn10
      have HF10 := Lib.hid (HF9.out.tr hf10)
      have hs10 : s + 1 ≤ w10.heap.size := hn10.lt
      clear ho10 hf10 hn10 HAp9 HN9 HF9 y0 y1 y2 y3 y4 y5
      go_wp2_with (at_builtin; refine Ips.wpList_ap _ rfl (.tmp 44) (.tmp 48) 23 rfl (s + 1) i0 Try.underlying23 hi hz0 hz1 hz2 (.slice A9 K c9) L9 rfl HAp10.out A10 4 c10 (le4 s1) rfl rfl HO10.out.rd HNc.out (K + 4) (by rw [HK.out]) (by omega) hs10 ?_)
      intro A11 c11 w11 ha11 hf11
      have hx : ∀ k ∈ (Value.slice A9 K c9).ownBlock.toList, s + 1 ≤ k := fun k hk => (HAp10.out.lt k hk).1
      have HF11 : Hid (Fr [] w w11) := Lib.hid (HF10.out.trans hf11 (by intro k hk; exact .inr (by have := hx k hk; have := Hs.out; omega)))
      have hn11 := HN10.out.fr hf11 (fun hm => by have := hx s hm; omega)
      have HN11 := Lib.hid hn11
      obtain ⟨L11, hL11⟩ : ∃ L11, L11 = L9 ++ le4 s1 := ⟨_, rfl⟩
      have HAp11 : Hid (Ap w11 (s + 1) (.slice A11 (K + 4) c11) L11) := Lib.hid (hL11 ▸ ha11)
      have HK11 : Hid (L11.length = K + 4) := Lib.hid (by rw [hL11, List.length_append, HK.out, le4_length])
      rw [← hL11] at HBody
      obtain ⟨y0, y1, y2, y3, y4, y5⟩ := blk6 hn11
      clear ha11 hf11 hx hn11 hL11 HAp10 HO10 HN10 HF10
      go_wp2_with fail
      refine (rput4 w11 s2).mono ?_
      rintro e w12 ⟨A12, c12, rfl, ho12, hf12⟩
      have HO12 := Lib.hid ho12
      have HNc12 := Lib.hid (Ref.own_nilcap ho12)
      have HAp12 := Lib.hid (HAp11.out.fr hf12 (by simp))
      have HF12 := Lib.hid (HF11.out.tr hf12)
      have hs12 : s + 1 ≤ w12.heap.size := (HN11.out.fr hf12 (by simp)).lt
      clear ho12 hf12 HAp11 HN11 HF11
      go_wp2_with (at_builtin; refine Ips.wpList_ap _ rfl (.tmp 50) (.tmp 54) 23 rfl (s + 1) i0 Try.underlying23 hi hz0 hz1 hz2 (.slice A11 (K + 4) c11) L11 rfl HAp12.out A12 4 c12 (le4 s2) rfl rfl HO12.out.rd HNc12.out (K + 8) (by rw [HK11.out]) (by omega) hs12 ?_)
      intro A13 c13 w13 ha13 hf13
      rw [HBody.out] at ha13
      have HF13 : Hid (Fr [] w w13) := Lib.hid (HF12.out.trans hf13 (by intro k hk; exact .inr (by have := (HAp12.out.lt k hk).1; have := Hs.out; omega)))
      have HLb : Hid (bd.length = K + 8) := Lib.hid (by rw [← HBody.out, List.length_append, HK11.out, le4_length])
      obtain ⟨Ax, cx, ex, hrd, hnil, -, -⟩ := ha13.slice (by rw [HLb.out]; unfold maxLen; omega)
      injection ex with e1 e2 e3
      subst e1 e3
      have HRd := Lib.hid hrd
      have HNl := Lib.hid hnil
      clear ha13 hf13 hrd hnil e2 HAp12 HO12
      go_wp2_with fail
      refine (refsigned_any w13 A13 (K + 8) c13 bd HLb.out HRd.out HNl.out (by omega)).mono ?_
      rintro e w14 hB
      have HE := Lib.hid (HQ.out w13 e w14 HF13.out hB)
      obtain ⟨A14, c14, rfl, -, -⟩ := hB
      go_wp2
      exact HE.out

end Bps
end Go.Proofs.Ytkefckoffnlkcaa
