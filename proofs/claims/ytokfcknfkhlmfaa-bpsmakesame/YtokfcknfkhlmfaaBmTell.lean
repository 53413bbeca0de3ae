/-
  Contract of bpsmake's tell.
-/
import Derived.Test.YtokfcknfkhlmfaaBmState
namespace Go.Proofs.Ytokfcknfkhlmfaa
open Go.RowKit
namespace Bm

/-- Actions that lie in memory are as they were. -/
def KeepA (w w' : World) : Prop := ∀ g cs, Blk w g 82 cs → Blk w' g 82 cs
theorem KeepA.trans {w w' w'' : World} (h : KeepA w w') (h' : KeepA w' w'') : KeepA w w'' := fun g cs hg => h' g cs (h g cs hg)
theorem keep_fr {w w' : World} (h : Fr [] w w') : KeepA w w' := fun _ _ hg => hg.fr h (by simp)
theorem keep_one {w w' : World} {m : Nat} {ty : TypeId} {cs : Array Value} (h : Fr [m] w w') (hm : Blk w m ty cs) (hty : 82 ≠ ty) : KeepA w w' := fun _ _ hg => hg.fr h (by simp; exact hg.other hm hty)
/-- What tell leaves. -/
def Told (w0 w : World) (m q B : Nat) (A D : Option Addr) (ca cb la lb lk : Nat) (a b : List UInt8) (kn : Option Addr) (s t told u : Nat) (l : List UInt8) (e : Ending) (w' : World) : Prop :=
  e = .returned (.tuple #[]) ∧ KeepA w w' ∧ ∃ v, Ms w0 m q B A D ca cb la lb lk a b kn s t told u v l w'

set_option maxRecDepth 100000 in
set_option maxHeartbeats 4000000 in
theorem tell_any (w0 w : World) (m q B : Nat) (A D : Option Addr) (ca cb la lb lk : Nat) (a b : List UInt8) (kn : Option Addr) (s t told u : Nat) (v : Value) (l : List UInt8)
    (k n dn dc N s' t' : Nat) (mv : Int) (E : Option Addr) (d : List UInt8) (hk : k < 4) (hn : 1 ≤ n) (hn2 : n ≤ 16777216) (hm0 : -1073741824 ≤ mv) (hm1 : mv ≤ 1073741824) (hN : (n - 1) * 4 + k = N) (hd : d.length = dn) (hd2 : dn ≤ 16777216) (hE : ∀ W, Fr [] w0 W → Rd W E d) (hEc : E = none → dc = 0)
    (hl : l.length ≤ 100000000) (hto : told ≤ 16777216) (hs : s ≤ 16777216) (ht : t ≤ 16777216) (hs' : (s' : Int) = if k = 2 then (s : Int) + (mv + (n : Int)) else (s : Int)) (ht' : (t' : Int) = if k = 3 then (t : Int) + (mv + (n : Int)) else (t : Int))
    (h : Ms w0 m q B A D ca cb la lb lk a b kn s t told u v l w) :
    Calls Try.prog 36 #[.pointer (some ⟨m, 0, none⟩), .agg #[.int .i64 (k : Int), .int .i64 (n : Int), .int .i64 mv, .slice E dn dc]] w (Told w0 w m q B A D ca cb la lb lk a b kn s' t' (told + n) u (l ++ (Var.putV N ++ d ++ if 2 ≤ k then Var.putV (Bps.turnN mv) else []))) := by
  obtain ⟨s3, hs3⟩ : ∃ s3, w.heap.size = s3 := ⟨_, rfl⟩
  have hx := Blk.fresh w 82 #[.int .i64 (k : Int), .int .i64 (n : Int), .int .i64 mv, .slice E dn dc]
  rw [hs3] at hx
  have hf : Fr [] w (w.alloc (.cells #[.int .i64 (k : Int), .int .i64 (n : Int), .int .i64 mv, .slice E dn dc] 82)) := (Fr.refl [] w).alloc _
  have HX := Lib.hid hx
  have HM := Lib.hid (h.later hf)
  have HE := Lib.hid hE
  have hN2 : N ≤ Var.most := by unfold Var.most; omega
  obtain ⟨P, hP⟩ : ∃ P, (Var.putV N).length = P := ⟨_, rfl⟩
  have hP5 : P ≤ 5 := by rw [← hP]; exact Var.putV_le5 hN2
  obtain ⟨T, hT⟩ : ∃ T, Bps.turnN mv = T := ⟨_, rfl⟩
  obtain ⟨R, hR⟩ : ∃ R, (Var.putV T).length = R := ⟨_, rfl⟩
  have hT2 : T ≤ Var.most := by rw [← hT]; exact Bps.turnN_le mv hm0 hm1
  have hR5 : R ≤ 5 := by rw [← hR]; exact Var.putV_le5 hT2
  have HTV : Hid (Var.turnV mv = (T : Int)) := Lib.hid (by rw [← hT]; exact (Bps.turnN_cast mv hm0 hm1).symm)
  have HPN : Hid (∀ W, Calls Try.prog 16 #[.int .u64 (N : Int)] W fun e w' => ∃ V, e = .returned V ∧ (∃ g, V = .slice (some ⟨g, 0, none⟩) P P ∧ Blk w' g 5 (bv (Var.putV N)).toArray) ∧ Fr [] W w') := Lib.hid fun W => by
    rw [← hP]
    exact (Var.put_any W N hN2).mono fun e w' ⟨g, a1, _, a3, a4⟩ => ⟨_, a1, ⟨g, rfl, a3⟩, a4⟩
  have HPT : Hid (∀ W, Calls Try.prog 16 #[.int .u64 (T : Int)] W fun e w' => ∃ V, e = .returned V ∧ (∃ g, V = .slice (some ⟨g, 0, none⟩) R R ∧ Blk w' g 5 (bv (Var.putV T)).toArray) ∧ Fr [] W w') := Lib.hid fun W => by
    rw [← hR]
    exact (Var.put_any W T hT2).mono fun e w' ⟨g, a1, _, a3, a4⟩ => ⟨_, a1, ⟨g, rfl, a3⟩, a4⟩
  have HTu : Hid (∀ W, Calls Try.prog 62 #[.int .i64 mv] W fun e w' => e = .returned (.int .u64 (T : Int)) ∧ W = w') := Lib.hid fun W => by
    rw [← HTV.out]
    exact Var.turn_any W mv (by omega) (by omega)
  have HNN : Hid (∀ W, Calls Try.prog 60 #[.agg #[.int .i64 (k : Int), .int .i64 (n : Int), .int .i64 mv, .slice E dn dc]] W fun e w' => e = .returned (.int .u64 (N : Int)) ∧ Fr [] W w') := Lib.hid fun W => number_any W k n dn dc N mv E hk hn hn2 hN
  have HMM : Hid (∀ W, Calls Try.prog 61 #[.agg #[.int .i64 (k : Int), .int .i64 (n : Int), .int .i64 mv, .slice E dn dc]] W fun e w' => e = .returned (.bool (decide (2 ≤ k))) ∧ Fr [] W w') := Lib.hid fun W => moves_any W k n dn dc mv E hk
  have HWB : Hid (∀ W v1 l1 V p (r : List UInt8), r.length = p → p ≤ 5 → l1.length ≤ 200000000 → Ms w0 m q B A D ca cb la lb lk a b kn s t told u v1 l1 W → (∃ g, V = Value.slice (some ⟨g, 0, none⟩) p p ∧ Blk W g 5 (bv r).toArray) → Calls Try.prog 15 #[.pointer (some ⟨q, 0, none⟩), V] W (Wrote W B q v1 (l1 ++ r))) := Lib.hid (by
    rintro W v1 l1 V p r h1 h2 h3 h4 ⟨g, rfl, h5⟩
    exact wbytes W B q v1 l1 (some ⟨g, 0, none⟩) p p r h4.wr h4.hBW (by omega) h1 (rd_blk h5) (by simp))
  have HWD : Hid (∀ W v1 l1, l1.length ≤ 200000000 → Ms w0 m q B A D ca cb la lb lk a b kn s t told u v1 l1 W → Calls Try.prog 15 #[.pointer (some ⟨q, 0, none⟩), .slice E dn dc] W (Wrote W B q v1 (l1 ++ d))) := Lib.hid (by
    rintro W v1 l1 h3 h4
    exact wbytes W B q v1 l1 E dn dc d h4.wr h4.hBW (by omega) hd (HE.out _ h4.fr) hEc)
  have HL1 : Hid (l.length ≤ 200000000) := Lib.hid (by omega)
  have HL2 : Hid ((l ++ Var.putV N).length ≤ 200000000) := Lib.hid (by rw [List.length_append, hP]; omega)
  have HL3 : Hid (((l ++ Var.putV N) ++ d).length ≤ 200000000) := Lib.hid (by rw [List.length_append, List.length_append, hP, hd]; omega)
  have HPl := Lib.hid hP
  have HRl := Lib.hid hR
  have HXF : Hid (∀ W v1 l1 W', Ms w0 m q B A D ca cb la lb lk a b kn s t told u v1 l1 W → Fr (foot q v1) W W' → KeepA W W') := Lib.hid fun W v1 l1 W' h1 h3 g cs hg => hg.fr h3 (h1.foot_other hg (by decide) (by decide))
  have HKa := Lib.hid (keep_fr hf)
  generalize hQ : Told w0 w m q B A D ca cb la lb lk a b kn s' t' (told + n) u (l ++ (Var.putV N ++ d ++ if 2 ≤ k then Var.putV (Bps.turnN mv) else [])) = Q
  have HQ : Hid (∀ W v1, KeepA w W → Ms w0 m q B A D ca cb la lb lk a b kn s' t' (told + n) u v1 ((l ++ Var.putV N) ++ d ++ if 2 ≤ k then Var.putV T else []) W → Q (.returned (.tuple #[])) W) := Lib.hid fun W v1 h0 h1 => by
    rw [← hQ, hT]
    exact ⟨rfl, h0, v1, by rw [← List.append_assoc, ← List.append_assoc]; exact h1⟩
  clear hQ hx hf h hE hN hP hR hT hd hl hN2 hT2 hEc
  go_enter Try.func36, Try.ntmps36
  go_upto_region 1 with fail
  generalize w.alloc _ = w1 at *
  obtain ⟨d0, d1, d2, d3⟩ := Bps.blk4 HX.out
  obtain ⟨-, -, -, -, -, -, -, -, c8⟩ := blk9 HM.out.mb
  go_wp2_with fail
  go_cut [14] (fun _ wx => ∃ v3, Ms w0 m q B A D ca cb la lb lk a b kn s t told u v3 ((l ++ Var.putV N) ++ d) wx ∧ KeepA w1 wx)
  case first =>
    go_region_law (go_simp; first
      | (go_at_call 15; (with_reducible refine (HWD.out w4 v4 _ HL2.out HM4.out).mono ?_); rintro e w5 ⟨rfl, v5, hw5, hf5, -⟩; have HM5 := Lib.hid (HM4.out.wrote hw5 hf5); have HK5 := Lib.hid (HK4.out.trans (HXF.out _ _ _ _ HM4.out hf5)); clear hw5 hf5)
      | (go_at_call_of 15 V3; (with_reducible refine (HWB.out w3 v l V3 P (Var.putV N) HPl.out hP5 HL1.out HM3.out HV3.out).mono ?_); rintro e w4 ⟨rfl, v4, hw4, hf4, -⟩; have HM4 := Lib.hid (HM3.out.wrote hw4 hf4); have HK4 := Lib.hid (HK3.out.trans (HXF.out _ _ _ _ HM3.out hf4)); have HX4 := Lib.hid (HK4.out _ _ HX.out); obtain ⟨r0, r1, r2, r3⟩ := Bps.blk4 HX4.out; clear hw4 hf4)
      | (go_at_call 16; (with_reducible refine (HPN.out w2).mono ?_); rintro e w3 ⟨V3, rfl, hv3, hf3⟩; have HV3 := Lib.hid hv3; have HM3 := Lib.hid (HM2.out.later hf3); have HK3 := Lib.hid (HK2.out.trans (keep_fr hf3)); have HX3 := Lib.hid (HK3.out _ _ HX.out); obtain ⟨r0, r1, r2, r3⟩ := Bps.blk4 HX3.out; obtain ⟨-, -, -, -, -, -, -, -, e8⟩ := blk9 HM3.out.mb; clear hv3 hf3)
      | (go_at_call 60; (with_reducible refine (HNN.out w1.drew).mono ?_); rintro e w2 ⟨rfl, hf2⟩; have HM2 := Lib.hid (HM.out.later ((Fr.refl [] w1).drew.tr hf2)); have HK2 : Hid (KeepA w1 w2) := Lib.hid (keep_fr ((Fr.refl [] w1).drew.tr hf2)); have HX2 := Lib.hid (HK2.out _ _ HX.out); obtain ⟨r0, r1, r2, r3⟩ := Bps.blk4 HX2.out; obtain ⟨-, -, -, -, -, -, -, -, e8⟩ := blk9 HM2.out.mb; clear hf2))
    all_goals
      go_wp2_with fail
      go_meet
      exact ⟨v5, HM5.out, HK5.out⟩
  case rest =>
    obtain ⟨v3, hm3, hk3⟩ := hcut
    have HM3 := Lib.hid hm3
    have HK3 := Lib.hid hk3
    clear hm3 d0 d1 d2 d3 c8 HM
    obtain ⟨d0, d1, d2, d3⟩ := Bps.blk4 (hk3 _ _ HX.out)
    clear hk3
    go_wp2_with fail
    refine (HMM.out wc).mono ?_
    rintro e w4 ⟨rfl, hf4⟩
    have HM4 := Lib.hid (HM3.out.later hf4)
    have HK4 := Lib.hid (HK3.out.trans (keep_fr hf4))
    clear hf4 d0 d1 d2 d3 HM3 HK3
    obtain ⟨d0, d1, d2, d3⟩ := Bps.blk4 (HK4.out _ _ HX.out)
    obtain ⟨-, -, -, -, -, -, -, -, c8⟩ := blk9 HM4.out.mb
    go_upto_if 16 with fail
    go_cut [16] (fun _ wx => ∃ v6, Ms w0 m q B A D ca cb la lb lk a b kn s t told u v6 ((l ++ Var.putV N) ++ d ++ if 2 ≤ k then Var.putV T else []) wx ∧ KeepA w1 wx)
    case first =>
      by_cases hk2 : 2 ≤ k
      · have hd : decide (2 ≤ k) = true := by simp [hk2]
        rw [hd]
        go_wp2_with fail
        go_region_law (go_simp; first
          | (go_at_call_of 15 V6; (with_reducible refine (HWB.out w6 v3 _ V6 R (Var.putV T) HRl.out hR5 HL3.out HM6.out HV6.out).mono ?_); rintro e w7 ⟨rfl, v7, hw7, hf7, -⟩; have HM7 := Lib.hid (HM6.out.wrote hw7 hf7); have HK7 := Lib.hid (HK6.out.trans (HXF.out _ _ _ _ HM6.out hf7)); clear hw7 hf7)
          | (go_at_call 16; (with_reducible refine (HPT.out w4.drew).mono ?_); rintro e w6 ⟨V6, rfl, hv6, hf6⟩; have HV6 := Lib.hid hv6; have HM6 := Lib.hid (HM4.out.later ((Fr.refl [] w4).drew.tr hf6)); have HK6 := Lib.hid (HK4.out.trans (keep_fr ((Fr.refl [] w4).drew.tr hf6))); obtain ⟨r0, r1, r2, r3⟩ := Bps.blk4 (HK6.out _ _ HX.out); obtain ⟨-, -, -, -, -, -, -, -, e8⟩ := blk9 HM6.out.mb; clear hv6 hf6)
          | (go_at_call 62; (with_reducible refine (HTu.out w4.drew).mono ?_); rintro e w5 ⟨rfl, rfl⟩))
        all_goals
          go_wp2_with fail
          go_meet
          exact ⟨v7, by rw [if_pos hk2]; exact HM7.out, HK7.out⟩
      · have hd : decide (2 ≤ k) = false := by simp; omega
        rw [hd]
        go_wp2_with fail
        go_meet
        exact ⟨v3, by rw [if_neg hk2, List.append_nil]; exact HM4.out, HK4.out⟩
    case rest =>
      obtain ⟨v6, hm6, hk6⟩ := hcut
      have HM6 := Lib.hid hm6
      have HK6 := Lib.hid hk6
      clear hm6 hk6 d0 d1 d2 d3 c8 HM4 HK4
      obtain ⟨d0, d1, d2, d3⟩ := Bps.blk4 (HK6.out _ _ HX.out)
      obtain ⟨-, -, -, -, -, -, c6, -, -⟩ := blk9 HM6.out.mb
      obtain ⟨tn, htn⟩ : ∃ tn, told + n = tn := ⟨_, rfl⟩
      rw [htn] at HQ
      have htn1 : (told : Int) + (n : Int) = (tn : Int) := by omega
      have htn2 : IntKind.i64.wrap (tn : Int) = (tn : Int) := by rw [IntKind.wrap_i64]; omega
      obtain ⟨LL, hLL⟩ : ∃ LL, (l ++ Var.putV N) ++ d ++ (if 2 ≤ k then Var.putV T else []) = LL := ⟨_, rfl⟩
      rw [hLL] at HM6 HQ
      go_wp2_with fail
      go_still_tail 9, (by kernel_rfl)
      repeat still_step
      change wpList _ _ _ _ _ wc.drew
      have HM7 : Hid (Ms w0 m q B A D ca cb la lb lk a b kn s t told u v6 LL wc.drew) := Lib.hid (HM6.out.later (Fr.refl [] wc).drew)
      have HK7 : Hid (KeepA w1 wc.drew) := Lib.hid (HK6.out.trans (keep_fr (Fr.refl [] wc).drew))
      clear HM6 HK6 d0 d1 d2 d3 c6
      generalize wc.drew = w7 at *
      obtain ⟨-, -, -, -, -, -, c6, -, -⟩ := blk9 HM7.out.mb
      have g6 := HM7.out.mb.frozen 6
      go_upto_region 5 with fail
      have hst : Fr [m] w7 (w7.setCell ⟨m, 6, none⟩ (.int .i64 (tn : Int))) := (Fr.refl _ _).setCell (by simp) _
      have HM8 : Hid (Ms w0 m q B A D ca cb la lb lk a b kn s t tn u v6 LL (w7.setCell ⟨m, 6, none⟩ (.int .i64 (tn : Int)))) := Lib.hid (HM7.out.set hst (by
        have := HM7.out.mb.put 6 (.int .i64 (tn : Int))
        simpa [mkV] using this))
      have HK8 := Lib.hid (HK7.out.trans (keep_one hst HM7.out.mb (by decide)))
      clear hst c6 g6 HM7 HK7
      generalize w7.setCell ⟨m, 6, none⟩ (.int .i64 (tn : Int)) = w8 at *
      obtain ⟨d0, d1, d2, d3⟩ := Bps.blk4 (HK8.out _ _ HX.out)
      obtain ⟨-, -, -, -, c4, c5, -, -, -⟩ := blk9 HM8.out.mb
      have g4 := HM8.out.mb.frozen 4
      have g5 := HM8.out.mb.frozen 5
      rcases (by omega : k = 2 ∨ k = 3 ∨ (k ≠ 2 ∧ k ≠ 3)) with rfl | rfl | ⟨h2, h3⟩
      · rw [if_pos rfl] at hs'
        rw [if_neg (by decide)] at ht'
        obtain ⟨z, hz⟩ : ∃ z, mv + (n : Int) = z := ⟨_, rfl⟩
        have hz1 : IntKind.i64.wrap z = z := by rw [IntKind.wrap_i64]; omega
        have hz2 : (s : Int) + z = (s' : Int) := by omega
        have hz3 : IntKind.i64.wrap (s' : Int) = (s' : Int) := by rw [IntKind.wrap_i64]; omega
        have htt : t' = t := by omega
        subst htt
        clear hs' ht'
        go_wp2_with fail
        go_still_tail 12, (by kernel_rfl)
        repeat still_step
        change wpList _ _ _ _ _ w8.drew
        have HM9 : Hid (Ms w0 m q B A D ca cb la lb lk a b kn s t' tn u v6 LL w8.drew) := Lib.hid (HM8.out.later (Fr.refl [] w8).drew)
        have HK9 := Lib.hid (HK8.out.trans (keep_fr (Fr.refl [] w8).drew))
        clear HM8 HK8 d0 d1 d2 d3 c4 c5 g4 g5
        generalize w8.drew = w9 at *
        obtain ⟨-, -, -, -, c4, -, -, -, -⟩ := blk9 HM9.out.mb
        have g4 := HM9.out.mb.frozen 4
        have HEnd : Hid (Q (.returned (.tuple #[])) (w9.setCell ⟨m, 4, none⟩ (.int .i64 (s' : Int)))) := Lib.hid (HQ.out _ v6 (HKa.out.trans (HK9.out.trans (keep_one ((Fr.refl _ _).setCell (by simp) _) HM9.out.mb (by decide)))) (HM9.out.set ((Fr.refl _ _).setCell (by simp) _) (by
          have := HM9.out.mb.put 4 (.int .i64 (s' : Int))
          simpa [mkV] using this)))
        go_wp2_with fail
        go_end0
        exact HEnd.out
      · rw [if_neg (by decide)] at hs'
        rw [if_pos rfl] at ht'
        obtain ⟨z, hz⟩ : ∃ z, mv + (n : Int) = z := ⟨_, rfl⟩
        have hz1 : IntKind.i64.wrap z = z := by rw [IntKind.wrap_i64]; omega
        have hz2 : (t : Int) + z = (t' : Int) := by omega
        have hz3 : IntKind.i64.wrap (t' : Int) = (t' : Int) := by rw [IntKind.wrap_i64]; omega
        have hss : s' = s := by omega
        subst hss
        clear hs' ht'
        go_wp2_with fail
        go_still_tail 12, (by kernel_rfl)
        repeat still_step
        change wpList _ _ _ _ _ w8.drew
        have HM9 : Hid (Ms w0 m q B A D ca cb la lb lk a b kn s' t tn u v6 LL w8.drew) := Lib.hid (HM8.out.later (Fr.refl [] w8).drew)
        have HK9 := Lib.hid (HK8.out.trans (keep_fr (Fr.refl [] w8).drew))
        clear HM8 HK8 d0 d1 d2 d3 c4 c5 g4 g5
        generalize w8.drew = w9 at *
        obtain ⟨-, -, -, -, -, c5, -, -, -⟩ := blk9 HM9.out.mb
        have g5 := HM9.out.mb.frozen 5
        have HEnd : Hid (Q (.returned (.tuple #[])) (w9.setCell ⟨m, 5, none⟩ (.int .i64 (t' : Int)))) := Lib.hid (HQ.out _ v6 (HKa.out.trans (HK9.out.trans (keep_one ((Fr.refl _ _).setCell (by simp) _) HM9.out.mb (by decide)))) (HM9.out.set ((Fr.refl _ _).setCell (by simp) _) (by
          have := HM9.out.mb.put 5 (.int .i64 (t' : Int))
          simpa [mkV] using this)))
        go_wp2_with fail
        go_end0
        exact HEnd.out
      · rw [if_neg h2] at hs'
        rw [if_neg h3] at ht'
        have hss : s' = s := by omega
        have htt : t' = t := by omega
        subst hss htt
        have i2 : ((k : Int) == 2) = false := by simp; omega
        have i3 : ((k : Int) == 3) = false := by simp; omega
        clear hs' ht' c4 c5 g4 g5
        go_wp2_with fail
        go_end0
        exact HQ.out _ v6 (HKa.out.trans HK8.out) HM8.out

end Bm
end Go.Proofs.Ytokfcknfkhlmfaa
