/-
  Contract of bpsmake's tellAll.
-/
import Derived.Test.YtokfcknfkhlmfaaBmAll
namespace Go.Proofs.Ytokfcknfkhlmfaa
open Go.RowKit
namespace Bm

theorem actZ_bytes (k n : Nat) (mv : Int) (hk : k ≠ 1) : Bps.actB (actZ (k, n, mv)) = Var.putV ((n - 1) * 4 + k) ++ [] ++ if 2 ≤ k then Var.putV (Bps.turnN mv) else [] := by
  unfold Bps.actB Bps.tailB Bps.headN actZ
  simp only [if_neg hk, List.append_nil]

/-- What best tells is within bounds, and leads to places that there are. -/
theorem best_bounds {a b : List UInt8} {u s t k n : Nat} {mv : Int} (h : BestZ a b u s t (k, n, mv)) (hn : 0 < n) (hu : u < b.length) (hs : s ≤ a.length) (ht : t ≤ b.length) (ha : a.length ≤ 16777216) (hb : b.length ≤ 16777216) :
    k < 4 ∧ k ≠ 1 ∧ u + n ≤ b.length ∧ -1073741824 ≤ mv ∧ mv ≤ 1073741824 ∧ ∃ s' t' : Nat, ((s' : Int) = if k = 2 then (s : Int) + (mv + (n : Int)) else (s : Int)) ∧ ((t' : Int) = if k = 3 then (t : Int) + (mv + (n : Int)) else (t : Int)) := by
  rcases best_ok h hn with ⟨h1, h2, h3⟩ | ⟨p, h1, h2, h3, h4, _⟩ | ⟨p, h1, h2, h3, h4, _⟩
  · simp only at h1 h2 h3
    have := fsN_le a b u
    subst h1
    exact ⟨by omega, by omega, by omega, by omega, by omega, s, t, by simp, by simp⟩
  · simp only at h1 h2 h3 h4
    subst h1
    exact ⟨by omega, by omega, by omega, by omega, by omega, p + n, t, by rw [if_pos rfl]; omega, by simp⟩
  · simp only at h1 h2 h3 h4
    subst h1
    exact ⟨by omega, by omega, by omega, by omega, by omega, s, p + n, by simp, by rw [if_pos rfl]; omega⟩

/-- What tellAll leaves. -/
def ToldAll (w0 : World) (m q B : Nat) (A D : Option Addr) (ca cb la lb lk : Nat) (a b : List UInt8) (l : List UInt8) (e : Ending) (w' : World) : Prop :=
  e = .returned (.tuple #[]) ∧ ∃ σ kn v, Runs a b σ ∧ σ.u = lb ∧ Ms w0 m q B A D ca cb la lb lk a b kn σ.s σ.t lb lb v (l ++ (σ.L ++ leftL b σ.told lb).flatMap Bps.actB) w'

set_option maxRecDepth 100000 in
set_option maxHeartbeats 4000000 in
theorem tellAll_any (w0 w : World) (m q B : Nat) (A D : Option Addr) (ca cb la lb lk : Nat) (a b : List UInt8) (v : Value) (l : List UInt8) (hla : a.length = la) (hlb : b.length = lb) (hca : la ≤ ca) (hcb : lb ≤ cb) (hna : la ≤ 1000000) (hnb : lb ≤ 1000000) (hlk : lk ≤ 1000000000) (hlk1 : 1 ≤ lk) (hl : l.length ≤ 10000000)
    (hA : Rd w0 A a) (hD : Rd w0 D b) (h : Ms w0 m q B A D ca cb la lb lk a b none 0 0 0 0 v l w) :
    Calls Try.prog 18 #[.pointer (some ⟨m, 0, none⟩)] w (ToldAll w0 m q B A D ca cb la lb lk a b l) := by
  have HA := Lib.hid hA
  have HD := Lib.hid hD
  have Hla := Lib.hid hla
  have Hlb := Lib.hid hlb
  have HI : Hid (∀ σ, Runs a b σ → Inv a b σ) := Lib.hid fun σ h => runs_inv (by omega) (by omega) h
  have HLen : Hid (∀ σ, Runs a b σ → (l ++ σ.L.flatMap Bps.actB).length ≤ 20000000 ∧ (l ++ (σ.L ++ leftL b σ.told σ.u).flatMap Bps.actB).length ≤ 20000000) := Lib.hid fun σ h => by
    have h1 := HI.out σ h
    have h2 := h1.size
    have h3 := h1.le1
    have h4 := h1.le2
    have h5 := (h1.left (by omega)).size
    rw [List.length_append, List.length_append]
    omega
  have HQ : Hid (∀ W σ kn v, Runs a b σ → σ.u = lb → Ms w0 m q B A D ca cb la lb lk a b kn σ.s σ.t lb lb v (l ++ (σ.L ++ leftL b σ.told lb).flatMap Bps.actB) W → ToldAll w0 m q B A D ca cb la lb lk a b l (.returned (.tuple #[])) W) := Lib.hid fun W σ kn v h1 h2 h3 => ⟨rfl, σ, kn, v, h1, h2, h3⟩
  generalize ToldAll w0 m q B A D ca cb la lb lk a b l = Q at *
  have HM := Lib.hid h
  clear h hA hD hla hlb
  go_enter Try.func18, Try.ntmps18
  go_wp2_with fail
  go_loopw [2] (fun _ wr => ∃ σ kn v', Runs a b σ ∧ Ms w0 m q B A D ca cb la lb lk a b kn σ.s σ.t σ.told σ.u v' (l ++ σ.L.flatMap Bps.actB) wr) (fun _ wr => lb - (intOf ((wr.cell? ⟨m, 7, none⟩).getD undef)).toNat)
  case atStart => exact ⟨⟨[], 0, 0, 0, 0⟩, none, v, .start, by simpa using HM.out⟩
  case round =>
    obtain ⟨σ, kn, v', hR, hM⟩ := hrel
    have HR := Lib.hid hR
    have HM1 := Lib.hid hM
    clear hR hM HM
    obtain ⟨L, told, u, s, t⟩ := σ
    simp only at HM1
    have hinv := HI.out _ HR.out
    obtain ⟨q1, q2, q3, q4⟩ : told ≤ u ∧ u ≤ lb ∧ s ≤ la ∧ t ≤ lb := ⟨hinv.le1, by have := hinv.le2; rwa [Hlb.out] at this, by have := hinv.hs; rwa [Hla.out] at this, by have := hinv.ht; rwa [Hlb.out] at this⟩
    obtain ⟨hl1, hl2⟩ := HLen.out _ HR.out
    simp only at hl1 hl2
    obtain ⟨l1, hl1e⟩ : ∃ l1, l ++ L.flatMap Bps.actB = l1 := ⟨_, rfl⟩
    rw [hl1e] at HM1 hl1
    have Hl1e := Lib.hid hl1e
    have Hl1 := Lib.hid hl1
    have Hl2 := Lib.hid hl2
    clear hinv hl1e hl1 hl2
    obtain ⟨-, c1, -, -, -, -, c6, c7, -⟩ := blk9 HM1.out.mb
    have Hc7 := Lib.hid c7
    by_cases hlt : u < lb
    · have hlti : (u : Int) < lb := by omega
      obtain ⟨y, o, rfl, hcD⟩ := HD.out (by rw [Hlb.out]; omega)
      have HCD := Lib.hid hcD
      have HBest : Hid (∀ W, Fr [] wr W → Calls Try.prog 33 #[.pointer (some ⟨m, 0, none⟩)] W (Bested W m A (some ⟨y, o, none⟩) ca cb la lb lk s t told u q a b)) := Lib.hid fun W hW => by
        have hM2 := HM1.out.later hW
        exact best_any W m ca cb la lb lk s t told u q A (some ⟨y, o, none⟩) kn a b Hla.out Hlb.out hca hcb (by omega) hlt (by omega) hlk hlk1 (by omega) (by omega) (fun W' hW' => HA.out.later (hM2.fr.trans hW' (by simp; exact hM2.hm)) (by simp)) (fun W' hW' => HD.out.later (hM2.fr.trans hW' (by simp; exact hM2.hm)) (by simp)) hM2.mb hM2.kn
      clear hcD
      go_wp2_with fail
      go_quiet (fail)
      have HF2 : Hid (Fr [] wr (wr.drewN nq)) := Lib.hid ((Fr.refl [] wr).drewN nq)
      have HM2 := Lib.hid (HM1.out.later HF2.out)
      clear c1 c6 c7
      generalize wr.drewN nq = w2 at *
      go_wp2_with fail
      refine (HBest.out w2 HF2.out).mono ?_
      rintro e w3 ⟨⟨k, n, mv⟩, kn3, rfl, hz, hm3, hk3, hf3⟩
      have HZ := Lib.hid hz
      have HM3 := Lib.hid (HM2.out.turned hf3 hm3 hk3)
      clear hz hm3 hk3 hf3 HM2
      unfold aV
      simp only
      obtain ⟨s3, hs3⟩ : ∃ s3, w3.heap.size = s3 := ⟨_, rfl⟩
      go_upto_region 2 with fail
      have hx4 := Blk.fresh w3 82 #[.int .i64 (k : Int), .int .i64 (n : Int), .int .i64 mv, .slice none 0 0]
      rw [hs3] at hx4
      have HX4 := Lib.hid hx4
      have HM4 := Lib.hid (HM3.out.later ((Fr.refl [] w3).alloc (.cells #[.int .i64 (k : Int), .int .i64 (n : Int), .int .i64 mv, .slice none 0 0] 82)))
      clear hx4 HM3
      generalize w3.alloc _ = w4 at *
      obtain ⟨d0, d1, d2, d3⟩ := Bps.blk4 HX4.out
      obtain ⟨u1, hu1⟩ : ∃ u1, u + 1 = u1 := ⟨_, rfl⟩
      have hu2 : (u : Int) + 1 = (u1 : Int) := by omega
      have hu3 : IntKind.i64.wrap (u1 : Int) = (u1 : Int) := by rw [IntKind.wrap_i64]; omega
      have HSkip : Hid (∀ W, (n = 0 ∨ pay told u (k, n, mv) = false) → Ms w0 m q B A (some ⟨y, o, none⟩) ca cb la lb lk a b kn3 s t told u v' l1 W → ∃ σ kn v', Runs a b σ ∧ Ms w0 m q B A (some ⟨y, o, none⟩) ca cb la lb lk a b kn σ.s σ.t σ.told σ.u v' (l ++ σ.L.flatMap Bps.actB) (W.setCell ⟨m, 7, none⟩ (.int .i64 (u1 : Int)))) := Lib.hid fun W hp hW => by
        refine ⟨⟨L, told, u1, s, t⟩, kn3, v', ?_, ?_⟩
        · rw [← hu1]
          exact .step _ _ HR.out (.skip ⟨L, told, u, s, t⟩ (k, n, mv) (by rw [Hlb.out]; exact hlt) HZ.out hp)
        · simp only
          rw [Hl1e.out]
          exact hW.set ((Fr.refl _ _).setCell (by simp) _) (by
            have := hW.mb.put 7 (.int .i64 (u1 : Int))
            simpa [mkV] using this)
      have HMeas : Hid (∀ (W : World) (U : Nat), u < U → (∃ x2 x4 x5 x6 x7, Blk W m 92 #[.slice A la ca, .slice (some ⟨y, o, none⟩) lb cb, x2, .int .i64 (lk : Int), x4, x5, x6, x7, .pointer (some ⟨q, 0, none⟩)]) → lb - (intOf (((W.setCell ⟨m, 7, none⟩ (.int .i64 (U : Int))).cell? ⟨m, 7, none⟩).getD undef)).toNat < lb - (intOf ((wr.cell? ⟨m, 7, none⟩).getD undef)).toNat) := Lib.hid fun W U hU hX => by
        obtain ⟨x2, x4, x5, x6, x7, hX⟩ := hX
        rw [Hc7.out]
        have : (W.setCell ⟨m, 7, none⟩ (.int .i64 (U : Int))).cell? ⟨m, 7, none⟩ = some (.int .i64 (U : Int)) := by
          rw [(hX.put 7 _).cell 7]
          simp
        rw [this]
        simp [intOf]
        omega
      by_cases hn0 : n = 0
      · subst hn0
        obtain ⟨-, -, -, -, -, -, -, e7, -⟩ := blk9 HM4.out.mb
        have g7 := HM4.out.mb.frozen 7
        go_wp2
        go_roundw
        case rel => exact HSkip.out _ (.inl rfl) HM4.out
        case measure => exact HMeas.out _ u1 (by omega) ⟨_, _, _, _, _, HM4.out.mb⟩
      · have hnp : (0 : Int) < n := by omega
        have hnp' : 0 < n := by omega
        obtain ⟨b1, b2, b3, b4, b5, s', t', hs', ht'⟩ := best_bounds HZ.out hnp' (by rw [Hlb.out]; exact hlt) (by rw [Hla.out]; exact q3) (by rw [Hlb.out]; exact q4) (by rw [Hla.out]; omega) (by rw [Hlb.out]; omega)
        rw [Hlb.out] at b3
        have HPay : Hid (∀ W, Ms w0 m q B A (some ⟨y, o, none⟩) ca cb la lb lk a b kn3 s t told u v' l1 W → Calls Try.prog 34 #[.pointer (some ⟨m, 0, none⟩), .agg #[.int .i64 (k : Int), .int .i64 (n : Int), .int .i64 mv, .slice none 0 0]] W fun e w' => e = .returned (.bool (pay told u (k, n, mv))) ∧ Fr [] W w') := Lib.hid fun W hW =>
          pays_any W m q ca cb la lb lk s t told u y o k n mv A kn3 b1 (by omega) b4 b5 q1 q2 hcb (by omega) hW.mb
        have HS' := Lib.hid hs'
        have HT' := Lib.hid ht'
        have Hb := Lib.hid (And.intro b4 b5)
        clear hs' ht' b4 b5
        go_wp2_with fail
        refine (HPay.out w4 HM4.out).mono ?_
        rintro e w5 ⟨rfl, hf5⟩
        have HM5 := Lib.hid (HM4.out.later hf5)
        have HX5 := Lib.hid (HX4.out.fr hf5 (by simp))
        clear hf5 d0 d1 d2 d3 HM4 HX4
        obtain ⟨d0, d1, d2, d3⟩ := Bps.blk4 HX5.out
        obtain ⟨pb, hpb⟩ : ∃ pb, pay told u (k, n, mv) = pb := ⟨_, rfl⟩
        rw [hpb]
        have Hpb := Lib.hid hpb
        clear hpb
        cases pb with
        | false =>
          obtain ⟨-, -, -, -, -, -, -, e7, -⟩ := blk9 HM5.out.mb
          have g7 := HM5.out.mb.frozen 7
          go_wp2
          go_roundw
          case rel => exact HSkip.out _ (.inr Hpb.out) HM5.out
          case measure => exact HMeas.out _ u1 (by omega) ⟨_, _, _, _, _, HM5.out.mb⟩
        | true =>
          obtain ⟨l2, hl2e⟩ : ∃ l2, l1 ++ (leftL b told u).flatMap Bps.actB = l2 := ⟨_, rfl⟩
          have Hl2e := Lib.hid hl2e
          have HL2 : Hid (l2.length ≤ 20000000) := Lib.hid (by
            have := Hl2.out
            rwa [List.flatMap_append, ← List.append_assoc, Hl1e.out, hl2e] at this)
          have HTL : Hid (Calls Try.prog 35 #[.pointer (some ⟨m, 0, none⟩)] w5 (Told w0 w5 m q B A (some ⟨y, o, none⟩) ca cb la lb lk a b kn3 s t u u l2)) := Lib.hid (by
            rw [← hl2e]
            exact tellLeft_any w0 w5 m q B y o A ca cb la lb lk a b kn3 s t told u v' l1 Hlb.out hcb (by omega) q1 q2 (by have := Hl1.out; omega) (by omega) (by omega) HCD.out HM5.out)
          have HTe : Hid (∀ W v6, Ms w0 m q B A (some ⟨y, o, none⟩) ca cb la lb lk a b kn3 s t u u v6 l2 W → Calls Try.prog 36 #[.pointer (some ⟨m, 0, none⟩), .agg #[.int .i64 (k : Int), .int .i64 (n : Int), .int .i64 mv, .slice none 0 0]] W (Told w0 W m q B A (some ⟨y, o, none⟩) ca cb la lb lk a b kn3 s' t' (u + n) u (l2 ++ Bps.actB (actZ (k, n, mv))))) := Lib.hid fun W v6 hW => by
            rw [actZ_bytes k n mv b2]
            exact tell_any w0 W m q B A (some ⟨y, o, none⟩) ca cb la lb lk a b kn3 s t u u v6 l2 k n 0 0 ((n - 1) * 4 + k) s' t' mv none [] b1 (by omega) (by omega) Hb.out.1 Hb.out.2 rfl rfl (by omega) (fun W' _ => rd_nil W') (fun _ => rfl) (by have := HL2.out; omega) (by omega) (by omega) (by omega) HS'.out HT'.out hW
          clear hl2e
          go_wp2_with fail
          refine HTL.out.mono ?_
          rintro e w6 ⟨rfl, hk6, v6, hm6⟩
          have HM6 := Lib.hid hm6
          have HX6 := Lib.hid (hk6 _ _ HX5.out)
          clear hk6 hm6 d0 d1 d2 d3
          obtain ⟨d0, d1, d2, d3⟩ := Bps.blk4 HX6.out
          go_wp2_with fail
          refine (HTe.out w6 v6 HM6.out).mono ?_
          rintro e w7 ⟨rfl, -, v7, hm7⟩
          obtain ⟨U, hU⟩ : ∃ U, u + n = U := ⟨_, rfl⟩
          rw [hU] at hm7
          have HM7 := Lib.hid hm7
          obtain ⟨-, -, -, -, -, -, e6, e7, -⟩ := blk9 hm7.mb
          have g7 := hm7.mb.frozen 7
          have HNext : Hid (∃ σ kn v', Runs a b σ ∧ Ms w0 m q B A (some ⟨y, o, none⟩) ca cb la lb lk a b kn σ.s σ.t σ.told σ.u v' (l ++ σ.L.flatMap Bps.actB) (w7.setCell ⟨m, 7, none⟩ (.int .i64 (U : Int)))) := Lib.hid (by
            refine ⟨⟨L ++ leftL b told u ++ [actZ (k, n, mv)], U, U, s', t'⟩, kn3, v7, ?_, ?_⟩
            · rw [← hU]
              exact .step _ _ HR.out (.take ⟨L, told, u, s, t⟩ (k, n, mv) s' t' (by rw [Hlb.out]; exact hlt) HZ.out hnp' Hpb.out HS'.out HT'.out)
            · simp only
              have e1 : l ++ (L ++ leftL b told u ++ [actZ (k, n, mv)]).flatMap Bps.actB = l2 ++ Bps.actB (actZ (k, n, mv)) := by
                rw [← Hl2e.out, ← Hl1e.out]
                simp [List.flatMap_append, List.append_assoc]
              rw [e1]
              exact HM7.out.set ((Fr.refl _ _).setCell (by simp) _) (by
                have := HM7.out.mb.put 7 (.int .i64 (U : Int))
                simpa [mkV] using this))
          clear hm7 d0 d1 d2 d3
          go_wp2
          go_roundw
          case rel => exact HNext.out
          case measure => exact HMeas.out _ U (by omega) ⟨_, _, _, _, _, HM7.out.mb⟩
    · obtain rfl : u = lb := by omega
      have hlti : ¬ (u : Int) < u := by omega
      have HEnd : Hid (∀ W, Fr [] wr W → Calls Try.prog 35 #[.pointer (some ⟨m, 0, none⟩)] W (Told w0 W m q B A D ca cb la u lk a b kn s t u u (l1 ++ (leftL b told u).flatMap Bps.actB))) := Lib.hid fun W hW => by
        by_cases hz : told = u
        · subst hz
          exact tellLeft_same w0 W m q B A D ca cb la told lk a b kn s t told v' l1 (HM1.out.later hW)
        · obtain ⟨y, o, rfl, hcD⟩ := HD.out (by rw [Hlb.out]; omega)
          exact tellLeft_any w0 W m q B y o A ca cb la u lk a b kn s t told u v' l1 Hlb.out hcb (by omega) q1 q2 (by have := Hl1.out; omega) (by omega) (by omega) hcD (HM1.out.later hW)
      go_wp2_with fail
      go_quiet (fail)
      have HF2 : Hid (Fr [] wr (wr.drewN nq)) := Lib.hid ((Fr.refl [] wr).drewN nq)
      clear c1 c6 c7
      generalize wr.drewN nq = w2 at *
      go_wp2_with fail
      refine (HEnd.out w2 HF2.out).mono ?_
      rintro e w3 ⟨rfl, -, v3, hm3⟩
      have HE : Hid (Q (.returned (.tuple #[])) w3) := Lib.hid (HQ.out w3 ⟨L, told, u, s, t⟩ kn v3 HR.out rfl (by
        simp only
        rw [List.flatMap_append, ← List.append_assoc, Hl1e.out]
        exact hm3))
      clear hm3
      go_wp2_with fail
      go_end0
      exact HE.out

end Bm
end Go.Proofs.Ytokfcknfkhlmfaa
