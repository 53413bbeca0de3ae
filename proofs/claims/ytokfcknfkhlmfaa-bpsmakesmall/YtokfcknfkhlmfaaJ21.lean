/-
  Contract of bpsmake's tellAll.
  Contract of bps' takeActions (of actions that are there, and that make as many bytes as the patch tells).
-/
import Derived.Test.YtokfcknfkhlmfaaJ20
import Derived.Test.YtokfcknfkhlmfaaJ12
import Derived.Deep.DeepCutAuto
namespace Go.Proofs.Ytokfcknfkhlmfaa
open Go.RowKit
namespace Bm

theorem actZ_bytes (k n : Nat) (mv : Int) (hk : k ≠ 1) : Bps.actB (actZ (k, n, mv)) = Var.putV ((n - 1) * 4 + k) ++ [] ++ if 2 ≤ k then Var.putV (Bps.turnN mv) else [] := by
  unfold Bps.actB Bps.tailB Bps.headN actZ
  simp only [if_neg hk, List.append_nil]

/-- What best tells is within bounds, and leads to places that there are. -/
theorem best_bounds {a b : List UInt8} {u s t k n : Nat} {mv : Int} (h : BestZ a b u s t (k, n, mv)) (hn : 0 < n) (hu : u < b.length) (hs : s ≤ a.length) (ht : t ≤ b.length) (ha : a.length ≤ 16777216) (hb : b.length ≤ 16777216) :
    k < 4 ∧ k ≠ 1 ∧ u + n ≤ b.length ∧ -1073741824 ≤ mv ∧ mv ≤ 1073741824 ∧ ∃ s' t' : Nat, ((s' : Int) = if k = 2 then (s : Int) + (mv + (n : Int)) else (s : Int)) ∧ ((t' : Int) = if k = 3 then (t : Int) + (mv + (n : Int)) else (t : Int)) := by
  rcases best_ok h hn with ⟨h1, h2, h3⟩ | ⟨p, h1, h2, h3, h4, _⟩ | ⟨p, h1, h2, h3, h4, _⟩
  · simp only at h1 h2 h3
    have := fsN_le a b u
    subst h1
    exact ⟨by omega, by omega, by omega, by omega, by omega, s, t, by simp, by simp⟩
  · simp only at h1 h2 h3 h4
    subst h1
    exact ⟨by omega, by omega, by omega, by omega, by omega, p + n, t, by rw [if_pos rfl]; omega, by simp⟩
  · simp only at h1 h2 h3 h4
    subst h1
    exact ⟨by omega, by omega, by omega, by omega, by omega, s, p + n, by simp, by rw [if_pos rfl]; omega⟩

/-- What tellAll leaves. -/
def ToldAll (w0 : World) (m q B : Nat) (A D : Option Addr) (ca cb la lb lk : Nat) (a b : List UInt8) (l : List UInt8) (e : Ending) (w' : World) : Prop :=
  e = .returned (.tuple #[]) ∧ ∃ σ kn v, Runs a b σ ∧ σ.u = lb ∧ Ms w0 m q B A D ca cb la lb lk a b kn σ.s σ.t lb lb v (l ++ (σ.L ++ leftL b σ.told lb).flatMap Bps.actB) w'

set_option maxRecDepth 100000 in
set_option maxHeartbeats 4000000 in
theorem tellAll_any (w0 w : World) (m q B : Nat) (A D : Option Addr) (ca cb la lb lk : Nat) (a b : List UInt8) (v : Value) (l : List UInt8) (hla : a.length = la) (hlb : b.length = lb) (hca : la ≤ ca) (hcb : lb ≤ cb) (hna : la ≤ 1000000) (hnb : lb ≤ 1000000) (hlk : lk ≤ 1000000000) (hlk1 : 1 ≤ lk) (hl : l.length ≤ 10000000)
    (hA : Rd w0 A a) (hD : Rd w0 D b) (h : Ms w0 m q B A D ca cb la lb lk a b none 0 0 0 0 v l w) :
    Calls Try.prog 18 #[.pointer (some ⟨m, 0, none⟩)] w (ToldAll w0 m q B A D ca cb la lb lk a b l) := by
  have HA := Lib.hid hA
  have HD := Lib.hid hD
  have Hla := Lib.hid hla
  have Hlb := Lib.hid hlb
  have HI : Hid (∀ σ, Runs a b σ → Inv a b σ) := Lib.hid fun σ h => runs_inv (by omega) (by omega) h
  have HLen : Hid (∀ σ, Runs a b σ → (l ++ σ.L.flatMap Bps.actB).length ≤ 20000000 ∧ (l ++ (σ.L ++ leftL b σ.told σ.u).flatMap Bps.actB).length ≤ 20000000) := Lib.hid fun σ h => by
    have h1 := HI.out σ h
    have h2 := h1.size
    have h3 := h1.le1
    have h4 := h1.le2
    have h5 := (h1.left (by omega)).size
    rw [List.length_append, List.length_append]
    omega
  have HQ : Hid (∀ W σ kn v, Runs a b σ → σ.u = lb → Ms w0 m q B A D ca cb la lb lk a b kn σ.s σ.t lb lb v (l ++ (σ.L ++ leftL b σ.told lb).flatMap Bps.actB) W → ToldAll w0 m q B A D ca cb la lb lk a b l (.returned (.tuple #[])) W) := Lib.hid fun W σ kn v h1 h2 h3 => ⟨rfl, σ, kn, v, h1, h2, h3⟩
  generalize ToldAll w0 m q B A D ca cb la lb lk a b l = Q at *
  have HM := Lib.hid h
  clear h hA hD hla hlb
  go_enter Try.func18, Try.ntmps18
  go_wp2_with fail
  go_loopw [2] (fun _ wr => ∃ σ kn v', Runs a b σ ∧ Ms w0 m q B A D ca cb la lb lk a b kn σ.s σ.t σ.told σ.u v' (l ++ σ.L.flatMap Bps.actB) wr) (fun _ wr => lb - (intOf ((wr.cell? ⟨m, 7, none⟩).getD undef)).toNat)
  case atStart => exact ⟨⟨[], 0, 0, 0, 0⟩, none, v, .start, by simpa using HM.out⟩
  case round =>
    obtain ⟨σ, kn, v', hR, hM⟩ := hrel
    have HR := Lib.hid hR
    have HM1 := Lib.hid hM
    clear hR hM HM
    obtain ⟨L, told, u, s, t⟩ := σ
    simp only at HM1
    have hinv := HI.out _ HR.out
    obtain ⟨q1, q2, q3, q4⟩ : told ≤ u ∧ u ≤ lb ∧ s ≤ la ∧ t ≤ lb := ⟨hinv.le1, by have := hinv.le2; rwa [Hlb.out] at this, by have := hinv.hs; rwa [Hla.out] at this, by have := hinv.ht; rwa [Hlb.out] at this⟩
    obtain ⟨hl1, hl2⟩ := HLen.out _ HR.out
    simp only at hl1 hl2
    obtain ⟨l1, hl1e⟩ : ∃ l1, l ++ L.flatMap Bps.actB = l1 := ⟨_, rfl⟩
    rw [hl1e] at HM1 hl1
    have Hl1e := Lib.hid hl1e
    have Hl1 := Lib.hid hl1
    have Hl2 := Lib.hid hl2
    clear hinv hl1e hl1 hl2
    obtain ⟨-, c1, -, -, -, -, c6, c7, -⟩ := blk9 HM1.out.mb
    have Hc7 := Lib.hid c7
    by_cases hlt : u < lb
    · have hlti : (u : Int) < lb := by omega
      obtain ⟨y, o, rfl, hcD⟩ := HD.out (by rw [Hlb.out]; omega)
      have HCD := Lib.hid hcD
      have HBest : Hid (∀ W, Fr [] wr W → Calls Try.prog 33 #[.pointer (some ⟨m, 0, none⟩)] W (Bested W m A (some ⟨y, o, none⟩) ca cb la lb lk s t told u q a b)) := Lib.hid fun W hW => by
        have hM2 := HM1.out.later hW
        exact best_any W m ca cb la lb lk s t told u q A (some ⟨y, o, none⟩) kn a b Hla.out Hlb.out hca hcb (by omega) hlt (by omega) hlk hlk1 (by omega) (by omega) (fun W' hW' => HA.out.later (hM2.fr.trans hW' (by simp; exact hM2.hm)) (by simp)) (fun W' hW' => HD.out.later (hM2.fr.trans hW' (by simp; exact hM2.hm)) (by simp)) hM2.mb hM2.kn
      clear hcD
      go_wp2_with fail
      go_quiet (fail)
      have HF2 : Hid (Fr [] wr (wr.drewN nq)) := Lib.hid ((Fr.refl [] wr).drewN nq)
      have HM2 := Lib.hid (HM1.out.later HF2.out)
      clear c1 c6 c7
      generalize wr.drewN nq = w2 at *
      go_wp2_with fail
      refine (HBest.out w2 HF2.out).mono ?_
      rintro e w3 ⟨⟨k, n, mv⟩, kn3, rfl, hz, hm3, hk3, hf3⟩
      have HZ := Lib.hid hz
      have HM3 := Lib.hid (HM2.out.turned hf3 hm3 hk3)
      clear hz hm3 hk3 hf3 HM2
      unfold aV
      simp only
      obtain ⟨s3, hs3⟩ : ∃ s3, w3.heap.size = s3 := ⟨_, rfl⟩
      go_upto_region 2 with fail
      have hx4 := Blk.fresh w3 82 #[.int .i64 (k : Int), .int .i64 (n : Int), .int .i64 mv, .slice none 0 0]
      rw [hs3] at hx4
      have HX4 := Lib.hid hx4
      have HM4 := Lib.hid (HM3.out.later ((Fr.refl [] w3).alloc (.cells #[.int .i64 (k : Int), .int .i64 (n : Int), .int .i64 mv, .slice none 0 0] 82)))
      clear hx4 HM3
      generalize w3.alloc _ = w4 at *
      obtain ⟨d0, d1, d2, d3⟩ := Bps.blk4 HX4.out
      obtain ⟨u1, hu1⟩ : ∃ u1, u + 1 = u1 := ⟨_, rfl⟩
      have hu2 : (u : Int) + 1 = (u1 : Int) := by omega
      have hu3 : IntKind.i64.wrap (u1 : Int) = (u1 : Int) := by rw [IntKind.wrap_i64]; omega
      have HSkip : Hid (∀ W, (n = 0 ∨ pay told u (k, n, mv) = false) → Ms w0 m q B A (some ⟨y, o, none⟩) ca cb la lb lk a b kn3 s t told u v' l1 W → ∃ σ kn v', Runs a b σ ∧ Ms w0 m q B A (some ⟨y, o, none⟩) ca cb la lb lk a b kn σ.s σ.t σ.told σ.u v' (l ++ σ.L.flatMap Bps.actB) (W.setCell ⟨m, 7, none⟩ (.int .i64 (u1 : Int)))) := Lib.hid fun W hp hW => by
        refine ⟨⟨L, told, u1, s, t⟩, kn3, v', ?_, ?_⟩
        · rw [← hu1]
          exact .step _ _ HR.out (.skip ⟨L, told, u, s, t⟩ (k, n, mv) (by rw [Hlb.out]; exact hlt) HZ.out hp)
        · simp only
          rw [Hl1e.out]
          exact hW.set ((Fr.refl _ _).setCell (by simp) _) (by
            have := hW.mb.put 7 (.int .i64 (u1 : Int))
            simpa [mkV] using this)
      have HMeas : Hid (∀ (W : World) (U : Nat), u < U → (∃ x2 x4 x5 x6 x7, Blk W m 92 #[.slice A la ca, .slice (some ⟨y, o, none⟩) lb cb, x2, .int .i64 (lk : Int), x4, x5, x6, x7, .pointer (some ⟨q, 0, none⟩)]) → lb - (intOf (((W.setCell ⟨m, 7, none⟩ (.int .i64 (U : Int))).cell? ⟨m, 7, none⟩).getD undef)).toNat < lb - (intOf ((wr.cell? ⟨m, 7, none⟩).getD undef)).toNat) := Lib.hid fun W U hU hX => by
        obtain ⟨x2, x4, x5, x6, x7, hX⟩ := hX
        rw [Hc7.out]
        have : (W.setCell ⟨m, 7, none⟩ (.int .i64 (U : Int))).cell? ⟨m, 7, none⟩ = some (.int .i64 (U : Int)) := by
          rw [(hX.put 7 _).cell 7]
          simp
        rw [this]
        simp [intOf]
        omega
      by_cases hn0 : n = 0
      · subst hn0
        obtain ⟨-, -, -, -, -, -, -, e7, -⟩ := blk9 HM4.out.mb
        have g7 := HM4.out.mb.frozen 7
        go_wp2
        go_roundw
        case rel => exact HSkip.out _ (.inl rfl) HM4.out
        case measure => exact HMeas.out _ u1 (by omega) ⟨_, _, _, _, _, HM4.out.mb⟩
      · have hnp : (0 : Int) < n := by omega
        have hnp' : 0 < n := by omega
        obtain ⟨b1, b2, b3, b4, b5, s', t', hs', ht'⟩ := best_bounds HZ.out hnp' (by rw [Hlb.out]; exact hlt) (by rw [Hla.out]; exact q3) (by rw [Hlb.out]; exact q4) (by rw [Hla.out]; omega) (by rw [Hlb.out]; omega)
        rw [Hlb.out] at b3
        have HPay : Hid (∀ W, Ms w0 m q B A (some ⟨y, o, none⟩) ca cb la lb lk a b kn3 s t told u v' l1 W → Calls Try.prog 34 #[.pointer (some ⟨m, 0, none⟩), .agg #[.int .i64 (k : Int), .int .i64 (n : Int), .int .i64 mv, .slice none 0 0]] W fun e w' => e = .returned (.bool (pay told u (k, n, mv))) ∧ Fr [] W w') := Lib.hid fun W hW =>
          pays_any W m q ca cb la lb lk s t told u y o k n mv A kn3 b1 (by omega) b4 b5 q1 q2 hcb (by omega) hW.mb
        have HS' := Lib.hid hs'
        have HT' := Lib.hid ht'
        have Hb := Lib.hid (And.intro b4 b5)
        clear hs' ht' b4 b5
        go_wp2_with fail
        refine (HPay.out w4 HM4.out).mono ?_
        rintro e w5 ⟨rfl, hf5⟩
        have HM5 := Lib.hid (HM4.out.later hf5)
        have HX5 := Lib.hid (HX4.out.fr hf5 (by simp))
        clear hf5 d0 d1 d2 d3 HM4 HX4
        obtain ⟨d0, d1, d2, d3⟩ := Bps.blk4 HX5.out
        obtain ⟨pb, hpb⟩ : ∃ pb, pay told u (k, n, mv) = pb := ⟨_, rfl⟩
        rw [hpb]
        have Hpb := Lib.hid hpb
        clear hpb
        cases pb with
        | false =>
          obtain ⟨-, -, -, -, -, -, -, e7, -⟩ := blk9 HM5.out.mb
          have g7 := HM5.out.mb.frozen 7
          go_wp2
          go_roundw
          case rel => exact HSkip.out _ (.inr Hpb.out) HM5.out
          case measure => exact HMeas.out _ u1 (by omega) ⟨_, _, _, _, _, HM5.out.mb⟩
        | true =>
          obtain ⟨l2, hl2e⟩ : ∃ l2, l1 ++ (leftL b told u).flatMap Bps.actB = l2 := ⟨_, rfl⟩
          have Hl2e := Lib.hid hl2e
          have HL2 : Hid (l2.length ≤ 20000000) := Lib.hid (by
            have := Hl2.out
            rwa [List.flatMap_append, ← List.append_assoc, Hl1e.out, hl2e] at this)
          have HTL : Hid (Calls Try.prog 35 #[.pointer (some ⟨m, 0, none⟩)] w5 (Told w0 w5 m q B A (some ⟨y, o, none⟩) ca cb la lb lk a b kn3 s t u u l2)) := Lib.hid (by
            rw [← hl2e]
            exact tellLeft_any w0 w5 m q B y o A ca cb la lb lk a b kn3 s t told u v' l1 Hlb.out hcb (by omega) q1 q2 (by have := Hl1.out; omega) (by omega) (by omega) HCD.out HM5.out)
          have HTe : Hid (∀ W v6, Ms w0 m q B A (some ⟨y, o, none⟩) ca cb la lb lk a b kn3 s t u u v6 l2 W → Calls Try.prog 36 #[.pointer (some ⟨m, 0, none⟩), .agg #[.int .i64 (k : Int), .int .i64 (n : Int), .int .i64 mv, .slice none 0 0]] W (Told w0 W m q B A (some ⟨y, o, none⟩) ca cb la lb lk a b kn3 s' t' (u + n) u (l2 ++ Bps.actB (actZ (k, n, mv))))) := Lib.hid fun W v6 hW => by
            rw [actZ_bytes k n mv b2]
            exact tell_any w0 W m q B A (some ⟨y, o, none⟩) ca cb la lb lk a b kn3 s t u u v6 l2 k n 0 0 ((n - 1) * 4 + k) s' t' mv none [] b1 (by omega) (by omega) Hb.out.1 Hb.out.2 rfl rfl (by omega) (fun W' _ => rd_nil W') (fun _ => rfl) (by have := HL2.out; omega) (by omega) (by omega) (by omega) HS'.out HT'.out hW
          clear hl2e
          go_wp2_with fail
          refine HTL.out.mono ?_
          rintro e w6 ⟨rfl, hk6, v6, hm6⟩
          have HM6 := Lib.hid hm6
          have HX6 := Lib.hid (hk6 _ _ HX5.out)
          clear hk6 hm6 d0 d1 d2 d3
          obtain ⟨d0, d1, d2, d3⟩ := Bps.blk4 HX6.out
          go_wp2_with fail
          refine (HTe.out w6 v6 HM6.out).mono ?_
          rintro e w7 ⟨rfl, -, v7, hm7⟩
          obtain ⟨U, hU⟩ : ∃ U, u + n = U := ⟨_, rfl⟩
          rw [hU] at hm7
          have HM7 := Lib.hid hm7
          obtain ⟨-, -, -, -, -, -, e6, e7, -⟩ := blk9 hm7.mb
          have g7 := hm7.mb.frozen 7
          have HNext : Hid (∃ σ kn v', Runs a b σ ∧ Ms w0 m q B A (some ⟨y, o, none⟩) ca cb la lb lk a b kn σ.s σ.t σ.told σ.u v' (l ++ σ.L.flatMap Bps.actB) (w7.setCell ⟨m, 7, none⟩ (.int .i64 (U : Int)))) := Lib.hid (by
            refine ⟨⟨L ++ leftL b told u ++ [actZ (k, n, mv)], U, U, s', t'⟩, kn3, v7, ?_, ?_⟩
            · rw [← hU]
              exact .step _ _ HR.out (.take ⟨L, told, u, s, t⟩ (k, n, mv) s' t' (by rw [Hlb.out]; exact hlt) HZ.out hnp' Hpb.out HS'.out HT'.out)
            · simp only
              have e1 : l ++ (L ++ leftL b told u ++ [actZ (k, n, mv)]).flatMap Bps.actB = l2 ++ Bps.actB (actZ (k, n, mv)) := by
                rw [← Hl2e.out, ← Hl1e.out]
                simp [List.flatMap_append, List.append_assoc]
              rw [e1]
              exact HM7.out.set ((Fr.refl _ _).setCell (by simp) _) (by
                have := HM7.out.mb.put 7 (.int .i64 (U : Int))
                simpa [mkV] using this))
          clear hm7 d0 d1 d2 d3
          go_wp2
          go_roundw
          case rel => exact HNext.out
          case measure => exact HMeas.out _ U (by omega) ⟨_, _, _, _, _, HM7.out.mb⟩
    · obtain rfl : u = lb := by omega
      have hlti : ¬ (u : Int) < u := by omega
      have HEnd : Hid (∀ W, Fr [] wr W → Calls Try.prog 35 #[.pointer (some ⟨m, 0, none⟩)] W (Told w0 W m q B A D ca cb la u lk a b kn s t u u (l1 ++ (leftL b told u).flatMap Bps.actB))) := Lib.hid fun W hW => by
        by_cases hz : told = u
        · subst hz
          exact tellLeft_same w0 W m q B A D ca cb la told lk a b kn s t told v' l1 (HM1.out.later hW)
        · obtain ⟨y, o, rfl, hcD⟩ := HD.out (by rw [Hlb.out]; omega)
          exact tellLeft_any w0 W m q B y o A ca cb la u lk a b kn s t told u v' l1 Hlb.out hcb (by omega) q1 q2 (by have := Hl1.out; omega) (by omega) (by omega) hcD (HM1.out.later hW)
      go_wp2_with fail
      go_quiet (fail)
      have HF2 : Hid (Fr [] wr (wr.drewN nq)) := Lib.hid ((Fr.refl [] wr).drewN nq)
      clear c1 c6 c7
      generalize wr.drewN nq = w2 at *
      go_wp2_with fail
      refine (HEnd.out w2 HF2.out).mono ?_
      rintro e w3 ⟨rfl, -, v3, hm3⟩
      have HE : Hid (Q (.returned (.tuple #[])) w3) := Lib.hid (HQ.out w3 ⟨L, told, u, s, t⟩ kn v3 HR.out rfl (by
        simp only
        rw [List.flatMap_append, ← List.append_assoc, Hl1e.out]
        exact hm3))
      clear hm3
      go_wp2_with fail
      go_end0
      exact HE.out

end Bm
end Go.Proofs.Ytokfcknfkhlmfaa

namespace Go.Proofs.Ytokfcknfkhlmfaa
open Go.RowKit
namespace Bps
open Acts (ActOwn ActRd zeroV)

theorem infoA : (Try.prog.info? 82).map (fun i => (i.zero, i.size, i.bytes)) = some (some zeroV, 4, 48) := by kernel_rfl

theorem total_ge (L : List Act) (h : ∀ a ∈ L, 1 ≤ a.len) : L.length ≤ total L := by
  induction L with
  | nil => simp
  | cons a l ih =>
    have h1 := h a (List.mem_cons_self ..)
    have h2 := ih fun x hx => h x (List.mem_cons_of_mem _ hx)
    simp only [List.length_cons, total]
    omega

/-- What holds ahead of each action. -/
structure TakeInv (w : World) (q p g : Nat) (l : List UInt8) (i o : Nat) (s1 s2 : BitVec 32) (M : Value) (L : List Act) (wr : World) (k : Nat) (done rest : List Act) (V : Value) : Prop where
  split : L = done ++ rest
  ok : ∀ a ∈ rest, Ok a
  place : k ≤ l.length
  bytes : l.drop k = rest.flatMap actB
  rdr : Rdr wr p g l k
  pat : Blk wr q 70 (patV i o s1 s2 M V)
  own : ActOwn wr w.heap.size 82 V done
  fr : Fr [p, q] w wr

set_option maxRecDepth 100000 in
set_option maxHeartbeats 2000000 in
theorem takeActions_ok (w : World) (q p g k : Nat) (l : List UInt8) (i o : Nat) (s1 s2 : BitVec 32) (M : Value) (L : List Act) (hP : Blk w q 70 (patV i o s1 s2 M (.slice none 0 0))) (h : Rdr w p g l k) (hk : k ≤ l.length) (hl : l.length ≤ 1000000000) (hd : l.drop k = L.flatMap actB) (hok : ∀ a ∈ L, Ok a) (ho : total L = o) (hom : o ≤ 16777216) :
    Calls Try.prog 42 #[.pointer (some ⟨q, 0, none⟩), .pointer (some ⟨p, 0, none⟩)] w fun e w' => ∃ V, e = .returned (.int .i64 0) ∧ Blk w' q 70 (patV i o s1 s2 M V) ∧ ActOwn w' w.heap.size 82 V L ∧ Fr [p, q] w w' := by
  obtain ⟨i0, hi, hz0, hz1, hz2⟩ := info_parts infoA
  have HI0 : Hid (TakeInv w q p g l i o s1 s2 M L w k [] L (.slice none 0 0)) := Lib.hid ⟨rfl, hok, hk, hd, h, hP, ActOwn.none_ _ _ _, Fr.refl _ _⟩
  have hne : q ≠ p := hP.other h.1 (by decide)
  have hqg : q ≠ g := fun e => by subst e; exact (hP.other h.2 (by decide)) rfl
  have hql := hP.lt
  have hpl := h.1.lt
  have hgl := h.2.lt
  have c1 := hP.cell 1
  simp [patV] at c1
  clear h hP hd hk
  go_enter Try.func42, Try.ntmps42
  go_wp2_with fail
  go_loopw [5] (fun s wr => ∃ k done rest V, s = .int .i64 ((total rest : Nat) : Int) ∧ TakeInv w q p g l i o s1 s2 M L wr k done rest V) (fun s _ => (intOf s).toNat)
  case atStart => exact ⟨k, [], L, _, by rw [ho], HI0.out⟩
  case round =>
    obtain ⟨k, done, rest, V, rfl, hI⟩ := hrel
    have HI := Lib.hid hI
    have HLeft := Lib.hid (left_any wr p g k l hI.rdr hI.place hl)
    clear HI0 hI c1
    cases rest with
    | nil =>
      have hkl : k = l.length := by
        have e := congrArg List.length HI.out.bytes
        have := HI.out.place
        simp at e
        omega
      have e0 : ¬ (0 : Int) < (l.length : Int) - k := by omega
      simp only [total]
      go_wp2_with fail
      refine HLeft.out.mono ?_
      rintro e w1 ⟨rfl, nd, rfl⟩
      clear HLeft
      go_wp2
      go_ret
      have hdr : Fr [] wr (wr.drewN nd) := (Fr.refl [] wr).drewN nd
      have hs := HI.out.split
      rw [List.append_nil] at hs
      rw [hs]
      exact ⟨V, rfl, HI.out.pat.fr hdr (by simp), HI.out.own.fr hdr (by simp), HI.out.fr.tr hdr.nil⟩
    | cons a rest =>
      have ha := HI.out.ok a (List.mem_cons_self ..)
      have hb := HI.out.bytes
      rw [List.flatMap_cons] at hb
      have hpos := ha.pos
      have hk2 : k + (actB a).length ≤ l.length := by
        have e := congrArg List.length hb
        have := HI.out.place
        rw [List.length_drop, List.length_append] at e
        omega
      have hap : 1 ≤ (actB a).length := by unfold actB; rw [List.length_append]; have := Var.putV_pos (headN a); omega
      have hd2 : l.drop (k + (actB a).length) = rest.flatMap actB := by rw [← List.drop_drop, hb, List.drop_left]
      have HD2 := Lib.hid hd2
      have Ha := Lib.hid ha
      have HB := Lib.hid hb
      have htl : total (a :: rest) ≤ 16777216 := by
        have := HI.out.split
        rw [← ho, this, total_append] at hom
        omega
      simp only [total] at htl
      have htot : total (a :: rest) = a.len + total rest := rfl
      rw [htot]
      have hroom : a.len ≤ a.len + total rest := by omega
      have hsub : ((a.len + total rest : Nat) : Int) - (a.len : Int) = (total rest : Int) := by omega
      obtain ⟨tr, htr⟩ : ∃ tr, total rest = tr := ⟨_, rfl⟩
      rw [htr] at htl hroom hsub ⊢
      have HTr := Lib.hid htr
      clear htr
      generalize hRm : a.len + tr = room at *
      have e0 : (0 : Int) < (l.length : Int) - k := by omega
      clear htot hd2 ha hb
      go_wp2_with fail
      refine HLeft.out.mono ?_
      rintro e w1 ⟨rfl, nd, rfl⟩
      have hdr : Fr [] wr (wr.drewN nd) := (Fr.refl [] wr).drewN nd
      have HR1 := Lib.hid (HI.out.rdr.fr hdr (by simp) (by simp))
      have HP1 := Lib.hid (HI.out.pat.fr hdr (by simp))
      have HO1 := Lib.hid (HI.out.own.fr hdr (by simp))
      have HF1 := Lib.hid (HI.out.fr.tr hdr.nil)
      generalize wr.drewN nd = w1 at *
      clear HLeft hdr
      go_wp2_with fail
      refine (takeAction_ok w1 p g k room l (rest.flatMap actB) a Ha.out HR1.out HI.out.place hl HB.out hroom).mono ?_
      rintro e w2 ⟨D, c, rfl, hD1, hD2, hD3, hr2, hf2⟩
      have hs1 : w.heap.size ≤ w1.heap.size := HF1.out.size
      have HR2 := Lib.hid hr2
      have hp2 := HP1.out.fr hf2 (by simp; exact hne)
      have HO2 := Lib.hid (HO1.out.fr hf2 (by simp; omega))
      have HF2 := Lib.hid (HF1.out.trans (S := [p, q]) hf2 (by simp))
      have HD1 := Lib.hid hD1
      have HD2' := Lib.hid hD2
      have HD3 := Lib.hid hD3
      have hs2 : w1.heap.size ≤ w2.heap.size := hf2.size
      obtain ⟨A, cap, rfl, -⟩ := HO2.out.slice
      have HP2 := Lib.hid hp2
      have hql2 : q < w2.heap.size := by omega
      have c5 := hp2.cell 5
      have f5 := hp2.frozen 5
      simp [patV] at c5
      clear hr2 hp2 hf2 hD1 hD2 hD3 HR1 HP1 HF1
      unfold actA
      go_upto_region 7 with fail
      have hal : Fr [] w2 (w2.alloc (.cells #[.int .i64 (a.kind : Int), .int .i64 (a.len : Int), .int .i64 a.move, .slice D a.data.length c] 82)) := (Fr.refl [] w2).alloc _
      have hn3 := Blk.fresh w2 82 #[.int .i64 (a.kind : Int), .int .i64 (a.len : Int), .int .i64 a.move, .slice D a.data.length c]
      obtain ⟨b6, hb6⟩ : ∃ b6, w2.heap.size = b6 := ⟨_, rfl⟩
      rw [hb6] at hn3 ⊢
      have HR3 := Lib.hid (HR2.out.fr hal (by simp) (by simp))
      have hp3 := HP2.out.fr hal (by simp)
      have HO3 := Lib.hid (HO2.out.fr hal (by simp))
      have HF3 := Lib.hid (HF2.out.tr hal.nil)
      have HG : Hid (∀ W, Fr [] w2 W → Acts.Good W w.heap.size (.slice A done.length cap) (a, D, c)) := Lib.hid fun W hW => Acts.good_new HO1.out a hs1 HD1.out HD2'.out HD3.out hW (by simp)
      have HA := Lib.hid hal
      generalize w2.alloc (.cells #[.int .i64 (a.kind : Int), .int .i64 (a.len : Int), .int .i64 a.move, .slice D a.data.length c] 82) = w3 at *
      obtain ⟨y0, y1, y2, y3⟩ := blk4 hn3
      have HP3 := Lib.hid hp3
      have c5 := hp3.cell 5
      have f5 := hp3.frozen 5
      simp [patV] at c5
      have HL := Lib.hid (Acts.act_laid w3 (a, D, c) 82 a.data.length w3.heap.size rfl rfl)
      have hdl : done.length ≤ 16777216 := by
        have h1 := total_ge L (fun a ha => (hok a ha).pos)
        have h2 := congrArg List.length HI.out.split
        rw [List.length_append] at h2
        omega
      obtain ⟨N, hN⟩ : ∃ N, done.length = N := ⟨_, rfl⟩
      rw [hN] at HO3 HG HP3 c5 hdl
      have HN := Lib.hid hN
      have hs3 : w.heap.size ≤ w3.heap.size := HF3.out.size
      have hq1 : q < w3.heap.size := by omega
      have hq2 : ¬ q = w3.heap.size := by omega
      have hq3 : ¬ w3.heap.size = q := by omega
      clear hn3 hp3 HR2 HP2 HO2 HF2 HO1 hal hN
      go_region_law (refine Acts.step_acts _ rfl (.tmp 32) (.tmp 34) 68 rfl w.heap.size 82 i0 Try.underlying68 hi hz0 hz1 hz2 (.slice A N cap) done (N + 1) (by rw [HN.out]) (by rfl) (HO3.out.fr (((Fr.refl [] w3).alloc _).drew) (by simp)) w3.heap.size 1 (a, D, c) (by rfl) HL.out (HG.out _ (HA.out.tr (((Fr.refl [] w3).alloc _).drew))) (by rw [HN.out]; omega) (by simp; omega) ?_; intro A' cap' w4 ho4 hf4; have hf4' := (((Fr.refl [] w3).alloc (.cells #[.int .i64 (a.kind : Int), .int .i64 (a.len : Int), .int .i64 a.move, .slice D a.data.length c] 82)).drew).nil.tr hf4; have hx4 : ∀ k, k < w.heap.size → k ∉ (Value.slice A N cap).ownBlock.toList := (fun k hk hm => by have := HO3.out.fresh k hm; omega); have hp4 := HP3.out.fr hf4' (hx4 q hql); have c5' := hp4.cell 5; have f5' := hp4.frozen 5; simp [patV] at c5'; have HP4 := Lib.hid hp4; have HO4 := Lib.hid ho4; have HR4 := Lib.hid (HR3.out.fr hf4' (hx4 p hpl) (hx4 g hgl)); have HF4 := Lib.hid (HF3.out.trans (S := [p, q]) hf4' (fun k hk => .inr (HO3.out.fresh k hk))); clear hf4 hf4' hx4 hp4 ho4)
      all_goals
        go_wp2
        go_roundw
        case rel =>
          have hst : Fr [q] w4 (w4.setCell ⟨q, 5, none⟩ (.slice A' (N + 1) cap')) := (Fr.refl [q] w4).setCell (by simp) _
          have hb := HP4.out.put 5 (.slice A' (N + 1) cap')
          simp only [patV, List.setIfInBounds_toArray, List.set_cons_zero, List.set_cons_succ] at hb
          refine ⟨k + (actB a).length, done ++ [a], rest, .slice A' (N + 1) cap', by rw [HTr.out], ⟨by rw [HI.out.split]; simp, fun x hx => HI.out.ok x (List.mem_cons_of_mem _ hx), hk2, HD2.out, HR4.out.fr hst (by simp; exact fun e => hne e.symm) (by simp; exact fun e => hqg e.symm), hb, HO4.out.fr hst (by simp; exact .inl hql), HF4.out.trans (S := [p, q]) hst (by simp)⟩⟩
        case measure => simp [intOf]; omega

end Bps
end Go.Proofs.Ytokfcknfkhlmfaa
