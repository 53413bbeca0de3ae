/-
  Contract of the document's Parse of patches (picklockref04).
-/
import Derived.Test.YtchakjknndpmpaaIpsParse
import Derived.Deep.DeepCutAuto
import Derived.Deep.LoopGhost
namespace Go.Proofs.Ytchakjknndpmpaa
open Go.RowKit
namespace Ips

theorem infoD : (Try.prog.info? 34).map (fun i => (i.zero, i.size, i.bytes)) = some (some (.agg #[.int .i64 0, .int .i64 0, .slice none 0 0]), 3, 40) := by kernel_rfl

set_option maxRecDepth 100000 in
set_option maxHeartbeats 4000000 in
theorem refparse_long (w : World) (A : Option Addr) (n c : Nat) (l : List UInt8) (hn : l.length = n) (hl : 16777216 < n) :
    Calls Try.prog 10 #[.slice A n c] w (Parsed w (parse l)) := by
  have HA := Lib.hid (parse_large l (by omega))
  generalize parse l = O at *
  have hl' : 16777216 < (n : Int) := by omega
  go_enter Try.func10, Try.ntmps10
  go_wp2
  go_ret3
  rw [HA.out]
  exact ⟨none, 0, rfl, recRd_nil _ _, Fr.refl _ _⟩

set_option maxRecDepth 100000 in
set_option maxHeartbeats 4000000 in
theorem refparse_nohead (w : World) (A : Option Addr) (n c : Nat) (l : List UInt8) (hn : l.length = n) (h : Rd w A l) (hc : n ≤ c) (hl : n ≤ 16777216) (hp : l.take 5 ≠ patch) :
    Calls Try.prog 10 #[.slice A n c] w (Parsed w (parse l)) := by
  have HA := Lib.hid (parse_head l (by omega) hp)
  generalize parse l = O at *
  have hl' : ¬ 16777216 < (n : Int) := by omega
  by_cases h5 : n < 5
  · have h5' : (n : Int) < 5 := by omega
    go_enter Try.func10, Try.ntmps10
    go_wp2
    go_ret3
    rw [HA.out]
    exact ⟨none, 0, rfl, recRd_nil _ _, Fr.refl _ _⟩
  · have h5' : ¬ (n : Int) < 5 := by omega
    have hs := fun c => run_str (P := Try.prog) (w := w) 22 9 5 (cap := c) Try.underlying22 Try.underlying5 Try.underlying9 (rd_take h 5)
    rw [show (l.take 5).length = 5 by simp; omega] at hs
    have hne : (l.take 5 == [80, 65, 84, 67, 72]) = false := by simpa [patch] using hp
    have hc5 : 5 ≤ c := by omega
    have hc5' : (5 : Int) ≤ c := by omega
    obtain ⟨b, o, rfl, _⟩ := h (by omega)
    clear h hp
    go_enter Try.func10, Try.ntmps10
    go_wp2
    go_ret3
    rw [HA.out]
    exact ⟨none, 0, rfl, recRd_nil _ _, Fr.refl _ _⟩

/-- What holds ahead of each record. -/
structure InvD (w : World) (l : List UInt8) (O : Int ⊕ (List Rec × Nat)) (u i : Value) (wr : World) (f k : Nat) (acc : List Rec) : Prop where
  place : k ≤ l.length
  fuel : l.length < f + k
  rest : O = pre acc (recs l f k)
  few : acc.length ≤ k
  num_ : i = .int .i64 (k : Int)
  own : RecOwn wr w.heap.size 34 u acc
  fr : Fr [] w wr

set_option maxRecDepth 100000 in
set_option maxHeartbeats 20000000 in
theorem refparse_head (w : World) (A : Option Addr) (n c : Nat) (l : List UInt8) (hn : l.length = n) (h : Rd w A l) (hc : n ≤ c) (hl : n ≤ 16777216) (hp : l.take 5 = patch) :
    Calls Try.prog 10 #[.slice A n c] w (Parsed w (parse l)) := by
  obtain ⟨i0, hi, hz0, hz1, hz2⟩ := info_parts infoD
  obtain ⟨j0, hj, hj0, hj1, hj2⟩ := info_parts info5
  have HP := Lib.hid hp
  have HA : Hid (∀ O, recs l (l.length + 1) 5 = O → parse l = match O with | .inl e => (e, [], 0) | .inr (rs, k) => tailOf l rs k) := Lib.hid fun O hO => by
    subst hO
    simp [parse, hp, show ¬ 16777216 < l.length by omega]
    rfl
  have HQ : Hid (∃ O, recs l (l.length + 1) 5 = O) := Lib.hid ⟨_, rfl⟩
  obtain ⟨O, hO⟩ := HQ.out
  have HO := Lib.hid hO
  have HZ := Lib.hid (HA.out O hO)
  clear HA HQ hO
  generalize parse l = Z at *
  have hl' : ¬ 16777216 < (n : Int) := by omega
  have h5 : 5 ≤ l.length := by have := congrArg List.length hp; simp [patch] at this; omega
  have h5' : ¬ (n : Int) < 5 := by omega
  have hs := fun c => run_str (P := Try.prog) (w := w) 22 9 5 (cap := c) Try.underlying22 Try.underlying5 Try.underlying9 (rd_take h 5)
  rw [show (l.take 5).length = 5 by simp; omega] at hs
  have hne : (l.take 5 == [80, 65, 84, 67, 72]) = true := by simp [hp, patch]
  have hc5 : 5 ≤ c := by omega
  have hc5' : (5 : Int) ≤ c := by omega
  have HR := Lib.hid h
  obtain ⟨b, o, rfl, _⟩ := h (by omega)
  have HN := Lib.hid hn
  clear hp hn
  go_enter Try.func10, Try.ntmps10
  go_wp2
  go_loopg [5, 6] (n - 5) (fun gk u i wr => ∃ f k acc, gk = n - k ∧ InvD w l O u i wr f k acc)
  case atStart =>
    exact ⟨l.length + 1, 5, [], rfl, h5, by omega, by rw [HO.out, pre_nil], by simp, rfl, RecOwn.empty w _ _ (Nat.le_refl _), (Fr.refl [] w).alloc _⟩
  case round =>
    obtain ⟨f, k, acc, hgk, HI⟩ := hrel
    obtain ⟨A1, cap, rfl, -⟩ := HI.own.slice
    have hi1 := HI.num_
    subst hi1
    have HI' := Lib.hid HI
    clear HI
    have hkn : k ≤ n := by have := HI'.out.place; have := HN.out; omega
    by_cases h3 : n < k + 3
    · have h3' : (n : Int) < k + 3 := by omega
      go_wp2
      go_ret3
      have e1 := HI'.out.rest
      rw [recs_short l f k HI'.out.fuel (by have := HN.out; omega)] at e1
      rw [HZ.out, e1]
      exact ⟨none, 0, rfl, recRd_nil _ _, HI'.out.fr⟩
    · have h3' : ¬ (n : Int) < k + 3 := by omega
      obtain ⟨b', o', x, e, hx, hcx⟩ := (HR.out.later HI'.out.fr (by simp)).at k (by have := HN.out; omega)
      cases e
      obtain ⟨b', o', y, e, hy, hcy⟩ := (HR.out.later HI'.out.fr (by simp)).at (k + 1) (by have := HN.out; omega)
      cases e
      obtain ⟨b', o', z, e, hz, hcz⟩ := (HR.out.later HI'.out.fr (by simp)).at (k + 2) (by have := HN.out; omega)
      cases e
      have HNUM := Lib.hid (num3 l k x y z hx hy hz)
      have hxl := x.toNat_lt
      have hyl := y.toNat_lt
      have hzl := z.toNat_lt
      clear hx hy hz
      by_cases he : num l k 3 = 4542278
      · have e1 : x.toNat = 69 := by have := HNUM.out; omega
        have e2 : y.toNat = 79 := by have := HNUM.out; omega
        have e3 : z.toNat = 70 := by have := HNUM.out; omega
        have hcx' : wr.cell? ⟨b, o + k, none⟩ = some (.int .u8 69) := by rw [hcx, e1]; rfl
        have hcy' : wr.cell? ⟨b, o + (k + 1), none⟩ = some (.int .u8 79) := by rw [hcy, e2]; rfl
        have hcz' : wr.cell? ⟨b, o + (k + 2), none⟩ = some (.int .u8 70) := by rw [hcz, e3]; rfl
        clear hcx hcy hcz e1 e2 e3
        have t2 : ((k : Int) + 2).toNat = k + 2 := by omega
        have HOe := Lib.hid (HI'.out.rest.trans (by rw [recs_end l f k HI'.out.fuel (by have := HN.out; omega) he]; rfl : _ = Sum.inr (acc ++ [], k + 3)))
        rw [List.append_nil] at HOe
        have HZ' : Hid (Z = tailOf l acc (k + 3)) := Lib.hid (by rw [HZ.out, HOe.out])
        clear he
        obtain ⟨d, hd0⟩ : ∃ d : Nat, n = k + 3 + d := ⟨n - (k + 3), by omega⟩
        have hd : (n : Int) - k - 3 = (d : Int) := by omega
        by_cases d0 : d = 0
        · have d0' : (d : Int) = 0 := by omega
          rw [d0'] at hd
          have HT : Hid (tailOf l acc (k + 3) = (0, acc, -1)) := Lib.hid (by have := HN.out; unfold tailOf; rw [if_pos (by omega)])
          go_wp2
          go_ret3
          rw [HZ'.out, HT.out]
          obtain ⟨A', c', hv, hrd, -⟩ := HI'.out.own.slice
          cases hv
          exact ⟨A1, cap, rfl, hrd, HI'.out.fr⟩
        · have d0' : ¬ (d : Int) = 0 := by omega
          by_cases d3 : d < 3
          · have d3' : (d : Int) < 3 := by omega
            have HT : Hid (tailOf l acc (k + 3) = (2, [], 0)) := Lib.hid (by have := HN.out; unfold tailOf; rw [if_neg (by omega), if_neg (by omega), if_pos (by omega)])
            go_wp2
            go_ret3
            rw [HZ'.out, HT.out]
            exact ⟨none, 0, rfl, recRd_nil _ _, HI'.out.fr⟩
          · have d3' : ¬ (d : Int) < 3 := by omega
            by_cases d4 : 3 < d
            · have d4' : 3 < (d : Int) := by omega
              have HT : Hid (tailOf l acc (k + 3) = (3, [], 0)) := Lib.hid (by have := HN.out; unfold tailOf; rw [if_neg (by omega), if_pos (by omega)])
              go_wp2
              go_ret3
              rw [HZ'.out, HT.out]
              exact ⟨none, 0, rfl, recRd_nil _ _, HI'.out.fr⟩
            · have d4' : ¬ 3 < (d : Int) := by omega
              have HT : Hid (tailOf l acc (k + 3) = (0, acc, ((num l (k + 3) 3 : Nat) : Int))) := Lib.hid (by have := HN.out; unfold tailOf; rw [if_neg (by omega), if_neg (by omega), if_neg (by omega)])
              obtain ⟨b', o', x1, e, hx1, hc1⟩ := (HR.out.later HI'.out.fr (by simp)).at (k + 3) (by have := HN.out; omega)
              cases e
              obtain ⟨b', o', x2, e, hx2, hc2⟩ := (HR.out.later HI'.out.fr (by simp)).at (k + 4) (by have := HN.out; omega)
              cases e
              obtain ⟨b', o', x3, e, hx3, hc3⟩ := (HR.out.later HI'.out.fr (by simp)).at (k + 5) (by have := HN.out; omega)
              cases e
              have HM := Lib.hid (num3 l (k + 3) x1 x2 x3 hx1 hx2 hx3)
              have l1 := x1.toNat_lt
              have l2 := x2.toNat_lt
              have l3 := x3.toNat_lt
              have t3 : ((k : Int) + 3).toNat = k + 3 := by omega
              have t4 : ((k : Int) + 4).toNat = k + 4 := by omega
              have t5 : ((k : Int) + 5).toNat = k + 5 := by omega
              have b3 : (k : Int) + 3 < n := by omega
              have b4 : (k : Int) + 4 < n := by omega
              have b5 : (k : Int) + 5 < n := by omega
              clear hx1 hx2 hx3
              go_wp2
              go_quiet (fail)
              go_wp2
              go_ret3
              rw [HZ'.out, HT.out]
              obtain ⟨A', c', hv, hrd, -⟩ := HI'.out.own.slice
              cases hv
              refine ⟨A1, cap, ?_, hrd.later (S := []) ((Fr.refl [] wr).drewN _) (by simp), HI'.out.fr.drewN _⟩
              have e : ((num l (k + 3) 3 : Nat) : Int) = x1.toNat * 65536 + x2.toNat * 256 + x3.toNat := by rw [HM.out]; omega
              rw [e]
              rfl
      · have HE := Lib.hid he
        clear he
        have t2 : ((k : Int) + 2).toNat = k + 2 := by omega
        obtain ⟨N, hN⟩ : ∃ N, N = num l k 3 := ⟨_, rfl⟩
        have hPN : (x.toNat : Int) * 65536 + y.toNat * 256 + z.toNat = (N : Int) := by rw [hN, HNUM.out]; omega
        have HNN := Lib.hid hN
        clear hN
        have HD : Hid ((((x.toNat : Int) == 69) = false) ∨ ((((x.toNat : Int) == 69) = true) ∧ (((y.toNat : Int) == 79) = false)) ∨ ((((x.toNat : Int) == 69) = true) ∧ (((y.toNat : Int) == 79) = true) ∧ (((z.toNat : Int) == 70) = false))) := by
          have h1 := HNUM.out
          have h2 := HE.out
          have key : x.toNat ≠ 69 ∨ (x.toNat = 69 ∧ y.toNat ≠ 79) ∨ (x.toNat = 69 ∧ y.toNat = 79 ∧ z.toNat ≠ 70) := by omega
          refine Lib.hid ?_
          rcases key with h | ⟨h, h'⟩ | ⟨h, h', h''⟩
          · exact .inl (by simp; omega)
          · exact .inr (.inl ⟨by simp; omega, by simp; omega⟩)
          · exact .inr (.inr ⟨by simp; omega, by simp; omega, by simp; omega⟩)
        go_upto_region 9 with fail
        go_cut [49] (fun s49 wx => s49 = .bool false ∧ wr = wx)
        case first =>
          rcases HD.out with bx | ⟨bx, bY⟩ | ⟨bx, bY, bz⟩
          all_goals
            go_wp2_with fail
            go_meet
            exact ⟨rfl, rfl⟩
        case rest =>
          obtain ⟨rfl, rfl⟩ := hcut
          by_cases h5k : n < k + 5
          · have h5k' : (n : Int) < k + 5 := by omega
            have HX : Hid (O = .inl 2) := Lib.hid (rest_fail HI'.out.rest (recs_fail l f k 2 HI'.out.fuel (by have := HN.out; omega) HE.out (recAt_s l _ _ (by have := HN.out; omega))))
            go_wp2
            go_ret3
            rw [HZ.out, HX.out]
            exact ⟨none, 0, rfl, recRd_nil _ _, HI'.out.fr⟩
          · have h5k' : ¬ (n : Int) < k + 5 := by omega
            obtain ⟨b', o', x3, e, hx3, hc3⟩ := (HR.out.later HI'.out.fr (by simp)).at (k + 3) (by have := HN.out; omega)
            cases e
            obtain ⟨b', o', x4, e, hx4, hc4⟩ := (HR.out.later HI'.out.fr (by simp)).at (k + 4) (by have := HN.out; omega)
            cases e
            have HM := Lib.hid (num2 l (k + 3) x3 x4 hx3 hx4)
            have l3 := x3.toNat_lt
            have l4 := x4.toNat_lt
            have t3 : ((k : Int) + 3).toNat = k + 3 := by omega
            have t4 : ((k : Int) + 4).toNat = k + 4 := by omega
            have b1 : (k : Int) + 1 < n := by omega
            have b2 : (k : Int) + 2 < n := by omega
            have b3 : (k : Int) + 3 < n := by omega
            have b4 : (k : Int) + 4 < n := by omega
            clear hx3 hx4
            obtain ⟨S, hS⟩ : ∃ S, S = num l (k + 3) 2 := ⟨_, rfl⟩
            have hPS : (x3.toNat : Int) * 256 + x4.toNat = (S : Int) := by rw [hS, HM.out]; omega
            have HSS := Lib.hid hS.symm
            have hSl : S < 65536 := by rw [hS, HM.out]; omega
            clear hS
            by_cases hS0 : S = 0
            · subst hS0
              have hPS0 : (x3.toNat : Int) * 256 + x4.toNat = 0 := by simpa using hPS
              clear hPS
              by_cases h7 : n < k + 7
              · have h7' : (n : Int) < k + 5 + 2 := by omega
                have HX : Hid (O = .inl 2) := Lib.hid (rest_fail HI'.out.rest (recs_fail l f k 2 HI'.out.fuel (by have := HN.out; omega) HE.out (recAt_rs l _ _ (by have := HN.out; omega) HSS.out (by have := HN.out; omega))))
                go_wp2
                go_quiet (fail)
                go_wp2
                go_quiet (fail)
                go_wp2
                go_ret3
                rw [HZ.out, HX.out]
                exact ⟨none, 0, rfl, recRd_nil _ _, HI'.out.fr.drewN _⟩
              · have h7' : ¬ (n : Int) < k + 5 + 2 := by omega
                obtain ⟨b', o', x5, e, hx5, hc5b⟩ := (HR.out.later HI'.out.fr (by simp)).at (k + 5) (by have := HN.out; omega)
                cases e
                obtain ⟨b', o', x6, e, hx6, hc6⟩ := (HR.out.later HI'.out.fr (by simp)).at (k + 6) (by have := HN.out; omega)
                cases e
                have HM2 := Lib.hid (num2 l (k + 5) x5 x6 hx5 hx6)
                have l5 := x5.toNat_lt
                have l6 := x6.toNat_lt
                have t5 : ((k : Int) + 5).toNat = k + 5 := by omega
                have t6 : ((k : Int) + 5 + 1).toNat = k + 6 := by omega
                have t6' : ((k : Int) + 6).toNat = k + 6 := by omega
                have b5 : (k : Int) + 5 < n := by omega
                have b6 : (k : Int) + 5 + 1 < n := by omega
                clear hx5 hx6
                obtain ⟨R, hR⟩ : ∃ R, R = num l (k + 5) 2 := ⟨_, rfl⟩
                have hPR : (x5.toNat : Int) * 256 + x6.toNat = (R : Int) := by rw [hR, HM2.out]; omega
                have HRR := Lib.hid hR.symm
                have hRl : R < 65536 := by rw [hR, HM2.out]; omega
                clear hR
                by_cases hR0 : R = 0
                · subst hR0
                  have hPR0 : (x5.toNat : Int) * 256 + x6.toNat = 0 := by simpa using hPR
                  clear hPR
                  have HX : Hid (O = .inl 3) := Lib.hid (rest_fail HI'.out.rest (recs_fail l f k 3 HI'.out.fuel (by have := HN.out; omega) HE.out (recAt_r0 l _ _ (by have := HN.out; omega) HSS.out HRR.out)))
                  go_wp2
                  go_quiet (fail)
                  go_wp2
                  go_quiet (fail)
                  go_wp2
                  go_quiet (fail)
                  go_wp2
                  go_ret3
                  rw [HZ.out, HX.out]
                  exact ⟨none, 0, rfl, recRd_nil _ _, HI'.out.fr.drewN _⟩
                · have hR0' : ¬ (R : Int) = 0 := by omega
                  by_cases h8 : n < k + 8
                  · have h8' : (n : Int) < k + 5 + 3 := by omega
                    have HX : Hid (O = .inl 2) := Lib.hid (rest_fail HI'.out.rest (recs_fail l f k 2 HI'.out.fuel (by have := HN.out; omega) HE.out (recAt_r1 l _ _ R (by have := HN.out; omega) HSS.out HRR.out (by omega) (by have := HN.out; omega))))
                    go_wp2
                    go_quiet (fail)
                    go_wp2
                    go_quiet (fail)
                    go_wp2
                    go_quiet (fail)
                    go_wp2
                    go_ret3
                    rw [HZ.out, HX.out]
                    exact ⟨none, 0, rfl, recRd_nil _ _, HI'.out.fr.drewN _⟩
                  · have h8' : ¬ (n : Int) < k + 5 + 3 := by omega
                    obtain ⟨b', o', x7, e, hx7, hc7⟩ := (HR.out.later HI'.out.fr (by simp)).at (k + 7) (by have := HN.out; omega)
                    cases e
                    have t7 : ((k : Int) + 5 + 2).toNat = k + 7 := by omega
                    have t7' : ((k : Int) + 7).toNat = k + 7 := by omega
                    have b7 : (k : Int) + 5 + 2 < n := by omega
                    have l7 := x7.toNat_lt
                    have HRA : Hid (recAt l (k + 3) (num l k 3) = .inr (⟨N, R, [x7]⟩, k + 8)) := Lib.hid (by
                      rw [← HNN.out]
                      have h1 := recAt_r l (k + 3) N R (by have := HN.out; omega) HSS.out HRR.out (by omega)
                      rw [h1, show (l.drop (k + 3 + 4)).take 1 = [x7] by rw [take_get l (k + 7) x7 hx7]; rfl])
                    clear hx7
                    have HOO : Hid (∀ q, RecOwn (((wr.drewN q).alloc (.cells #[.int .u8 (x7.toNat : Int)] 5)).alloc (.cells #[.int .i64 (N : Int), .int .i64 (R : Int), .slice (some ⟨wr.heap.size, 0, none⟩) 1 1] 34)) w.heap.size 34 (.slice A1 acc.length cap) acc) :=
                      Lib.hid fun q => HI'.out.own.fr ((((Fr.refl [] wr).drewN q).alloc _).alloc _) (by simp)
                    have HGO : Hid (∀ q, Good (((wr.drewN q).alloc (.cells #[.int .u8 (x7.toNat : Int)] 5)).alloc (.cells #[.int .i64 (N : Int), .int .i64 (R : Int), .slice (some ⟨wr.heap.size, 0, none⟩) 1 1] 34)) w.heap.size (.slice A1 acc.length cap) (⟨N, R, [x7]⟩, some ⟨wr.heap.size, 0, none⟩, 1)) :=
                      Lib.hid fun q => good_new (w1 := (wr.drewN q).alloc (.cells #[.int .u8 (x7.toNat : Int)] 5)) HI'.out.own ⟨N, R, [x7]⟩ (Nat.le_refl _) HI'.out.fr.size (Blk.fresh (wr.drewN q) 5 _) ((Fr.refl [] _).alloc _) (by simp)
                    have HLA : Hid (∀ q, ∀ j u, (recV (⟨N, R, [x7]⟩, some ⟨wr.heap.size, 0, none⟩, 1))[j]? = some u → (((wr.drewN q).alloc (.cells #[.int .u8 (x7.toNat : Int)] 5)).alloc (.cells #[.int .i64 (N : Int), .int .i64 (R : Int), .slice (some ⟨wr.heap.size, 0, none⟩) 1 1] 34)).cell? ((⟨wr.heap.size + 1, 0, none⟩ : Addr).add j) = some u) :=
                      Lib.hid fun q => rec_laidAt ((wr.drewN q).alloc (.cells #[.int .u8 (x7.toNat : Int)] 5)) (⟨N, R, [x7]⟩, some ⟨wr.heap.size, 0, none⟩, 1) 34 1 (wr.heap.size + 1) rfl (by simp)
                    have hal : acc.length ≤ 1000000000 := by have := HI'.out.few; omega
                    have hle1 := HI'.out.fr.size
                    go_wp2
                    go_quiet (fail)
                    go_wp2
                    go_quiet (fail)
                    go_wp2
                    go_quiet (fail)
                    clear hPN hPS0 hPR hxl hyl hzl l3 l4 l5 l6 hcx hcy hcz hc3 hc4 hc5b hc6 t2 t3 t4 t5 t6 t6' b1 b2 b3 b4 b5 b6 hne hs h3' h5k' h7' hR0' hc5 hc5' h5'
                    go_wp2_with (at_builtin; refine wpList_recs _ rfl (.tmp 141) (.tmp 151) 27 rfl w.heap.size 34 i0 Try.underlying27 hi hz0 hz1 hz2 _ acc rfl (HOO.out _) (wr.heap.size + 1) 1 (⟨N, R, [x7]⟩, some ⟨wr.heap.size, 0, none⟩, 1) rfl (HLA.out _) (HGO.out _) hal (by simp; omega) ?_)
                    intro A3 cp3 w3 ho3 hf3
                    have HF3 : Hid (Fr [] w w3) := Lib.hid ((((HI'.out.fr.drewN _).alloc _).alloc _).trans hf3 (fun j hj => .inr (HI'.out.own.fresh j hj)))
                    have HO3 := Lib.hid ho3
                    clear ho3 hf3
                    go_wp2
                    go_roundg (n - (k + 8))
                    case rel =>
                      obtain ⟨f', h1, h2⟩ := rest_next HI'.out.rest HI'.out.fuel (by have := HN.out; omega) HE.out HRA.out
                      exact ⟨f', k + 8, _, rfl, by have := HN.out; omega, h1, h2, by have := HI'.out.few; simp; omega, by congr 1, HO3.out, HF3.out⟩
                    case measure => omega
            · have hS0' : 0 < (S : Int) := by omega
              by_cases h6 : n < k + 5 + S
              · have h6' : (n : Int) < k + 5 + S := by omega
                have HX : Hid (O = .inl 2) := Lib.hid (rest_fail HI'.out.rest (recs_fail l f k 2 HI'.out.fuel (by have := HN.out; omega) HE.out (recAt_ds l _ _ S (by have := HN.out; omega) HSS.out (by omega) (by have := HN.out; omega))))
                go_wp2
                go_quiet (fail)
                go_wp2
                go_quiet (fail)
                go_wp2
                go_ret3
                rw [HZ.out, HX.out]
                exact ⟨none, 0, rfl, recRd_nil _ _, HI'.out.fr.drewN _⟩
              · have h6' : ¬ (n : Int) < k + 5 + S := by omega
                have t5 : ((k : Int) + 5).toNat = k + 5 := by omega
                have t6 : ((k : Int) + 5 + S).toNat = k + 5 + S := by omega
                have c1 : (k : Int) + 5 + S ≤ c := by omega
                have c2 : (k : Int) + 5 ≤ k + 5 + S := by omega
                have c3 : ¬ c = k + 5 := by omega
                have HL : Hid (((l.drop (k + 5)).take S).length = S) := Lib.hid (by have := HN.out; simp; omega)
                have HRA : Hid (recAt l (k + 3) (num l k 3) = .inr (⟨N, 0, (l.drop (k + 5)).take S⟩, k + 5 + S)) := Lib.hid (by rw [← HNN.out]; exact recAt_d l (k + 3) N S (by have := HN.out; omega) HSS.out (by omega) (by have := HN.out; omega))
                have HRD : Hid (Rd wr (some ⟨b, o + (k + 5), none⟩) ((l.drop (k + 5)).take S)) := by
                  refine Lib.hid fun h0 => ?_
                  obtain ⟨b1, o1, e, hx⟩ := (HR.out.later HI'.out.fr (by simp)) (by omega)
                  cases e
                  exact Rd.cut hx (k + 5) S h0
                have hal : acc.length ≤ 1000000000 := by have := HI'.out.few; omega
                have hle1 := HI'.out.fr.size
                go_wp2
                go_quiet (fail)
                go_wp2
                go_quiet (fail)
                go_wp2_with (at_builtin; refine wpList_appN _ rfl (.tmp 102) (.tmp 108) 22 rfl w.heap.size j0 Try.underlying22 hj hj0 hj1 hj2 (.slice (some ⟨wr.heap.size, 0, none⟩) 0 0) [] 0 rfl rfl (Own.empty (wr.drewN _) _ hle1) (some ⟨b, o + (k + 5), none⟩) S _ _ rfl HL.out (HRD.out.later (S := []) (((Fr.refl [] wr).drewN _).alloc _) (by simp)) (by simp) (by omega) (by simp; omega) ?_)
                intro A2 cp2 w2 ho2 hf2 hlies
                have HF2 : Hid (Fr [] wr w2) := Lib.hid ((((Fr.refl [] wr).drewN _).alloc _).trans hf2 (by simp [Value.ownBlock]))
                have HGO : Hid (Good (w2.alloc (.cells #[.int .i64 (N : Int), .int .i64 0, .slice A2 S cp2] 34)) w.heap.size (.slice A1 acc.length cap) (⟨N, 0, (l.drop (k + 5)).take S⟩, A2, cp2)) := Lib.hid (good_own HI'.out.own ⟨N, 0, (l.drop (k + 5)).take S⟩ ho2 (by
                  intro j hj
                  rcases hlies with h | ⟨j', h, h'⟩
                  · rw [h] at hj; simp [Value.ownBlock] at hj; omega
                  · rw [h] at hj; simp at hj h'; omega) ((Fr.refl [] w2).alloc _))
                have HO2 := Lib.hid (HI'.out.own.fr HF2.out (by simp))
                have hle2 := HF2.out.size
                clear ho2 hf2 hlies
                go_wp2_with (at_builtin; refine wpList_recs _ rfl (.tmp 100) (.tmp 111) 27 rfl w.heap.size 34 i0 Try.underlying27 hi hz0 hz1 hz2 _ acc rfl (HO2.out.fr ((Fr.refl [] w2).alloc _) (by simp)) w2.heap.size 1 (⟨N, 0, (l.drop (k + 5)).take S⟩, A2, cp2) rfl (rec_laidN w2 (⟨N, 0, (l.drop (k + 5)).take S⟩, A2, cp2) 34 S HL.out) HGO.out hal (by simp; omega) ?_)
                intro A3 cp3 w3 ho3 hf3
                have HF3 : Hid (Fr [] w w3) := Lib.hid (((HI'.out.fr.tr HF2.out).alloc _).trans hf3 (fun j hj => .inr (HO2.out.fresh j hj)))
                have HO3 := Lib.hid ho3
                clear ho3 hf3
                go_wp2
                go_roundg (n - (k + 5 + S))
                case rel =>
                  obtain ⟨f', h1, h2⟩ := rest_next HI'.out.rest HI'.out.fuel (by have := HN.out; omega) HE.out HRA.out
                  exact ⟨f', k + 5 + S, _, rfl, by have := HN.out; omega, h1, h2, by have := HI'.out.few; simp; omega, by congr 1, HO3.out, HF3.out⟩
                case measure => omega

end Ips
end Go.Proofs.Ytchakjknndpmpaa
