/-
  Contract of bpsmake's best.
-/
import Derived.Test.YtokfcknfkhlmfaaBmCopy
namespace Go.Proofs.Ytokfcknfkhlmfaa
open Go.RowKit
namespace Bm

/-- What best tells. -/
def BestZ (a b : List UInt8) (u s t : Nat) (z : Nat × Nat × Int) : Prop :=
  ((64 ≤ fsN a b u ∨ b.length < u + 4) ∧ z = (0, fsN a b u, 0)) ∨
  (u + 4 ≤ b.length ∧ ∃ p n p' n' : Nat, Long a b a.length (across a b u) u p n ∧ Long b b u (within b u) u p' n' ∧ z = bet (bet (0, fsN a b u, 0) (2, n, (p : Int) - (s : Int))) (3, n', (p' : Int) - (t : Int)))
/-- The index is not there yet, or it is of both texts. -/
def Kn (w : World) (kn : Option Addr) (A D : Option Addr) (ca cb : Nat) (a b : List UInt8) : Prop := kn = none ∨ ∃ x, kn = some ⟨x, 0, none⟩ ∧ Idx w x A D ca cb a b
theorem Kn.fr {S : List Nat} {w w' : World} {kn A D : Option Addr} {ca cb : Nat} {a b : List UInt8} (h : Kn w kn A D ca cb a b) (hf : Fr S w w') (hS : ∀ k ∈ S, Apart w k) : Kn w' kn A D ca cb a b := by
  rcases h with h | ⟨x, h1, h2⟩
  · exact .inl h
  · exact .inr ⟨x, h1, h2.fr hf hS⟩

theorem fsN_le (a b : List UInt8) (u : Nat) : fsN a b u ≤ b.length - u := by
  unfold fsN
  split
  · have := alk_le2 (a.drop u) (b.drop u); rwa [List.length_drop] at this
  · omega

/-- What best leaves. -/
def Bested (w : World) (m : Nat) (A D : Option Addr) (ca cb la lb lk s t told u q : Nat) (a b : List UInt8) (e : Ending) (w' : World) : Prop :=
  ∃ z kn, e = .returned (aV z.1 z.2.1 z.2.2 none 0 0) ∧ BestZ a b u s t z ∧ Blk w' m 92 (mkV A D ca cb la lb kn lk s t told u q) ∧ Kn w' kn A D ca cb a b ∧ Fr [m] w w'

set_option maxRecDepth 100000 in
set_option maxHeartbeats 4000000 in
theorem best_any (w : World) (m ca cb la lb lk s t told u q : Nat) (A D kn : Option Addr) (a b : List UInt8) (hla : a.length = la) (hlb : b.length = lb) (hca : la ≤ ca) (hcb : lb ≤ cb) (hna : la ≤ 16777216) (hu : u < lb) (hnb : lb ≤ 16777216) (hlk : lk ≤ 1000000000) (hlk1 : 1 ≤ lk) (hs : s ≤ 16777216) (ht : t ≤ 16777216)
    (hA : ∀ W, Fr [m] w W → Rd W A a) (hD : ∀ W, Fr [m] w W → Rd W D b)
    (h : Blk w m 92 (mkV A D ca cb la lb kn lk s t told u q)) (hK : Kn w kn A D ca cb a b) :
    Calls Try.prog 33 #[.pointer (some ⟨m, 0, none⟩)] w (Bested w m A D ca cb la lb lk s t told u q a b) := by
  obtain ⟨s0, hs0⟩ : ∃ s0, w.heap.size = s0 := ⟨_, rfl⟩
  have hms : m < s0 := by rw [← hs0]; exact h.lt
  have hb := Blk.fresh w 82 #[.int .i64 0, .int .i64 0, .int .i64 0, .slice none 0 0]
  rw [hs0] at hb
  have hf : Fr [] w (w.alloc (.cells #[.int .i64 0, .int .i64 0, .int .i64 0, .slice none 0 0] 82)) := (Fr.refl [] w).alloc _
  have HM := Lib.hid (h.fr hf (by simp))
  have HK := Lib.hid (hK.fr hf (by simp))
  have HA := Lib.hid hA
  have HD := Lib.hid hD
  have HF := Lib.hid hf
  have HB := Lib.hid hb
  have Hla := Lib.hid hla
  have Hlb := Lib.hid hlb
  obtain ⟨n0, hn0⟩ : ∃ n0, fsN a b u = n0 := ⟨_, rfl⟩
  have Hn0 := Lib.hid hn0
  have hn0b : n0 ≤ lb := by rw [← hn0, ← hlb]; have := fsN_le a b u; omega
  generalize hQ : Bested w m A D ca cb la lb lk s t told u q a b = Q
  have HQ : Hid (∀ W (z : Nat × Nat × Int) kn', BestZ a b u s t z → Blk W m 92 (mkV A D ca cb la lb kn' lk s t told u q) → Kn W kn' A D ca cb a b → Fr [m] w W → Q (.returned (aV z.1 z.2.1 z.2.2 none 0 0)) W) := Lib.hid fun W z kn' h1 h2 h3 h4 => by rw [← hQ]; exact ⟨z, kn', rfl, h1, h2, h3, h4⟩
  clear hb hf hA hD h hK hla hlb hQ hn0
  go_enter Try.func33, Try.ntmps33
  go_upto_region 1 with fail
  generalize w.alloc _ = w1 at *
  have HC0 : Hid (Calls Try.prog 52 #[.pointer (some ⟨m, 0, none⟩)] w1 fun e w' => e = .returned (.agg #[.int .i64 0, .int .i64 (n0 : Int), .int .i64 0, .slice none 0 0]) ∧ Fr [] w1 w') := Lib.hid (by
    have := fromSource_any w1 m ca cb la lb lk s t told u q A D kn a b Hla.out Hlb.out hca hcb (by omega) hu (by omega) (HA.out _ HF.out.nil) (HD.out _ HF.out.nil) HM.out
    rw [Hn0.out] at this
    exact this)
  go_wp2_with fail
  refine HC0.out.mono ?_
  rintro e w2 ⟨rfl, hf2⟩
  have HF2 := Lib.hid hf2
  obtain ⟨s3, hs3⟩ : ∃ s3, w2.heap.size = s3 := ⟨_, rfl⟩
  have hs03 : s0 < s3 := by
    have h1 := HB.out.lt
    have h2 := hf2.size
    omega
  clear hf2 HC0
  go_upto_region 2 with fail
  have hf3 : Fr [] w1 (w2.alloc (.cells #[.int .i64 0, .int .i64 (n0 : Int), .int .i64 0, .slice none 0 0] 82)) := HF2.out.alloc _
  have hx3 := Blk.fresh w2 82 #[.int .i64 0, .int .i64 (n0 : Int), .int .i64 0, .slice none 0 0]
  rw [hs3] at hx3
  have HF3 := Lib.hid hf3
  have HX3 := Lib.hid hx3
  have HM3 := Lib.hid (HM.out.fr hf3 (by simp))
  have HB3 := Lib.hid (HB.out.fr hf3 (by simp))
  have HK3 := Lib.hid (HK.out.fr hf3 (by simp))
  clear hf3 hx3 HF2 HM HK HB
  generalize w2.alloc _ = w3 at *
  obtain ⟨-, c1, c2, -, -, -, -, c7, -⟩ := blk9 HM3.out
  obtain ⟨d0, d1, d2, d3⟩ := Bps.blk4 HX3.out
  obtain ⟨u4, hu4⟩ : ∃ u4, u + 4 = u4 := ⟨_, rfl⟩
  have hu4' : (u : Int) + 4 = (u4 : Int) := by omega
  have hw4 : IntKind.i64.wrap (u4 : Int) = (u4 : Int) := by rw [IntKind.wrap_i64]; omega
  by_cases hc : 64 ≤ n0 ∨ lb < u4
  · have HE : Hid (BestZ a b u s t (0, n0, 0)) := Lib.hid (.inl ⟨by rw [Hn0.out, Hlb.out]; omega, by rw [Hn0.out]⟩)
    go_wp2_with fail
    go_cut [21] (fun s21 wx => s21 = .bool true ∧ ∃ k, wx = w3.drewN k)
    case first =>
      by_cases h64 : 64 ≤ n0
      · have i1 : (64 : Int) ≤ n0 := by omega
        go_quiet (fail)
        go_wp2_with fail
        go_meet
        exact ⟨rfl, _, rfl⟩
      · have i1 : ¬ (64 : Int) ≤ n0 := by omega
        have i2 : (lb : Int) < u4 := by omega
        have i3 : decide ((64 : Int) ≤ n0) = false := by simp; omega
        have i4 : decide ((lb : Int) < u4) = true := by simp; omega
        go_quiet (fail)
        go_wp2_with fail
        go_meet
        exact ⟨rfl, _, rfl⟩
    case rest =>
      obtain ⟨rfl, k, rfl⟩ := hcut
      have HM4 : Hid (Blk (w3.drewN k) m 92 (mkV A D ca cb la lb kn lk s t told u q)) := HM3
      have HK4 : Hid (Kn (w3.drewN k) kn A D ca cb a b) := Lib.hid (HK3.out.fr ((Fr.refl [] w3).drewN k) (by simp))
      have HB4 : Hid (Blk (w3.drewN k) s0 82 #[.int .i64 0, .int .i64 0, .int .i64 0, .slice none 0 0]) := HB3
      have hx4 : Blk (w3.drewN k) s3 82 #[.int .i64 0, .int .i64 (n0 : Int), .int .i64 0, .slice none 0 0] := HX3.out
      have HF4 : Hid (Fr [] w1 (w3.drewN k)) := Lib.hid (HF3.out.drewN k)
      clear c1 c2 c7 d0 d1 d2 d3 HM3 HK3 HB3 HX3 HF3
      generalize w3.drewN k = w4 at *
      obtain ⟨d0, d1, d2, d3⟩ := Bps.blk4 hx4
      obtain ⟨z0, z1, z2, z3⟩ := Bps.blk4 HB4.out
      obtain ⟨f0, f1, f2, f3⟩ := frz4 HB4.out
      clear hx4
      go_wp2
      have hst := Bps.put4_fr w4 s0 (.int .i64 0) (.int .i64 (n0 : Int)) (.int .i64 0) (.slice none 0 0)
      have hbl := Bps.put4 HB4.out (.int .i64 0) (.int .i64 (n0 : Int)) (.int .i64 0) (.slice none 0 0)
      have hm5 := HM4.out.fr hst (by simp; omega)
      have hk5 := HK4.out.fr hst (by simp; exact .inr ⟨_, _, HB4.out, by decide, by decide⟩)
      have hf5 : Fr [m] w _ := ((HF.out.tr HF4.out).trans hst (by simp; omega)).nil
      obtain ⟨y0, y1, y2, y3⟩ := Bps.blk4 hbl
      generalize (((w4.setCell ⟨s0, 0, none⟩ (.int .i64 0)).setCell ⟨s0, 1, none⟩ (.int .i64 (n0 : Int))).setCell ⟨s0, 2, none⟩ (.int .i64 0)).setCell ⟨s0, 3, none⟩ (.slice none 0 0) = w5 at *
      exact bodyPost_ret (v := aV 0 n0 0 none 0 0) (by simp [results, Try.results33, go_sem, y0, y1, y2, y3, aV]) rfl (HQ.out _ (0, n0, 0) kn HE.out hm5 hk5 hf5)
  · have i1 : ¬ (64 : Int) ≤ n0 := by omega
    have i2 : ¬ (lb : Int) < u4 := by omega
    have i3 : decide ((64 : Int) ≤ n0) = false := by simp; omega
    have i4 : decide ((lb : Int) < u4) = false := by simp; omega
    go_wp2_with fail
    go_cut [21] (fun s21 wx => s21 = .bool false ∧ ∃ k, wx = w3.drewN k)
    case first =>
      go_quiet (fail)
      go_wp2_with fail
      go_meet
      exact ⟨by rw [decide_eq_false (by omega)], _, rfl⟩
    case rest =>
      obtain ⟨rfl, k, rfl⟩ := hcut
      have HM4 : Hid (Blk (w3.drewN k) m 92 (mkV A D ca cb la lb kn lk s t told u q)) := HM3
      have HK4 : Hid (Kn (w3.drewN k) kn A D ca cb a b) := Lib.hid (HK3.out.fr ((Fr.refl [] w3).drewN k) (by simp))
      have HB4 : Hid (Blk (w3.drewN k) s0 82 #[.int .i64 0, .int .i64 0, .int .i64 0, .slice none 0 0]) := HB3
      have HX4 : Hid (Blk (w3.drewN k) s3 82 #[.int .i64 0, .int .i64 (n0 : Int), .int .i64 0, .slice none 0 0]) := HX3
      have HF4 : Hid (Fr [] w1 (w3.drewN k)) := Lib.hid (HF3.out.drewN k)
      clear c1 c2 c7 d0 d1 d2 d3 HM3 HK3 HB3 HX3 HF3
      generalize w3.drewN k = w4 at *
      obtain ⟨c0, c1, c2, -, -, -, -, -, -⟩ := blk9 HM4.out
      go_upto_if 27 with fail
      go_cut [27] (fun _ wx => ∃ x, Blk wx m 92 (mkV A D ca cb la lb (some ⟨x, 0, none⟩) lk s t told u q) ∧ Idx wx x A D ca cb a b ∧ Fr [m] w4 wx)
      case first =>
        rcases HK4.out with rfl | ⟨x, rfl, hI⟩
        · have HN : Hid (∀ W, Fr [] w4 W → Calls Try.prog 53 #[.slice A la ca, .slice D lb cb] W fun e w' => ∃ x, e = .returned (.pointer (some ⟨x, 0, none⟩)) ∧ Idx w' x A D ca cb a b ∧ Fr [] W w') := Lib.hid fun W hW =>
            newIndex_any W A D ca cb la lb a b Hla.out Hlb.out hca hcb (by omega) (by omega) (HA.out _ ((HF.out.tr HF4.out).tr hW).nil) (HD.out _ ((HF.out.tr HF4.out).tr hW).nil)
          go_wp2_with fail
          go_region_law (go_simp; go_at_call 53; (with_reducible refine (HN.out w4.drew (Fr.refl [] w4).drew).mono ?_); rintro e w6 ⟨x, rfl, hi6, hf6⟩; have HI6 := Lib.hid hi6; have HF6 : Hid (Fr [] w4 w6) := Lib.hid ((Fr.refl [] w4).drew.tr hf6); have HM6 := Lib.hid (HM4.out.fr HF6.out (by simp)); obtain ⟨-, -, r2, -, -, -, -, -, -⟩ := blk9 HM6.out; have g2 := HM6.out.frozen 2; clear hi6 hf6)
          all_goals
            go_wp2_with fail
            go_meet
            have hst : Fr [m] w6 (w6.setCell ⟨m, 2, none⟩ (.pointer (some ⟨x, 0, none⟩))) := (Fr.refl _ _).setCell (by simp) _
            have hm7 := HM6.out.put 2 (.pointer (some ⟨x, 0, none⟩))
            exact ⟨x, by simpa [mkV] using hm7, HI6.out.fr hst (by simp; exact .inr ⟨_, _, HM6.out, by decide, by decide⟩), HF6.out.nil.tr hst⟩
        · go_wp2_with fail
          go_meet
          exact ⟨x, HM4.out, hI, Fr.refl _ _⟩
      case rest =>
        obtain ⟨x, hm6, hi6, hf6⟩ := hcut
        have HM6 := Lib.hid hm6
        have HI6 := Lib.hid hi6
        have HF6 : Hid (Fr [m] w wc) := Lib.hid ((HF.out.tr HF4.out).nil.tr hf6)
        have HX6 := Lib.hid (HX4.out.fr hf6 (by simp; omega))
        have HB6 := Lib.hid (HB4.out.fr hf6 (by simp; omega))
        clear hm6 hi6 hf6 c0 c1 c2 HM4 HK4 HB4 HX4
        have HCS : Hid (∀ W, Fr [] wc W → Calls Try.prog 55 #[.pointer (some ⟨m, 0, none⟩)] W (Copied W 2 s a b la (across a b u) u)) := Lib.hid fun W hW =>
          copySource_any W m ca cb la lb lk s t told u q x A D a b Hla.out Hlb.out hca hcb (by omega) (by omega) (by omega) hlk hlk1 (by omega) (HA.out _ (HF6.out.tr hW.nil)) (HD.out _ (HF6.out.tr hW.nil)) (HM6.out.fr hW (by simp)) (HI6.out.fr hW (by simp))
        have HCT : Hid (∀ W, Fr [] wc W → Calls Try.prog 56 #[.pointer (some ⟨m, 0, none⟩)] W (Copied W 3 t b b u (within b u) u)) := Lib.hid fun W hW =>
          copyTarget_any W m ca cb la lb lk s t told u q x A D a b Hlb.out hcb (by omega) (by omega) hlk hlk1 (by omega) (HD.out _ (HF6.out.tr hW.nil)) (HM6.out.fr hW (by simp)) (HI6.out.fr hW (by simp))
        have HLS : Hid (∀ p n : Nat, Long a b la (across a b u) u p n → p ≤ 16777216 ∧ n ≤ 16777216) := Lib.hid fun p n hl => by
          rcases hl.1 with ⟨h1, h2⟩ | ⟨_, h1, h2, h3, _⟩
          · omega
          · rw [Hla.out] at h2; omega
        have HLT : Hid (∀ p n : Nat, Long b b u (within b u) u p n → p ≤ 16777216 ∧ n ≤ 16777216) := Lib.hid fun p n hl => by
          rcases hl.1 with ⟨h1, h2⟩ | ⟨_, h1, h2, h3, _⟩
          · omega
          · rw [Hlb.out] at h2; omega
        have HB1 : Hid (∀ W (p n : Nat), Long a b la (across a b u) u p n → Calls Try.prog 54 #[.agg #[.int .i64 0, .int .i64 (n0 : Int), .int .i64 0, .slice none 0 0], aV 2 n ((p : Int) - (s : Int)) none 0 0] W (Acted W (bet (0, n0, 0) (2, n, (p : Int) - (s : Int))))) := Lib.hid fun W p n hl =>
          better_any W 0 n0 2 n 0 ((p : Int) - (s : Int)) (by decide) (by omega) (by decide) (by decide) (by decide) (HLS.out p n hl).2 (by have := (HLS.out p n hl).1; omega) (by have := (HLS.out p n hl).1; omega)
        have HB2 : Hid (∀ W (p n p' n' : Nat) (z : Nat × Nat × Int), Long a b la (across a b u) u p n → Long b b u (within b u) u p' n' → z = bet (0, n0, 0) (2, n, (p : Int) - (s : Int)) → Calls Try.prog 54 #[aV z.1 z.2.1 z.2.2 none 0 0, aV 3 n' ((p' : Int) - (t : Int)) none 0 0] W (Acted W (bet z (3, n', (p' : Int) - (t : Int))))) := Lib.hid fun W p n p' n' z hl hl' hz => by
          have e1 := HLS.out p n hl
          have e2 := HLT.out p' n' hl'
          have hzz : z = (0, n0, 0) ∨ z = (2, n, (p : Int) - (s : Int)) := by
            rw [hz]; unfold bet
            split
            · exact .inr rfl
            · exact .inl rfl
          refine better_any W z.1 z.2.1 3 n' z.2.2 ((p' : Int) - (t : Int)) ?_ ?_ ?_ ?_ (by decide) e2.2 (by omega) (by omega)
          all_goals rcases hzz with h | h <;> rw [h] <;> simp only <;> omega
        obtain ⟨d0, d1, d2, d3⟩ := Bps.blk4 HX6.out
        go_wp2_with fail
        go_cut [46] (fun _ wx => ∃ (z : Nat × Nat × Int), BestZ a b u s t z ∧ Blk wx s0 82 #[.int .i64 (z.1 : Int), .int .i64 (z.2.1 : Int), .int .i64 z.2.2, .slice none 0 0] ∧ Fr [s0] wc wx)
        case first =>
          have HR : Hid (∀ W, Fr [] wc W → W.cell? ⟨s3, 0, none⟩ = some (.int .i64 0) ∧ W.cell? ⟨s3, 1, none⟩ = some (.int .i64 (n0 : Int)) ∧ W.cell? ⟨s3, 2, none⟩ = some (.int .i64 0) ∧ W.cell? ⟨s3, 3, none⟩ = some (.slice none 0 0)) := Lib.hid fun W hW => Bps.blk4 (HX6.out.fr hW (by simp))
          have HF0 : Hid (Fr [] wc wc.drew) := Lib.hid (Fr.refl [] wc).drew
          go_region_law (go_simp; first
            | (go_at_call 54; (with_reducible refine (HB2.out _ p n p' n' zB HLp.out HLq.out HzB.out).mono ?_); rintro e wE ⟨rfl, hf⟩; have HFE : Hid (Fr [] wc wE) := Lib.hid ((by first | exact HFB.out | exact HFT.out : Fr [] wc _).tr hf); have HBE := Lib.hid (HB6.out.fr HFE.out (by simp)); obtain ⟨q0, q1, q2, q3⟩ := Bps.blk4 HBE.out; obtain ⟨f0, f1, f2, f3⟩ := frz4 HBE.out; obtain ⟨zE, hzE⟩ : ∃ z, z = bet zB (3, n', (p' : Int) - (t : Int)) := ⟨_, rfl⟩; rw [← hzE]; obtain ⟨KE, NE, ME⟩ := zE; have HzE := Lib.hid hzE; unfold aV; simp only; clear hf hzE)
            | (go_at_call 54; (with_reducible refine (HB1.out _ p n HLp.out).mono ?_); rintro e wB ⟨rfl, hf⟩; have HFB : Hid (Fr [] wc wB) := Lib.hid ((by first | exact HFT.out | exact HFS.out : Fr [] wc _).tr hf); obtain ⟨zB, hzB⟩ : ∃ z, z = bet (0, n0, 0) (2, n, (p : Int) - (s : Int)) := ⟨_, rfl⟩; rw [← hzB]; have HzB := Lib.hid hzB; clear hf hzB)
            | (go_at_call 55; (with_reducible refine (HCS.out _ (by first | exact HFT.out | exact HF0.out)).mono ?_); rintro e wS ⟨p, n, hl, rfl, hf⟩; have HLp := Lib.hid hl; have HFS : Hid (Fr [] wc wS) := Lib.hid ((by first | exact HFT.out | exact HF0.out : Fr [] wc _).tr hf); obtain ⟨r0, r1, r2, r3⟩ := HR.out _ HFS.out; clear hf hl)
            | (go_at_call 56; (with_reducible refine (HCT.out _ (by first | exact HFB.out | exact HFS.out | exact HF0.out)).mono ?_); rintro e wT ⟨p', n', hl, rfl, hf⟩; have HLq := Lib.hid hl; have HFT : Hid (Fr [] wc wT) := Lib.hid ((by first | exact HFB.out | exact HFS.out | exact HF0.out : Fr [] wc _).tr hf); obtain ⟨r0', r1', r2', r3'⟩ := HR.out _ HFT.out; clear hf hl))
          all_goals
            go_wp2_with fail
            go_meet
            refine ⟨(KE, NE, ME), .inr ⟨by rw [Hlb.out]; omega, p, n, p', n', by rw [Hla.out]; exact HLp.out, HLq.out, by rw [Hn0.out, HzE.out, HzB.out]⟩, Bps.put4 HBE.out _ _ _ _, HFE.out.nil.tr (Bps.put4_fr wE s0 _ _ _ _)⟩
        case rest =>
          obtain ⟨z, hz, hbl, hfr⟩ := hcut
          have HZ := Lib.hid hz
          have hm8 := HM6.out.fr hfr (by simp; omega)
          have hk8 : Kn wc (some ⟨x, 0, none⟩) A D ca cb a b := .inr ⟨x, rfl, HI6.out.fr hfr (by simp; exact .inr ⟨_, _, HB6.out, by decide, by decide⟩)⟩
          have hf8 : Fr [m] w wc := HF6.out.trans hfr (by simp; omega)
          obtain ⟨y0, y1, y2, y3⟩ := Bps.blk4 hbl
          have HE := Lib.hid (HQ.out wc z _ HZ.out hm8 hk8 hf8)
          clear hz hm8 hk8 hf8 hfr hbl d0 d1 d2 d3
          go_wp2_with fail
          exact bodyPost_ret (v := aV z.1 z.2.1 z.2.2 none 0 0) (by simp [results, Try.results33, go_sem, y0, y1, y2, y3, aV]) rfl HE.out

end Bm
end Go.Proofs.Ytokfcknfkhlmfaa
