/-
  Contract of ups.Apply: of bytes that are refused, and of a patch that was made.
-/
import Derived.Test.YtpbjbmmnncohfaaUpsParse2
import Derived.Test.YtpbjbmmnncohfaaUpsOther
namespace Go.Proofs.Ytpbjbmmnncohfaa
open Go.RowKit
namespace Ups

/-- What Apply leaves where nothing is made. -/
def Nothing (w : World) (z : Int) (e : Ending) (w' : World) : Prop := e = .returned (.tuple #[.slice none 0 0, .int .i64 z]) ∧ Fr [] w w'

set_option maxHeartbeats 1000000 in
theorem apply_refused (w : World) (A R : Option Addr) (n c m d : Nat) (z : Int) (hz : z ≠ 0) (hn : n ≤ 16777216) (hm : m ≤ 16777216) (h : Calls Try.prog 21 #[.slice A n c] w (Refused w z)) :
    Calls Try.prog 11 #[.slice A n c, .slice R m d] w (Nothing w z) := by
  have e1 : ¬ (16777216 : Int) < n := by omega
  have e2 : ¬ (16777216 : Int) < m := by omega
  have e3 : (z != 0) = true := by simpa using hz
  have H := Lib.hid h
  clear h hz
  go_enter Try.func11, Try.ntmps11
  go_wp2_with fail
  refine H.out.mono ?_
  rintro e w1 ⟨rfl, hf⟩
  have HF := Lib.hid hf
  clear hf
  go_wp2
  go_ret2
  exact ⟨rfl, HF.out⟩

theorem apply_short (w : World) (A R : Option Addr) (n c m d : Nat) (hn : n < 18) (hm : m ≤ 16777216) : Calls Try.prog 11 #[.slice A n c, .slice R m d] w (Nothing w 3) :=
  apply_refused w A R n c m d 3 (by decide) (by omega) hm (parse_short w A n c hn)

theorem Othered.weak {w w1 w' : World} {m x : List UInt8} {C : Nat × BitVec 32} {e : Ending} (h : Othered w1 m x C e w') (hf : Fr [] w w1) : Othered w m x C e w' := by
  obtain ⟨h1, h2⟩ := h
  refine ⟨hf.tr h1, ?_⟩
  rcases h2 with h2 | ⟨g, h2, h3, h4, h5⟩
  · exact .inl h2
  · exact .inr ⟨g, h2, h3, Nat.le_trans hf.size h4, h5⟩

/-- What Apply leaves of a patch that was made. -/
def Applied (w : World) (a b x : List UInt8) (e : Ending) (w' : World) : Prop :=
  (meas x = meas a → Othered w (dif a b) x (meas b) e w') ∧ (meas x ≠ meas a → meas x = meas b → Othered w (dif a b) x (meas a) e w') ∧ (meas x ≠ meas a → meas x ≠ meas b → Nothing w 4 e w')

theorem meas_beq (V X : Nat × BitVec 32) (h : V ≠ X) : ((V.1 : Int) == (X.1 : Int) && Crc.u V.2 == Crc.u X.2) = false := by
  rw [Bool.eq_false_iff]
  intro hh
  simp at hh
  obtain ⟨a1, a2⟩ := V
  obtain ⟨b1, b2⟩ := X
  simp only at hh
  exact h (by rw [show a1 = b1 by omega, Crc.u_inj hh.2])

set_option maxRecDepth 100000 in
set_option maxHeartbeats 1000000 in
theorem apply_made (w : World) (A R : Option Addr) (n c m d : Nat) (a b x : List UInt8) (hn : (patch a b).length = n) (hr : Rd w A (patch a b)) (hc : n ≤ c) (hc2 : c ≤ maxLen) (hN : n ≤ 16777216) (ha : a.length ≤ 16777216) (hb : b.length ≤ 16777216) (hm : x.length = m) (hx : Rd w R x) (hm2 : m ≤ 16777216) :
    Calls Try.prog 11 #[.slice A n c, .slice R m d] w (Applied w a b x) := by
  have e1 : ¬ (16777216 : Int) < n := by omega
  have e2 : ¬ (16777216 : Int) < m := by omega
  have HP := Lib.hid (parse_made w A n c a b hn hr hc hc2 (by omega) ha hb)
  have HM := Lib.hid hm
  have HX := Lib.hid hx
  have HD : Hid ((dif a b).length ≤ 16777216) := Lib.hid (by rw [dif_length]; omega)
  have HA1 : Hid ((meas a).1 ≤ 16777216) := Lib.hid ha
  have HB1 : Hid ((meas b).1 ≤ 16777216) := Lib.hid hb
  have HDL : Hid ((dif a b).length = max (meas a).1 (meas b).1) := Lib.hid (dif_length a b)
  have HVm : Hid ((meas x).1 = m) := Lib.hid hm
  have HQ1 : Hid (∀ w1 e w', meas x = meas a → Fr [] w w1 → Othered w1 (dif a b) x (meas b) e w' → Applied w a b x e w') := Lib.hid fun w1 e w' h1 h2 h3 => ⟨fun _ => h3.weak h2, fun h _ => absurd h1 h, fun h _ => absurd h1 h⟩
  have HQ2 : Hid (∀ w1 e w', meas x ≠ meas a → meas x = meas b → Fr [] w w1 → Othered w1 (dif a b) x (meas a) e w' → Applied w a b x e w') := Lib.hid fun w1 e w' h0 h1 h2 h3 => ⟨fun h => absurd h h0, fun _ _ => h3.weak h2, fun _ h => absurd h1 h⟩
  have HQ3 : Hid (∀ w', meas x ≠ meas a → meas x ≠ meas b → Fr [] w w' → Applied w a b x (.returned (.tuple #[.slice none 0 0, .int .i64 4])) w') := Lib.hid fun w' h0 h1 h2 => ⟨fun h => absurd h h0, fun _ h => absurd h h1, fun _ _ => ⟨rfl, h2⟩⟩
  generalize Applied w a b x = Q at *
  have hg := guardM
  have he := eqM
  clear hn hr hm hx
  go_enter Try.func11, Try.ntmps11
  go_wp2_with fail
  refine HP.out.mono ?_
  rintro e w1 ⟨p, g, rfl, hp, hg1, hP1, hf1⟩
  have HP1 := Lib.hid hP1
  have HF1 := Lib.hid hf1
  clear hP1 hf1 HP
  have CM := Lib.hid (measured_any w1 R m d x HM.out (HX.out.later HF1.out (by simp)) (by omega))
  generalize meas x = V at *
  generalize meas a = X at *
  generalize meas b = Y at *
  unfold mV at CM
  go_wp2_with fail
  refine CM.out.mono ?_
  rintro e w2 ⟨rfl, hf2⟩
  have HP2 := Lib.hid (HP1.out.fr hf2 (by simp) (by simp))
  have HF2 := Lib.hid (HF1.out.tr hf2)
  clear hf2 CM HP1
  go_upto_region 7 with fail
  have hB3 := Blk.fresh w2 39 #[.int .u64 (V.1 : Int), .int .u32 (Crc.u V.2)]
  have hP3 := HP2.out.fr ((Fr.refl [] w2).alloc (.cells #[.int .u64 (V.1 : Int), .int .u32 (Crc.u V.2)] 39)) (by simp) (by simp)
  have hF3 := HF2.out.alloc (.cells #[.int .u64 (V.1 : Int), .int .u32 (Crc.u V.2)] 39)
  generalize w2.alloc (.cells #[.int .u64 (V.1 : Int), .int .u32 (Crc.u V.2)] 39) = w3 at *
  generalize w2.heap.size = s2 at *
  have b0 := hB3.cell 0
  have b1 := hB3.cell 1
  have p0 := hP3.1.cell 0
  have p1 := hP3.1.cell 1
  have p2 := hP3.1.cell 2
  have p3 := hP3.1.cell 3
  simp at b0 b1 p0 p1 p2 p3
  have HP3 := Lib.hid hP3
  have HF3 := Lib.hid hF3
  have HX3 := Lib.hid (HX.out.later hF3 (by simp))
  clear hB3 hP3 hF3 HP2 HF2
  by_cases hVX : V = X
  · subst hVX
    have HL : Hid ((dif a b).length ≤ max Y.1 m) := Lib.hid (by rw [HDL.out, HVm.out]; omega)
    go_quiet (fail)
    have HFd := Lib.hid (HF3.out.drewN nq)
    have HO := Lib.hid (other_any (w3.drewN nq) p g V Y Y (dif a b) x R m d (HP3.out.fr ((Fr.refl [] w3).drewN nq) (by simp) (by simp)) HM.out (HX3.out.later (S := []) ((Fr.refl [] w3).drewN nq) (by simp)) (by omega) HB1.out HD.out HL.out)
    unfold mV at HO
    go_wp2_with fail
    refine HO.out.mono ?_
    rintro e w4 hO
    have HE := Lib.hid (HQ1.out (w3.drewN nq) e w4 (by simp) HFd.out hO)
    obtain ⟨-, h2⟩ := hO
    rcases h2 with ⟨rfl, -⟩ | ⟨g', rfl, -, -, -⟩
    all_goals
      clear HO
      go_wp2
      exact HE.out
  · have hvx := meas_beq V X hVX
    by_cases hVY : V = Y
    · subst hVY
      have HL : Hid ((dif a b).length ≤ max X.1 m) := Lib.hid (by rw [HDL.out, HVm.out]; omega)
      have HNe := Lib.hid hVX
      have HO : Hid (∀ W, Fr [] w3 W → Calls Try.prog 22 #[.pointer (some ⟨p, 0, none⟩), .slice R m d, .agg #[.int .u64 (X.1 : Int), .int .u32 (Crc.u X.2)]] W (Othered W (dif a b) x X)) := Lib.hid fun W hW =>
        other_any W p g X V X (dif a b) x R m d (HP3.out.fr hW (by simp) (by simp)) HM.out (HX3.out.later (S := []) hW (by simp)) (by omega) HA1.out HD.out HL.out
      go_quiet (fail)
      go_wp2_with fail
      go_quiet (fail)
      go_wp2_with fail
      refine (HO.out _ ((Fr.refl [] w3).drewN _)).mono ?_
      rintro e w4 hO
      have HE := Lib.hid (HQ2.out _ e w4 HNe.out (by simp) (HF3.out.drewN _) hO)
      obtain ⟨-, h2⟩ := hO
      rcases h2 with ⟨rfl, -⟩ | ⟨g', rfl, -, -, -⟩
      all_goals
        clear HO
        go_wp2
        exact HE.out
    · have hvy := meas_beq V Y hVY
      have HN1 := Lib.hid hVX
      have HN2 := Lib.hid hVY
      have HE : Hid (∀ W, Fr [] w3 W → Q (.returned (.tuple #[.slice none 0 0, .int .i64 4])) W) := Lib.hid fun W hW => HQ3.out W HN1.out HN2.out (HF3.out.tr hW)
      go_quiet (fail)
      go_wp2_with fail
      go_quiet (fail)
      go_wp2
      exact HE.out _ (((Fr.refl [] w3).drewN _).drewN _)

end Ups
end Go.Proofs.Ytpbjbmmnncohfaa
