/-
  Contract of ups' parse: of too few bytes, of another beginning, of a last sum that does not fit, and of a patch that was made.
-/
import Derived.Test.YtpbjbmmnncohfaaUpsTake
namespace Go.Proofs.Ytpbjbmmnncohfaa
open Go.RowKit
namespace Ups

/-- What parse leaves where it fails. -/
def Refused (w : World) (x : Int) (e : Ending) (w' : World) : Prop := e = .returned (.tuple #[.pointer none, .int .i64 x]) ∧ Fr [] w w'

set_option maxHeartbeats 1000000 in
theorem parse_short (w : World) (A : Option Addr) (n c : Nat) (hn : n < 18) : Calls Try.prog 21 #[.slice A n c] w (Refused w 3) := by
  have e1 : (n : Int) < 18 := by omega
  go_enter Try.func21, Try.ntmps21
  go_wp2
  go_ret2
  exact ⟨rfl, Fr.refl _ _⟩

set_option maxHeartbeats 1000000 in
theorem parse_form (w : World) (A : Option Addr) (n c : Nat) (l : List UInt8) (hn : l.length = n) (hr : Rd w A l) (h18 : 18 ≤ n) (hc : n ≤ c) (hb : l.take 4 ≠ [85, 80, 83, 49]) : Calls Try.prog 21 #[.slice A n c] w (Refused w 3) := by
  have e1 : ¬ (n : Int) < 18 := by omega
  have e2 : (4 : Int) ≤ c := by omega
  have e3 : 4 ≤ c := by omega
  have hne : (l.take 4 == [85, 80, 83, 49]) = false := by simpa using hb
  have hs := run_str (P := Try.prog) (w := w) 22 9 5 (cap := c) Try.underlying22 Try.underlying5 Try.underlying9 (rd_take hr 4)
  rw [show (l.take 4).length = 4 by simp; omega] at hs
  clear hr hn
  go_enter Try.func21, Try.ntmps21
  go_wp2
  go_ret2
  exact ⟨rfl, Fr.refl _ _⟩

set_option maxRecDepth 100000 in
set_option maxHeartbeats 1000000 in
theorem parse_sum (w : World) (A : Option Addr) (n c : Nat) (l : List UInt8) (hn : l.length = n) (hr : Rd w A l) (h18 : 18 ≤ n) (hc : n ≤ c) (hc2 : c ≤ maxLen) (hN : n ≤ 1000000000) (hb : l.take 4 = [85, 80, 83, 49]) (hS : word4 (l.drop (n - 4)) ≠ sum (l.take (n - 4))) :
    Calls Try.prog 21 #[.slice A n c] w (Refused w 4) := by
  obtain ⟨b, o, rfl, hcell⟩ := hr (by omega)
  have e1 : ¬ (n : Int) < 18 := by omega
  have e2 : (4 : Int) ≤ c := by omega
  have e3 : 4 ≤ c := by omega
  have hne : (l.take 4 == [85, 80, 83, 49]) = true := by simp [hb]
  have hs := run_str (P := Try.prog) (w := w) 22 9 5 (cap := c) Try.underlying22 Try.underlying5 Try.underlying9 (rd_take hr 4)
  rw [show (l.take 4).length = 4 by simp; omega] at hs
  obtain ⟨t, ht⟩ : ∃ t, n - 12 = t := ⟨_, rfl⟩
  have ht1 : (n : Int) - 12 = (t : Int) := by omega
  have ht2 : n - t = 12 := by omega
  have ht3 : (t : Int) ≤ c := by omega
  have ht4 : (4 : Int) ≤ t := by omega
  have ht5 : ¬ c = t := by omega
  have ht6 : (t : Int) ≤ n := by omega
  have ht7 : 4 ≤ t := by omega
  have ht8 : t ≤ c := by omega
  have ht9 : t ≤ n := by omega
  have hc4 : ¬ c = 4 := by omega
  obtain ⟨f, hf⟩ : ∃ f, n - 4 = f := ⟨_, rfl⟩
  have hf1 : (n : Int) - 4 = (f : Int) := by omega
  have hf2 : f ≤ c := by omega
  have hf3 : (f : Int) ≤ c := by omega
  rw [hf] at hS
  obtain ⟨d, hd⟩ : ∃ d, c - t = d := ⟨_, rfl⟩
  have hd1 : 12 ≤ d := by omega
  have hd2 : ¬ d = 8 := by omega
  have hd3 : (8 : Int) ≤ d := by omega
  have hwf : IntKind.i64.wrap (f : Int) = (f : Int) := by rw [IntKind.wrap_i64]; omega
  have hf0 : (0 : Int) ≤ f := by omega
  have HR8 : Hid (∀ W, Fr [] w W → Rd W (some ⟨b, o + t + 8, none⟩) (l.drop f)) := Lib.hid (by
    intro W hW
    have h1 := Rd.cut hcell f (l.length - f)
    rw [List.take_of_length_le (by simp), show o + f = o + t + 8 by omega] at h1
    exact h1.later hW (by simp))
  have HL8 : Hid ((l.drop f).length = 4) := Lib.hid (by rw [List.length_drop]; omega)
  have HR0 : Hid (∀ W, Fr [] w W → Rd W (some ⟨b, o, none⟩) (l.take f)) := Lib.hid fun W hW => (rd_take hr f).later hW (by simp)
  have HLf : Hid ((l.take f).length = f) := Lib.hid (by rw [List.length_take]; omega)
  unfold sum at hS
  obtain ⟨X, hX⟩ : ∃ X, word4 (l.drop f) = X := ⟨_, rfl⟩
  obtain ⟨Y, hY⟩ : ∃ Y, Crc.next 0#32 (l.take f) = Y := ⟨_, rfl⟩
  have HX := Lib.hid hX
  have HY := Lib.hid hY
  rw [hX, hY] at hS
  have hXY : (Crc.u X != Crc.u Y) = true := by simp; exact fun h => hS (Crc.u_inj h)
  unfold maxLen at hc2
  clear hr hn hcell hX hY
  go_enter Try.func21, Try.ntmps21
  go_wp2_with fail
  go_quiet (fail)
  go_wp2_with fail
  clear hs
  go_region_law (go_simp; first
    | (go_at_call 24; (with_reducible refine (Crc.sum_any w1 (some ⟨b, o, none⟩) f c (l.take f) HLf.out (HR0.out _ HF1.out) (by omega)).mono ?_); rintro e w2 ⟨rfl, hf2⟩; rw [HY.out]; have HF2 := Lib.hid (HF1.out.tr hf2); clear hf2)
    | (go_at_call 30; (with_reducible refine (sum4_any _ (some ⟨b, o + t + 8, none⟩) 4 (d - 8) (l.drop f) HL8.out (HR8.out _ ((Fr.refl [] w).drewN _)) (by decide) (by omega)).mono ?_); rintro e w1 ⟨rfl, hf1⟩; rw [HX.out]; have HF1 : Hid (Fr [] w w1) := Lib.hid (((Fr.refl [] w).drewN _).tr hf1); clear hf1))
  all_goals
    go_wp2
    go_ret2
    exact ⟨rfl, HF2.out⟩

end Ups
end Go.Proofs.Ytpbjbmmnncohfaa
