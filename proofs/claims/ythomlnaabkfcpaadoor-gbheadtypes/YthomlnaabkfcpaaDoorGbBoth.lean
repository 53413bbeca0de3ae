/-
  Both Parses tell the same outcome; the document's Same of two carts that are one.
-/
import Derived.Test.YthomlnaabkfcpaaDoorGbRefParse
namespace Go.Proofs.YthomlnaabkfcpaaDoor
open Go.RowKit
namespace Gb

theorem rparse_any (w : World) (A : Option Addr) (n c : Nat) (l : List UInt8) (hn : l.length = n) (hnc : n ≤ c) (hr : Rd w A l) : Calls Tryd.prog 12 #[.slice A n c] w (Outcome w l) := by
  by_cases hb : fault l = 0
  · exact rparse_ok w A n c l hn hnc hr hb
  have hF : fault l = fault l := rfl
  conv at hF => rhs; unfold fault
  rw [hn] at hF
  by_cases h1 : 16777216 < n
  · rw [if_pos h1] at hF; exact refused w A n c l (rb_large w A n c h1) hF (by decide)
  rw [if_neg h1] at hF
  by_cases h2 : n < 32768
  · rw [if_pos h2] at hF; exact refused w A n c l (rb_short w A n c h2) hF (by decide)
  rw [if_neg h2] at hF
  by_cases h3 : bt l 333 ≠ gsum l
  · rw [if_pos h3] at hF; exact refused w A n c l (rb_sum w A n c l hn (by omega) (by omega) hr h3) hF (by decide)
  rw [if_neg h3] at hF
  have h3' : bt l 333 = gsum l := by omega
  by_cases h4 : kindN (bt l 327) = 9
  · rw [if_pos h4] at hF; exact refused w A n c l (rb_mapper w A n c l hn (by omega) (by omega) hr h3' h4) hF (by decide)
  rw [if_neg h4] at hF
  by_cases h5 : unfit (kindN (bt l 327)) (bt l 328) (bt l 329)
  · rw [if_pos h5] at hF; exact refused w A n c l (rb_form w A n c l hn (by omega) (by omega) hr h3' h4 h5) hF (by decide)
  rw [if_neg h5] at hF
  by_cases h6 : n < romN (bt l 328)
  · rw [if_pos h6] at hF; exact refused w A n c l (rb_cut w A n c l hn (by omega) (by omega) hr h3' h4 h5 h6) hF (by decide)
  rw [if_neg h6] at hF
  exact absurd hF hb

set_option maxRecDepth 100000 in
set_option maxHeartbeats 1000000 in
theorem same_cart (B B' : Nat) (w : World) (v v' : Value) (ct : Ct) (h : CartIn B w v ct) (h' : CartIn B' w v' ct) : Calls Tryd.prog 13 #[v, v'] w fun e w' => e = .returned (.bool true) ∧ Fr [] w w' := by
  obtain ⟨P, cp, rfl, h1, -⟩ := h
  obtain ⟨P', cp', rfl, h1', -⟩ := h'
  obtain ⟨m, pl, r⟩ := ct
  simp only at *
  have hf : Fr [] w ((w.alloc (.cells #[.int .i64 (m : Int), .slice P pl.length cp, .int .i64 (r : Int)] 34)).alloc (.cells #[.int .i64 (m : Int), .slice P' pl.length cp', .int .i64 (r : Int)] 34)) := ((Fr.refl [] w).alloc _).alloc _
  have k1 := run_str (P := Tryd.prog) 26 9 5 (cap := cp) Tryd.underlying26 Tryd.underlying5 Tryd.underlying9 (h1.later hf (by simp))
  have k3 := run_str (P := Tryd.prog) 26 9 5 (cap := cp') Tryd.underlying26 Tryd.underlying5 Tryd.underlying9 (h1'.later hf (by simp))
  obtain ⟨n1, hn1⟩ : ∃ n1, pl.length = n1 := ⟨_, rfl⟩
  rw [hn1] at hf k1 k3
  rw [hn1]
  have HF := Lib.hid hf
  clear hf h1 h1' hn1
  go_enter Tryd.func13, Tryd.ntmps13
  go_wp2
  go_ret
  exact ⟨rfl, HF.out⟩

end Gb
end Go.Proofs.YthomlnaabkfcpaaDoor
