/-
  Contract of the document's Differ (picklockref05): how many bytes of b are not the same in a. Conditions: at most 1000000000 bytes.
-/
import Derived.Test.YtchakjknndpmpaaMkShown
namespace Go.Proofs.Ytchakjknndpmpaa
open Go.RowKit
namespace Ips

set_option maxRecDepth 100000 in
set_option maxHeartbeats 2000000 in
theorem differ5 (w : World) (A B : Option Addr) (n c m d : Nat) (a b : List UInt8) (hn : a.length = n) (hm : b.length = m) (hn2 : n ≤ 1000000000) (hm2 : m ≤ 1000000000) (hA : Rd w A a) (hB : Rd w B b) :
    Calls Try.prog 15 #[.slice A n c, .slice B m d] w fun e w' => e = .returned (.int .i64 (D a b m : Nat)) ∧ Fr [] w w' := by
  have HA := Lib.hid hA
  have HB := Lib.hid hB
  clear hA hB
  go_enter Try.func15, Try.ntmps15
  go_wp2_with fail
  go_loopw [5, 6] (fun s5 s6 wr => ∃ j : Nat, j ≤ m ∧ s5 = .int .i64 (D a b j : Nat) ∧ s6 = .int .i64 (j : Int) ∧ Fr [] w wr) (fun _ s6 _ => m - (intOf s6).toNat)
  case atStart => exact ⟨0, Nat.zero_le _, rfl, rfl, Fr.refl _ _⟩
  case round =>
    obtain ⟨j, hj, rfl, rfl, hf⟩ := hrel
    have HF := Lib.hid hf
    have HAr := Lib.hid (HA.out.later hf (by simp))
    have HBr := Lib.hid (HB.out.later hf (by simp))
    clear hf
    by_cases hlt : j < m
    · have hlt' : (j : Int) < m := by omega
      have hDj : D a b j ≤ j := D_le a b j
      obtain ⟨bb, bo, y, rfl, hy, cy⟩ := HBr.out.at j (by omega)
      by_cases hjn : j < n
      · obtain ⟨ab, ao, x, rfl, hx, cx⟩ := HAr.out.at j (by omega)
        have hjn' : (j : Int) < n := by omega
        have hge : decide ((n : Int) ≤ j) = false := by simp; omega
        have HD := Lib.hid (D_sm a b j)
        have hsm : sm a b j = decide (x = y) := by unfold sm; rw [hx, hy]; simp
        by_cases hxy : x = y
        · subst hxy
          have HE : Hid (D a b (j + 1) = D a b j) := Lib.hid (HD.out.1 (by rw [hsm]; simp))
          have hne : ((x.toNat : Int) != (x.toNat : Int)) = false := by simp
          generalize D a b j = dj at *
          clear hsm hx hy
          go_wp2_with fail
          go_quiet (fail)
          go_wp2
          go_roundw
          case rel => exact ⟨j + 1, by omega, by rw [HE.out], by go_num, HF.out.drewN _⟩
          case measure => simp [intOf]; omega
        · have HE : Hid (D a b (j + 1) = D a b j + 1) := Lib.hid (HD.out.2 (by rw [hsm]; simp [hxy]))
          have hne : ((x.toNat : Int) != (y.toNat : Int)) = true := by
            have : ¬ x.toNat = y.toNat := fun h => hxy (UInt8.toNat_inj.1 h)
            simp; omega
          generalize D a b j = dj at *
          clear hsm hx hy hxy
          go_wp2_with fail
          go_quiet (fail)
          go_wp2
          go_roundw
          case rel => exact ⟨j + 1, by omega, by rw [HE.out]; go_num, by go_num, HF.out.drewN _⟩
          case measure => simp [intOf]; omega
      · have hge : decide ((n : Int) ≤ j) = true := by simp; omega
        have hge' : (n : Int) ≤ j := by omega
        have HE : Hid (D a b (j + 1) = D a b j + 1) := Lib.hid (D_other a b j (by rw [hy, List.getElem?_eq_none (by omega)]; simp))
        generalize D a b j = dj at *
        clear hy
        go_wp2_with fail
        go_quiet (fail)
        go_wp2
        go_roundw
        case rel => exact ⟨j + 1, by omega, by rw [HE.out]; go_num, by go_num, HF.out.drewN _⟩
        case measure => simp [intOf]; omega
    · obtain rfl : j = m := by omega
      have hlt' : ¬ (j : Int) < j := by omega
      go_wp2
      go_ret
      exact ⟨rfl, HF.out⟩

end Ips
end Go.Proofs.Ytchakjknndpmpaa
