/-
  picklocklaw12.same: both maps in one state say the same of each address. Condition: the state is one that there is.
-/
import Derived.Test.YtglnpgdigdfjiaaGmReads
import Derived.Test.YtglnpgdigdfjiaaGmRef
namespace Go.Proofs.Ytglnpgdigdfjiaa
open Go.RowKit
namespace Gm

set_option maxRecDepth 100000 in
set_option maxHeartbeats 4000000 in
theorem same_any (w : World) (p q : Nat) (S : St) (a : Int) (h : ProgAt w p S) (hr : RefAt w q S) (hO : Ok S) (ha0 : 0 ≤ a) (ha1 : a < 65536) :
    Calls Try.prog 12 #[.pointer (some ⟨p, 0, none⟩), .pointer (some ⟨q, 0, none⟩), .int .u16 a] w fun e w' => e = .returned (.bool true) ∧ ∃ n, w' = w.drewN n := by
  have hfr : ∀ n, Fr [] w (w.drewN n) := fun n => (Fr.refl [] w).drewN n
  have HP1 := Lib.hid (pbank_any w p S a h hO ha0 ha1)
  have HP2 := Lib.hid fun n => prom_any (w.drewN n) p S a (h.fr (hfr n) (by simp)) hO ha0 ha1
  have HP3 := Lib.hid fun n => pram_any (w.drewN n) p S a (h.fr (hfr n) (by simp)) hO ha0 ha1
  have HR1 := Lib.hid fun n => rbank_any (w.drewN n) q S a (hr.fr (hfr n) (by simp)) hO ha0 ha1
  have HR2 := Lib.hid fun n => rrom_any (w.drewN n) q S a (hr.fr (hfr n) (by simp)) hO ha0 ha1
  have HR3 := Lib.hid fun n => rram_any (w.drewN n) q S a (hr.fr (hfr n) (by simp)) hO ha0 ha1
  generalize bankOf S a = v1 at *
  generalize romOf S a = v2 at *
  generalize ramOf S a = v3 at *
  clear h hr hO hfr
  go_enter Try.func12, Try.ntmps12
  go_wp2_with fail
  (with_reducible refine HP1.out.mono ?_)
  rintro e w1 ⟨rfl, n1, rfl⟩
  go_wp2_with fail
  (with_reducible refine (HR1.out _).mono ?_)
  rintro e w1 ⟨rfl, rfl⟩
  go_wp2_with fail
  (with_reducible refine (HP2.out _).mono ?_)
  rintro e w1 ⟨rfl, n2, rfl⟩
  rw [World.drewN_drewN]
  go_wp2_with fail
  (with_reducible refine (HR2.out _).mono ?_)
  rintro e w1 ⟨rfl, rfl⟩
  go_wp2_with fail
  (with_reducible refine (HP3.out _).mono ?_)
  rintro e w1 ⟨rfl, n3, rfl⟩
  rw [World.drewN_drewN]
  go_wp2_with fail
  (with_reducible refine (HR3.out _).mono ?_)
  rintro e w1 ⟨rfl, rfl⟩
  go_wp2
  go_ret
  exact ⟨by simp, _, rfl⟩

end Gm
end Go.Proofs.Ytglnpgdigdfjiaa
