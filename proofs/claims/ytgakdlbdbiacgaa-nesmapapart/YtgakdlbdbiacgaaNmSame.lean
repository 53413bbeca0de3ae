/-
  picklocklaw11.same: both maps in one state say the same of each address. Condition: the state is one that there is.
-/
import Derived.Test.YtgakdlbdbiacgaaNmMapP
import Derived.Test.YtgakdlbdbiacgaaNmRefS
import Derived.Test.YtgakdlbdbiacgaaNmRefC
import Derived.Test.YtgakdlbdbiacgaaNmRefP
import Derived.Test.YtgakdlbdbiacgaaNmRefU
namespace Go.Proofs.Ytgakdlbdbiacgaa
open Go.RowKit
namespace Nm

set_option maxRecDepth 100000 in
set_option maxHeartbeats 4000000 in
theorem same_any (w : World) (p g q : Nat) (S : St) (a : Int) (h : ProgAt w p g S) (hr : RefAt w q S) (hO : Ok S) (ha0 : 0 ≤ a) (ha1 : a < 65536) :
    Calls Try.prog 15 #[.pointer (some ⟨p, 0, none⟩), .pointer (some ⟨q, 0, none⟩), .int .u16 a] w fun e w' => e = .returned (.bool true) ∧ ∃ n, w' = w.drewN n := by
  have hfr : ∀ n, Fr [] w (w.drewN n) := fun n => (Fr.refl [] w).drewN n
  have HP1 := Lib.hid fun n => ppage_all (w.drewN n) p g S a (h.fr (hfr n) (by simp) (by simp)) hO ha0 ha1
  have HP2 := Lib.hid fun n => pprg_all (w.drewN n) p g S a (h.fr (hfr n) (by simp) (by simp)) hO ha0 ha1
  have HP3 := Lib.hid fun n => pchr_all (w.drewN n) p g S a (h.fr (hfr n) (by simp) (by simp)) hO ha0 ha1
  have HP4 := Lib.hid fun n => pmirror_any (w.drewN n) p g S (h.fr (hfr n) (by simp) (by simp)) hO
  have HP5 := Lib.hid fun n => pirq_any (w.drewN n) p g S (h.fr (hfr n) (by simp) (by simp)) hO
  have HR1 := Lib.hid fun n => rpage_any (w.drewN n) q S a (hr.fr (hfr n) (by simp)) ha0 ha1 hO
  have HR2 := Lib.hid fun n => rprg_any (w.drewN n) q S a (hr.fr (hfr n) (by simp)) ha0 ha1 hO
  have HR3 := Lib.hid fun n => rchr_any (w.drewN n) q S a (hr.fr (hfr n) (by simp)) ha0 ha1 hO
  have HR4 := Lib.hid fun n => rmirror_any (w.drewN n) q S (hr.fr (hfr n) (by simp)) hO
  have d24 : w.cell? ⟨q, 24, none⟩ = some (.bool S.ask) := Blk.cell hr 24
  generalize pageOf S a = v1 at *
  generalize prgOf S a = v2 at *
  generalize chrOf S a = v3 at *
  generalize mirOf S = v4 at *
  generalize S.ask = v5 at *
  clear h hr hO hfr
  go_enter Try.func15, Try.ntmps15
  go_upto_region 1 with fail
  go_quiet (first
    | (go_at_call 18; with_reducible exact Calls.quiet_of (HP1.out _))
    | (go_at_call 17; with_reducible exact Calls.quiet_of (HP2.out _))
    | (go_at_call 16; with_reducible exact Calls.quiet_of (HP3.out _))
    | (go_at_call 22; with_reducible exact Calls.quiet_of_same ((HP4.out _).mono fun _ _ h => ⟨h.1, h.2.symm⟩))
    | (go_at_call 20; with_reducible exact Calls.quiet_of_same ((HP5.out _).mono fun _ _ h => ⟨h.1, h.2.symm⟩))
    | (go_at_call 25; with_reducible exact Calls.quiet_of_same ((HR1.out _).mono fun _ _ h => ⟨h.1, h.2.symm⟩))
    | (go_at_call 26; with_reducible exact Calls.quiet_of_same ((HR2.out _).mono fun _ _ h => ⟨h.1, h.2.symm⟩))
    | (go_at_call 27; with_reducible exact Calls.quiet_of_same ((HR3.out _).mono fun _ _ h => ⟨h.1, h.2.symm⟩))
    | (go_at_call 28; with_reducible exact Calls.quiet_of_same ((HR4.out _).mono fun _ _ h => ⟨h.1, h.2.symm⟩)))
  go_wp2
  go_ret
  exact ⟨by simp, _, rfl⟩

end Nm
end Go.Proofs.Ytgakdlbdbiacgaa
