/-
  Contract of picklockref01.Same: two rows of bytes are the same.
-/
import Derived.Test.YthabiaenaicppaaApp
namespace Go.Proofs.Ythabiaenaicppaa
open Go.RowKit

set_option maxHeartbeats 400000 in
theorem same_any (w : World) (A A' : Option Addr) (n n' c c' : Nat) (l m : List UInt8) (hn : l.length = n) (hn' : m.length = n') (h : Rd w A l) (h' : Rd w A' m) :
    Calls Try.prog 14 #[.slice A n c, .slice A' n' c'] w fun e w' => e = .returned (.bool (l == m)) ∧ w = w' := by
  subst hn hn'
  have h1 := run_str (P := Try.prog) (w := w) 27 9 5 (cap := c) Try.underlying27 Try.underlying5 Try.underlying9 h
  have h2 := run_str (P := Try.prog) (w := w) 27 9 5 (cap := c') Try.underlying27 Try.underlying5 Try.underlying9 h'
  clear h h'
  go_enter Try.func14, Try.ntmps14
  go_wp2
  go_ret
  exact ⟨rfl, rfl⟩

theorem same_eq (w : World) (A A' : Option Addr) (n n' c c' : Nat) (l : List UInt8) (hn : l.length = n) (hn' : l.length = n') (h : Rd w A l) (h' : Rd w A' l) :
    Calls Try.prog 14 #[.slice A n c, .slice A' n' c'] w fun e w' => e = .returned (.bool true) ∧ w = w' :=
  (same_any w A A' n n' c c' l l hn hn' h h').mono fun e w' ⟨he, hw⟩ => ⟨by rw [he]; simp, hw⟩

end Go.Proofs.Ythabiaenaicppaa
