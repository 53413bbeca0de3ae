/-
  Contract of picklockref01.Same: two rows of bytes are the same.
-/
import Derived.Test.YthomlnaabkfcpaaDoorApp
namespace Go.Proofs.YthomlnaabkfcpaaDoor
open Go.RowKit

set_option maxHeartbeats 400000 in
theorem same_any (w : World) (A A' : Option Addr) (n n' c c' : Nat) (l m : List UInt8) (hn : l.length = n) (hn' : m.length = n') (h : Rd w A l) (h' : Rd w A' m) :
    Calls Tryd.prog 15 #[.slice A n c, .slice A' n' c'] w fun e w' => e = .returned (.bool (l == m)) ∧ w = w' := by
  subst hn hn'
  have h1 := run_str (P := Tryd.prog) (w := w) 26 9 5 (cap := c) Tryd.underlying26 Tryd.underlying5 Tryd.underlying9 h
  have h2 := run_str (P := Tryd.prog) (w := w) 26 9 5 (cap := c') Tryd.underlying26 Tryd.underlying5 Tryd.underlying9 h'
  clear h h'
  go_enter Tryd.func15, Tryd.ntmps15
  go_wp2
  go_ret
  exact ⟨rfl, rfl⟩

theorem same_eq (w : World) (A A' : Option Addr) (n n' c c' : Nat) (l : List UInt8) (hn : l.length = n) (hn' : l.length = n') (h : Rd w A l) (h' : Rd w A' l) :
    Calls Tryd.prog 15 #[.slice A n c, .slice A' n' c'] w fun e w' => e = .returned (.bool true) ∧ w = w' :=
  (same_any w A A' n n' c c' l l hn hn' h h').mono fun e w' ⟨he, hw⟩ => ⟨by rw [he]; simp, hw⟩

end Go.Proofs.YthomlnaabkfcpaaDoor
