/-
  A patch that Create makes is as Parse takes it, and makes the one text of the other.
-/
import Derived.Test.YtokfcknfkhlmfaaBmCreate
import Derived.Test.YtokfcknfkhlmfaaBpsApply2
import Derived.Test.YtokfcknfkhlmfaaBmRefParse
namespace Go.Proofs.Ytokfcknfkhlmfaa
open Go.RowKit
namespace Bm
open Bps (Pat Fine Ok actB total makeA applyR AppliedB)
open Ups (sum)

theorem done_fin {a b : List UInt8} {σ : S8} (hR : Runs a b σ) (hu : σ.u = b.length) (ha : a.length ≤ 1000000) (hb : b.length ≤ 1000000) : Fin a b b.length σ.s σ.t (σ.L ++ leftL b σ.told b.length) := by
  have := (runs_inv (by omega) (by omega) hR).left (by omega)
  rwa [hu] at this
theorem pat_len (a b mt : List UInt8) (σ : S8) (hR : Runs a b σ) (hu : σ.u = b.length) (ha : a.length ≤ 1000000) (hb : b.length ≤ 1000000) (hm : mt.length ≤ 100000) : (patO a b mt σ).whole.length ≤ 31 + mt.length + 2 * b.length := by
  have h1 := Var.putV_le5 (u := a.length) (by unfold Var.most; omega)
  have h2 := Var.putV_le5 (u := b.length) (by unfold Var.most; omega)
  have h3 := Var.putV_le5 (u := mt.length) (by unfold Var.most; omega)
  have h4 := (done_fin hR hu ha hb).size
  unfold patO Pat.whole
  rw [Bps.whole_len]
  unfold Bps.inner
  simp only [List.length_append]
  omega
theorem pat_fine (a b mt : List UInt8) (σ : S8) (hR : Runs a b σ) (hu : σ.u = b.length) (ha : a.length ≤ 1000000) (hb : b.length ≤ 1000000) (hm : mt.length ≤ 100000) : Fine (patO a b mt σ) := by
  have h := done_fin hR hu ha hb
  have hl := pat_len a b mt σ hR hu ha hb hm
  exact ⟨h.ok, h.tot, by simp only [patO]; omega, by simp only [patO]; omega, by simp only [patO]; omega, by omega⟩
theorem pat_make {a b : List UInt8} {σ : S8} (hR : Runs a b σ) (hu : σ.u = b.length) (ha : a.length ≤ 1000000) (hb : b.length ≤ 1000000) : makeA (σ.L ++ leftL b σ.told b.length) a = some b := by
  unfold makeA
  rw [(done_fin hR hu ha hb).acts]
  simp
theorem pat_apply {a b : List UInt8} {σ : S8} (hR : Runs a b σ) (hu : σ.u = b.length) (ha : a.length ≤ 1000000) (hb : b.length ≤ 1000000) (mt : List UInt8) : applyR (patO a b mt σ).i (patO a b mt σ).s1 (patO a b mt σ).s2 (patO a b mt σ).L a = (0, b) := by
  unfold applyR
  rw [if_pos ⟨rfl, rfl⟩]
  show (match makeA (σ.L ++ leftL b σ.told b.length) a with | none => _ | some out => _) = _
  rw [pat_make hR hu ha hb]
  simp [patO]

/-- Apply of a patch that Create has made. -/
theorem apply_made (w : World) (R : Nat) (S : Option Addr) (n m d : Nat) (a b mt : List UInt8) (σ : S8) (hR : Runs a b σ) (hu : σ.u = b.length) (ha : a.length ≤ 1000000) (hb : b.length ≤ 1000000) (hm : mt.length ≤ 100000) (hn : (patO a b mt σ).whole.length = n) (hr : Rd w (some ⟨R, 0, none⟩) (patO a b mt σ).whole) (hma : a.length = m) (hx : Rd w S a) (hSn : S = none → d = 0) (hd : m ≤ d) (hd2 : d ≤ maxLen) :
    Calls Try.prog 10 #[.slice (some ⟨R, 0, none⟩) n n, .slice S m d] w (AppliedB w (0, b)) := by
  have hf := pat_fine a b mt σ hR hu ha hb hm
  have := Bps.apply_fits w (some ⟨R, 0, none⟩) S n n m d (patO a b mt σ) a hf hn hr (Nat.le_refl _) (by have := hf.all; rw [hn] at this; unfold maxLen; omega) hma hx (by omega) hSn hd hd2 ⟨rfl, rfl⟩
  rw [pat_apply hR hu ha hb mt] at this
  exact this

end Bm
end Go.Proofs.Ytokfcknfkhlmfaa
