/-
  A patch that Create makes is as Parse takes it, and makes the one text of the other.
  picklocklaw08.shown returns true, and turns nothing that was there.
-/
import Derived.Test.YtokfcknfkhlmfaaBmCreate
import Derived.Test.YtokfcknfkhlmfaaBpsApply2
import Derived.Test.YtokfcknfkhlmfaaBmRefParse
namespace Go.Proofs.Ytokfcknfkhlmfaa
open Go.RowKit
namespace Bm
open Bps (Pat Fine Ok actB total makeA applyR AppliedB)
open Ups (sum)

theorem done_fin {a b : List UInt8} {σ : S8} (hR : Runs a b σ) (hu : σ.u = b.length) (ha : a.length ≤ 1000000) (hb : b.length ≤ 1000000) : Fin a b b.length σ.s σ.t (σ.L ++ leftL b σ.told b.length) := by
  have := (runs_inv (by omega) (by omega) hR).left (by omega)
  rwa [hu] at this
theorem pat_len (a b mt : List UInt8) (σ : S8) (hR : Runs a b σ) (hu : σ.u = b.length) (ha : a.length ≤ 1000000) (hb : b.length ≤ 1000000) (hm : mt.length ≤ 100000) : (patO a b mt σ).whole.length ≤ 31 + mt.length + 2 * b.length := by
  have h1 := Var.putV_le5 (u := a.length) (by unfold Var.most; omega)
  have h2 := Var.putV_le5 (u := b.length) (by unfold Var.most; omega)
  have h3 := Var.putV_le5 (u := mt.length) (by unfold Var.most; omega)
  have h4 := (done_fin hR hu ha hb).size
  unfold patO Pat.whole
  rw [Bps.whole_len]
  unfold Bps.inner
  simp only [List.length_append]
  omega
theorem pat_fine (a b mt : List UInt8) (σ : S8) (hR : Runs a b σ) (hu : σ.u = b.length) (ha : a.length ≤ 1000000) (hb : b.length ≤ 1000000) (hm : mt.length ≤ 100000) : Fine (patO a b mt σ) := by
  have h := done_fin hR hu ha hb
  have hl := pat_len a b mt σ hR hu ha hb hm
  exact ⟨h.ok, h.tot, by simp only [patO]; omega, by simp only [patO]; omega, by simp only [patO]; omega, by omega⟩
theorem pat_make {a b : List UInt8} {σ : S8} (hR : Runs a b σ) (hu : σ.u = b.length) (ha : a.length ≤ 1000000) (hb : b.length ≤ 1000000) : makeA (σ.L ++ leftL b σ.told b.length) a = some b := by
  unfold makeA
  rw [(done_fin hR hu ha hb).acts]
  simp
theorem pat_apply {a b : List UInt8} {σ : S8} (hR : Runs a b σ) (hu : σ.u = b.length) (ha : a.length ≤ 1000000) (hb : b.length ≤ 1000000) (mt : List UInt8) : applyR (patO a b mt σ).i (patO a b mt σ).s1 (patO a b mt σ).s2 (patO a b mt σ).L a = (0, b) := by
  unfold applyR
  rw [if_pos ⟨rfl, rfl⟩]
  show (match makeA (σ.L ++ leftL b σ.told b.length) a with | none => _ | some out => _) = _
  rw [pat_make hR hu ha hb]
  simp [patO]

/-- Apply of a patch that Create has made. -/
theorem apply_made (w : World) (R : Nat) (S : Option Addr) (n m d : Nat) (a b mt : List UInt8) (σ : S8) (hR : Runs a b σ) (hu : σ.u = b.length) (ha : a.length ≤ 1000000) (hb : b.length ≤ 1000000) (hm : mt.length ≤ 100000) (hn : (patO a b mt σ).whole.length = n) (hr : Rd w (some ⟨R, 0, none⟩) (patO a b mt σ).whole) (hma : a.length = m) (hx : Rd w S a) (hSn : S = none → d = 0) (hd : m ≤ d) (hd2 : d ≤ maxLen) :
    Calls Try.prog 10 #[.slice (some ⟨R, 0, none⟩) n n, .slice S m d] w (AppliedB w (0, b)) := by
  have hf := pat_fine a b mt σ hR hu ha hb hm
  have := Bps.apply_fits w (some ⟨R, 0, none⟩) S n n m d (patO a b mt σ) a hf hn hr (Nat.le_refl _) (by have := hf.all; rw [hn] at this; unfold maxLen; omega) hma hx (by omega) hSn hd hd2 ⟨rfl, rfl⟩
  rw [pat_apply hR hu ha hb mt] at this
  exact this

end Bm
end Go.Proofs.Ytokfcknfkhlmfaa

namespace Go.Proofs.Ytokfcknfkhlmfaa
open Go.RowKit
namespace Bm
open Bps (AppliedB)

def shA : List UInt8 := [97, 98, 99, 100, 101, 102, 103, 104, 105, 106, 107, 108, 109, 110, 111, 112]
def shB : List UInt8 := [105, 106, 107, 108, 109, 110, 111, 112, 88, 97, 98, 99, 100, 101, 102, 103, 104]
def shM : List UInt8 := [109, 101]

set_option maxRecDepth 100000 in
set_option maxHeartbeats 2000000 in
theorem shown8 (w : World) : Calls Try.prog 7 #[] w fun e w' => e = .returned (.bool true) ∧ Fr [] w w' := by
  obtain ⟨s, hs⟩ : ∃ s, w.heap.size = s := ⟨_, rfl⟩
  have kc := conv_const w s hs (bv shA).toArray 16 16
  have kd := conv_const (w.alloc (.cells (bv shA).toArray 5 (16, 17))) (s + 1) (by simp [hs]) (bv shB).toArray 17 17
  have ke := conv_const ((w.alloc (.cells (bv shA).toArray 5 (16, 17))).alloc (.cells (bv shB).toArray 5 (17, 18))) (s + 1 + 1) (by simp [hs]) (bv shM).toArray 2 2
  simp [bv, shA, shB, shM] at kc kd ke
  go_enter Try.func7, Try.ntmps7
  go_wp2_with fail
  clear kc kd ke
  have r0 : Rd (w.alloc (.cells (bv shA).toArray 5 (16, 17))) (some ⟨s, 0, none⟩) shA := rd_const w s hs shA 5 _
  have r1 : Rd ((w.alloc (.cells (bv shA).toArray 5 (16, 17))).alloc (.cells (bv shB).toArray 5 (17, 18))) (some ⟨s + 1, 0, none⟩) shB := rd_const _ (s + 1) (by simp [hs]) shB 5 _
  have r2 : Rd (((w.alloc (.cells (bv shA).toArray 5 (16, 17))).alloc (.cells (bv shB).toArray 5 (17, 18))).alloc (.cells (bv shM).toArray 5 (2, 3))) (some ⟨s + 1 + 1, 0, none⟩) shM := rd_const _ (s + 1 + 1) (by simp [hs]) shM 5 _
  have HR0 := Lib.hid (r0.later (S := []) (((Fr.refl [] _).alloc (.cells (bv shB).toArray 5 (17, 18))).alloc (.cells (bv shM).toArray 5 (2, 3))) (by simp))
  have HR1 := Lib.hid (r1.later (S := []) ((Fr.refl [] _).alloc (.cells (bv shM).toArray 5 (2, 3))) (by simp))
  have HR2 := Lib.hid r2
  have HF : Hid (Fr [] w (((w.alloc (.cells (bv shA).toArray 5 (16, 17))).alloc (.cells (bv shB).toArray 5 (17, 18))).alloc (.cells (bv shM).toArray 5 (2, 3)))) := Lib.hid ((((Fr.refl [] w).alloc _).alloc _).alloc _)
  clear r0 r1 r2
  change Calls Try.prog _ _ (((w.alloc (.cells (bv shA).toArray 5 (16, 17))).alloc (.cells (bv shB).toArray 5 (17, 18))).alloc (.cells (bv shM).toArray 5 (2, 3))) _
  generalize ((w.alloc (.cells (bv shA).toArray 5 (16, 17))).alloc (.cells (bv shB).toArray 5 (17, 18))).alloc (.cells (bv shM).toArray 5 (2, 3)) = w1 at *
  refine (create_any w1 (some ⟨s, 0, none⟩) (some ⟨s + 1, 0, none⟩) (some ⟨s + 1 + 1, 0, none⟩) 16 17 2 16 17 2 shA shB shM rfl rfl rfl (by decide) (by decide) (by decide) (by decide) (by decide) HR0.out HR1.out HR2.out (by simp)).mono ?_
  rintro e w2 ⟨σ, R, n, hR, hu, hn, rfl, hRl, hb2, hf2⟩
  have HP2 := Lib.hid (rd_blk hb2)
  have HR2' := Lib.hid (HR0.out.later hf2 (by simp))
  have HB2' := Lib.hid (HR1.out.later hf2 (by simp))
  have HF2 := Lib.hid (HF.out.tr hf2)
  have HRuns := Lib.hid hR
  have Hu := Lib.hid hu
  have Hn := Lib.hid hn
  clear hR hu hn hb2 hf2 HR0 HR1 HR2 HF
  go_wp2_with fail
  refine (apply_made w2 R (some ⟨s, 0, none⟩) n 16 16 shA shB shM σ HRuns.out Hu.out (by decide) (by decide) (by decide) Hn.out HP2.out rfl HR2'.out (by simp) (by decide) (by simp [maxLen])).mono ?_
  rintro e w3 ⟨A3, c3, rfl, ho3, hf3⟩
  rw [show (0, shB).2.length = 17 from rfl] at ho3 ⊢
  simp only at ho3 ⊢
  have HO3 := Lib.hid ho3
  have HP3 := Lib.hid (HP2.out.later hf3 (by simp))
  have HB3 := Lib.hid (HB2'.out.later hf3 (by simp))
  have HF3 := Lib.hid (HF2.out.tr hf3)
  clear ho3 hf3
  go_wp2_with fail
  refine (rparse_made w3 R n n (patO shA shB shM σ) (pat_fine shA shB shM σ HRuns.out Hu.out (by decide) (by decide) (by decide)) Hn.out HP3.out (Nat.le_refl _)).mono ?_
  rintro e w4 ⟨M, cm, AL, cL, rfl, hm4, -, -, hf4⟩
  have HO4 := Lib.hid (HO3.out.fr hf4 (by simp))
  have HB4 := Lib.hid (HB3.out.later hf4 (by simp))
  have HF4 := Lib.hid (HF3.out.tr hf4)
  have HM4 : Hid (Rd w4 M shM) := Lib.hid hm4
  rw [show (patO shA shB shM σ).i = 16 from rfl, show (patO shA shB shM σ).o = 17 from rfl, show (patO shA shB shM σ).mt.length = 2 from rfl]
  obtain ⟨Z1, hZ1⟩ : ∃ Z1, Crc.u (patO shA shB shM σ).s1 = Z1 := ⟨_, rfl⟩
  obtain ⟨Z2, hZ2⟩ : ∃ Z2, Crc.u (patO shA shB shM σ).s2 = Z2 := ⟨_, rfl⟩
  obtain ⟨ll, hll⟩ : ∃ ll, (patO shA shB shM σ).L.length = ll := ⟨_, rfl⟩
  rw [hZ1, hZ2, hll]
  clear hZ1 hZ2 hll hm4 hf4 HO3 HB3 HF3
  have hal : Fr [] w4 (w4.alloc (.cells #[.int .i64 16, .int .i64 17, .int .u32 Z1, .int .u32 Z2, .slice M 2 cm, .slice AL ll cL] 30)) := (Fr.refl [] w4).alloc _
  have h1 := run_str (P := Try.prog) (w := w4.alloc (.cells #[.int .i64 16, .int .i64 17, .int .u32 Z1, .int .u32 Z2, .slice M 2 cm, .slice AL ll cL] 30)) 22 9 5 (cap := c3) Try.underlying22 Try.underlying5 Try.underlying9 (l := shB) (A := A3) ((HO4.out.rd).later hal (by simp))
  have h2 := run_str (P := Try.prog) (w := w4.alloc (.cells #[.int .i64 16, .int .i64 17, .int .u32 Z1, .int .u32 Z2, .slice M 2 cm, .slice AL ll cL] 30)) 22 9 5 (cap := 17) Try.underlying22 Try.underlying5 Try.underlying9 (l := shB) (A := some ⟨s + 1, 0, none⟩) (HB4.out.later hal (by simp))
  have h3 := run_str (P := Try.prog) (w := w4.alloc (.cells #[.int .i64 16, .int .i64 17, .int .u32 Z1, .int .u32 Z2, .slice M 2 cm, .slice AL ll cL] 30)) 22 9 5 (cap := cm) Try.underlying22 Try.underlying5 Try.underlying9 (l := shM) (A := M) (HM4.out.later hal (by simp))
  simp only [show shB.length = 17 from rfl, show shM.length = 2 from rfl] at h1 h2 h3
  unfold shM at h3
  have HF5 := Lib.hid (HF4.out.tr hal)
  clear hal
  go_wp2
  go_ret
  exact ⟨by rfl, HF5.out⟩

end Bm
end Go.Proofs.Ytokfcknfkhlmfaa
