/-
  Contracts of bytes.Clone (of a slice that is not nil) and of gbhead.Sign.
-/
import Derived.Test.YthomlnaabkfcpaaDoorGbSum
import Derived.Laws.Cover3
namespace Go.Proofs.YthomlnaabkfcpaaDoor
open Go.RowKit
namespace Gb

set_option maxRecDepth 100000 in
set_option maxHeartbeats 1000000 in
theorem clone_any (w : World) (A : Option Addr) (n c : Nat) (l : List UInt8) (hn : l.length = n) (h0 : 0 < n) (hm : n ≤ 2000000000) (hr : Rd w A l) :
    Calls Tryd.prog 19 #[.slice A n c] w fun e w' => ∃ A' c', e = .returned (.slice A' n c') ∧ Own w' w.heap.size (.slice A' n c') l ∧ Fr [] w w' := by
  obtain ⟨i0, hi, hz0, hz1, hz2⟩ := info_parts info5
  have HR : Hid (∀ W, Fr [] w W → Rd W A l) := Lib.hid fun W hW => hr.later hW (by simp)
  obtain ⟨b, o, rfl, -⟩ := hr (by omega)
  have HN := Lib.hid hn
  have hnil : ∀ W, (binOp .eql 26 (.slice (some ⟨b, o, none⟩) n c) (.slice none 0 0)).run Tryd.prog W = .ok (.bool false) W := fun W => by
    have h := run_equal_slice_nil (P := Tryd.prog) W 26 5 (some ⟨b, o, none⟩) n c Tryd.underlying26
    simp [binOp, h]
  clear hr hn
  go_enter Tryd.func19, Tryd.ntmps19
  go_wp2_with (at_builtin; refine wpList_appN _ rfl _ _ 26 rfl w.heap.size i0 Tryd.underlying26 hi hz0 hz1 hz2 (.slice (some ⟨w.heap.size, 0, none⟩) 0 0) [] 0 rfl rfl (Own.empty w _ (Nat.le_refl _)) (some ⟨b, o, none⟩) n c l rfl HN.out (HR.out _ ((Fr.refl [] w).alloc _)) (by simp) (by omega) (by simp) ?_)
  intro A1 c1 w1 ho1 hf1 _
  have HO1 := Lib.hid ho1
  have HF1 : Hid (Fr [] w w1) := Lib.hid (((Fr.refl [] w).alloc _).trans hf1 (by simp [Value.ownBlock]))
  clear ho1 hf1
  go_wp2
  go_ret
  exact ⟨A1, c1, rfl, HO1.out, HF1.out⟩

/-- Bytes that are signed. -/
def signed (l : List UInt8) : List UInt8 := l.set 333 (UInt8.ofNat (gsum l))
theorem signed_length (l : List UInt8) : (signed l).length = l.length := by simp [signed]
theorem sum_signed (l : List UInt8) (h : 333 < l.length) : gsum (signed l) = gsum l :=
  gsum_same _ _ fun i hi => by unfold signed; rw [bt_set _ _ _ _ h, if_neg (by omega)]
theorem at_signed (l : List UInt8) (h : 333 < l.length) : bt (signed l) 333 = gsum l := by
  unfold signed
  rw [bt_set _ _ _ _ h, if_pos rfl]
  have := gsum_lt l
  simp; omega

set_option maxRecDepth 100000 in
set_option maxHeartbeats 1000000 in
theorem sign_none (w : World) (A : Option Addr) (n c : Nat) (h : n < 334) :
    Calls Tryd.prog 14 #[.slice A n c] w fun e w' => e = .returned (.slice none 0 0) ∧ w = w' := by
  have h1 : (n : Int) < 334 := by omega
  go_enter Tryd.func14, Tryd.ntmps14
  go_wp2
  go_ret
  exact ⟨rfl, rfl⟩

set_option maxRecDepth 100000 in
set_option maxHeartbeats 1000000 in
theorem sign_any (w : World) (A : Option Addr) (n c : Nat) (l : List UInt8) (hn : l.length = n) (h : 333 < n) (hm : n ≤ 2000000000) (hr : Rd w A l) :
    Calls Tryd.prog 14 #[.slice A n c] w fun e w' => ∃ A' c', e = .returned (.slice A' n c') ∧ Own w' w.heap.size (.slice A' n c') (signed l) ∧ Fr [] w w' := by
  have h1 : ¬ (n : Int) < 334 := by omega
  have h2 : (333 : Int) < n := by omega
  have HN := Lib.hid hn
  have HR := Lib.hid hr
  clear hn hr
  go_enter Tryd.func14, Tryd.ntmps14
  go_wp2_with fail
  (with_reducible refine (clone_any w A n c l HN.out (by omega) hm HR.out).mono ?_)
  rintro e w1 ⟨A1, c1, rfl, ho1, hf1⟩
  obtain ⟨g, rfl, -, hcell, hfz, hset⟩ := ho1.head (by omega)
  have HO1 := Lib.hid ho1
  have HF1 := Lib.hid hf1
  obtain ⟨hn1, -⟩ := ho1.caps
  have hg : w.heap.size ≤ g := (ho1.lt g (by simp [Value.ownBlock])).1
  obtain ⟨v333, hv⟩ := hcell 333 (by omega)
  have hz := hfz 333
  have HS := Lib.hid hset
  clear ho1 hf1 hcell hfz hset
  go_wp2_with fail
  (with_reducible refine (headSum_any w1 (some ⟨g, 0, none⟩) n c1 l HN.out hn1 HO1.out.rd h).mono ?_)
  rintro e w2 ⟨rfl, rfl⟩
  obtain ⟨s, hs⟩ : ∃ s : UInt8, (gsum l : Int) = (s.toNat : Int) := ⟨UInt8.ofNat (gsum l), by have := gsum_lt l; simp; omega⟩
  have hsg : signed l = l.set 333 s := by
    unfold signed
    congr 1
    have : gsum l = s.toNat := by omega
    rw [this]; simp
  have HX := Lib.hid (HS.out 333 s)
  have HY : Hid (Fr [] w (w1.setCell ⟨g, 333, none⟩ (.int .u8 (s.toNat : Int)))) := Lib.hid (HF1.out.setCell (.inr hg) _)
  rw [← hsg] at HX
  rw [hs]
  have hl := hn1
  clear hs hsg
  go_wp2
  go_ret
  exact ⟨_, c1, rfl, HX.out, HY.out⟩

end Gb
end Go.Proofs.YthomlnaabkfcpaaDoor
