/-
  Contract of the document's own Put of layer 3 (picklockref03): a number's bytes. Condition: up to 2 to the power of 32.
-/
import Derived.Test.YtkefckoffnlkcaaApp
import Derived.Test.YtkefckoffnlkcaaVarMath
namespace Go.Proofs.Ytkefckoffnlkcaa
open Go.RowKit
namespace Var

set_option maxRecDepth 100000 in
set_option maxHeartbeats 2000000 in
theorem refPut_any (w : World) (u : Nat) (hu : u ≤ most) :
    Calls Try.prog 15 #[.int .u64 (u : Int)] w fun e w' => ∃ A c, e = .returned (.slice A (putV u).length c) ∧ Own w' w.heap.size (.slice A (putV u).length c) (putV u) ∧ Fr [] w w' := by
  obtain ⟨i0, hi, hz0, hz1, hz2⟩ := info_parts info5
  have h5 := putV_le5 hu
  unfold most at hu
  obtain ⟨R, hR⟩ : ∃ R, putV u = R := ⟨_, rfl⟩
  rw [hR] at h5 ⊢
  have HR := Lib.hid hR
  clear hR
  go_enter Try.func15, Try.ntmps15
  go_wp2_with fail
  go_loopw [0, 3] (fun x o wr => ∃ (v j : Nat) (pre : List UInt8) (A : Option Addr) (c : Nat), v ≤ 4294967296 ∧ x = .int .u64 (v : Int) ∧ o = .slice A j c ∧ pre.length = j ∧ pre ++ putV v = R ∧ Own wr w.heap.size o pre ∧ Fr [] w wr) (fun x _ _ => (intOf x).toNat)
  case atStart =>
    exact ⟨u, 0, [], some ⟨w.heap.size, 0, none⟩, 0, hu, rfl, rfl, rfl, by simpa using HR.out, Own.empty w _ (Nat.le_refl _), (Fr.refl [] _).alloc _⟩
  case round =>
    obtain ⟨v, j, pre, A, c, hv, rfl, rfl, hj, hp, ho, hf⟩ := hrel
    have hv1 := putV_pos v
    have hj5 : j < R.length := by rw [← hp, List.length_append]; omega
    have HJ := Lib.hid hj
    have HP := Lib.hid hp
    have HO := Lib.hid ho
    have HF := Lib.hid hf
    have hsz := hf.size
    clear hj hp ho hf hv1
    by_cases h : v < 128
    · have h0 : (v : Int) / 128 = 0 := by omega
      have HE : Hid ((128 : Int) + (v : Int) % 128 = ((UInt8.ofNat (v + 128)).toNat : Int)) := by
        show (128 : Int) + (v : Int) % 128 = ((UInt8.ofNat (v + 128)).toNat : Int)
        simp
        omega
      have HQ := Lib.hid (putV_last h)
      generalize UInt8.ofNat (v + 128) = x at *
      go_wp2_with (at_builtin; refine wpList_appN _ rfl (.tmp 13) (.tmp 16) 23 rfl w.heap.size i0 Try.underlying23 hi hz0 hz1 hz2 (.slice A j c) pre j HJ.out rfl (HO.out.fr ((Fr.refl [] wr).alloc _) (by simp)) (some ⟨wr.heap.size, 0, none⟩) 1 1 [x] rfl rfl (rd_one' wr _ x HE.out) (by simp) (by omega) (by simp; omega) ?_)
      intro A' c' w2 ho2 hf2 _
      have HO2 := Lib.hid ho2
      have HF2 := Lib.hid hf2
      clear ho2 hf2
      go_wp2
      go_ret
      have e : R = pre ++ [x] := by rw [← HP.out, HQ.out]
      have e2 : j + 1 = R.length := by rw [e, List.length_append, HJ.out]; rfl
      refine ⟨A', c', ?_, ?_, ?_⟩
      · rw [← e2]; rfl
      · rw [← e2, e]; exact HO2.out
      · refine (HF.out.alloc _).trans HF2.out ?_
        intro k hk
        have := HO.out.lt k (by simpa using hk)
        exact .inr this.1
    · have HE : Hid ((v : Int) % 128 = ((UInt8.ofNat (v % 128)).toNat : Int)) := by
        show (v : Int) % 128 = ((UInt8.ofNat (v % 128)).toNat : Int)
        simp
        omega
      have HQ := Lib.hid (putV_more h)
      generalize UInt8.ofNat (v % 128) = x at *
      have h0 : ¬ (v : Int) / 128 = 0 := by omega
      go_wp2_with (at_builtin; refine wpList_appN _ rfl (.tmp 18) (.tmp 20) 23 rfl w.heap.size i0 Try.underlying23 hi hz0 hz1 hz2 (.slice A j c) pre j HJ.out rfl (HO.out.fr ((Fr.refl [] wr).alloc _) (by simp)) (some ⟨wr.heap.size, 0, none⟩) 1 1 [x] rfl rfl (rd_one' wr _ x HE.out) (by simp) (by omega) (by simp; omega) ?_)
      intro A' c' w2 ho2 hf2 _
      have HO2 := Lib.hid ho2
      have HF2 := Lib.hid hf2
      clear ho2 hf2
      go_wp2
      go_roundw
      case rel =>
        refine ⟨v / 128 - 1, j + 1, pre ++ [x], A', c', by omega, ?_, rfl, by rw [List.length_append, HJ.out]; rfl, ?_, HO2.out, ?_⟩
        · congr 1
          omega
        · rw [List.append_assoc, List.singleton_append, ← HQ.out]
          exact HP.out
        · refine (HF.out.alloc _).trans HF2.out ?_
          intro k hk
          have := HO.out.lt k (by simpa using hk)
          exact .inr this.1
      case measure => simp [intOf]; omega

end Var
end Go.Proofs.Ytkefckoffnlkcaa
