/-
  Contracts of varnum's number and Take. Conditions: the reader's bytes are up to 1000000000.
-/
import Derived.Test.YtokfcknfkhlmfaaVarMath
import Derived.Test.YtokfcknfkhlmfaaOctRead2
namespace Go.Proofs.Ytokfcknfkhlmfaa
open Go.RowKit
namespace Var

/-- The state of number's loop fits: nothing wraps. -/
def Fits (sa we : Nat) : Prop := ((we = 1 ∧ sa = 0) ∨ (1 ≤ we ∧ we ≤ sa)) ∧ sa ≤ 4294967296 + we ∧ we ≤ 549755813888
theorem fits_zero : Fits 0 1 := by unfold Fits; omega
theorem fits_next {sa we m : Nat} (h : Fits sa we) (h1 : sa + m ≤ 4294967296) : Fits (sa + m + we * 128) (we * 128) := by unfold Fits at *; omega
theorem fits_mul {sa we : Nat} (h : Fits sa we) (b : UInt8) : b.toNat % 128 * we ≤ 70368744177664 := by
  have h1 : b.toNat % 128 ≤ 128 := by omega
  have h2 : we ≤ 549755813888 := h.2.2
  exact Nat.mul_le_mul h1 h2

/-- What number leaves. -/
def Numbered (w : World) (p g : Nat) (l : List UInt8) (k : Nat) (T : Nat × Nat × Int) (e : Ending) (w' : World) : Prop :=
  e = .returned (.tuple #[.int .u64 (T.1 : Int), .int .i64 T.2.2]) ∧ Fr [p] w w' ∧ (T.2.2 = 0 → Rdr w' p g l (k + T.2.1))

set_option maxRecDepth 100000 in
set_option maxHeartbeats 2000000 in
theorem number_any (w : World) (p g k : Nat) (l : List UInt8) (h : Rdr w p g l k) (hk : k ≤ l.length) (hl : l.length ≤ 1000000000) (T : Nat × Nat × Int) (hT : takeV (l.drop k) = T) :
    Calls Try.prog 84 #[.pointer (some ⟨p, 0, none⟩)] w (Numbered w p g l k T) := by
  have HR := Lib.hid h
  clear h
  have HT : Hid (Links T 0 (goV 0 1 (l.drop k))) := by
    rw [← hT]
    exact links_zero 0 1 (l.drop k)
  clear hT
  go_enter Try.func84, Try.ntmps84
  go_wp2_with fail
  go_loopw [4, 5] (fun s t wr => ∃ i sa we : Nat, s = .int .u64 (sa : Int) ∧ t = .int .u64 (we : Int) ∧ Fits sa we ∧ k + i ≤ l.length ∧ Rdr wr p g l (k + i) ∧ Fr [p] w wr ∧ Links T i (goV sa we (l.drop (k + i)))) (fun _ t _ => 70368744177664 - (intOf t).toNat)
  case atStart => exact ⟨0, 0, 1, rfl, rfl, fits_zero, by omega, HR.out, Fr.refl _ _, HT.out⟩
  case round =>
    obtain ⟨i, sa, we, rfl, rfl, hfit, hi, hr, hf, ht⟩ := hrel
    have HI := Lib.hid hr
    have HF := Lib.hid hf
    have HL := Lib.hid ht
    have HS := Lib.hid hfit
    clear hr hf ht
    by_cases hlt : k + i < l.length
    · obtain ⟨x, hx⟩ : ∃ x, l[k + i] = x := ⟨_, rfl⟩
      have hd : l.drop (k + i) = x :: l.drop (k + (i + 1)) := by rw [← hx, ← Nat.add_assoc]; exact List.drop_eq_getElem_cons hlt
      rw [hd] at HL
      obtain ⟨m, hm⟩ : ∃ m, x.toNat % 128 * we = m := ⟨_, rfl⟩
      have hm2 := fits_mul hfit x
      rw [hm] at hm2
      have hm3 : (x.toNat : Int) % 128 * (we : Int) = (m : Int) := by rw [← hm]; simp
      have hx8 : x.toNat < 256 := x.toNat_lt
      have HX := Lib.hid hx
      have HM := Lib.hid hm
      clear hx hm hd
      have hw1 : 1 ≤ we := by unfold Fits at hfit; omega
      have hw2 : we ≤ 549755813888 := hfit.2.2
      have hs2 : sa ≤ 554050781184 := by unfold Fits at hfit; omega
      clear hfit
      by_cases hbig : sa + m > 4294967296
      · have e : T = (0, 0, 5) := by
          have := HL.out
          rw [goV_size (by rw [HM.out]; exact hbig)] at this
          exact this
        subst e
        have hb' : (4294967296 : Int) < (sa : Int) + (m : Int) := by omega
        go_wp2_with (go_at_call 85; refine (rbyte_ok _ p g (k + i) l HI.out hl hlt).mono ?_; rintro e w1 ⟨rfl, h1, h2⟩; rw [HX.out]; have H1 := Lib.hid h1; have H2 := Lib.hid h2; clear h1 h2)
        go_ret2
        exact ⟨rfl, HF.out.tr H2.out, by simp⟩
      · have hb' : ¬ (4294967296 : Int) < (sa : Int) + (m : Int) := by omega
        by_cases hlast : 128 ≤ x.toNat
        · have hl' : (128 : Int) ≤ (x.toNat : Int) := by omega
          have e : T = (sa + m, 1 + i, 0) := by
            have := HL.out
            rw [goV_last (by rw [HM.out]; exact hbig) hlast, HM.out] at this
            exact this
          subst e
          go_wp2_with (go_at_call 85; refine (rbyte_ok _ p g (k + i) l HI.out hl hlt).mono ?_; rintro e w1 ⟨rfl, h1, h2⟩; rw [HX.out]; have H1 := Lib.hid h1; have H2 := Lib.hid h2; clear h1 h2)
          go_ret2
          refine ⟨rfl, HF.out.tr H2.out, fun _ => ?_⟩
          have : k + (1 + i) = k + i + 1 := by omega
          rw [this]
          exact H1.out
        · have hl' : ¬ (128 : Int) ≤ (x.toNat : Int) := by omega
          go_wp2_with (go_at_call 85; refine (rbyte_ok _ p g (k + i) l HI.out hl hlt).mono ?_; rintro e w1 ⟨rfl, h1, h2⟩; rw [HX.out]; have H1 := Lib.hid h1; have H2 := Lib.hid h2; clear h1 h2)
          go_roundw
          case rel =>
            refine ⟨i + 1, sa + m + we * 128, we * 128, ?_, ?_, fits_next HS.out (by omega), by omega, H1.out, HF.out.tr H2.out, ?_⟩
            · congr 1
            · congr 1
            · have := links_next HL.out (by rw [HM.out]; exact hbig) hlast
              rw [HM.out] at this
              exact this
          case measure => simp [intOf]; omega
    · have hd : l.drop (k + i) = [] := List.drop_eq_nil_of_le (by omega)
      rw [hd] at HL
      have e : T = (0, 0, 2) := HL.out
      subst e
      go_wp2_with (go_at_call 85; refine (rbyte_short _ p g (k + i) l HI.out (by omega) hi hl).mono ?_; rintro e w1 ⟨rfl, n, rfl⟩)
      go_ret2
      exact ⟨rfl, HF.out.drewN n, by simp⟩

/-- What Take leaves. -/
def Taken (w : World) (p g : Nat) (l : List UInt8) (k : Nat) (T : Nat × Nat × Int) (e : Ending) (w' : World) : Prop :=
  e = .returned (.tuple #[.int .u64 (T.1 : Int), .int .i64 T.2.2]) ∧ Rdr w' p g l (k + T.2.1) ∧ Fr [p] w w'

set_option maxRecDepth 100000 in
set_option maxHeartbeats 2000000 in
theorem take_any (w : World) (p g k : Nat) (l : List UInt8) (h : Rdr w p g l k) (hk : k ≤ l.length) (hl : l.length ≤ 1000000000) (T : Nat × Nat × Int) (hT : takeV (l.drop k) = T) :
    Calls Try.prog 78 #[.pointer (some ⟨p, 0, none⟩)] w (Taken w p g l k T) := by
  have h0 := h.1.cell 0
  have h1 := h.1.cell 1
  simp at h0 h1
  have HR := Lib.hid h
  have HT := Lib.hid hT
  clear h hT
  go_enter Try.func78, Try.ntmps78
  go_wp2_with fail
  have hb : Blk (w.alloc (Obj.cells #[Value.slice (some ⟨g, 0, none⟩) l.length l.length, Value.int IntKind.i64 (k : Int)] 115)) w.heap.size 115 #[Value.slice (some ⟨g, 0, none⟩) l.length l.length, Value.int IntKind.i64 (k : Int)] := Blk.fresh _ _ _
  have hfa : Fr [] w (w.alloc (Obj.cells #[Value.slice (some ⟨g, 0, none⟩) l.length l.length, Value.int IntKind.i64 (k : Int)] 115)) := (Fr.refl [] w).alloc _
  refine (number_any _ w.heap.size g k l ⟨hb, HR.out.2.fr hfa (by simp)⟩ hk hl T HT.out).mono ?_
  rintro e w1 ⟨rfl, hf1, hr1⟩
  have hplt := HR.out.1.lt
  have hf : Fr [] w w1 := hfa.trans hf1 (by simp)
  have HF := Lib.hid hf
  clear hb hfa hf1
  by_cases hz : T.2.2 = 0
  · obtain ⟨a, b, c⟩ := T
    simp only at hz
    subst hz
    have hr2 := hr1 rfl
    clear hr1
    have hq0 := hr2.1.cell 0
    have hq1 := hr2.1.cell 1
    simp at hq0 hq1
    have hp := HR.out.1.fr hf (by simp)
    have hp0 := hp.cell 0
    have hp1 := hp.cell 1
    have hz0 := hp.frozen 0
    have hz1 := hp.frozen 1
    simp at hp0 hp1
    have HP := Lib.hid hp
    have H2 := Lib.hid hr2
    clear hp hr2 hf
    go_wp2
    go_ret2
    have hs1 : Fr [p] w1 (w1.setCell ⟨p, 0, none⟩ (Value.slice (some ⟨g, 0, none⟩) l.length l.length)) := (Fr.refl [p] w1).setCell (by simp) _
    have hs2 := hs1.setCell (p := ⟨p, 1, none⟩) (by simp) (Value.int IntKind.i64 ((k : Int) + (b : Int)))
    have hg : g ∉ [p] := by simp [HR.out.ne]
    have hb0 := (HP.out.put 0 (Value.slice (some ⟨g, 0, none⟩) l.length l.length)).put 1 (Value.int IntKind.i64 ((k : Int) + (b : Int)))
    simp at hb0
    refine ⟨rfl, ⟨?_, (HR.out.2.fr HF.out (by simp)).fr hs2 hg⟩, HF.out.nil.tr hs2⟩
    simpa using hb0
  · have hT : T.1 = 0 ∧ T.2.1 = 0 := by
      rcases goV_err 0 1 (l.drop k) with h | h | h
      · exact absurd (by rw [← HT.out]; exact h) hz
      · rw [← HT.out]; unfold takeV; rw [h]; exact ⟨rfl, rfl⟩
      · rw [← HT.out]; unfold takeV; rw [h]; exact ⟨rfl, rfl⟩
    obtain ⟨a, b, c⟩ := T
    obtain ⟨rfl, rfl⟩ := hT
    simp only at hz
    clear hr1 hf
    go_wp2
    go_ret2
    exact ⟨rfl, HR.out.fr HF.out (by simp) (by simp), HF.out.nil⟩

end Var
end Go.Proofs.Ytokfcknfkhlmfaa
