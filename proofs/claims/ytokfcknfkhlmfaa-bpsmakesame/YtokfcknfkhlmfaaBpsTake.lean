/-
  Contracts of bps' takeSum, takeNumbers, takeHead (of numbers and meta that are there).
-/
import Derived.Test.YtokfcknfkhlmfaaActs
import Derived.Test.YtokfcknfkhlmfaaVarTake
import Derived.Test.YtokfcknfkhlmfaaVarTurn
import Derived.Test.YtokfcknfkhlmfaaOctNum1
namespace Go.Proofs.Ytokfcknfkhlmfaa
open Go.RowKit
namespace Bps
open Ups (word4 word4_u le4_lt)

set_option maxHeartbeats 1000000 in
theorem takeSum_ok (w : World) (p g k : Nat) (l : List UInt8) (h : Rdr w p g l k) (hl : l.length ≤ 1000000000) (hk : k + 4 ≤ l.length) (X : BitVec 32) (hX : word4 (l.drop k) = X) :
    Calls Try.prog 40 #[.pointer (some ⟨p, 0, none⟩)] w fun e w' => e = .returned (.int .u32 (Crc.u X)) ∧ Rdr w' p g l (k + 4) ∧ Fr [p] w w' := by
  have h4 : 4 ≤ (l.drop k).length := by rw [List.length_drop]; omega
  have hu := word4_u (l.drop k) h4
  have hlt := le4_lt (l.drop k) h4
  rw [hX] at hu
  rw [hu]
  have HR := Lib.hid h
  have HL := Lib.hid (rlow_ok w p g k 4 l h hl hk (by decide))
  generalize le ((l.drop k).take 4) = z at *
  have hwz : IntKind.u32.wrap (z : Int) = (z : Int) := by rw [IntKind.wrap_u32]; omega
  clear h hX hu h4
  go_enter Try.func40, Try.ntmps40
  go_wp2_with fail
  refine HL.out.mono ?_
  rintro e w2 ⟨rfl, hr2, hf2⟩
  have HR2 := Lib.hid hr2
  have HF2 := Lib.hid hf2
  clear hr2 hf2 HL
  go_wp2
  go_ret
  exact ⟨rfl, HR2.out, HF2.out⟩

/-- What takeNumbers leaves. -/
def Three (w : World) (p g : Nat) (l : List UInt8) (k n1 n2 n3 : Nat) (e : Ending) (w' : World) : Prop :=
  e = .returned (.tuple #[.agg #[.int .u64 (n1 : Int), .int .u64 (n2 : Int), .int .u64 (n3 : Int)], .int .i64 0]) ∧ Rdr w' p g l k ∧ Fr [p] w w'

/-- Where three numbers end. -/
def end3 (n1 n2 n3 : Nat) (k : Nat) : Nat := k + (Var.putV n1).length + (Var.putV n2).length + (Var.putV n3).length

/-- The array, of which j are told. -/
def arr3 (N : Nat → Nat) : Nat → Array Value
  | 0 => #[.int .u64 0, .int .u64 0, .int .u64 0]
  | j + 1 => (arr3 N j).setIfInBounds j (.int .u64 (N j : Int))
theorem arr3_size (N : Nat → Nat) (j : Nat) : (arr3 N j).size = 3 := by
  induction j with
  | zero => rfl
  | succ j ih => rw [arr3, Array.size_setIfInBounds, ih]
theorem arr3_all (N : Nat → Nat) : arr3 N 3 = #[.int .u64 (N 0 : Int), .int .u64 (N 1 : Int), .int .u64 (N 2 : Int)] := by
  simp [arr3]

set_option maxRecDepth 100000 in
set_option maxHeartbeats 2000000 in
theorem takeNumbers_gen (w : World) (p g : Nat) (l : List UInt8) (N K : Nat → Nat) (h : Rdr w p g l (K 0)) (hl : l.length ≤ 1000000000) (hT : ∀ j, j < 3 → K j ≤ l.length ∧ ∃ q, Var.takeV (l.drop (K j)) = (N j, q, 0) ∧ K j + q = K (j + 1)) :
    Calls Try.prog 66 #[.pointer (some ⟨p, 0, none⟩)] w (Three w p g l (K 3) (N 0) (N 1) (N 2)) := by
  have HR := Lib.hid h
  have HT := Lib.hid hT
  have hpl := h.1.lt
  have hgl := h.2.lt
  have HA := Lib.hid (arr3_all N)
  obtain ⟨s, hs⟩ : ∃ s, w.heap.size = s := ⟨_, rfl⟩
  rw [hs] at hpl hgl
  have HQ : Hid (∀ W, Rdr W p g l (K 3) → Fr [p] w W → Three w p g l (K 3) (N 0) (N 1) (N 2) (.returned (.tuple #[.agg #[.int .u64 (N 0 : Int), .int .u64 (N 1 : Int), .int .u64 (N 2 : Int)], .int .i64 0])) W) := Lib.hid fun W h1 h2 => ⟨rfl, h1, h2⟩
  generalize Three w p g l (K 3) (N 0) (N 1) (N 2) = Q at *
  have hb0 := (Blk.fresh w 118 #[.int .u64 0, .int .u64 0, .int .u64 0])
  rw [hs] at hb0
  have hb1 := hb0.fr ((Fr.refl [] _).alloc (.cells #[.int .u64 0, .int .u64 0, .int .u64 0] 118)) (by simp)
  have hb2 := Blk.fresh (w.alloc (.cells #[.int .u64 0, .int .u64 0, .int .u64 0] 118)) 118 #[.int .u64 0, .int .u64 0, .int .u64 0]
  have hs1 : (w.alloc (.cells #[.int .u64 0, .int .u64 0, .int .u64 0] 118)).heap.size = s + 1 := by simp [hs]
  rw [hs1] at hb2
  have HB1 := Lib.hid hb1
  have HB2 := Lib.hid hb2
  have Hs := Lib.hid hs
  clear h hT hb0 hb1 hb2 hs1
  go_enter Try.func66, Try.ntmps66
  go_wp2_with fail
  go_loopw [8] (fun i wr => ∃ j : Nat, j ≤ 3 ∧ i = .int .i64 (j : Int) ∧ Rdr wr p g l (K j) ∧ Blk wr s 118 #[.int .u64 0, .int .u64 0, .int .u64 0] ∧ Blk wr (s + 1) 118 (arr3 N j) ∧ Fr [p] w wr) (fun i _ => 3 - (intOf i).toNat)
  case atStart =>
    have hf : Fr [] w ((w.alloc (.cells #[.int .u64 0, .int .u64 0, .int .u64 0] 118)).alloc (.cells #[.int .u64 0, .int .u64 0, .int .u64 0] 118)) := ((Fr.refl [] w).alloc _).alloc _
    exact ⟨0, by decide, rfl, HR.out.fr hf (by simp) (by simp), HB1.out, HB2.out, hf.nil⟩
  case round =>
    obtain ⟨j, hj, rfl, hr, h1, h2, hf⟩ := hrel
    have HR1 := Lib.hid hr
    have HF1 := Lib.hid hf
    have HC1 := Lib.hid h1
    have HC2 := Lib.hid h2
    by_cases hlt : j < 3
    · obtain ⟨hk, q, ht, hq⟩ := HT.out j hlt
      have Ht := Lib.hid ht
      have Hq := Lib.hid hq
      have hji : (j : Int) < 3 := by omega
      clear hr h1 h2 hf ht hq
      go_wp2_with fail
      refine (Var.take_any wr p g (K j) l HR1.out hk hl _ Ht.out).mono ?_
      rintro e w1 ⟨rfl, hr1, hf1⟩
      simp only at hr1 ⊢
      rw [Hq.out] at hr1
      have h4 := HC1.out.fr hf1 (by simp; omega)
      have h5 := HC2.out.fr hf1 (by simp; omega)
      have ⟨cv, hcv⟩ : ∃ v, (arr3 N j)[j]? = some v := ⟨_, Array.getElem?_eq_getElem (by rw [arr3_size]; exact hlt)⟩
      have hcj := (h5.cell j).trans hcv
      have hfj := h5.frozen j
      have HR2 := Lib.hid hr1
      have HF2 := Lib.hid (HF1.out.tr hf1)
      have HC3 := Lib.hid h4
      have HC4 := Lib.hid h5
      clear hr1 hf1 h4 h5 hcv
      go_wp2
      go_roundw
      case rel =>
        have hst : Fr [s + 1] w1 (w1.setCell ⟨s + 1, j, none⟩ (.int .u64 (N j : Int))) := (Fr.refl [s + 1] w1).setCell (by simp) _
        refine ⟨j + 1, by omega, by go_num, HR2.out.fr hst (by simp; omega) (by simp; omega), HC3.out.fr hst (by simp), HC4.out.put j _, HF2.out.setCell (.inr (by simp [Hs.out])) _⟩
      case measure => simp [intOf]; omega
    · obtain rfl : j = 3 := by omega
      rw [HA.out] at h2
      have c0 := h2.cell 0
      have c1 := h2.cell 1
      have c2 := h2.cell 2
      have d0 := h1.cell 0
      have d1 := h1.cell 1
      have d2 := h1.cell 2
      have f0 := h1.frozen 0
      have f1 := h1.frozen 1
      have f2 := h1.frozen 2
      simp at c0 c1 c2 d0 d1 d2
      clear hr h1 h2 hf
      go_wp2
      have hb := ((HC1.out.put 0 (.int .u64 (N 0 : Int))).put 1 (.int .u64 (N 1 : Int))).put 2 (.int .u64 (N 2 : Int))
      have e0 := hb.cell 0
      have e1 := hb.cell 1
      have e2 := hb.cell 2
      simp at e0 e1 e2
      have hst : Fr [s] wr (((wr.setCell ⟨s, 0, none⟩ (.int .u64 (N 0 : Int))).setCell ⟨s, 1, none⟩ (.int .u64 (N 1 : Int))).setCell ⟨s, 2, none⟩ (.int .u64 (N 2 : Int))) := (((Fr.refl [s] wr).setCell (by simp) _).setCell (by simp) _).setCell (by simp) _
      exact bodyPost_ret (v := .tuple #[.agg #[.int .u64 (N 0 : Int), .int .u64 (N 1 : Int), .int .u64 (N 2 : Int)], .int .i64 0]) (by simp [results, Try.results66, go_sem, e0, e1, e2]) rfl (HQ.out _ (HR1.out.fr hst (by simp; omega) (by simp; omega)) (HF1.out.trans hst (by simp [Hs.out])))

theorem takeNumbers_ok (w : World) (p g k : Nat) (l r : List UInt8) (n1 n2 n3 : Nat) (h : Rdr w p g l k) (hk : k ≤ l.length) (hl : l.length ≤ 1000000000) (hd : l.drop k = Var.putV n1 ++ (Var.putV n2 ++ (Var.putV n3 ++ r))) (h1 : n1 ≤ 16777216) (h2 : n2 ≤ 16777216) (h3 : n3 ≤ 16777216) :
    Calls Try.prog 66 #[.pointer (some ⟨p, 0, none⟩)] w (Three w p g l (end3 n1 n2 n3 k) n1 n2 n3) := by
  have HT1 : (Var.takeV (l.drop k) = (n1, (Var.putV n1).length, 0)) := (by rw [hd]; exact Var.takeV_put n1 _ (by unfold Var.most; omega))
  have hd2 : l.drop (k + (Var.putV n1).length) = Var.putV n2 ++ (Var.putV n3 ++ r) := by rw [← List.drop_drop, hd, List.drop_left]
  have HT2 : (Var.takeV (l.drop (k + (Var.putV n1).length)) = (n2, (Var.putV n2).length, 0)) := (by rw [hd2]; exact Var.takeV_put n2 _ (by unfold Var.most; omega))
  have hd3 : l.drop (k + (Var.putV n1).length + (Var.putV n2).length) = Var.putV n3 ++ r := by rw [← List.drop_drop, hd2, List.drop_left]
  have HT3 : (Var.takeV (l.drop (k + (Var.putV n1).length + (Var.putV n2).length)) = (n3, (Var.putV n3).length, 0)) := (by rw [hd3]; exact Var.takeV_put n3 _ (by unfold Var.most; omega))
  have hle : k + (Var.putV n1).length + (Var.putV n2).length ≤ l.length := by
    have e := congrArg List.length hd
    rw [List.length_drop, List.length_append, List.length_append] at e
    omega
  have key := takeNumbers_gen w p g l (fun j => match j with | 0 => n1 | 1 => n2 | _ => n3) (fun j => match j with | 0 => k | 1 => k + (Var.putV n1).length | 2 => k + (Var.putV n1).length + (Var.putV n2).length | _ => end3 n1 n2 n3 k) h hl (by
    intro j hj
    match j, hj with
    | 0, _ => exact ⟨hk, _, HT1, rfl⟩
    | 1, _ => exact ⟨by show k + (Var.putV n1).length ≤ _; omega, _, HT2, rfl⟩
    | 2, _ => exact ⟨hle, _, HT3, rfl⟩)
  exact key

end Bps
end Go.Proofs.Ytokfcknfkhlmfaa
