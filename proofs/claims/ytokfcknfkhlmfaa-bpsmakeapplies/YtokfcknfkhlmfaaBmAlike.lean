/-
  Contracts of bpsmake's keyOf and alike. No condition but that the bytes can be read.
-/
import Derived.Test.YtokfcknfkhlmfaaBmIdxMath
import Derived.Test.YtokfcknfkhlmfaaBpsAct
import Derived.StillTailTactics
namespace Go.Proofs.Ytokfcknfkhlmfaa
open Go.RowKit
namespace Bm

/-- How many bytes are the same from the first one on. -/
def alk : List UInt8 → List UInt8 → Nat
  | x :: l, y :: m => if x = y then alk l m + 1 else 0
  | _, _ => 0
theorem alk_le1 (l m : List UInt8) : alk l m ≤ l.length := by
  induction l generalizing m with
  | nil => simp [alk]
  | cons x l ih =>
    cases m with
    | nil => simp [alk]
    | cons y m =>
      simp only [alk, List.length_cons]
      split
      · have := ih m; omega
      · omega
theorem alk_le2 (l m : List UInt8) : alk l m ≤ m.length := by
  induction l generalizing m with
  | nil => simp [alk]
  | cons x l ih =>
    cases m with
    | nil => simp [alk]
    | cons y m =>
      simp only [alk, List.length_cons]
      split
      · have := ih m; omega
      · omega
theorem alk_take (l m : List UInt8) (n : Nat) (h : n ≤ alk l m) : l.take n = m.take n := by
  induction l generalizing m n with
  | nil => simp [alk] at h; subst h; simp
  | cons x l ih =>
    cases m with
    | nil => simp [alk] at h; subst h; simp
    | cons y m =>
      simp only [alk] at h
      split at h
      · rename_i e
        subst e
        cases n with
        | zero => simp
        | succ n => simp only [List.take_succ_cons]; rw [ih m n (by omega)]
      · obtain rfl : n = 0 := by omega
        simp
/-- All of n and the next ones. -/
theorem alk_of (l m : List UInt8) (n : Nat) (h1 : n ≤ l.length) (h2 : n ≤ m.length) (h : l.take n = m.take n) (hs : n = l.length ∨ n = m.length ∨ l[n]? ≠ m[n]?) : alk l m = n := by
  induction l generalizing m n with
  | nil => simp at h1; subst h1; simp [alk]
  | cons x l ih =>
    cases m with
    | nil => simp at h2; subst h2; simp [alk]
    | cons y m =>
      cases n with
      | zero =>
        simp only [alk]
        rw [if_neg]
        rintro rfl
        simp at hs
      | succ n =>
        simp only [List.take_succ_cons, List.cons.injEq] at h
        obtain ⟨rfl, h⟩ := h
        simp only [alk, if_true]
        rw [ih m n (by simpa using h1) (by simpa using h2) h (by simpa using hs)]
theorem alk_ge (l m : List UInt8) (n : Nat) (h1 : n ≤ l.length) (h2 : n ≤ m.length) (h : l.take n = m.take n) : n ≤ alk l m := by
  induction l generalizing m n with
  | nil => simp at h1; omega
  | cons x l ih =>
    cases m with
    | nil => simp at h2; omega
    | cons y m =>
      cases n with
      | zero => omega
      | succ n =>
        simp only [List.take_succ_cons, List.cons.injEq] at h
        obtain ⟨rfl, h⟩ := h
        simp only [alk, if_true]
        have := ih m n (by simpa using h1) (by simpa using h2) h
        omega
theorem alk_next (l m : List UInt8) (h1 : alk l m < l.length) (h2 : alk l m < m.length) : l[alk l m]? ≠ m[alk l m]? := by
  induction l generalizing m with
  | nil => simp [alk] at h1
  | cons x l ih =>
    cases m with
    | nil => simp [alk] at h2
    | cons y m =>
      simp only [alk] at h1 h2 ⊢
      split
      · rename_i e
        rw [if_pos e] at h1 h2
        simpa using ih m (by simpa using h1) (by simpa using h2)
      · rename_i e
        simp
        exact e

theorem infoKey : (Try.prog.info? 144).map (fun i => (i.zero, i.size, i.bytes)) = some (some (.agg #[.int .u8 0, .int .u8 0, .int .u8 0, .int .u8 0]), 4, 4) := by kernel_rfl

set_option maxRecDepth 100000 in
set_option maxHeartbeats 1000000 in
theorem keyOf_any (w : World) (A : Option Addr) (n c : Nat) (l : List UInt8) (hn : l.length = n) (h4 : 4 ≤ n) (hr : Rd w A l) :
    Calls Try.prog 82 #[.slice A n c] w fun e w' => e = .returned (keyA (l.take 4)) ∧ Fr [] w w' := by
  obtain ⟨x0, x1, x2, x3, r, rfl⟩ : ∃ x0 x1 x2 x3 r, l = x0 :: x1 :: x2 :: x3 :: r := by
    match l, (by omega : 4 ≤ l.length) with
    | x0 :: x1 :: x2 :: x3 :: r, _ => exact ⟨x0, x1, x2, x3, r, rfl⟩
  have hf1 : Fr [] w (w.alloc (.cells #[.int .u8 0, .int .u8 0, .int .u8 0, .int .u8 0] 144)) := (Fr.refl [] w).alloc _
  have hb1 := Blk.fresh w 144 #[.int .u8 0, .int .u8 0, .int .u8 0, .int .u8 0]
  obtain ⟨b, o, rfl, hc⟩ := hr.later hf1 (by simp) (by simp)
  have k0 := hc 0 (by simp)
  have k1 := hc 1 (by simp)
  have k2 := hc 2 (by simp)
  have k3 := hc 3 (by simp)
  simp at k0 k1 k2 k3
  have n0 : 0 < n := by omega
  have n1 : 1 < n := by omega
  have n2 : 2 < n := by omega
  have n3 : 3 < n := by omega
  have m1 : (1 : Int) < n := by omega
  have m2 : (2 : Int) < n := by omega
  have m3 : (3 : Int) < n := by omega
  obtain ⟨s, hs⟩ : ∃ s, w.heap.size = s := ⟨_, rfl⟩
  rw [hs] at hb1
  have HB := Lib.hid hb1
  have HF := Lib.hid hf1
  clear hc hr h4 hn hb1 hf1
  go_enter Try.func82, Try.ntmps82
  go_wp2_with fail
  generalize w.alloc (.cells #[.int .u8 0, .int .u8 0, .int .u8 0, .int .u8 0] 144) = w1 at *
  go_still_tail 13, (by kernel_rfl)
  repeat still_step
  change wpList _ _ _ _ _ w1.drew
  have hb2 : Blk w1.drew s 144 #[.int .u8 0, .int .u8 0, .int .u8 0, .int .u8 0] := HB.out
  have HB2 := Lib.hid hb2
  have HF2 : Hid (Fr [] w w1.drew) := Lib.hid HF.out.drew
  have f0 := hb2.frozen 0
  have f1 := hb2.frozen 1
  have f2 := hb2.frozen 2
  have f3 := hb2.frozen 3
  obtain ⟨c0, c1, c2, c3⟩ := Bps.blk4 hb2
  clear hb2 k0 k1 k2 k3 HB HF
  generalize w1.drew = w2 at *
  go_wp2
  have hb := Bps.put4 HB2.out (.int .u8 (x0.toNat : Int)) (.int .u8 (x1.toNat : Int)) (.int .u8 (x2.toNat : Int)) (.int .u8 (x3.toNat : Int))
  have hst := Bps.put4_fr w2 s (.int .u8 (x0.toNat : Int)) (.int .u8 (x1.toNat : Int)) (.int .u8 (x2.toNat : Int)) (.int .u8 (x3.toNat : Int))
  obtain ⟨z0, z1, z2, z3⟩ := Bps.blk4 hb
  have HF3 := HF2.out.trans hst (by simp; omega)
  generalize (((w2.setCell ⟨s, 0, none⟩ (.int .u8 (x0.toNat : Int))).setCell ⟨s, 1, none⟩ (.int .u8 (x1.toNat : Int))).setCell ⟨s, 2, none⟩ (.int .u8 (x2.toNat : Int))).setCell ⟨s, 3, none⟩ (.int .u8 (x3.toNat : Int)) = w3 at *
  exact bodyPost_ret (v := keyA [x0, x1, x2, x3]) (by simp [results, Try.results82, go_sem, z0, z1, z2, z3, keyA, bv]) rfl ⟨rfl, HF3⟩

set_option maxRecDepth 100000 in
set_option maxHeartbeats 1000000 in
theorem alike_any (w : World) (A D : Option Addr) (n c m d k : Nat) (l r : List UInt8) (hn : l.length = n) (hm : r.length = m) (hl : Rd w A l) (hr : Rd w D r) (hN : n ≤ 1000000000) (hk : k ≤ n) (hk2 : k ≤ m) (hs : l.take k = r.take k) :
    Calls Try.prog 72 #[.slice A n c, .slice D m d, .int .i64 (k : Int)] w fun e w' => e = .returned (.int .i64 (alk l r : Int)) ∧ Fr [] w w' := by
  have HL := Lib.hid hl
  have HR := Lib.hid hr
  have Hn := Lib.hid hn
  have Hm := Lib.hid hm
  have Hs := Lib.hid hs
  clear hl hr hn hm hs
  go_enter Try.func72, Try.ntmps72
  go_wp2_with fail
  go_loopw [2] (fun s wr => ∃ j : Nat, s = .int .i64 (j : Int) ∧ j ≤ n ∧ j ≤ m ∧ l.take j = r.take j ∧ Fr [] w wr) (fun s _ => n - (intOf s).toNat)
  case atStart => exact ⟨k, rfl, hk, hk2, Hs.out, Fr.refl _ _⟩
  case round =>
    obtain ⟨j, rfl, hj1, hj2, hs, hf⟩ := hrel
    have HS := Lib.hid hs
    have HF := Lib.hid hf
    clear hs hf
    by_cases h1 : j < n ∧ j < m
    · obtain ⟨g1, g2⟩ := h1
      obtain ⟨b1, o1, x1, rfl, hx1, c1⟩ := (HL.out.later HF.out (by simp)).at j (by rw [Hn.out]; exact g1)
      obtain ⟨b2, o2, x2, rfl, hx2, c2⟩ := (HR.out.later HF.out (by simp)).at j (by rw [Hm.out]; exact g2)
      have i1 : (j : Int) < n := by omega
      have i2 : (j : Int) < m := by omega
      have i3 : (0 : Int) ≤ j := by omega
      have e1 : decide ((j : Int) < n) = true := by simp; omega
      by_cases hx : x1 = x2
      · subst hx
        go_wp2_with fail
        go_quiet (fail)
        go_wp2
        go_roundw
        case rel =>
          refine ⟨j + 1, by go_num, by omega, by omega, ?_, HF.out.drewN _⟩
          obtain ⟨y1, y2⟩ := List.getElem?_eq_some_iff.1 hx1
          obtain ⟨y3, y4⟩ := List.getElem?_eq_some_iff.1 hx2
          rw [List.take_succ_eq_append_getElem y1, List.take_succ_eq_append_getElem y3, y2, y4, HS.out]
        case measure => simp [intOf]; omega
      · have hx' : ((x1.toNat : Int) == (x2.toNat : Int)) = false := by
          simp only [beq_eq_false_iff_ne, ne_eq]
          intro h
          exact hx (UInt8.toNat_inj.1 (by omega))
        have HE : Hid (alk l r = j) := Lib.hid (alk_of l r j (by rw [Hn.out]; omega) (by rw [Hm.out]; omega) HS.out (.inr (.inr (by rw [hx1, hx2]; simpa using hx))))
        go_wp2_with fail
        go_quiet (fail)
        go_wp2
        go_ret
        exact ⟨by rw [HE.out]; rfl, HF.out.drewN _⟩
    · have HE : Hid (alk l r = j) := Lib.hid (alk_of l r j (by rw [Hn.out]; omega) (by rw [Hm.out]; omega) HS.out (by rw [Hn.out, Hm.out]; omega))
      by_cases g1 : j < n
      · have g2 : ¬ j < m := fun h => h1 ⟨g1, h⟩
        have i1 : (j : Int) < n := by omega
        have i2 : ¬ (j : Int) < m := by omega
        have e1 : decide ((j : Int) < n) = true := by simp; omega
        have e2 : decide ((j : Int) < m) = false := by simp; omega
        go_wp2_with fail
        go_quiet (fail)
        go_wp2
        go_ret
        exact ⟨by rw [HE.out]; rfl, HF.out.drewN _⟩
      · have i1 : ¬ (j : Int) < n := by omega
        have e1 : decide ((j : Int) < n) = false := by simp; omega
        go_wp2_with fail
        go_quiet (fail)
        go_wp2
        go_ret
        exact ⟨by rw [HE.out]; rfl, HF.out.drewN _⟩

end Bm
end Go.Proofs.Ytokfcknfkhlmfaa
