/-
  Contracts of what ines asks of a cart: isTold, isBlank (by the library's ContainsFunc, IndexFunc), the table's methods, the table. Condition: lengths up to 1000000000.
-/
import Derived.Test.YthabiaenaicppaaIneRefParse3
namespace Go.Proofs.Ythabiaenaicppaa
open Go.RowKit
namespace Ine

def toldB (n k : Nat) : Bool := decide (0 < n ∧ n % k = 0 ∧ n / k ≤ 255)

set_option maxHeartbeats 1000000 in
theorem isTold_any (w : World) (A : Option Addr) (n c k : Nat) (z : Int) (hz : z = (k : Int)) (hk : k = 16384 ∨ k = 8192) (hn : n ≤ 1000000000) : Calls Try.prog 51 #[.slice A n c, .int .i64 z] w fun e w' => e = .returned (.bool (toldB n k)) ∧ w = w' := by
  by_cases h0 : n = 0
  · subst h0
    have hd : toldB 0 k = false := by simp [toldB]
    rw [hd]
    clear hd
    go_enter Try.func51, Try.ntmps51
    go_wp2
    go_ret
    exact ⟨rfl, rfl⟩
  · have h1 : (0 : Int) < n := by omega
    obtain ⟨b, hb⟩ : ∃ b, toldB n k = b := ⟨_, rfl⟩
    rw [hb]
    have hk2 : z = 16384 ∨ z = 8192 := by omega
    obtain ⟨a, ka⟩ : ∃ a, (n : Int) % z = a := ⟨_, rfl⟩
    obtain ⟨q, kq⟩ : ∃ q, (n : Int) / z = q := ⟨_, rfl⟩
    have hb2 : b = decide (a = 0 ∧ q ≤ 255) := by
      rw [← hb, toldB, ← ka, ← kq, decide_eq_decide, hz]
      rcases hk with rfl | rfl <;> omega
    have h2 : (a = 0 ∧ q ≤ 255 ∧ b = true) ∨ (a = 0 ∧ ¬ q ≤ 255 ∧ b = false) ∨ ((a == 0) = false ∧ b = false) := by
      by_cases ha : a = 0 <;> by_cases hq : q ≤ 255 <;> simp [ha, hq] at hb2 ⊢ <;> exact hb2
    clear hb hb2 h0 hk hz
    rcases hk2 with rfl | rfl
    all_goals
      rcases h2 with ⟨rfl, hq, rfl⟩ | ⟨rfl, hq, rfl⟩ | ⟨ha, rfl⟩
      all_goals
        go_enter Try.func51, Try.ntmps51
        go_wp2
        go_ret
        refine ⟨?_, rfl⟩
        first
          | rfl
          | (simp; omega)

theorem lit_any (w : World) (x : UInt8) : Calls Try.prog 57 #[.int .u8 (x.toNat : Int)] w fun e w' => e = .returned (.bool (!(x == 0))) ∧ w = w' := by
  have e1 : (!(x == 0)) = !((x.toNat : Int) == 0) := by
    congr 1
    rw [Bool.eq_iff_iff]
    simp [← UInt8.toNat_inj]
  rw [e1]
  obtain ⟨y, hy⟩ : ∃ y, (x.toNat : Int) = y := ⟨_, rfl⟩
  rw [hy]
  clear hy e1
  go_enter Try.func57, Try.ntmps57
  go_wp2
  go_ret
  exact ⟨rfl, rfl⟩

set_option maxRecDepth 100000 in
set_option maxHeartbeats 1000000 in
theorem index_any (w : World) (A : Option Addr) (n c : Nat) (l : List UInt8) (hn : l.length = n) (hr : Rd w A l) (hn2 : n ≤ 1000000000) : Calls Try.prog 58 #[.slice A n c, .func (.func 57) #[] #[]] w fun e w' => ∃ z : Int, e = .returned (.int .i64 z) ∧ decide (0 ≤ z) = !(l.all (· == 0)) ∧ Fr [] w w' := by
  have HN := Lib.hid hn
  have HR := Lib.hid hr
  clear hn hr
  go_enter Try.func58, Try.ntmps58
  go_wp2
  go_loopw [8] (fun s8 wr => ∃ i : Nat, s8 = .int .i64 (i : Int) ∧ i ≤ n ∧ (l.take i).all (· == 0) = true ∧ w = wr) (fun s8 _ => n - (intOf s8).toNat)
  case atStart => exact ⟨0, rfl, Nat.zero_le _, by simp, by first | rfl | trivial⟩
  case round =>
    obtain ⟨i, rfl, hi, hall, rfl⟩ := hrel
    have HAll := Lib.hid hall
    clear hall
    by_cases hlt : i < n
    · obtain ⟨b, o, x, rfl, hx, hc⟩ := HR.out.at i (by rw [HN.out]; exact hlt)
      have h1 : (i : Int) < n := by omega
      have h0 : (0 : Int) ≤ i := by omega
      have HX := Lib.hid hx
      have HC := Lib.hid (lit_any w x)
      obtain ⟨d, hd⟩ : ∃ d, (x == 0) = d := ⟨_, rfl⟩
      rw [hd] at HC
      have HDd := Lib.hid hd
      clear hx hd
      go_wp2_with fail
      (with_reducible refine HC.out.mono ?_)
      rintro e w2 ⟨rfl, rfl⟩
      cases d
      · go_wp2
        go_ret
        refine ⟨i, rfl, ?_, Fr.refl _ _⟩
        have hm : x ∈ l := List.mem_of_getElem? HX.out
        have : l.all (· == 0) = false := by
          rw [List.all_eq_false]
          exact ⟨x, hm, by simp [HDd.out]⟩
        rw [this]
        simp
      · go_wp2
        go_roundw
        case rel =>
          refine ⟨i + 1, by go_num, by omega, ?_, trivial⟩
          obtain ⟨hil, hxe⟩ := List.getElem?_eq_some_iff.1 HX.out
          rw [take_snoc l i hil, List.all_append, HAll.out, hxe]
          simp [HDd.out]
        case measure => simp [intOf]; omega
    · obtain rfl : i = n := by omega
      go_wp2
      go_ret
      refine ⟨-1, rfl, ?_, Fr.refl _ _⟩
      have h1 := HAll.out
      rw [List.take_of_length_le (by rw [HN.out]; exact Nat.le_refl _)] at h1
      rw [h1]
      rfl

set_option maxHeartbeats 400000 in
theorem contains_any (w : World) (A : Option Addr) (n c : Nat) (l : List UInt8) (hn : l.length = n) (hr : Rd w A l) (hn2 : n ≤ 1000000000) : Calls Try.prog 56 #[.slice A n c, .func (.func 57) #[] #[]] w fun e w' => e = .returned (.bool (!(l.all (· == 0)))) ∧ Fr [] w w' := by
  have HC := Lib.hid (index_any w A n c l hn hr hn2)
  obtain ⟨b, hb⟩ : ∃ b, l.all (· == 0) = b := ⟨_, rfl⟩
  rw [hb] at HC
  rw [hb]
  clear hn hr hb
  go_enter Try.func56, Try.ntmps56
  go_wp2_with fail
  (with_reducible refine HC.out.mono ?_)
  rintro e w1 ⟨z, rfl, hz, hf⟩
  have HF := Lib.hid hf
  have HZ := Lib.hid hz
  clear hf hz
  go_wp2
  go_ret
  exact ⟨by rw [← HZ.out]; rfl, HF.out⟩

def blankB (l : List UInt8) : Bool := decide (l.length = 8192) && l.all (· == 0)

set_option maxHeartbeats 400000 in
theorem isBlank_any (w : World) (A : Option Addr) (n c : Nat) (l : List UInt8) (hn : l.length = n) (hr : Rd w A l) (hn2 : n ≤ 1000000000) : Calls Try.prog 52 #[.slice A n c] w fun e w' => e = .returned (.bool (blankB l)) ∧ Fr [] w w' := by
  have HC := Lib.hid (contains_any w A n c l hn hr hn2)
  obtain ⟨b, hb⟩ : ∃ b, l.all (· == 0) = b := ⟨_, rfl⟩
  rw [hb] at HC
  unfold blankB
  rw [hb, hn]
  clear hr hb
  by_cases h : n = 8192
  · subst h
    rw [show decide (8192 = 8192) = true from rfl, Bool.true_and]
    go_enter Try.func52, Try.ntmps52
    go_wp2_with fail
    (with_reducible refine HC.out.mono ?_)
    rintro e w1 ⟨rfl, hf⟩
    have HF := Lib.hid hf
    clear hf
    go_wp2
    go_ret
    exact ⟨by simp, HF.out⟩
  · rw [show decide (n = 8192) = false by simpa using h, Bool.false_and]
    obtain ⟨N, hN⟩ : ∃ N : Int, (n : Int) = N := ⟨_, rfl⟩
    have hN2 : (N == 8192) = false := by have : ¬ N = 8192 := by omega
                                         simpa using this
    have HNn := Lib.hid hN
    clear hn
    go_enter Try.func52, Try.ntmps52
    go_wp2
    go_ret
    exact ⟨rfl, Fr.refl _ _⟩

end Ine
end Go.Proofs.Ythabiaenaicppaa
