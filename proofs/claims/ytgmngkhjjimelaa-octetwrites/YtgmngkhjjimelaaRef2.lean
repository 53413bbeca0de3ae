/-
  Contracts of the document's own answers for layer 1: (*picklockref01.Reader).Number. Conditions: lengths up to 1000000000.
-/
import Derived.Test.YtgmngkhjjimelaaRef1
namespace Go.Proofs.Ytgmngkhjjimelaa
open Go.RowKit

def accR (X : List UInt8) (i : Nat) : Nat := be (X.take i)
theorem accR_zero (X : List UInt8) : accR X 0 = 0 := by simp [accR, be]
theorem accR_all (X : List UInt8) (n : Nat) (h : X.length = n) : accR X n = be X := by simp [accR, ← h]
theorem accR_step (X : List UInt8) (i : Nat) (x : UInt8) (hi : i < 8) (hx : X[i]? = some x) :
    IntKind.u64.wrap (IntKind.u64.wrap ((accR X i : Int) * 256) + (x.toNat : Int)) = (accR X (i + 1) : Int) := by
  obtain ⟨hk, e⟩ := List.getElem?_eq_some_iff.1 hx
  have hx8 := x.toNat_lt
  have hb := be_lt (X.take i)
  rw [List.length_take, Nat.min_eq_left (by omega)] at hb
  have h7 : 256 ^ i ≤ 256 ^ 7 := Nat.pow_le_pow_right (by omega) (by omega)
  have h8 : (256 : Nat) ^ 7 = 72057594037927936 := by decide
  unfold accR
  rw [take_snoc X i hk, be_snoc, e, IntKind.wrap_u64, IntKind.wrap_u64]
  omega

set_option maxHeartbeats 400000 in
theorem refnum_wide (w : World) (s : Nat) (n : Int) (b : Bool) (hn : 8 < n) :
    Calls Try.prog 14 #[.pointer (some ⟨s, 0, none⟩), .int .i64 n, .bool b] w fun e w' => e = .returned (.tuple #[.int .u64 0, .int .i64 1]) ∧ w = w' := by
  go_enter Try.func14, Try.ntmps14
  go_wp2
  go_ret2
  exact ⟨rfl, rfl⟩

set_option maxHeartbeats 400000 in
theorem refnum_neg (w : World) (s : Nat) (n : Int) (b : Bool) (hn : n < 0) :
    Calls Try.prog 14 #[.pointer (some ⟨s, 0, none⟩), .int .i64 n, .bool b] w fun e w' => e = .returned (.tuple #[.int .u64 0, .int .i64 1]) ∧ w = w' := by
  have hn8 : ¬ 8 < n := by omega
  go_enter Try.func14, Try.ntmps14
  go_wp2_with (go_at_call 11; refine (ref_neg _ s n hn).mono ?_; rintro e w1 ⟨rfl, rfl⟩)
  go_ret2
  exact ⟨rfl, rfl⟩

set_option maxHeartbeats 400000 in
theorem refnum_short (w : World) (B s g N c k : Nat) (l : List UInt8) (n : Int) (b : Bool) (h : RefR w B s g N c l k) (hk : k ≤ N) (hl : N ≤ 1000000000) (hn : (N : Int) - k < n) (h8 : n ≤ 8) :
    Calls Try.prog 14 #[.pointer (some ⟨s, 0, none⟩), .int .i64 n, .bool b] w fun e w' => e = .returned (.tuple #[.int .u64 0, .int .i64 2]) ∧ ∃ m, w' = w.drewN m := by
  have hn8 : ¬ 8 < n := by omega
  have HR := Lib.hid h
  clear h
  go_enter Try.func14, Try.ntmps14
  go_wp2_with (go_at_call 11; refine (ref_short _ B s g N c k l n HR.out hk hl hn).mono ?_; rintro e w1 ⟨rfl, m, rfl⟩)
  go_ret2
  exact ⟨rfl, _, rfl⟩

set_option maxHeartbeats 1000000 in
theorem refnum_big (w : World) (B s g N c k n : Nat) (l : List UInt8) (h : RefR w B s g N c l k) (hl : N ≤ 1000000000) (hn : k + n ≤ N) (h8 : n ≤ 8) :
    Calls Try.prog 14 #[.pointer (some ⟨s, 0, none⟩), .int .i64 (n : Int), .bool true] w fun e w' =>
      e = .returned (.tuple #[.int .u64 (be ((l.drop k).take n) : Nat), .int .i64 0]) ∧ RefR w' B s g N c l (k + n) ∧ Fr [s] w w' := by
  have hn8 : ¬ 8 < (n : Int) := by omega
  have HR := Lib.hid h
  have HXL : Hid (((l.drop k).take n).length = n) := take_in l k n (by rw [h.2.2]; exact hn)
  clear h
  go_enter Try.func14, Try.ntmps14
  go_wp2_with (go_at_call 11; refine (ref_ok _ B s g N c k n l HR.out hl hn).mono ?_; rintro e w1 ⟨A, c', rfl, ho, hr, hf⟩; have HO := Lib.hid ho; have H1 := Lib.hid hr; have HF := Lib.hid hf; clear ho hr hf)
  obtain ⟨X, hX⟩ : ∃ X, X = (l.drop k).take n := ⟨_, rfl⟩
  rw [← hX] at HXL HO
  have HX := Lib.hid hX
  clear hX
  go_loop [10, 11] (fun u i => ∃ j : Nat, j ≤ n ∧ i = .int .i64 j ∧ u = .int .u64 ((accR X j : Nat) : Int)) (fun _ i => n - (intOf i).toNat)
  case atStart => exact ⟨0, by omega, rfl, by rw [accR_zero]; rfl⟩
  case round =>
    obtain ⟨j, hj, rfl, rfl⟩ := hrel
    by_cases hlt : j < n
    · obtain ⟨b, o, rfl, hc⟩ := HO.out.rd (by rw [HXL.out]; omega)
      have hck := hc j (by rw [HXL.out]; omega)
      clear hc
      obtain ⟨x, hx⟩ : ∃ x, x = (X[j]'(by rw [HXL.out]; omega)) := ⟨_, rfl⟩
      rw [← hx] at hck
      have HXX : Hid (X[j]? = some x) := by rw [hx]; exact List.getElem?_eq_getElem _
      clear hx
      have hx := x.toNat_lt
      have HS := Lib.hid (accR_step X j x (by omega) HXX.out)
      go_wp2
      go_round
      case rel => exact ⟨j + 1, by omega, by go_num, congrArg (Value.int .u64) HS.out⟩
      case measure => simp [intOf]; omega
    · go_wp2
      go_ret2
      have e : j = n := by omega
      subst e
      exact ⟨by rw [← HX.out, ← accR_all X j HXL.out]; rfl, H1.out, HF.out⟩

set_option maxHeartbeats 1000000 in
theorem refnum_little (w : World) (B s g N c k n : Nat) (l : List UInt8) (h : RefR w B s g N c l k) (hl : N ≤ 1000000000) (hn : k + n ≤ N) (h8 : n ≤ 8) :
    Calls Try.prog 14 #[.pointer (some ⟨s, 0, none⟩), .int .i64 (n : Int), .bool false] w fun e w' =>
      e = .returned (.tuple #[.int .u64 (le ((l.drop k).take n) : Nat), .int .i64 0]) ∧ RefR w' B s g N c l (k + n) ∧ Fr [s] w w' := by
  have hn8 : ¬ 8 < (n : Int) := by omega
  have HR := Lib.hid h
  have HXL : Hid (((l.drop k).take n).length = n) := take_in l k n (by rw [h.2.2]; exact hn)
  clear h
  go_enter Try.func14, Try.ntmps14
  go_wp2_with (go_at_call 11; refine (ref_ok _ B s g N c k n l HR.out hl hn).mono ?_; rintro e w1 ⟨A, c', rfl, ho, hr, hf⟩; have HO := Lib.hid ho; have H1 := Lib.hid hr; have HF := Lib.hid hf; clear ho hr hf)
  obtain ⟨X, hX⟩ : ∃ X, X = (l.drop k).take n := ⟨_, rfl⟩
  rw [← hX] at HXL HO
  have HX := Lib.hid hX
  clear hX
  go_loop [10, 11] (fun u i => ∃ j : Nat, j ≤ n ∧ i = .int .i64 j ∧ u = .int .u64 ((accR X.reverse j : Nat) : Int)) (fun _ i => n - (intOf i).toNat)
  case atStart => exact ⟨0, by omega, rfl, by rw [accR_zero]; rfl⟩
  case round =>
    obtain ⟨j, hj, rfl, rfl⟩ := hrel
    by_cases hlt : j < n
    · obtain ⟨b, o, rfl, hc⟩ := HO.out.rd (by rw [HXL.out]; omega)
      have hck := hc (n - 1 - j) (by rw [HXL.out]; omega)
      clear hc
      obtain ⟨x, hx⟩ : ∃ x, x = (X[n - 1 - j]'(by rw [HXL.out]; omega)) := ⟨_, rfl⟩
      rw [← hx] at hck
      have hxx : X[n - 1 - j]? = some x := by rw [hx]; exact List.getElem?_eq_getElem _
      have HXX : Hid (X.reverse[j]? = some x) := by rw [List.getElem?_reverse (by rw [HXL.out]; exact hlt), HXL.out]; exact hxx
      clear hxx
      clear hx
      have hx := x.toNat_lt
      have HS := Lib.hid (accR_step X.reverse j x (by omega) HXX.out)
      go_wp2
      go_round
      case rel => exact ⟨j + 1, by omega, by go_num, congrArg (Value.int .u64) HS.out⟩
      case measure => simp [intOf]; omega
    · go_wp2
      go_ret2
      have e : j = n := by omega
      subst e
      exact ⟨by rw [← HX.out, le_rev, ← accR_all X.reverse j (by rw [List.length_reverse]; exact HXL.out)]; rfl, H1.out, HF.out⟩

end Go.Proofs.Ytgmngkhjjimelaa
