/-
  Contracts of octet's orders, of order.number and (*Reader).number, Big, Little.
-/
import Derived.Test.YtokfcknfkhlmfaaOctRead2
import Derived.Test.YtokfcknfkhlmfaaOctMath
import Derived.WalkLawsBesides
import Derived.WalkSpells
import Derived.Lib.MinMax
import Derived.Laws.EntriesVeiled
namespace Go.Proofs.Ytokfcknfkhlmfaa
open Go.RowKit

/-- An order's value: the function that tells a byte's rank. -/
def ordV (f : Nat) : Value := .agg #[.func (.func f) #[] #[]]


set_option maxHeartbeats 400000 in
theorem lowest_any (w : World) : Calls Try.prog 64 #[] w fun e w' => e = .returned (ordV 76) ∧ Fr [] w w' := by
  go_enter Try.func64, Try.ntmps64
  go_wp2
  exact bodyPost_ret (v := .agg #[.func (.func 76) #[] #[]]) (by simp [results, Try.results64, go_sem]) rfl ⟨rfl, (Fr.refl [] _).alloc _⟩


theorem rank34 (i n : Nat) (w : World) : Calls Try.prog 76 #[.int .i64 (i : Int), .int .i64 (n : Int)] w fun e w' => e = .returned (.int .i64 (i : Int)) ∧ w' = w := by
  go_enter Try.func76, Try.ntmps76
  go_wp2
  go_ret
  exact ⟨rfl, rfl⟩


set_option maxHeartbeats 1000000 in
theorem number34 (w : World) (A : Option Addr) (n c : Nat) (l : List UInt8) (hn : l.length = n) (hl : n ≤ 8) (h : Rd w A l) :
    Calls Try.prog 83 #[ordV 76, .slice A n c] w fun e w' => e = .returned (.int .u64 (le l : Nat)) ∧ Fr [] w w' := by
  have HR := Lib.hid h
  have HN := Lib.hid hn
  clear h hn
  unfold ordV
  go_enter Try.func83, Try.ntmps83
  go_wp2
  go_loopw [5, 9] (fun u i wr => ∃ k : Nat, k ≤ n ∧ i = .int .i64 k ∧ u = .int .u64 ((accL l k : Nat) : Int) ∧ Fr [] w wr ∧ wr.cell? ⟨w.heap.size, 0, none⟩ = some (.func (.func 76) #[] #[])) (fun _ i _ => n - (intOf i).toNat)
  case atStart => exact ⟨0, Nat.zero_le _, rfl, by rw [accL_zero]; rfl, (Fr.refl [] _).alloc _, by simp⟩
  case round =>
    obtain ⟨k, hk, rfl, rfl, hf, hcf⟩ := hrel
    have HF := Lib.hid hf
    clear hf
    by_cases hlt : k < n
    · obtain ⟨b, o, rfl, hc⟩ := (HR.out.fr HF.out (by simp)) (by rw [HN.out]; omega)
      have hck := hc k (by rw [HN.out]; omega)
      clear hc
      obtain ⟨x, hx⟩ : ∃ x, x = (l[k]'(by rw [HN.out]; omega)) := ⟨_, rfl⟩
      rw [← hx] at hck
      have HX : Hid (l[k]? = some x) := by rw [hx]; exact List.getElem?_eq_getElem _
      clear hx
      have hx := x.toNat_lt
      have HS := Lib.hid (accL_step l n k x HN.out hlt hl HX.out)
      go_wp2
      go_quiet ((go_at_call 76; exact Calls.quiet_of_same (rank34 k n _)))
      go_wp2
      go_roundw
      case rel => exact ⟨k + 1, by omega, by go_num, congrArg (Value.int .u64) HS.out, HF.out.drewN _, hcf⟩
      case measure => simp [intOf]; omega
    · go_wp2
      go_ret
      have e : k = n := by omega
      subst e
      exact ⟨congrArg (fun x : Nat => Ending.returned (.int .u64 (x : Int))) (accL_all l k HN.out), HF.out⟩







set_option maxHeartbeats 400000 in
theorem rnum34_arg (w : World) (p : Nat) (n : Int) (hn : n < 0 ∨ 8 < n) :
    Calls Try.prog 77 #[.pointer (some ⟨p, 0, none⟩), .int .i64 n, ordV 76] w fun e w' => e = .returned (.tuple #[.int .u64 0, .int .i64 1]) ∧ Fr [] w w' := by
  unfold ordV
  rcases hn with hn | hn
  · have hn' : ¬ 8 < n := by omega
    go_enter Try.func77, Try.ntmps77
    go_wp2_with (go_at_call 79; refine (take_neg _ p n hn).mono ?_; rintro e w1 ⟨rfl, rfl⟩)
    go_ret2
    exact ⟨rfl, (Fr.refl [] _).alloc _⟩
  · go_enter Try.func77, Try.ntmps77
    go_wp2
    go_ret2
    exact ⟨rfl, (Fr.refl [] _).alloc _⟩

set_option maxHeartbeats 400000 in
theorem rnum34_short (w : World) (p g k : Nat) (l : List UInt8) (n : Int) (h : Rdr w p g l k) (hk : k ≤ l.length) (hl : l.length ≤ 1000000000) (hn : (l.length : Int) - k < n) (h8 : n ≤ 8) :
    Calls Try.prog 77 #[.pointer (some ⟨p, 0, none⟩), .int .i64 n, ordV 76] w fun e w' => e = .returned (.tuple #[.int .u64 0, .int .i64 2]) ∧ Fr [] w w' := by
  have HR := Lib.hid (h.fr (Fr.alloc (Fr.refl [] w) (.cells #[.func (.func 76) #[] #[]] 112)) (by simp) (by simp))
  clear h
  unfold ordV
  have hn' : ¬ 8 < n := by omega
  go_enter Try.func77, Try.ntmps77
  go_wp2_with (go_at_call 79; refine (take_short _ p g k l n HR.out hk hl hn).mono ?_; rintro e w1 ⟨rfl, m, rfl⟩)
  go_ret2
  exact ⟨rfl, ((Fr.refl [] _).alloc _).drewN _⟩

set_option maxHeartbeats 1000000 in
theorem rnum34_ok (w : World) (p g k n : Nat) (l : List UInt8) (h : Rdr w p g l k) (hl : l.length ≤ 1000000000) (hn : k + n ≤ l.length) (h8 : n ≤ 8) :
    Calls Try.prog 77 #[.pointer (some ⟨p, 0, none⟩), .int .i64 (n : Int), ordV 76] w fun e w' =>
      e = .returned (.tuple #[.int .u64 (le ((l.drop k).take n) : Nat), .int .i64 0]) ∧ Rdr w' p g l (k + n) ∧ Fr [p] w w' := by
  have HR := Lib.hid (h.fr (Fr.alloc (Fr.refl [] w) (.cells #[.func (.func 76) #[] #[]] 112)) (by simp) (by simp))
  have hlt := h.1.lt
  clear h
  have hm : ((l.drop k).take n).length = n := by simp; omega
  have HM := Lib.hid hm
  clear hm
  have hn' : ¬ 8 < (n : Int) := by omega
  have hb : (w.alloc (.cells #[.func (.func 76) #[] #[]] 112)).cell? ⟨w.heap.size, 0, none⟩ = some (.func (.func 76) #[] #[]) := by simp
  have HB := Lib.hid hb
  clear hb
  unfold ordV
  go_enter Try.func77, Try.ntmps77
  go_wp2_with (first
    | (go_at_call 79; refine (take_ok _ p g k n l HR.out hl hn).mono ?_; rintro e w1 ⟨A, c, rfl, hp, hr, hf⟩; have HP := Lib.hid hp; have H1 := Lib.hid hr; have HF := Lib.hid hf; have hc := hf.cell HB.out (by simp; omega); clear hp hr hf)
    | (go_at_call 83; refine (number34 _ A n c _ HM.out h8 HP.out.1).mono ?_; rintro e w2 ⟨rfl, hf⟩; have HF2 := Lib.hid hf; clear hf))
  go_ret2
  exact ⟨rfl, H1.out.fr HF2.out (by simp) (by simp), (((Fr.refl [p] w).alloc _).tr HF.out).tr HF2.out.nil⟩

set_option maxHeartbeats 400000 in
theorem rlow_arg (w : World) (p : Nat) (n : Int) (hn : n < 0 ∨ 8 < n) :
    Calls Try.prog 65 #[.pointer (some ⟨p, 0, none⟩), .int .i64 n] w fun e w' => e = .returned (.tuple #[.int .u64 0, .int .i64 1]) ∧ Fr [] w w' := by
  have HN := Lib.hid hn
  clear hn
  go_enter Try.func65, Try.ntmps65
  go_wp2_with (first
    | (go_at_call 64; refine (lowest_any _).mono ?_; rintro e w1 ⟨rfl, hf⟩; have HF := Lib.hid hf; clear hf)
    | (go_at_call 77; refine (rnum34_arg _ p n HN.out).mono ?_; rintro e w2 ⟨rfl, hf⟩; have HF2 := Lib.hid hf; clear hf))
  go_ret2
  exact ⟨rfl, HF.out.tr HF2.out⟩

set_option maxHeartbeats 400000 in
theorem rlow_short (w : World) (p g k : Nat) (l : List UInt8) (n : Int) (h : Rdr w p g l k) (hk : k ≤ l.length) (hl : l.length ≤ 1000000000) (hn : (l.length : Int) - k < n) (h8 : n ≤ 8) :
    Calls Try.prog 65 #[.pointer (some ⟨p, 0, none⟩), .int .i64 n] w fun e w' => e = .returned (.tuple #[.int .u64 0, .int .i64 2]) ∧ Fr [] w w' := by
  have HR := Lib.hid h
  clear h
  go_enter Try.func65, Try.ntmps65
  go_wp2_with (first
    | (go_at_call 64; refine (lowest_any _).mono ?_; rintro e w1 ⟨rfl, hf⟩; have HF := Lib.hid hf; clear hf)
    | (go_at_call 77; refine (rnum34_short _ p g k l n (HR.out.fr HF.out (by simp) (by simp)) hk hl hn h8).mono ?_; rintro e w2 ⟨rfl, hf⟩; have HF2 := Lib.hid hf; clear hf))
  go_ret2
  exact ⟨rfl, HF.out.tr HF2.out⟩

set_option maxHeartbeats 1000000 in
theorem rlow_ok (w : World) (p g k n : Nat) (l : List UInt8) (h : Rdr w p g l k) (hl : l.length ≤ 1000000000) (hn : k + n ≤ l.length) (h8 : n ≤ 8) :
    Calls Try.prog 65 #[.pointer (some ⟨p, 0, none⟩), .int .i64 (n : Int)] w fun e w' =>
      e = .returned (.tuple #[.int .u64 (le ((l.drop k).take n) : Nat), .int .i64 0]) ∧ Rdr w' p g l (k + n) ∧ Fr [p] w w' := by
  have HR := Lib.hid h
  clear h
  go_enter Try.func65, Try.ntmps65
  go_wp2_with (first
    | (go_at_call 64; refine (lowest_any _).mono ?_; rintro e w1 ⟨rfl, hf⟩; have HF := Lib.hid hf; clear hf)
    | (go_at_call 77; refine (rnum34_ok _ p g k n l (HR.out.fr HF.out (by simp) (by simp)) hl hn h8).mono ?_; rintro e w2 ⟨rfl, hr, hf⟩; have HF2 := Lib.hid hf; have H2 := Lib.hid hr; clear hf hr))
  go_ret2
  exact ⟨rfl, H2.out, HF.out.nil.tr HF2.out⟩

end Go.Proofs.Ytokfcknfkhlmfaa
