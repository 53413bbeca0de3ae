/-
  Contracts of octet's orders, of order.number and (*Reader).number, Big, Little.
-/
import Derived.Test.YtchakjknndpmpaaOctRead2
import Derived.Test.YtchakjknndpmpaaOctMath
import Derived.WalkLawsBesides
import Derived.WalkSpells
import Derived.Lib.MinMax
import Derived.Laws.EntriesVeiled
namespace Go.Proofs.Ytchakjknndpmpaa
open Go.RowKit

/-- An order's value: the function that tells a byte's rank. -/
def ordV (f : Nat) : Value := .agg #[.func (.func f) #[] #[]]

set_option maxHeartbeats 400000 in
theorem highest_any (w : World) : Calls Try.prog 32 #[] w fun e w' => e = .returned (ordV 44) ∧ Fr [] w w' := by
  go_enter Try.func32, Try.ntmps32
  go_wp2
  exact bodyPost_ret (v := .agg #[.func (.func 44) #[] #[]]) (by simp [results, Try.results32, go_sem]) rfl ⟨rfl, (Fr.refl [] _).alloc _⟩


theorem rank33 (i n : Nat) (w : World) (h : i < n) (hn : n ≤ 1000000000) : Calls Try.prog 44 #[.int .i64 (i : Int), .int .i64 (n : Int)] w fun e w' => e = .returned (.int .i64 ((n : Int) - 1 - i)) ∧ w' = w := by
  go_enter Try.func44, Try.ntmps44
  go_wp2
  go_ret
  exact ⟨rfl, rfl⟩


set_option maxHeartbeats 1000000 in
theorem number33 (w : World) (A : Option Addr) (n c : Nat) (l : List UInt8) (hn : l.length = n) (hl : n ≤ 8) (h : Rd w A l) :
    Calls Try.prog 53 #[ordV 44, .slice A n c] w fun e w' => e = .returned (.int .u64 (be l : Nat)) ∧ Fr [] w w' := by
  have HR := Lib.hid h
  have HN := Lib.hid hn
  clear h hn
  unfold ordV
  go_enter Try.func53, Try.ntmps53
  go_wp2
  go_loopw [5, 9] (fun u i wr => ∃ k : Nat, k ≤ n ∧ i = .int .i64 k ∧ u = .int .u64 ((accB l n k : Nat) : Int) ∧ Fr [] w wr ∧ wr.cell? ⟨w.heap.size, 0, none⟩ = some (.func (.func 44) #[] #[])) (fun _ i _ => n - (intOf i).toNat)
  case atStart => exact ⟨0, Nat.zero_le _, rfl, by rw [accB_zero]; rfl, (Fr.refl [] _).alloc _, by simp⟩
  case round =>
    obtain ⟨k, hk, rfl, rfl, hf, hcf⟩ := hrel
    have HF := Lib.hid hf
    clear hf
    by_cases hlt : k < n
    · obtain ⟨b, o, rfl, hc⟩ := (HR.out.fr HF.out (by simp)) (by rw [HN.out]; omega)
      have hck := hc k (by rw [HN.out]; omega)
      clear hc
      obtain ⟨x, hx⟩ : ∃ x, x = (l[k]'(by rw [HN.out]; omega)) := ⟨_, rfl⟩
      rw [← hx] at hck
      have HX : Hid (l[k]? = some x) := by rw [hx]; exact List.getElem?_eq_getElem _
      clear hx
      have hx := x.toNat_lt
      have HS := Lib.hid (accB_step l n k x HN.out hlt hl HX.out)
      go_wp2
      go_quiet ((go_at_call 44; exact Calls.quiet_of_same (rank33 k n _ hlt (by omega))))
      go_wp2
      go_roundw
      case rel => exact ⟨k + 1, by omega, by go_num, congrArg (Value.int .u64) HS.out, HF.out.drewN _, hcf⟩
      case measure => simp [intOf]; omega
    · go_wp2
      go_ret
      have e : k = n := by omega
      subst e
      exact ⟨congrArg (fun x : Nat => Ending.returned (.int .u64 (x : Int))) (accB_all l k HN.out), HF.out⟩


set_option maxHeartbeats 400000 in
theorem rnum33_arg (w : World) (p : Nat) (n : Int) (hn : n < 0 ∨ 8 < n) :
    Calls Try.prog 52 #[.pointer (some ⟨p, 0, none⟩), .int .i64 n, ordV 44] w fun e w' => e = .returned (.tuple #[.int .u64 0, .int .i64 1]) ∧ Fr [] w w' := by
  unfold ordV
  rcases hn with hn | hn
  · have hn' : ¬ 8 < n := by omega
    go_enter Try.func52, Try.ntmps52
    go_wp2_with (go_at_call 49; refine (take_neg _ p n hn).mono ?_; rintro e w1 ⟨rfl, rfl⟩)
    go_ret2
    exact ⟨rfl, (Fr.refl [] _).alloc _⟩
  · go_enter Try.func52, Try.ntmps52
    go_wp2
    go_ret2
    exact ⟨rfl, (Fr.refl [] _).alloc _⟩

set_option maxHeartbeats 400000 in
theorem rnum33_short (w : World) (p g k : Nat) (l : List UInt8) (n : Int) (h : Rdr w p g l k) (hk : k ≤ l.length) (hl : l.length ≤ 1000000000) (hn : (l.length : Int) - k < n) (h8 : n ≤ 8) :
    Calls Try.prog 52 #[.pointer (some ⟨p, 0, none⟩), .int .i64 n, ordV 44] w fun e w' => e = .returned (.tuple #[.int .u64 0, .int .i64 2]) ∧ Fr [] w w' := by
  have HR := Lib.hid (h.fr (Fr.alloc (Fr.refl [] w) (.cells #[.func (.func 44) #[] #[]] 74)) (by simp) (by simp))
  clear h
  unfold ordV
  have hn' : ¬ 8 < n := by omega
  go_enter Try.func52, Try.ntmps52
  go_wp2_with (go_at_call 49; refine (take_short _ p g k l n HR.out hk hl hn).mono ?_; rintro e w1 ⟨rfl, m, rfl⟩)
  go_ret2
  exact ⟨rfl, ((Fr.refl [] _).alloc _).drewN _⟩

set_option maxHeartbeats 1000000 in
theorem rnum33_ok (w : World) (p g k n : Nat) (l : List UInt8) (h : Rdr w p g l k) (hl : l.length ≤ 1000000000) (hn : k + n ≤ l.length) (h8 : n ≤ 8) :
    Calls Try.prog 52 #[.pointer (some ⟨p, 0, none⟩), .int .i64 (n : Int), ordV 44] w fun e w' =>
      e = .returned (.tuple #[.int .u64 (be ((l.drop k).take n) : Nat), .int .i64 0]) ∧ Rdr w' p g l (k + n) ∧ Fr [p] w w' := by
  have HR := Lib.hid (h.fr (Fr.alloc (Fr.refl [] w) (.cells #[.func (.func 44) #[] #[]] 74)) (by simp) (by simp))
  have hlt := h.1.lt
  clear h
  have hm : ((l.drop k).take n).length = n := by simp; omega
  have HM := Lib.hid hm
  clear hm
  have hn' : ¬ 8 < (n : Int) := by omega
  have hb : (w.alloc (.cells #[.func (.func 44) #[] #[]] 74)).cell? ⟨w.heap.size, 0, none⟩ = some (.func (.func 44) #[] #[]) := by simp
  have HB := Lib.hid hb
  clear hb
  unfold ordV
  go_enter Try.func52, Try.ntmps52
  go_wp2_with (first
    | (go_at_call 49; refine (take_ok _ p g k n l HR.out hl hn).mono ?_; rintro e w1 ⟨A, c, rfl, hp, hr, hf⟩; have HP := Lib.hid hp; have H1 := Lib.hid hr; have HF := Lib.hid hf; have hc := hf.cell HB.out (by simp; omega); clear hp hr hf)
    | (go_at_call 53; refine (number33 _ A n c _ HM.out h8 HP.out.1).mono ?_; rintro e w2 ⟨rfl, hf⟩; have HF2 := Lib.hid hf; clear hf))
  go_ret2
  exact ⟨rfl, H1.out.fr HF2.out (by simp) (by simp), (((Fr.refl [p] w).alloc _).tr HF.out).tr HF2.out.nil⟩

set_option maxHeartbeats 400000 in
theorem rhigh_arg (w : World) (p : Nat) (n : Int) (hn : n < 0 ∨ 8 < n) :
    Calls Try.prog 50 #[.pointer (some ⟨p, 0, none⟩), .int .i64 n] w fun e w' => e = .returned (.tuple #[.int .u64 0, .int .i64 1]) ∧ Fr [] w w' := by
  have HN := Lib.hid hn
  clear hn
  go_enter Try.func50, Try.ntmps50
  go_wp2_with (first
    | (go_at_call 32; refine (highest_any _).mono ?_; rintro e w1 ⟨rfl, hf⟩; have HF := Lib.hid hf; clear hf)
    | (go_at_call 52; refine (rnum33_arg _ p n HN.out).mono ?_; rintro e w2 ⟨rfl, hf⟩; have HF2 := Lib.hid hf; clear hf))
  go_ret2
  exact ⟨rfl, HF.out.tr HF2.out⟩

set_option maxHeartbeats 400000 in
theorem rhigh_short (w : World) (p g k : Nat) (l : List UInt8) (n : Int) (h : Rdr w p g l k) (hk : k ≤ l.length) (hl : l.length ≤ 1000000000) (hn : (l.length : Int) - k < n) (h8 : n ≤ 8) :
    Calls Try.prog 50 #[.pointer (some ⟨p, 0, none⟩), .int .i64 n] w fun e w' => e = .returned (.tuple #[.int .u64 0, .int .i64 2]) ∧ Fr [] w w' := by
  have HR := Lib.hid h
  clear h
  go_enter Try.func50, Try.ntmps50
  go_wp2_with (first
    | (go_at_call 32; refine (highest_any _).mono ?_; rintro e w1 ⟨rfl, hf⟩; have HF := Lib.hid hf; clear hf)
    | (go_at_call 52; refine (rnum33_short _ p g k l n (HR.out.fr HF.out (by simp) (by simp)) hk hl hn h8).mono ?_; rintro e w2 ⟨rfl, hf⟩; have HF2 := Lib.hid hf; clear hf))
  go_ret2
  exact ⟨rfl, HF.out.tr HF2.out⟩

set_option maxHeartbeats 1000000 in
theorem rhigh_ok (w : World) (p g k n : Nat) (l : List UInt8) (h : Rdr w p g l k) (hl : l.length ≤ 1000000000) (hn : k + n ≤ l.length) (h8 : n ≤ 8) :
    Calls Try.prog 50 #[.pointer (some ⟨p, 0, none⟩), .int .i64 (n : Int)] w fun e w' =>
      e = .returned (.tuple #[.int .u64 (be ((l.drop k).take n) : Nat), .int .i64 0]) ∧ Rdr w' p g l (k + n) ∧ Fr [p] w w' := by
  have HR := Lib.hid h
  clear h
  go_enter Try.func50, Try.ntmps50
  go_wp2_with (first
    | (go_at_call 32; refine (highest_any _).mono ?_; rintro e w1 ⟨rfl, hf⟩; have HF := Lib.hid hf; clear hf)
    | (go_at_call 52; refine (rnum33_ok _ p g k n l (HR.out.fr HF.out (by simp) (by simp)) hl hn h8).mono ?_; rintro e w2 ⟨rfl, hr, hf⟩; have HF2 := Lib.hid hf; have H2 := Lib.hid hr; clear hf hr))
  go_ret2
  exact ⟨rfl, H2.out, HF.out.nil.tr HF2.out⟩







end Go.Proofs.Ytchakjknndpmpaa
