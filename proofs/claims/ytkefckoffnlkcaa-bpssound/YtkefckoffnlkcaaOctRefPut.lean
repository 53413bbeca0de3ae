/-
  Contract of the document's own Put of layer 1 (picklockref01), the lowest byte first: a number's bytes. No condition but that the argument is of its kind.
-/
import Derived.Test.YtkefckoffnlkcaaOctMath
namespace Go.Proofs.Ytkefckoffnlkcaa
open Go.RowKit
namespace Ref

/-- How many bytes of a number are written. -/
def cnt (n : Int) : Nat := (min (max n 0) 8).toNat
theorem cnt_le (n : Int) : cnt n ≤ 8 := by unfold cnt; omega
theorem cnt_spell (n : Int) : min (max n 0) 8 = (cnt n : Int) := by unfold cnt; omega
theorem own_nilcap {w : World} {B n c : Nat} {A : Option Addr} {l : List UInt8} (h : Own w B (.slice A n c) l) : A = none → c = 0 := by
  intro hA
  rcases h.form0 with ⟨_, _, hc⟩ | ⟨g, hg⟩
  · exact hc
  · rw [hA] at hg; cases hg

theorem putL_snoc (u n : Nat) : putL u (n + 1) = putL u n ++ [UInt8.ofNat (u / 256 ^ n % 256)] := by
  induction n generalizing u with
  | zero => simp [putL]
  | succ n ih =>
    rw [putL, ih (u / 256), putL, Nat.div_div_eq_div_mul, Nat.pow_succ, Nat.mul_comm (256 ^ n), List.cons_append]
theorem putB_cons (u n : Nat) : putB u (n + 1) = [UInt8.ofNat (u / 256 ^ n % 256)] ++ putB u n := by
  unfold putB
  rw [putL_snoc, List.reverse_append]
  rfl

theorem quo_step (U v j : Nat) (hU : U < 18446744073709551616) (hv : v = U / 256 ^ j) : IntKind.u64.wrap ((v : Int) / 256) = ((v / 256 : Nat) : Int) ∧ v / 256 = U / 256 ^ (j + 1) := by
  have h1 : v ≤ U := by rw [hv]; exact Nat.div_le_self _ _
  refine ⟨by rw [IntKind.wrap_u64]; omega, ?_⟩
  rw [hv, Nat.div_div_eq_div_mul, Nat.pow_succ]
theorem byte_step (U v j : Nat) (hv : v = U / 256 ^ j) : (v : Int) % 256 = ((UInt8.ofNat (U / 256 ^ j % 256)).toNat : Int) := by
  rw [← hv]
  simp
theorem own_one' (w : World) (B : Nat) (hB : B ≤ w.heap.size) (z : Int) (x : UInt8) (h : z = (x.toNat : Int)) : Own (w.alloc (.cells #[.int .u8 z] 5)) B (.slice (some ⟨w.heap.size, 0, none⟩) 1 1) [x] := by
  subst h
  exact Own.of_blk (l := [x]) (Blk.fresh _ _ _) hB (by unfold maxLen; simp)

set_option maxHeartbeats 1000000 in
theorem put_little (w : World) (U : Nat) (n : Int) (hU : U < 18446744073709551616) :
    Calls Try.prog 17 #[.int .u64 (U : Int), .int .i64 n, .bool false] w fun e w' => ∃ A c, e = .returned (.slice A (cnt n) c) ∧ Own w' w.heap.size (.slice A (cnt n) c) (putL U (cnt n)) ∧ Fr [] w w' := by
  obtain ⟨i0, hi, hz0, hz1, hz2⟩ := info_parts info5
  have HU := Lib.hid hU
  clear hU
  have hn8 := cnt_le n
  generalize hN : cnt n = N at *
  have HN := Lib.hid hN
  clear hN
  go_enter Try.func17, Try.ntmps17
  go_wp2
  rw [cnt_spell, HN.out]
  go_loopw [0, 7, 8] (fun u o i wr => ∃ j v c A, j ≤ N ∧ i = .int .i64 ((j : Nat) : Int) ∧ u = .int .u64 ((v : Nat) : Int) ∧ v = U / 256 ^ j ∧ o = .slice A j c ∧ Own wr w.heap.size o (putL U j) ∧ Fr [] w wr) (fun _ _ i _ => N - (intOf i).toNat)
  case atStart => exact ⟨0, U, 0, some ⟨w.heap.size, 0, none⟩, by omega, rfl, rfl, by simp, rfl, Own.empty w _ (Nat.le_refl _), (Fr.refl [] _).alloc _⟩
  case round =>
    obtain ⟨j, v, c, A, hj, rfl, rfl, hv, rfl, ho, hf⟩ := hrel
    have HV := Lib.hid hv
    have HO := Lib.hid ho
    have HF := Lib.hid hf
    have HC := Lib.hid (own_nilcap ho)
    have hsz := hf.size
    clear hv ho hf
    by_cases hlt : j < N
    · have HQ := Lib.hid (quo_step U v j HU.out HV.out)
      have HE := Lib.hid (byte_step U v j HV.out)
      have HP := Lib.hid (putL_snoc U j)
      have HL := Lib.hid (putL_length U j)
      generalize UInt8.ofNat (U / 256 ^ j % 256) = x at *
      go_wp2_with (at_builtin; refine wpList_appN _ rfl (.tmp 29) (.tmp 30) 23 rfl w.heap.size i0 Try.underlying23 hi hz0 hz1 hz2 (.slice A j c) (putL U j) j HL.out rfl (HO.out.fr ((Fr.refl [] wr).alloc _) (by simp)) (some ⟨wr.heap.size, 0, none⟩) 1 1 [x] rfl rfl (rd_one' wr _ x HE.out) (by simp) (by omega) (by simp; omega) ?_)
      intro A' c' w2 ho2 hf2 _
      have HO2 := Lib.hid ho2
      have HF2 := Lib.hid hf2
      clear ho2 hf2
      go_wp2
      go_roundw
      case rel =>
        refine ⟨j + 1, v / 256, c', A', by omega, by go_num, congrArg (Value.int .u64) HQ.out.1, HQ.out.2, by first | rfl | (rw [Nat.add_comm]), ?_, ?_⟩
        · rw [HP.out]; exact HO2.out
        · refine (HF.out.alloc _).trans HF2.out ?_
          intro k hk
          have := HO.out.lt k (by simpa using hk)
          exact .inr this.1
      case measure => simp [intOf]; omega
    · have e : j = N := by omega
      subst e
      go_wp2
      go_ret
      exact ⟨A, c, rfl, HO.out, HF.out⟩

end Ref
end Go.Proofs.Ytkefckoffnlkcaa
