/-
  Contract of the program's kindOf. Condition: the number is one that an int can be.
-/
import Derived.Test.YtglnpgdigdfjiaaGmMap
import Derived.Laws.ResultCell
namespace Go.Proofs.Ytglnpgdigdfjiaa
open Go.RowKit
namespace Gm

def nowhat : List Value := [.bool false, .nilFunc, .nilFunc, .nilFunc, .nilFunc, .nilFunc, .nilFunc, .nilFunc, .nilFunc, .nilFunc, .nilFunc, .nilFunc]
theorem zeroKind (w : World) : (zeroValue 59).run Try.prog w = .ok (.agg #[.bool false, .nilFunc, .nilFunc, .nilFunc, .nilFunc, .nilFunc, .nilFunc, .nilFunc, .nilFunc, .nilFunc, .nilFunc, .nilFunc]) w := by kernel_rfl
def agg0 : Value := .agg #[.bool false, .nilFunc, .nilFunc, .nilFunc, .nilFunc, .nilFunc, .nilFunc, .nilFunc, .nilFunc, .nilFunc, .nilFunc, .nilFunc]

/-- The literal in memory, as the walk spells it. -/
theorem four (w0 : World) : ∃ w1 w2 w3 w4,
    (Instr.mapUpdate 70 (.map (some w0.heap.size)) (.int .i64 0) (.agg #[.bool true, .func (.func 24) #[] #[], .func (.func 24) #[] #[], .func (.func 24) #[] #[], .func (.func 24) #[] #[], .func (.func 24) #[] #[], .func (.func 24) #[] #[], .func (.func 24) #[] #[], .func (.func 24) #[] #[], .func (.func 25) #[] #[], .func (.func 26) #[] #[], .func (.func 25) #[] #[]])).run Try.prog (w0.alloc (.map #[] 0)) = .ok () w1 ∧
    (Instr.mapUpdate 70 (.map (some w0.heap.size)) (.int .i64 1) (.agg #[.bool false, .func (.func 27) #[] #[], .func (.func 27) #[] #[], .func (.func 28) #[] #[], .func (.func 28) #[] #[], .func (.func 29) #[] #[], .func (.func 29) #[] #[], .func (.func 30) #[] #[], .func (.func 30) #[] #[], .func (.func 31) #[] #[], .func (.func 32) #[] #[], .func (.func 33) #[] #[]])).run Try.prog w1 = .ok () w2 ∧
    (Instr.mapUpdate 70 (.map (some w0.heap.size)) (.int .i64 3) (.agg #[.bool false, .func (.func 27) #[] #[], .func (.func 27) #[] #[], .func (.func 34) #[] #[], .func (.func 34) #[] #[], .func (.func 35) #[] #[], .func (.func 35) #[] #[], .func (.func 24) #[] #[], .func (.func 24) #[] #[], .func (.func 25) #[] #[], .func (.func 36) #[] #[], .func (.func 37) #[] #[]])).run Try.prog w2 = .ok () w3 ∧
    (Instr.mapUpdate 70 (.map (some w0.heap.size)) (.int .i64 5) (.agg #[.bool false, .func (.func 27) #[] #[], .func (.func 27) #[] #[], .func (.func 38) #[] #[], .func (.func 39) #[] #[], .func (.func 40) #[] #[], .func (.func 40) #[] #[], .func (.func 24) #[] #[], .func (.func 24) #[] #[], .func (.func 25) #[] #[], .func (.func 36) #[] #[], .func (.func 41) #[] #[]])).run Try.prog w3 = .ok () w4 ∧ KM w4 w0.heap.size kinds ∧ Fr [] w0 w4 := by
  obtain ⟨w1, a1, b1, c1, -⟩ := (KM.made w0).put 0 (isK_of _ (by omega) (by omega)) (.agg kind0.toArray) rfl
  obtain ⟨w2, a2, b2, c2, -⟩ := b1.put 1 (isK_of _ (by omega) (by omega)) (.agg kind1.toArray) rfl
  obtain ⟨w3, a3, b3, c3, -⟩ := b2.put 3 (isK_of _ (by omega) (by omega)) (.agg kind3.toArray) rfl
  obtain ⟨w4, a4, b4, c4, -⟩ := b3.put 5 (isK_of _ (by omega) (by omega)) (.agg kind5.toArray) rfl
  rw [kinds_of] at b4
  refine ⟨w1, w2, w3, w4, a1, a2, a3, a4, b4, ?_⟩
  exact ((Fr.refl [] w0).alloc _).trans (((c1.tr c2).tr c3).tr c4) (by simp)

set_option maxRecDepth 100000 in
set_option maxHeartbeats 4000000 in
theorem kindOf_any (w : World) (k : Int) (hk : isK k) (A : Array Value) (b : Bool) (hA : A.size = 12) (hA1 : A.all (·.oneCell') = true) (hc : (kinds k = some (.agg A) ∧ b = true) ∨ (kinds k = none ∧ A = nowhat.toArray ∧ b = false)) :
    Calls Try.prog 22 #[.int .i64 k] w fun e w' => e = .returned (.tuple #[.agg A, .bool b]) ∧ Fr [] w w' := by
  have hmm := @run_makeMap Try.prog
  obtain ⟨w1, w2, w3, w4, r1, r2, r3, r4, hk4, hf4⟩ := four (w.alloc (.cells #[.bool false, .nilFunc, .nilFunc, .nilFunc, .nilFunc, .nilFunc, .nilFunc, .nilFunc, .nilFunc, .nilFunc, .nilFunc, .nilFunc] 59))
  have hb0 := Blk.fresh w 59 #[.bool false, .nilFunc, .nilFunc, .nilFunc, .nilFunc, .nilFunc, .nilFunc, .nilFunc, .nilFunc, .nilFunc, .nilFunc, .nilFunc]
  have hf0 : Fr [] w (w.alloc (.cells #[.bool false, .nilFunc, .nilFunc, .nilFunc, .nilFunc, .nilFunc, .nilFunc, .nilFunc, .nilFunc, .nilFunc, .nilFunc, .nilFunc] 59)) := (Fr.refl [] w).alloc _
  have hb4 := hb0.fr hf4 (by simp)
  have hfr := hf0.tr hf4
  have hs : (w.alloc (.cells #[.bool false, .nilFunc, .nilFunc, .nilFunc, .nilFunc, .nilFunc, .nilFunc, .nilFunc, .nilFunc, .nilFunc, .nilFunc, .nilFunc] 59)).heap.size = w.heap.size + 1 := by simp
  rw [hs] at r1 r2 r3 r4 hk4
  have hl : (Instr.lookup 70 (.map (some (w.heap.size + 1))) (.int .i64 k) true).run Try.prog w4 = .ok (.tuple #[.agg A, .bool b]) w4 := by
    rcases hc with ⟨g1, rfl⟩ | ⟨g1, rfl, rfl⟩
    · exact hk4.look k hk _ g1
    · exact hk4.looks k hk g1 _ (zeroKind w4)
  clear hf0 hb0 hf4 hk4 hs hk hc
  have HB := Lib.hid hb4
  have HF := Lib.hid hfr
  clear hb4 hfr
  obtain ⟨z, hz⟩ : ∃ z, w.heap.size = z := ⟨_, rfl⟩
  have HZ := Lib.hid (Nat.le_of_eq hz)
  rw [hz] at r1 r2 r3 r4 hl HB
  have HS := Lib.hid hA
  have HO := Lib.hid hA1
  clear hA hA1
  go_enter Try.func22, Try.ntmps22
  go_upto_region 2 with fail
  clear r1 r2 r3 r4 hmm hz
  have hst := storeRow HB.out (by simp [HS.out]) HO.out
  have hts := HS.out
  go_upto_region 3 with fail
  have HB2 := Lib.hid (HB.out.setRow A)
  have HF2 : Hid (Fr [] w (w4.setRow z A)) := Lib.hid (HF.out.setRow (.inr HZ.out) _)
  clear hst HB HF hl
  generalize w4.setRow z A = w5 at *
  have hst := storeRow HB2.out rfl HO.out
  have HI : Hid ((Try.prog.info? 59).map (·.size) = some A.size) := Lib.hid (by rw [HS.out]; decide)
  go_wp2_with (first
    | (refine wpList_load_row (by rfl) 59 (.tmp 2) (by rfl) z (by rfl) 59 A (0, 0) _ HB2.out Try.underlying59 rfl HI.out ?_))
  exact bodyPost_ret (v := .tuple #[.agg A, .bool b]) (by
    have hv := run_loadVar_row (P := Try.prog) (w5.setRow z A) z 59 59 A (0, 0) _ (HB2.out.setRow A) Try.underlying59 rfl HI.out
    rw [results_cell_tmp (p := 2) (u := 3) (ty := 59) rfl]
    simp [asAddr, hv, Result.andThen]) rfl ⟨rfl, HF2.out.setRow (.inr HZ.out) _⟩

end Gm
end Go.Proofs.Ytglnpgdigdfjiaa
