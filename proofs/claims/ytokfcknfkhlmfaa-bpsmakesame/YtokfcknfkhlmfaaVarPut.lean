/-
  Contracts of varnum's bytesOf and of the iterator that it hands back. No condition.
-/
import Derived.Test.YtokfcknfkhlmfaaRangeF
import Derived.Test.YtokfcknfkhlmfaaVarMath
import Derived.Test.YtokfcknfkhlmfaaOctWrite1
import Derived.RangeFuncCalls
import Derived.Shelf.Abstract
import Derived.Shelf.RegionOpen
import Derived.OwnWalkIn
import Derived.TacticsInMore
import Derived.LoopNIn
import Derived.LoopIn
namespace Go.Proofs.Ytokfcknfkhlmfaa
open Go.RowKit Go.Shelf
namespace Var

/-- The number in a cell. -/
def cellN (w : World) (b : Nat) : Nat :=
  match w.cell? ⟨b, 0, none⟩ with
  | some (.int _ z) => z.toNat
  | _ => 0
theorem cellN_eq {w : World} {b v : Nat} (h : w.cell? ⟨b, 0, none⟩ = some (.int .u64 (v : Int))) : cellN w b = v := by simp [cellN, h]

set_option maxRecDepth 100000 in
set_option maxHeartbeats 1000000 in
theorem iter_seq (b u0 : Nat) (hu : u0 < 18446744073709551616) :
    SeqOwn Try.prog 51 #[.pointer (some ⟨b, 0, none⟩)] (fun x : UInt8 => Value.int .u8 (x.toNat : Int)) b (fun v : Nat => .int .u64 (v : Int)) u0 (putV u0) := by
  intro n l J W hcell hset hY h0
  refine callsIn_of_wp Try.func51 rfl trivial ?_ rfl
  simp only [Try.ntmps51, List.size_toArray, List.length_cons, List.length_nil, Nat.reduceAdd, Nat.reduceSub, Array.replicate_succ, Array.replicate_zero, List.push_toArray, List.append_toArray, List.nil_append, List.cons_append]
  gi_wp2
  gi_loopw [3] (fun _ wr => ∃ (pre : List UInt8) (v : Nat), v < 18446744073709551616 ∧ J pre v wr ∧ pre ++ putV v = putV u0) (fun _ wr => cellN wr b)
  case atStart => exact ⟨[], u0, hu, h0, rfl⟩
  case round =>
    obtain ⟨pre, v, hv, hJ, hp⟩ := hrel
    obtain ⟨hc, hf⟩ := hcell pre v wr hJ
    have hlen : pre.length < (putV u0).length := by
      have := putV_pos v
      rw [← hp, List.length_append]
      omega
    by_cases h : v < 128
    · obtain ⟨fn, tmps, assign, body, hy, hR⟩ := hY pre v (UInt8.ofNat (v + 128)) wr (n - 1) hJ hlen
      have hn : ¬ (128 : Int) ≤ (v : Int) := by omega
      have ho : bits .or .u8 (v : Int) 128 = ((UInt8.ofNat (v + 128)).toNat : Int) := by
        rw [u8_or128_right _ (by omega) (by omega)]
        simp
        omega
      rw [← ho] at hy
      clear ho
      gi_wp2
      refine ⟨fun hx => absurd hx (by decide), hR.mono ?_⟩
      rintro e W3 ⟨rfl, hJ3⟩
      gi_wp2
      go_end0
      rw [← putV_last h, hp] at hJ3
      exact ⟨⟨_, rfl⟩, v, hJ3⟩
    · obtain ⟨fn, tmps, assign, body, hy, hR⟩ := hY pre v (UInt8.ofNat (v % 128)) wr (n - 1) hJ hlen
      have hn : (128 : Int) ≤ (v : Int) := by omega
      have ho : (v : Int) % 128 = ((UInt8.ofNat (v % 128)).toNat : Int) := by
        simp
        omega
      rw [← ho] at hy
      clear ho
      gi_wp2
      refine ⟨fun hx => absurd hx (by decide), hR.mono ?_⟩
      rintro e W3 ⟨rfl, hJ3⟩
      obtain ⟨hc3, hf3⟩ := hcell _ v W3 hJ3
      gi_wp2
      go_roundw
      case rel =>
        refine ⟨pre ++ [UInt8.ofNat (v % 128)], v / 128 - 1, by omega, ?_, ?_⟩
        · have := hset _ v (v / 128 - 1) W3 hJ3
          have e : ((v / 128 - 1 : Nat) : Int) = (v : Int) / 128 - 1 := by omega
          rw [e] at this
          exact this
        · rw [List.append_assoc, List.singleton_append, ← putV_more h]
          exact hp
      case measure =>
        have e : ((v / 128 - 1 : Nat) : Int) = (v : Int) / 128 - 1 := by omega
        rw [cellN_eq hc, ← e, cellN_eq (v := v / 128 - 1) (World.cell?_setCell_same' _ _ _ (by rw [hc3]; rfl))]
        omega

set_option maxHeartbeats 1000000 in
theorem bytesOf_any (w : World) (v : Int) :
    Calls Try.prog 31 #[.int .u64 v] w fun e w' => e = .returned (.func (.func 51) #[] #[.pointer (some ⟨w.heap.size, 0, none⟩)]) ∧ w' = w.alloc (.cells #[.int .u64 v] 54) := by
  go_enter Try.func31, Try.ntmps31
  go_wp2
  go_ret
  exact ⟨rfl, rfl⟩

end Var
end Go.Proofs.Ytokfcknfkhlmfaa
