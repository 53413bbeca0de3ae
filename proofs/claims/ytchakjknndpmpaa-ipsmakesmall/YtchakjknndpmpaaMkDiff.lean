/-
  Contract of the iterator over the places that differ (ipsmake). No condition beyond lengths.
-/
import Derived.Test.YtchakjknndpmpaaRangeK
import Derived.Test.YtchakjknndpmpaaMkBits
import Derived.RangeFuncCalls
import Derived.Shelf.Abstract
import Derived.Shelf.RegionOpen
import Derived.OwnWalkIn
import Derived.TacticsInMore
import Derived.LoopNIn
import Derived.LoopIn
namespace Go.Proofs.Ytchakjknndpmpaa
open Go.RowKit Go.Shelf
namespace Ips

/-- The places ahead of i that differ. -/
def df (a b : List UInt8) : Nat → List Nat
  | 0 => []
  | i + 1 => df a b i ++ (if sm a b i = true then [] else [i])
theorem df_same (a b : List UInt8) (i : Nat) (h : sm a b i = true) : df a b (i + 1) = df a b i := by simp [df, h]
theorem df_other (a b : List UInt8) (i : Nat) (h : sm a b i = false) : df a b (i + 1) = df a b i ++ [i] := by simp [df, h]
theorem df_more (a b : List UInt8) (i k : Nat) : ∃ post, df a b (i + k) = df a b i ++ post := by
  induction k with
  | zero => exact ⟨[], by simp⟩
  | succ k ih =>
    obtain ⟨p, hp⟩ := ih
    refine ⟨p ++ (if sm a b (i + k) = true then [] else [i + k]), ?_⟩
    rw [show i + (k + 1) = (i + k) + 1 by omega, ← List.append_assoc, ← hp]
    rfl
theorem df_next (a b : List UInt8) (i n : Nat) (hi : i < n) (h : sm a b i = false) : ∃ post, df a b n = df a b i ++ i :: post := by
  obtain ⟨p, hp⟩ := df_more a b (i + 1) (n - (i + 1))
  refine ⟨p, ?_⟩
  rw [show i + 1 + (n - (i + 1)) = n by omega, df_other a b i h] at hp
  rw [hp]
  simp

/-- What the iterator reads: the pair in the block p, and both rows. -/
structure Pr (A B : Option Addr) (n c m d : Nat) (a b : List UInt8) (p : Nat) (W : World) : Prop where
  box : Blk W p 39 #[.slice A n c, .slice B m d]
  fst : Rd W A a
  snd : Rd W B b

set_option maxRecDepth 100000 in
set_option maxHeartbeats 2000000 in
theorem differing_seq (A B : Option Addr) (n c m d : Nat) (a b : List UInt8) (p : Nat) (hn : a.length = n) (hm : b.length = m) (hm2 : m ≤ 1000000000) :
    SeqKeep Try.prog 39 #[.pointer (some ⟨p, 0, none⟩)] (fun i : Nat => Value.int .i64 (i : Int)) (Pr A B n c m d a b p) (df a b m) := by
  intro k l J W hK hfr hY h0
  refine callsIn_of_wp Try.func39 rfl trivial ?_ rfl
  simp only [Try.ntmps39, List.size_toArray, List.length_cons, List.length_nil, Nat.reduceAdd, Nat.reduceSub, Array.replicate_succ, Array.replicate_zero, List.push_toArray, List.append_toArray, List.nil_append, List.cons_append]
  have hp0 := (hK _ _ h0).box.cell 0
  have hp1 := (hK _ _ h0).box.cell 1
  simp at hp0 hp1
  gi_wp2
  clear hp0 hp1
  gi_loopw [7] (fun i wr => ∃ j : Nat, j ≤ m ∧ i = .int .i64 (j : Int) ∧ J (df a b j) wr) (fun i _ => m - (intOf i).toNat)
  case atStart => exact ⟨0, Nat.zero_le _, rfl, h0⟩
  case round =>
    obtain ⟨j, hj, rfl, hJ⟩ := hrel
    have hP := hK _ _ hJ
    have hc0 := hP.box.cell 0
    have hc1 := hP.box.cell 1
    simp at hc0 hc1
    by_cases hlt : j < m
    · have hlt' : (j : Int) < m := by omega
      have HS := Lib.hid (same5 wr A B n c m d j a b hn hm hP.fst hP.snd hlt)
      unfold pairV at HS
      have HJ := Lib.hid hJ
      clear hJ hP
      cases hs : sm a b j with
      | true =>
        rw [hs] at HS
        have HE := Lib.hid (df_same a b j hs)
        clear hs
        gi_wp2_with (refine ⟨trivial, fun hx => absurd hx (by decide), ?_⟩; gi_at_call 40; refine (callsIn_wide.2 HS.out).mono ?_; rintro e w1 ⟨rfl, hf⟩; have HF := Lib.hid hf; clear hf)
        refine ⟨fun f hx => (nomatch hx), ?_⟩
        rename_i hcont _ _ _ _
        refine hcont _ _ ?_
        gi_wp2
        go_roundw
        case rel => exact ⟨j + 1, by omega, by go_num, by rw [HE.out]; exact hfr _ _ _ HJ.out HF.out⟩
        case measure => simp [intOf]; omega
      | false =>
        rw [hs] at HS
        have HE := Lib.hid (df_other a b j hs)
        have HN := Lib.hid (df_next a b j m hlt hs)
        clear hs
        gi_wp2_with (refine ⟨trivial, fun hx => absurd hx (by decide), ?_⟩; gi_at_call 40; refine (callsIn_wide.2 HS.out).mono ?_; rintro e w1 ⟨rfl, hf⟩; have HF := Lib.hid hf; clear hf; obtain ⟨post, hpost⟩ := HN.out; obtain ⟨fn, tmps, assign, body, hy, hR⟩ := hY _ j post w1 (k - 1) (hfr _ _ _ HJ.out HF.out) hpost; clear hpost; have HR := Lib.hid hR; clear hR)
        refine ⟨fun hx => absurd hx (by decide), HR.out.mono ?_⟩
        rintro e W3 ⟨rfl, hJ3⟩
        have HJ3 := Lib.hid hJ3
        clear hJ3
        gi_wp2
        go_roundw
        case rel => exact ⟨j + 1, by omega, by go_num, by rw [HE.out]; exact HJ3.out⟩
        case measure => simp [intOf]; omega
    · have hlt' : ¬ (j : Int) < m := by omega
      obtain rfl : j = m := by omega
      gi_wp2
      go_end0
      exact ⟨⟨_, rfl⟩, hJ⟩

end Ips
end Go.Proofs.Ytchakjknndpmpaa
