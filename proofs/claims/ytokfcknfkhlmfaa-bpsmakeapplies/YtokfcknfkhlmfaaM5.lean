/-
  Contract of crc's eightSteps.
  Contract of crc's newTable.
  Contracts of crc's Next and Sum. Conditions: the length is that of a slice.
-/
import Derived.Test.YtokfcknfkhlmfaaCrcSpell
import Derived.Test.YtokfcknfkhlmfaaApp
import Derived.BigQuiet
import Derived.Deep.QuietTactic
import Derived.Laws.Tables
import Derived.Deep.WholeRow
namespace Go.Proofs.Ytokfcknfkhlmfaa.Crc
open Go.RowKit

set_option maxHeartbeats 400000 in
theorem eight_any (w : World) (r : BitVec 32) :
    Calls Try.prog 81 #[.int .u32 (u r)] w fun e w' => e = .returned (.int .u32 (u (eight r))) ∧ w = w' := by
  go_enter Try.func81, Try.ntmps81
  go_wp2
  go_loop [0, 4] (fun v i => ∃ k : Nat, k ≤ 8 ∧ i = .int .i64 k ∧ v = .int .u32 (u (steps k r))) (fun _ i => 8 - (intOf i).toNat)
  case atStart => exact ⟨0, Nat.zero_le _, rfl, rfl⟩
  case round =>
    obtain ⟨k, hk, rfl, rfl⟩ := hrel
    by_cases hlt : k < 8
    · obtain ⟨s, hs⟩ : ∃ s, s = steps k r := ⟨_, rfl⟩
      rw [← hs]
      have HS : Hid (step s = steps (k + 1) r) := by rw [hs]; rfl
      clear hs
      cases hb : s.getLsbD 0 with
      | true =>
        have ho := out1 s hb
        have H1 := Lib.hid (step1 s hb)
        clear hb
        go_wp2
        exact ⟨⟨k + 1, by omega, by go_num, by rw [H1.out, HS.out]⟩, by simp [intOf]; omega⟩
      | false =>
        have ho := out0 s hb
        have H1 := Lib.hid (step0 s hb)
        clear hb
        go_wp2
        exact ⟨⟨k + 1, by omega, by go_num, by rw [H1.out, HS.out]⟩, by simp [intOf]; omega⟩
    · obtain rfl : k = 8 := by omega
      go_wp2
      go_ret
      exact ⟨rfl, rfl⟩

end Go.Proofs.Ytokfcknfkhlmfaa.Crc

namespace Go.Proofs.Ytokfcknfkhlmfaa.Crc
open Go.RowKit

/-- The table, as cells. -/
def tabA : Array Value := (List.range 256).toArray.map fun i => Value.int .u32 (u (T i))
theorem tabA_size : tabA.size = 256 := by simp [tabA]
theorem tabA_get (i : Nat) (h : i < 256) : tabA[i]? = some (.int .u32 (u (T i))) := by
  simp [tabA, h]
theorem tabA_one : tabA.all (·.oneCell') = true := by
  rw [Array.all_eq_true_iff_forall_mem]
  intro v hv
  obtain ⟨j, _, rfl⟩ := Array.mem_map.1 hv
  rfl
theorem tabA_eq (cs : Array Value) (h : cs.size = 256) (hg : ∀ j, j < 256 → cs[j]? = some (.int .u32 (u (T j)))) : cs = tabA := by
  apply Array.ext_getElem?
  intro j
  by_cases hj : j < 256
  · rw [hg j hj, tabA_get j hj]
  · rw [Array.getElem?_eq_none (by omega), Array.getElem?_eq_none (by rw [tabA_size]; omega)]

theorem info35 : (Try.prog.info? 124).map (fun i => (i.zero, i.size)) = some (some (.agg (Array.replicate 256 (.int .u32 0))), 256) := by kernel_rfl

theorem size35 : (Try.prog.info? 124).map (·.size) = some 256 := (zero_of_info info35).2
/-- While the table is filled: k of its cells are what they must be. -/
def Filled (w : World) (g k : Nat) (f : Nat → BitVec 32) : Prop := ∃ cs, Blk w g 124 cs ∧ cs.size = 256 ∧ ∀ j, j < k → cs[j]? = some (.int .u32 (u (f j)))
theorem Filled.step {w : World} {g k : Nat} {f : Nat → BitVec 32} (h : Filled w g k f) (hk : k < 256) : (∃ v, w.cell? ⟨g, k, none⟩ = some v) ∧ w.frozen? ⟨g, k, none⟩ = false ∧ Filled (w.setCell ⟨g, k, none⟩ (.int .u32 (u (f k)))) g (k + 1) f := by
  obtain ⟨cs, hb, hs, hc⟩ := h
  refine ⟨⟨_, (hb.cell k).trans (Array.getElem?_eq_getElem (by omega))⟩, hb.frozen k, _, hb.put k _, by simpa using hs, fun j hj => ?_⟩
  by_cases e : k = j
  · subst e; rw [Array.getElem?_setIfInBounds_self_of_lt (by omega)]
  · rw [Array.getElem?_setIfInBounds_ne e]; exact hc j (by omega)
theorem Filled.done {w : World} {g : Nat} (h : Filled w g 256 T) : Blk w g 124 tabA := by
  obtain ⟨cs, hb, hs, hc⟩ := h
  rwa [tabA_eq cs hs hc] at hb

set_option maxHeartbeats 400000 in
set_option maxRecDepth 100000 in
theorem table_any (w : World) :
    Calls Try.prog 70 #[] w fun e w' => e = .returned (.agg tabA) ∧ Fr [] w w' := by
  obtain ⟨hz, hsz⟩ := zero_of_info info35
  have HSZ := Lib.hid hsz
  clear hsz
  have hzs : (Array.replicate 256 (Value.int .u32 0)).size = 256 := by simp
  generalize (Array.replicate 256 (Value.int .u32 0)) = Z at *
  have HZS := Lib.hid hzs
  clear hzs
  go_enter Try.func70, Try.ntmps70
  go_wp2
  go_loopw [2, 3] (fun _ i wr => ∃ k : Nat, k ≤ 256 ∧ i = .int .i64 k ∧ Filled wr (w.heap.size + 1) k T ∧ Blk wr w.heap.size 124 Z ∧ Fr [] w wr) (fun _ i _ => 256 - (intOf i).toNat)
  case atStart =>
    have h1 : Blk ((w.alloc (.cells Z 124)).alloc (.cells Z 124)) (w.heap.size + 1) 124 Z := by have := Blk.fresh (w.alloc (.cells Z 124)) 124 Z; simpa using this
    have h2 : Blk ((w.alloc (.cells Z 124)).alloc (.cells Z 124)) w.heap.size 124 Z := (Blk.fresh w 124 Z).fr ((Fr.refl [] _).alloc _) (by simp)
    exact ⟨0, Nat.zero_le _, rfl, ⟨Z, h1, HZS.out, fun j hj => by omega⟩, h2, ((Fr.refl [] w).alloc _).alloc _⟩
  case round =>
    obtain ⟨k, hk, rfl, hfill, hbz, hf⟩ := hrel
    have HB := Lib.hid hfill
    have HBZ := Lib.hid hbz
    have HF := Lib.hid hf
    clear hfill hbz hf
    by_cases hlt : k < 256
    · obtain ⟨⟨v, h1⟩, h2, h3⟩ := HB.out.step hlt
      have H3 := Lib.hid h3
      clear h3
      have hk : (k : Int) = u (BitVec.ofNat 32 k) := by unfold u; rw [BitVec.toNat_ofNat, Nat.mod_eq_of_lt (by omega)]
      have HK := Lib.hid hk
      clear hk
      go_wp2_with fail
      rw [show Value.int IntKind.u32 (k : Int) = Value.int IntKind.u32 (u (BitVec.ofNat 32 k)) from congrArg _ HK.out]
      refine (eight_any wr (BitVec.ofNat 32 k)).mono ?_
      rintro e w1 ⟨rfl, rfl⟩
      go_wp2
      go_roundw
      case rel => exact ⟨k + 1, by omega, by go_num, H3.out, HBZ.out.fr ((Fr.refl [w.heap.size + 1] wr).setCell (by simp) _) (by simp), HF.out.setCell (by simp) _⟩
      case measure => simp [intOf]; omega
    · obtain rfl : k = 256 := by omega
      go_wp2
      refine wp_load_row 124 (.tmp 1) rfl (w.heap.size + 1) rfl 124 tabA (0, 0) _ HB.out.done Try.underlying124 rfl (by rw [tabA_size]; exact HSZ.out) ?_
      have hst := storeRow HBZ.out (HZS.out.trans tabA_size.symm) tabA_one
      have hts := tabA_size
      go_wp2
      exact bodyPost_ret (v := .agg tabA) (results_cell_row Try.results70 _ _ w.heap.size 124 tabA (0, 0) _ rfl (HBZ.out.setRow tabA) Try.underlying124 rfl (by rw [tabA_size]; exact HSZ.out)) rfl ⟨rfl, HF.out.setRow (by simp) _⟩

end Go.Proofs.Ytokfcknfkhlmfaa.Crc

namespace Go.Proofs.Ytokfcknfkhlmfaa.Crc
open Go.RowKit

theorem run_take (r : BitVec 32) (l : List UInt8) (k : Nat) (x : UInt8) (h : l[k]? = some x) : run r (l.take (k + 1)) = upd (run r (l.take k)) x := by
  obtain ⟨hk, e⟩ := List.getElem?_eq_some_iff.1 h
  rw [take_snoc l k hk, run_snoc, e]

theorem nots_u (a : BitVec 32) : bits .xor .u32 IntKind.u32.max (u a) = u (~~~ a) := by
  have h : IntKind.u32.max = u (BitVec.allOnes 32) := by decide
  rw [h, xor_u, BitVec.xor_comm, BitVec.xor_allOnes]

set_option maxHeartbeats 1000000 in
set_option maxRecDepth 100000 in
theorem next_any (w : World) (s : BitVec 32) (A : Option Addr) (n c : Nat) (l : List UInt8) (hn : l.length = n) (hr : Rd w A l) (hm : n ≤ 1000000000) :
    Calls Try.prog 43 #[.int .u32 (u s), .slice A n c] w fun e w' => e = .returned (.int .u32 (u (next s l))) ∧ Fr [] w w' := by
  obtain ⟨hz, hsz⟩ := zero_of_info info35
  clear hsz
  have hzs : (Array.replicate 256 (Value.int .u32 0)).size = 256 := by simp
  generalize (Array.replicate 256 (Value.int .u32 0)) = Z at *
  have HZS := Lib.hid hzs
  have HR := Lib.hid hr
  have HN := Lib.hid hn
  clear hzs hr hn
  go_enter Try.func43, Try.ntmps43
  go_wp2_with fail
  refine (table_any _).mono ?_
  rintro e w1 ⟨rfl, hf1⟩
  have HF1 := Lib.hid hf1
  clear hf1
  have hst := storeRow (Blk.fresh w1 124 Z) (HZS.out.trans tabA_size.symm) tabA_one
  rw [World.setRow_alloc_new] at hst
  have hts := tabA_size
  have HB : Hid (Blk (w1.alloc (.cells tabA 124)) w1.heap.size 124 tabA) := Blk.fresh w1 124 tabA
  have HF2 : Hid (Fr [] w (w1.alloc (.cells tabA 124))) := HF1.out.alloc _
  have H0 := Lib.hid (nots_u s)
  go_wp2
  clear hst hts hz
  generalize w1.alloc (.cells tabA 124) = w2 at *
  generalize w1.heap.size = g at *
  rw [H0.out]
  go_loop [6, 8, 14] (fun v _ i => ∃ k : Nat, k ≤ n ∧ i = .int .i64 k ∧ v = .int .u32 (u (run (~~~ s) (l.take k)))) (fun _ _ i => n - (intOf i).toNat)
  case atStart => exact ⟨0, Nat.zero_le _, rfl, rfl⟩
  case round =>
    obtain ⟨k, hk, rfl, rfl⟩ := hrel
    by_cases hlt : k < n
    · obtain ⟨b, o, x, rfl, hx, hc⟩ := (HR.out.fr HF2.out (by simp)).at k (by rw [HN.out]; omega)
      have HX := Lib.hid (run_take (~~~ s) l k x hx)
      clear hx
      generalize run (~~~ s) (l.take k) = r at *
      have hi := index_u r x
      have hil := index_lt r x
      have HT := Lib.hid (table_u r x)
      generalize (r.toNat % 256) ^^^ x.toNat = m at *
      have ht := HB.out.cell m
      rw [tabA_get m hil] at ht
      go_wp2
      exact ⟨⟨k + 1, by omega, by go_num, by rw [HX.out, HT.out]⟩, by simp [intOf]; omega⟩
    · obtain rfl : k = n := by omega
      have H1 := Lib.hid (nots_u (run (~~~ s) (l.take k)))
      have HL : Hid (l.take k = l) := List.take_of_length_le (by rw [HN.out]; omega)
      go_wp2
      go_ret
      exact ⟨by rw [H1.out, HL.out]; rfl, HF2.out⟩

theorem zero_u : (0 : Int) = u 0#32 := by decide

set_option maxHeartbeats 400000 in
theorem sum_any (w : World) (A : Option Addr) (n c : Nat) (l : List UInt8) (hn : l.length = n) (hr : Rd w A l) (hm : n ≤ 1000000000) :
    Calls Try.prog 27 #[.slice A n c] w fun e w' => e = .returned (.int .u32 (u (next 0#32 l))) ∧ Fr [] w w' := by
  have HR := Lib.hid hr
  have HN := Lib.hid hn
  clear hr hn
  go_enter Try.func27, Try.ntmps27
  go_wp2_with fail
  rw [show Value.int .u32 (0 : Int) = Value.int .u32 (u 0#32) from congrArg _ zero_u]
  refine (next_any w 0#32 A n c l HN.out HR.out hm).mono ?_
  rintro e w1 ⟨rfl, hf⟩
  have HF := Lib.hid hf
  clear hf
  go_wp2
  go_ret
  exact ⟨rfl, HF.out⟩

end Go.Proofs.Ytokfcknfkhlmfaa.Crc
