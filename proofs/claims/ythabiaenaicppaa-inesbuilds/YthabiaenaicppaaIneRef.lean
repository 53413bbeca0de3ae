/-
  Contracts of the document's own Head, Fill and Same of layer 9 (picklockref09).
-/
import Derived.Test.YthabiaenaicppaaIneMath2
import Derived.Test.YthabiaenaicppaaIneParse
import Derived.Test.YthabiaenaicppaaAppZ
namespace Go.Proofs.Ythabiaenaicppaa
open Go.RowKit
namespace Ine

/-- A head that is made. -/
def Headed (w : World) (p c f s : UInt8) (e : Ending) (w' : World) : Prop := ∃ A cap, e = .returned (.slice A 16 cap) ∧ Own w' w.heap.size (.slice A 16 cap) (headL p c f s) ∧ Fr [] w w'

theorem own8 (w : World) (p c f s : UInt8) : Own (w.alloc (.cells #[.int .u8 78, .int .u8 69, .int .u8 83, .int .u8 26, .int .u8 (p.toNat : Int), .int .u8 (c.toNat : Int), .int .u8 (f.toNat : Int), .int .u8 (s.toNat : Int)] 5)) w.heap.size (.slice (some ⟨w.heap.size, 0, none⟩) 8 8) (head8 p c f s) := by
  have h := Blk.fresh w 5 (bv (head8 p c f s)).toArray
  exact Own.of_blk (l := head8 p c f s) h (Nat.le_refl _) (by simp [head8, maxLen])

set_option maxRecDepth 100000 in
set_option maxHeartbeats 1000000 in
theorem head_any (w : World) (p c f s : UInt8) : Calls Try.prog 8 #[.int .u8 (p.toNat : Int), .int .u8 (c.toNat : Int), .int .u8 (f.toNat : Int), .int .u8 (s.toNat : Int)] w (Headed w p c f s) := by
  obtain ⟨i0, hi, hz0, hz1, hz2⟩ := info_parts info5
  have HO := Lib.hid (own8 w p c f s)
  have HF := Lib.hid ((Fr.refl [] w).alloc (.cells #[.int .u8 78, .int .u8 69, .int .u8 83, .int .u8 26, .int .u8 (p.toNat : Int), .int .u8 (c.toNat : Int), .int .u8 (f.toNat : Int), .int .u8 (s.toNat : Int)] 5))
  go_enter Try.func8, Try.ntmps8
  go_wp2_with (at_builtin; refine Az.wpList_appZ _ rfl _ _ 27 3 rfl w.heap.size i0 Try.underlying27 Try.underlying3 hi hz0 hz1 hz2 (.slice (some ⟨w.heap.size, 0, none⟩) 8 8) (head8 p c f s) rfl HO.out 8 rfl (by decide) 16 rfl (by decide) (by simp) ?_)
  intro A' cap' w1 ho1 hf1 _
  have HO1 := Lib.hid ho1
  have HF1 : Hid (Fr [] w w1) := Lib.hid (HF.out.trans hf1 (by simp [Value.ownBlock]))
  clear ho1 hf1
  go_wp2
  go_ret
  exact ⟨_, _, rfl, HO1.out, HF1.out⟩

theorem xor_u8 (a b : Int) : ∃ y : UInt8, bits .xor .u8 a b = (y.toNat : Int) := by
  have e : bits .xor .u8 a b = IntKind.u8.wrap ((BitVec.ofInt 8 a ^^^ BitVec.ofInt 8 b).toNat : Int) := rfl
  rw [e, IntKind.wrap_u8']
  refine ⟨UInt8.ofNat (((BitVec.ofInt 8 a ^^^ BitVec.ofInt 8 b).toNat : Int) % 256).toNat, ?_⟩
  simp
  omega

theorem blk_put {w : World} {g : Nat} {l : List UInt8} (h : Blk w g 5 (bv l).toArray) (k : Nat) (x : UInt8) : Blk (w.setCell ⟨g, k, none⟩ (.int .u8 (x.toNat : Int))) g 5 (bv (l.set k x)).toArray := by
  have h1 := h.put k (.int .u8 (x.toNat : Int))
  rw [List.setIfInBounds_toArray] at h1
  rw [show bv (l.set k x) = (bv l).set k (.int .u8 (x.toNat : Int)) from by simp [bv, List.map_set]]
  exact h1

/-- Bytes that are filled in. -/
def Filled (w : World) (n : Nat) (e : Ending) (w' : World) : Prop := ∃ L : List UInt8, L.length = n ∧ e = .returned (.slice (some ⟨w.heap.size, 0, none⟩) n n) ∧ Blk w' w.heap.size 5 (bv L).toArray ∧ Fr [] w w'

set_option maxRecDepth 100000 in
set_option maxHeartbeats 1000000 in
theorem fill_any (w : World) (n : Nat) (x : UInt8) (hn : n ≤ 1000000000) : Calls Try.prog 9 #[.int .i64 (n : Int), .int .u8 (x.toNat : Int)] w (Filled w n) := by
  have hmk := Mi.make_i64 n hn
  obtain ⟨g, hg⟩ : ∃ g, w.heap.size = g := ⟨_, rfl⟩
  have hb0 := Blk.fresh w 5 (bv (List.replicate n 0)).toArray
  rw [hg] at hb0
  have HB0 := Lib.hid hb0
  have HF0 := Lib.hid ((Fr.refl [] w).alloc (.cells (bv (List.replicate n 0)).toArray 5))
  have HG := Lib.hid hg
  clear hb0 hg
  go_enter Try.func9, Try.ntmps9
  go_upto_region 2 with fail
  rw [HG.out]
  generalize w.alloc _ = w0 at *
  go_wp2
  go_loopw [6] (fun s6 wr => ∃ (i : Nat) (L : List UInt8), s6 = .int .i64 (i : Int) ∧ i ≤ n ∧ L.length = n ∧ Blk wr g 5 (bv L).toArray ∧ Fr [] w wr) (fun s6 _ => n - (intOf s6).toNat)
  case atStart => exact ⟨0, List.replicate n 0, rfl, Nat.zero_le _, List.length_replicate, HB0.out, HF0.out⟩
  case round =>
    obtain ⟨i, L, rfl, hi, hL, hb, hf⟩ := hrel
    have HL := Lib.hid hL
    have HB := Lib.hid hb
    have HF := Lib.hid hf
    by_cases hlt : i < n
    · have h1 : (i : Int) < n := by omega
      have h0 : (0 : Int) ≤ i := by omega
      obtain ⟨y, hy⟩ : ∃ y, L[i]'(by omega) = y := ⟨_, rfl⟩
      have c1 : wr.cell? ⟨g, i, none⟩ = some (.int .u8 (y.toNat : Int)) := by
        rw [hb.cell i, List.getElem?_toArray, bv_get L i (by omega), hy]
      have f1 := hb.frozen i
      clear hb hf hL hy
      go_wp2
      go_roundw
      case rel =>
        generalize hE : bits .xor .u8 _ _ = E
        obtain ⟨v, hv⟩ : ∃ v : UInt8, E = (v.toNat : Int) := by rw [← hE]; exact xor_u8 _ _
        subst hv
        exact ⟨i + 1, L.set i v, by go_num, by omega, by rw [List.length_set]; exact HL.out, blk_put HB.out i v, HF.out.setCell (.inr (by rw [HG.out]; exact Nat.le_refl _)) _⟩
      case measure => simp [intOf]; omega
    · obtain rfl : i = n := by omega
      go_wp2
      go_ret
      exact ⟨L, HL.out, by rw [HG.out]; rfl, by rw [HG.out]; exact HB.out, HF.out⟩

/-- A cart in memory. -/
def CartIn (w : World) (v : Value) (ct : Ct) : Prop :=
  ∃ P cp C cc, v = .agg #[.int .i64 (ct.m : Int), .int .i64 (ct.r : Int), .slice P ct.prg.length cp, .slice C ct.chr.length cc, .bool ct.ram] ∧ Rd w P ct.prg ∧ Rd w C ct.chr
theorem CartIn.later {w w' : World} {v : Value} {ct : Ct} (h : CartIn w v ct) (hf : Fr [] w w') : CartIn w' v ct := by
  obtain ⟨P, cp, C, cc, hv, h1, h2⟩ := h
  exact ⟨P, cp, C, cc, hv, h1.later hf (by simp), h2.later hf (by simp)⟩
theorem Told.cart {w w' : World} {v : Value} {ct : Ct} (h : Told w ct v w') : CartIn w' v ct := by
  obtain ⟨g1, g2, rfl, -, -, -, h1, h2, -⟩ := h
  exact ⟨_, _, _, _, rfl, rd_blk h1, rd_blk h2⟩

set_option maxRecDepth 100000 in
set_option maxHeartbeats 1000000 in
theorem same_cart (w : World) (v v' : Value) (ct : Ct) (h : CartIn w v ct) (h' : CartIn w v' ct) : Calls Try.prog 12 #[v, v'] w fun e w' => e = .returned (.bool true) ∧ Fr [] w w' := by
  obtain ⟨P, cp, C, cc, rfl, h1, h2⟩ := h
  obtain ⟨P', cp', C', cc', rfl, h1', h2'⟩ := h'
  obtain ⟨m, r, pl, cl, b⟩ := ct
  simp only at *
  have hf : Fr [] w ((w.alloc (.cells #[.int .i64 (m : Int), .int .i64 (r : Int), .slice P pl.length cp, .slice C cl.length cc, .bool b] 36)).alloc (.cells #[.int .i64 (m : Int), .int .i64 (r : Int), .slice P' pl.length cp', .slice C' cl.length cc', .bool b] 36)) := ((Fr.refl [] w).alloc _).alloc _
  have k1 := run_str (P := Try.prog) 27 9 5 (cap := cp) Try.underlying27 Try.underlying5 Try.underlying9 (h1.later hf (by simp))
  have k2 := run_str (P := Try.prog) 27 9 5 (cap := cc) Try.underlying27 Try.underlying5 Try.underlying9 (h2.later hf (by simp))
  have k3 := run_str (P := Try.prog) 27 9 5 (cap := cp') Try.underlying27 Try.underlying5 Try.underlying9 (h1'.later hf (by simp))
  have k4 := run_str (P := Try.prog) 27 9 5 (cap := cc') Try.underlying27 Try.underlying5 Try.underlying9 (h2'.later hf (by simp))
  obtain ⟨n1, hn1⟩ : ∃ n1, pl.length = n1 := ⟨_, rfl⟩
  obtain ⟨n2, hn2⟩ : ∃ n2, cl.length = n2 := ⟨_, rfl⟩
  rw [hn1, hn2] at hf k1 k2 k3 k4
  rw [hn1, hn2]
  have HF := Lib.hid hf
  clear hf h1 h2 h1' h2' hn1 hn2
  go_enter Try.func12, Try.ntmps12
  go_wp2
  go_ret
  exact ⟨rfl, HF.out⟩

end Ine
end Go.Proofs.Ythabiaenaicppaa
