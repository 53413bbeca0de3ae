/-
  A maker and its writer in memory; contracts of bpsmake's left and pays.
-/
import Derived.Test.YtokfcknfkhlmfaaBmBest
import Derived.Test.YtokfcknfkhlmfaaOctWrite1
namespace Go.Proofs.Ytokfcknfkhlmfaa
open Go.RowKit
namespace Bm

/-- A maker and its writer, all of them new since w0. -/
structure Ms (w0 : World) (m q B : Nat) (A D : Option Addr) (ca cb la lb lk : Nat) (a b : List UInt8) (kn : Option Addr) (s t told u : Nat) (v : Value) (l : List UInt8) (W : World) : Prop where
  mb : Blk W m 92 (mkV A D ca cb la lb kn lk s t told u q)
  kn : Kn W kn A D ca cb a b
  wr : Wr W B q v l
  fr : Fr [] w0 W
  hm : w0.heap.size ≤ m
  hq : w0.heap.size ≤ q
  hB : w0.heap.size ≤ B
  hBW : B ≤ W.heap.size

section
variable {w0 : World} {m q B : Nat} {A D : Option Addr} {ca cb la lb lk : Nat} {a b : List UInt8} {kn : Option Addr} {s t told u : Nat} {v : Value} {l : List UInt8} {W W' : World}
theorem Ms.later (h : Ms w0 m q B A D ca cb la lb lk a b kn s t told u v l W) (hf : Fr [] W W') : Ms w0 m q B A D ca cb la lb lk a b kn s t told u v l W' :=
  ⟨h.mb.fr hf (by simp), h.kn.fr hf (by simp), h.wr.fr hf (by simp) (by simp), h.fr.tr hf, h.hm, h.hq, h.hB, Nat.le_trans h.hBW hf.size⟩
theorem Ms.own (h : Ms w0 m q B A D ca cb la lb lk a b kn s t told u v l W) : v.ownBlock ≠ some m := h.wr.2.other h.mb (by decide)
/-- The maker's own cells, or its index, have turned. -/
theorem Ms.turned (h : Ms w0 m q B A D ca cb la lb lk a b kn s t told u v l W) {kn' : Option Addr} {s' t' told' u' : Nat} (hf : Fr [m] W W') (hm : Blk W' m 92 (mkV A D ca cb la lb kn' lk s' t' told' u' q)) (hk : Kn W' kn' A D ca cb a b) :
    Ms w0 m q B A D ca cb la lb lk a b kn' s' t' told' u' v l W' :=
  ⟨hm, hk, h.wr.fr hf (by simp; exact h.wr.1.other h.mb (by decide)) (by intro k hk; simp; rintro rfl; exact h.own hk), h.fr.trans hf (by simp; exact h.hm), h.hm, h.hq, h.hB, Nat.le_trans h.hBW hf.size⟩
theorem Ms.apart (h : Ms w0 m q B A D ca cb la lb lk a b kn s t told u v l W) : Apart W m := .inr ⟨_, _, h.mb, by decide, by decide⟩
theorem Ms.set (h : Ms w0 m q B A D ca cb la lb lk a b kn s t told u v l W) {s' t' told' u' : Nat} (hf : Fr [m] W W') (hm : Blk W' m 92 (mkV A D ca cb la lb kn lk s' t' told' u' q)) :
    Ms w0 m q B A D ca cb la lb lk a b kn s' t' told' u' v l W' := h.turned hf hm (h.kn.fr hf (by simp; exact h.apart))
theorem own_blk {w : World} {B k : Nat} {v : Value} {l : List UInt8} (h : Own w B v l) (hk : v.ownBlock = some k) : ∃ cs, Blk w k 5 cs := by
  rcases h.2 with ⟨rfl, _⟩ | ⟨g, cap, cur, rfl, _, hh, _⟩
  · simp [Value.ownBlock] at hk
  · have : g = k := by simpa [Value.ownBlock] using hk
    subst this
    exact ⟨_, hh⟩
theorem Ms.foot_other (h : Ms w0 m q B A D ca cb la lb lk a b kn s t told u v l W) {k : Nat} {ty : TypeId} {cs : Array Value} (hk : Blk W k ty cs) (h1 : ty ≠ 5) (h2 : ty ≠ 50) : k ∉ foot q v := by
  simp only [foot, List.mem_cons, Option.mem_toList]
  rintro (rfl | h3)
  · exact hk.other h.wr.1 h2 rfl
  · exact h.wr.2.other hk (fun e => h1 e.symm) h3
/-- The writer has written. -/
theorem Ms.wrote (h : Ms w0 m q B A D ca cb la lb lk a b kn s t told u v l W) {v' : Value} {l' : List UInt8} (hw : Wr W' B q v' l') (hf : Fr (foot q v) W W') : Ms w0 m q B A D ca cb la lb lk a b kn s t told u v' l' W' := by
  refine ⟨h.mb.fr hf (h.foot_other h.mb (by decide) (by decide)), h.kn.fr hf ?_, hw, h.fr.trans hf ?_, h.hm, h.hq, h.hB, Nat.le_trans h.hBW hf.size⟩
  · intro k hk
    simp only [foot, List.mem_cons, Option.mem_toList] at hk
    rcases hk with rfl | hk
    · exact .inr ⟨_, _, h.wr.1, by decide, by decide⟩
    · obtain ⟨cs, hc⟩ := own_blk h.wr.2 hk
      exact .inr ⟨_, _, hc, by decide, by decide⟩
  · intro k hk
    simp only [foot, List.mem_cons, Option.mem_toList] at hk
    right
    rcases hk with rfl | hk
    · exact h.hq
    · have := (h.wr.2.lt k hk).1
      have := h.hB
      omega
end

set_option maxRecDepth 100000 in
set_option maxHeartbeats 2000000 in
theorem left_any (w : World) (m q ca cb la lb lk s t told u N y o : Nat) (A kn : Option Addr) (hN : told + N = u) (hN0 : 0 < N) (hu : u ≤ lb) (hcb : lb ≤ cb) (hnb : lb ≤ 16777216)
    (h : Blk w m 92 (mkV A (some ⟨y, o, none⟩) ca cb la lb kn lk s t told u q)) :
    Calls Try.prog 59 #[.pointer (some ⟨m, 0, none⟩)] w fun e w' => e = .returned (.agg #[.int .i64 1, .int .i64 (N : Int), .int .i64 0, .slice (some ⟨y, o + told, none⟩) N (cb - told)]) ∧ Fr [] w w' := by
  obtain ⟨s0, hs0⟩ : ∃ s0, w.heap.size = s0 := ⟨_, rfl⟩
  have hb := Blk.fresh w 82 #[.int .i64 0, .int .i64 0, .int .i64 0, .slice none 0 0]
  rw [hs0] at hb
  have hf : Fr [] w (w.alloc (.cells #[.int .i64 0, .int .i64 0, .int .i64 0, .slice none 0 0] 82)) := (Fr.refl [] w).alloc _
  have HM := Lib.hid (h.fr hf (by simp))
  have HF := Lib.hid hf
  have HB := Lib.hid hb
  have e1 : (u : Int) - (told : Int) = (N : Int) := by omega
  have e2 : IntKind.i64.wrap (N : Int) = (N : Int) := by rw [IntKind.wrap_i64]; omega
  have e3 : u - told = N := by omega
  have e4 : told ≤ u := by omega
  have e5 : (told : Int) ≤ u := by omega
  have e6 : (u : Int) ≤ cb := by omega
  have e7 : u ≤ cb := by omega
  have e8 : ¬ cb = told := by omega
  have e9 : (0 : Int) ≤ told := by omega
  have e10 : (0 : Int) ≤ u := by omega
  clear hb hf h hN
  go_enter Try.func59, Try.ntmps59
  go_upto_region 1 with fail
  generalize w.alloc _ = w1 at *
  obtain ⟨-, c1, -, -, -, -, c6, c7, -⟩ := blk9 HM.out
  go_still_tail 23, (by kernel_rfl)
  repeat still_step
  change wpList _ _ _ _ _ w1.drew
  have hb2 : Blk w1.drew s0 82 #[.int .i64 0, .int .i64 0, .int .i64 0, .slice none 0 0] := HB.out
  have HB2 := Lib.hid hb2
  have HF2 : Hid (Fr [] w w1.drew) := Lib.hid HF.out.drew
  obtain ⟨z0, z1, z2, z3⟩ := Bps.blk4 hb2
  obtain ⟨f0, f1, f2, f3⟩ := frz4 hb2
  clear hb2 c1 c6 c7
  generalize w1.drew = w2 at *
  go_wp2
  obtain ⟨hfin, hbl⟩ := act_put HB2.out HF2.out (by omega) (.int .i64 1) (.int .i64 (N : Int)) (.int .i64 0) (.slice (some ⟨y, o + told, none⟩) N (cb - told))
  obtain ⟨y0, y1, y2, y3⟩ := Bps.blk4 hbl
  generalize (((w2.setCell ⟨s0, 0, none⟩ (.int .i64 1)).setCell ⟨s0, 1, none⟩ (.int .i64 (N : Int))).setCell ⟨s0, 2, none⟩ (.int .i64 0)).setCell ⟨s0, 3, none⟩ (.slice (some ⟨y, o + told, none⟩) N (cb - told)) = w5 at *
  exact bodyPost_ret (v := .agg #[.int .i64 1, .int .i64 (N : Int), .int .i64 0, .slice (some ⟨y, o + told, none⟩) N (cb - told)]) (by simp [results, Try.results59, go_sem, y0, y1, y2, y3]) rfl ⟨rfl, hfin⟩

end Bm
end Go.Proofs.Ytokfcknfkhlmfaa
