/-
  Contract of bpsmake's newIndex. Conditions: texts of up to 1000000000 bytes.
-/
import Derived.Test.YtokfcknfkhlmfaaBmLink
import Derived.Deep.DeepCutAuto
namespace Go.Proofs.Ytokfcknfkhlmfaa
open Go.RowKit
namespace Bm

/-- An index of both texts. -/
def Idx (w : World) (x : Nat) (A D : Option Addr) (ca cb : Nat) (a b : List UInt8) : Prop :=
  ∃ g0 g1 g2, Blk w x 133 (idxV A D ca cb a.length b.length g0 g1 g2) ∧ IRow w g0 a.length (full a (within a)) ∧ IRow w g1 b.length (full b (across a b)) ∧ IRow w g2 b.length (full b (within b))

/-- A block of other cells. -/
def Apart (w : World) (k : Nat) : Prop := w.heap.size ≤ k ∨ ∃ t cs, Blk w k t cs ∧ t ≠ 133 ∧ t ≠ 21
theorem Apart.ne {w : World} {k g : Nat} {cs : Array Value} (h : Apart w k) (hg : Blk w g 21 cs) : g ≠ k := by
  rintro rfl
  rcases h with h | ⟨t, cs', h1, _, h2⟩
  · have := hg.lt; omega
  · exact h1.other hg h2 rfl
theorem Apart.ne' {w : World} {k g : Nat} {cs : Array Value} (h : Apart w k) (hg : Blk w g 133 cs) : g ≠ k := by
  rintro rfl
  rcases h with h | ⟨t, cs', h1, h2, _⟩
  · have := hg.lt; omega
  · exact h1.other hg h2 rfl
theorem Idx.fr {S : List Nat} {w w' : World} {x : Nat} {A D : Option Addr} {ca cb : Nat} {a b : List UInt8} (h : Idx w x A D ca cb a b) (hf : Fr S w w') (hS : ∀ k ∈ S, Apart w k) : Idx w' x A D ca cb a b := by
  obtain ⟨g0, g1, g2, h1, h2, h3, h4⟩ := h
  exact ⟨g0, g1, g2, h1.fr hf (fun hm => (hS _ hm).ne' h1 rfl), h2.fr hf (fun hm => (hS _ hm).ne h2 rfl), h3.fr hf (fun hm => (hS _ hm).ne h3 rfl), h4.fr hf (fun hm => (hS _ hm).ne h4 rfl)⟩

theorem info21 : (Try.prog.info? 21).map (fun i => (i.zero, i.size, i.bytes)) = some (some (.int .i32 0), 1, 4) := by kernel_rfl
theorem made_rowV (n : Nat) : madeCells #[Value.int .i32 0] n = rowV n fun _ => 0 := by
  rw [← Array.toList_inj]
  apply List.ext_getElem
  · simp [madeCells, rowV]
  · intro i h1 h2
    simp [madeCells, rowV, Nat.mod_one]
theorem make32 (n : Nat) (hn : n ≤ 1000000000) (w : World) : (Instr.makeSlice 129 (.int .i64 (n : Int)) (.int .i64 (n : Int))).run Try.prog w = .ok (.slice (some ⟨w.heap.size, 0, none⟩) n n) (w.alloc (.cells (rowV n fun _ => 0) 21)) := by
  obtain ⟨i0, hi, hz0, hz1, hz2⟩ := info_parts info21
  have hrun := run_make (P := Try.prog) w 129 21 i0 (.int .i32 0) Try.underlying129 hi hz0 .i64 .i64 (n : Int) (n : Int) (by omega) (by omega) (by rw [hz2]; omega) (by omega)
  simp only [Int.toNat_natCast] at hrun
  rw [hrun, ← made_rowV, hz1, Nat.mul_one]
  rfl

/-- Three rows of noughts. -/
structure Three (w : World) (la lb g0 g1 g2 : Nat) (W : World) : Prop where
  fr : Fr [] w W
  l0 : w.heap.size ≤ g0
  l1 : w.heap.size ≤ g1
  l2 : w.heap.size ≤ g2
  n01 : g0 ≠ g1
  n02 : g0 ≠ g2
  n12 : g1 ≠ g2
  r0 : IRow W g0 la fun _ => 0
  r1 : IRow W g1 lb fun _ => 0
  r2 : IRow W g2 lb fun _ => 0

theorem triple (w : World) (t : TypeId) (X Y Z : Array Value) : Fr [] w (((w.alloc (.cells X t)).alloc (.cells Y t)).alloc (.cells Z t)).drew ∧ Blk (((w.alloc (.cells X t)).alloc (.cells Y t)).alloc (.cells Z t)).drew w.heap.size t X ∧
    Blk (((w.alloc (.cells X t)).alloc (.cells Y t)).alloc (.cells Z t)).drew (w.heap.size + 1) t Y ∧ Blk (((w.alloc (.cells X t)).alloc (.cells Y t)).alloc (.cells Z t)).drew (w.heap.size + 1 + 1) t Z := by
  have h1 := Blk.fresh w t X
  have h2 := Blk.fresh (w.alloc (.cells X t)) t Y
  have h3 := Blk.fresh ((w.alloc (.cells X t)).alloc (.cells Y t)) t Z
  have f3 : Fr [] ((w.alloc (.cells X t)).alloc (.cells Y t)) (((w.alloc (.cells X t)).alloc (.cells Y t)).alloc (.cells Z t)).drew := ((Fr.refl [] _).alloc _).drew
  have f2 : Fr [] (w.alloc (.cells X t)) (((w.alloc (.cells X t)).alloc (.cells Y t)).alloc (.cells Z t)).drew := ((Fr.refl [] _).alloc _).tr f3
  have e2 : (w.alloc (.cells X t)).heap.size = w.heap.size + 1 := by simp
  have e3 : ((w.alloc (.cells X t)).alloc (.cells Y t)).heap.size = w.heap.size + 1 + 1 := by simp
  rw [e2] at h2
  rw [e3] at h3
  exact ⟨((Fr.refl [] w).alloc _).tr f2, h1.fr f2 (by simp), h2.fr f3 (by simp), h3⟩

set_option maxRecDepth 100000 in
set_option maxHeartbeats 4000000 in
theorem newIndex_any (w : World) (A D : Option Addr) (ca cb la lb : Nat) (a b : List UInt8) (hla : a.length = la) (hlb : b.length = lb) (hca : la ≤ ca) (hcb : lb ≤ cb) (hna : la ≤ 1000000000) (hnb : lb ≤ 1000000000) (hA : Rd w A a) (hD : Rd w D b) :
    Calls Try.prog 53 #[.slice A la ca, .slice D lb cb] w fun e w' => ∃ x, e = .returned (.pointer (some ⟨x, 0, none⟩)) ∧ Idx w' x A D ca cb a b ∧ Fr [] w w' := by
  have HA := Lib.hid hA
  have HD := Lib.hid hD
  have Hla := Lib.hid hla
  have Hlb := Lib.hid hlb
  have m1 := make32 la hna
  have m2 := make32 lb hnb
  clear hA hD hla hlb
  go_enter Try.func53, Try.ntmps53
  go_wp2_with fail
  go_cut [5, 6, 7] (fun s5 s6 s7 wx => ∃ g0 g1 g2, s5 = .slice (some ⟨g0, 0, none⟩) la la ∧ s6 = .slice (some ⟨g2, 0, none⟩) lb lb ∧ s7 = .slice (some ⟨g1, 0, none⟩) lb lb ∧ Three w la lb g0 g1 g2 wx)
  case first =>
    have T0 := Lib.hid (triple w 21 (rowV la fun _ => 0) (rowV lb fun _ => 0) (rowV lb fun _ => 0))
    have T1 := Lib.hid (triple w 21 (rowV lb fun _ => 0) (rowV la fun _ => 0) (rowV lb fun _ => 0))
    have T2 := Lib.hid (triple w 21 (rowV lb fun _ => 0) (rowV lb fun _ => 0) (rowV la fun _ => 0))
    go_region_law (fail)
    all_goals
      go_wp2_with fail
      go_meet
      first
        | (obtain ⟨t0, t1, t2, t3⟩ := T0.out
           refine ⟨_, _, _, rfl, rfl, rfl, ⟨t0, by omega, by omega, by omega, by omega, by omega, by omega, t1, ?_, ?_⟩⟩ <;> (first | exact t2 | exact t3))
        | (obtain ⟨t0, t1, t2, t3⟩ := T1.out
           refine ⟨_, _, _, rfl, rfl, rfl, ⟨t0, by omega, by omega, by omega, by omega, by omega, by omega, t2, ?_, ?_⟩⟩ <;> (first | exact t1 | exact t3))
        | (obtain ⟨t0, t1, t2, t3⟩ := T2.out
           refine ⟨_, _, _, rfl, rfl, rfl, ⟨t0, by omega, by omega, by omega, by omega, by omega, by omega, t3, ?_, ?_⟩⟩ <;> (first | exact t1 | exact t2))
  case rest =>
    obtain ⟨g0, g1, g2, rfl, rfl, rfl, h3⟩ := hcut
    have H3 := Lib.hid h3
    clear h3 m1 m2
    have hmm := @run_makeMap Try.prog
    obtain ⟨x, hx⟩ : ∃ x, wc.heap.size = x := ⟨_, rfl⟩
    go_upto_region 4 with fail
    have H0 : Hid (Lk wc x (x + 1) g0 g1 g2 la lb (idxV A D ca cb la lb g0 g1 g2) (upto a 0 (within a)) (upto b 0 (across a b)) (upto b 0 (within b)) (fun _ => (0, 0)) ((wc.alloc (.cells (idxV A D ca cb la lb g0 g1 g2) 133)).alloc (.map #[] 0))) := Lib.hid (by
      have f2 : Fr [] (wc.alloc (.cells (idxV A D ca cb la lb g0 g1 g2) 133)) ((wc.alloc (.cells (idxV A D ca cb la lb g0 g1 g2) 133)).alloc (.map #[] 0)) := (Fr.refl [] _).alloc _
      have f1 : Fr [] wc ((wc.alloc (.cells (idxV A D ca cb la lb g0 g1 g2) 133)).alloc (.map #[] 0)) := ((Fr.refl [] wc).alloc _).tr f2
      have h1 := Blk.fresh wc 133 (idxV A D ca cb la lb g0 g1 g2)
      have h2 := KMap.made (wc.alloc (.cells (idxV A D ca cb la lb g0 g1 g2) 133))
      rw [hx] at h1
      rw [show (wc.alloc (.cells (idxV A D ca cb la lb g0 g1 g2) 133)).heap.size = x + 1 by simp [hx]] at h2
      rw [upto_zero, upto_zero, upto_zero]
      exact ⟨f1.nil, h1.fr f2 (by simp), H3.out.r0.fr f1 (by simp), H3.out.r1.fr f1 (by simp), H3.out.r2.fr f1 (by simp), h2⟩)
    have HQ : Hid (∀ W, Fr [g0, g1, g2, x + 1] wc W → Fr [] w W) := Lib.hid fun W hW => H3.out.fr.trans hW (by
      have h0 := H3.out.l0
      have h1 := H3.out.l1
      have h2 := H3.out.l2
      have h4 := H3.out.fr.size
      simp
      omega)
    have HA2 : Hid (∀ W, Fr [g0, g1, g2, x + 1] wc W → Rd W A a) := Lib.hid fun W hW => HA.out.later (HQ.out W hW) (by simp)
    have HD2 : Hid (∀ W, Fr [g0, g1, g2, x + 1] wc W → Rd W D b) := Lib.hid fun W hW => HD.out.later (HQ.out W hW) (by simp)
    have H01 := Lib.hid H3.out.n01
    have H02 := Lib.hid H3.out.n02
    have H12 := Lib.hid H3.out.n12
    have HI : Hid (∀ W Mf, Lk wc x (x + 1) g0 g1 g2 la lb (idxV A D ca cb la lb g0 g1 g2) (upto a 16 (within a)) (upto b 16 (across a b)) (upto b 16 (within b)) Mf W → Idx W x A D ca cb a b) := Lib.hid (by
      intro W Mf h
      have q0 := h.r0
      have q1 := h.r1
      have q2 := h.r2
      rw [upto_full] at q0 q1 q2
      unfold Idx
      rw [Hla.out, Hlb.out]
      exact ⟨g0, g1, g2, h.ib, q0, q1, q2⟩)
    change Code.wp _ _ _ _ ((wc.alloc (.cells (idxV A D ca cb la lb g0 g1 g2) 133)).alloc (.map #[] 0))
    clear hmm H3 HA HD hx
    generalize (wc.alloc (.cells (idxV A D ca cb la lb g0 g1 g2) 133)).alloc (.map #[] 0) = W0 at *
    go_wp2_with fail
    go_loopw [32] (fun s wr => ∃ n : Nat, s = .int .i64 (n : Int) ∧ n ≤ 16 ∧ ∃ Mf, Lk wc x (x + 1) g0 g1 g2 la lb (idxV A D ca cb la lb g0 g1 g2) (upto a n (within a)) (upto b n (across a b)) (upto b n (within b)) Mf wr) (fun s _ => 16 - (intOf s).toNat)
    case atStart => exact ⟨0, rfl, by omega, _, H0.out⟩
    case round =>
      obtain ⟨n, rfl, hn, Mf, hL⟩ := hrel
      have HL := Lib.hid hL
      clear hL H0
      by_cases hlt : n < 16
      · have hlt' : (n : Int) < 16 := by omega
        obtain ⟨w1, hrun, hkm, hf1, _⟩ := HL.out.km.clear
        have HL1 := Lib.hid (HL.out.mapped hkm hf1)
        have HC : Hid (Calls Try.prog 73 #[.pointer (some ⟨x, 0, none⟩), .int .i64 (n : Int), .map (some (x + 1))] w1 (Linked w1 x (x + 1) g0 g1 g2 la lb (idxV A D ca cb la lb g0 g1 g2) (upto a (n + 1) (within a)) (upto b (n + 1) (across a b)) (upto b (n + 1) (within b)))) := Lib.hid (by
          rw [← upto_step, ← upto_step, ← upto_step]
          exact link_any w1 x (x + 1) n g0 g1 g2 ca cb la lb A D a b _ _ _ Hla.out Hlb.out hca hcb hna hnb (fun W hW => HA2.out W (HL1.out.fr.tr hW)) (fun W hW => HD2.out W (HL1.out.fr.tr hW)) H01.out H02.out H12.out HL1.out.here)
        clear hkm hf1
        go_wp2_with fail
        refine HC.out.mono ?_
        rintro e w2 ⟨rfl, Mf2, hL2⟩
        have HL2 := Lib.hid (Lk.join HL1.out.fr hL2)
        clear hL2 hrun
        go_wp2
        go_roundw
        case rel => exact ⟨n + 1, by go_num, by omega, Mf2, HL2.out⟩
        case measure => simp [intOf]; omega
      · obtain rfl : n = 16 := by omega
        go_wp2
        go_ret
        exact ⟨x, rfl, HI.out _ _ HL.out, HQ.out _ HL.out.fr⟩

end Bm
end Go.Proofs.Ytokfcknfkhlmfaa
