/-
  Contracts of bpsmake's fromSource, copySource, copyTarget.
-/
import Derived.Test.YtokfcknfkhlmfaaBmGain
import Derived.Test.YtokfcknfkhlmfaaBmLongest
namespace Go.Proofs.Ytokfcknfkhlmfaa
open Go.RowKit
namespace Bm

/-- A maker's cells. -/
def mkV (A D : Option Addr) (ca cb la lb : Nat) (kn : Option Addr) (lk s t told at' q : Nat) : Array Value :=
  #[.slice A la ca, .slice D lb cb, .pointer kn, .int .i64 (lk : Int), .int .i64 (s : Int), .int .i64 (t : Int), .int .i64 (told : Int), .int .i64 (at' : Int), .pointer (some ⟨q, 0, none⟩)]
theorem blk9 {w : World} {b : Nat} {x0 x1 x2 x3 x4 x5 x6 x7 x8 : Value} {t : TypeId} (h : Blk w b t #[x0, x1, x2, x3, x4, x5, x6, x7, x8]) : w.cell? ⟨b, 0, none⟩ = some x0 ∧ w.cell? ⟨b, 1, none⟩ = some x1 ∧ w.cell? ⟨b, 2, none⟩ = some x2 ∧ w.cell? ⟨b, 3, none⟩ = some x3 ∧ w.cell? ⟨b, 4, none⟩ = some x4 ∧ w.cell? ⟨b, 5, none⟩ = some x5 ∧ w.cell? ⟨b, 6, none⟩ = some x6 ∧ w.cell? ⟨b, 7, none⟩ = some x7 ∧ w.cell? ⟨b, 8, none⟩ = some x8 := by
  have c0 := h.cell 0
  have c1 := h.cell 1
  have c2 := h.cell 2
  have c3 := h.cell 3
  have c4 := h.cell 4
  have c5 := h.cell 5
  have c6 := h.cell 6
  have c7 := h.cell 7
  have c8 := h.cell 8
  simp at c0 c1 c2 c3 c4 c5 c6 c7 c8
  exact ⟨c0, c1, c2, c3, c4, c5, c6, c7, c8⟩

/-- An action is laid into its own block. -/
theorem act_put {w W : World} {s : Nat} {t : TypeId} {x0 x1 x2 x3 : Value} (hb : Blk W s t #[x0, x1, x2, x3]) (hf : Fr [] w W) (hs : w.heap.size ≤ s) (y0 y1 y2 y3 : Value) :
    Fr [] w ((((W.setCell ⟨s, 0, none⟩ y0).setCell ⟨s, 1, none⟩ y1).setCell ⟨s, 2, none⟩ y2).setCell ⟨s, 3, none⟩ y3) ∧ Blk ((((W.setCell ⟨s, 0, none⟩ y0).setCell ⟨s, 1, none⟩ y1).setCell ⟨s, 2, none⟩ y2).setCell ⟨s, 3, none⟩ y3) s t #[y0, y1, y2, y3] :=
  ⟨hf.trans (Bps.put4_fr W s y0 y1 y2 y3) (by simp; omega), Bps.put4 hb y0 y1 y2 y3⟩
theorem frz4 {w : World} {b : Nat} {cs : Array Value} {t : TypeId} (h : Blk w b t cs) : w.frozen? ⟨b, 0, none⟩ = false ∧ w.frozen? ⟨b, 1, none⟩ = false ∧ w.frozen? ⟨b, 2, none⟩ = false ∧ w.frozen? ⟨b, 3, none⟩ = false := ⟨h.frozen 0, h.frozen 1, h.frozen 2, h.frozen 3⟩

/-- How many bytes are the same at the same place. -/
def fsN (a b : List UInt8) (u : Nat) : Nat := if u < a.length then alk (a.drop u) (b.drop u) else 0

theorem zeroAct (w : World) : (Instr.build 82 #[]).run Try.prog w = .ok (.agg #[.int .i64 0, .int .i64 0, .int .i64 0, .slice none 0 0]) w := run_build w 82 _ _ (by kernel_rfl)

set_option maxRecDepth 100000 in
set_option maxHeartbeats 2000000 in
theorem fromSource_any (w : World) (m ca cb la lb lk s t told u q : Nat) (A D kn : Option Addr) (a b : List UInt8) (hla : a.length = la) (hlb : b.length = lb) (hca : la ≤ ca) (hcb : lb ≤ cb) (hna : la ≤ 1000000000) (hu : u < lb) (hnb : lb ≤ 1000000000) (hA : Rd w A a) (hD : Rd w D b)
    (h : Blk w m 92 (mkV A D ca cb la lb kn lk s t told u q)) :
    Calls Try.prog 52 #[.pointer (some ⟨m, 0, none⟩)] w (Acted w (0, fsN a b u, 0)) := by
  obtain ⟨n, hn⟩ : ∃ n, fsN a b u = n := ⟨_, rfl⟩
  obtain ⟨s0, hs0⟩ : ∃ s0, w.heap.size = s0 := ⟨_, rfl⟩
  have hb := Blk.fresh w 82 #[.int .i64 0, .int .i64 0, .int .i64 0, .slice none 0 0]
  rw [hs0] at hb
  have hf : Fr [] w (w.alloc (.cells #[.int .i64 0, .int .i64 0, .int .i64 0, .slice none 0 0] 82)) := (Fr.refl [] w).alloc _
  have h1 := h.fr hf (by simp)
  have HA := Lib.hid (hA.later hf (by simp))
  have HD := Lib.hid (hD.later hf (by simp))
  have HF := Lib.hid hf
  have HB := Lib.hid hb
  have HM := Lib.hid h1
  have Hla := Lib.hid hla
  have Hlb := Lib.hid hlb
  have Hn := Lib.hid hn
  rw [hn]
  clear hb hf hA hD h h1 hla hlb hn
  go_enter Try.func52, Try.ntmps52
  go_upto_region 1 with fail
  generalize w.alloc _ = w1 at *
  obtain ⟨c0, c1, -, -, -, -, -, c7, -⟩ := blk9 HM.out
  by_cases hul : u < la
  · have i1 : ¬ (la : Int) ≤ u := by omega
    obtain ⟨y1, o1, rfl, hc1⟩ := HA.out (by rw [Hla.out]; omega)
    obtain ⟨y2, o2, rfl, hc2⟩ := HD.out (by rw [Hlb.out]; omega)
    have i2 : ¬ ca = u := by omega
    have i3 : u ≤ ca := by omega
    have i4 : (u : Int) ≤ ca := by omega
    have i5 : ¬ cb = u := by omega
    have i6 : u ≤ cb := by omega
    have i7 : (u : Int) ≤ cb := by omega
    have i8 : (0 : Int) ≤ u := by omega
    have i9 : u ≤ la := by omega
    have i10 : (u : Int) ≤ la := by omega
    have i11 : u ≤ lb := by omega
    have i12 : (u : Int) ≤ lb := by omega
    have HC : Hid (∀ W, Fr [] w1 W → Calls Try.prog 72 #[.slice (some ⟨y1, o1 + u, none⟩) (la - u) (ca - u), .slice (some ⟨y2, o2 + u, none⟩) (lb - u) (cb - u), .int .i64 0] W fun e w' => e = .returned (.int .i64 (n : Int)) ∧ Fr [] W w') := Lib.hid (by
      intro W hW
      have r1 := Rd.cut hc1 u (la - u)
      rw [List.take_of_length_le (by rw [List.length_drop, Hla.out]; exact Nat.le_refl _)] at r1
      have r2 := Rd.cut hc2 u (lb - u)
      rw [List.take_of_length_le (by rw [List.length_drop, Hlb.out]; exact Nat.le_refl _)] at r2
      have := alike_any W _ _ (la - u) (ca - u) (lb - u) (cb - u) 0 (a.drop u) (b.drop u) (by rw [List.length_drop, Hla.out]) (by rw [List.length_drop, Hlb.out]) (r1.later hW (by simp)) (r2.later hW (by simp)) (by omega) (by omega) (by omega) (by simp)
      rw [show alk (a.drop u) (b.drop u) = n by rw [← Hn.out]; unfold fsN; rw [if_pos (by rw [Hla.out]; exact hul)]] at this
      exact this)
    clear hc1 hc2
    go_wp2_with fail
    go_quiet (fail)
    have hm2 : Blk (w1.drewN nq) m 92 (mkV (some ⟨y1, o1, none⟩) (some ⟨y2, o2, none⟩) ca cb la lb kn lk s t told u q) := HM.out
    have HB2 : Hid (Blk (w1.drewN nq) s0 82 #[.int .i64 0, .int .i64 0, .int .i64 0, .slice none 0 0]) := HB
    have HF2 : Hid (Fr [] w1 (w1.drewN nq)) := Lib.hid ((Fr.refl [] w1).drewN nq)
    obtain ⟨e0, e1, -, -, -, -, -, e7, -⟩ := blk9 hm2
    clear hm2 c0 c1 c7
    generalize w1.drewN nq = w2 at *
    go_wp2_with fail
    go_cut [33] (fun _ wx => Blk wx s0 82 #[.int .i64 0, .int .i64 (n : Int), .int .i64 0, .slice none 0 0] ∧ Fr [] w wx)
    case first =>
      go_region_law (go_simp; go_at_call 72; (with_reducible refine (HC.out w2.drew HF2.out.drew).mono ?_); rintro e w3 ⟨rfl, hf3⟩; have HF3 : Hid (Fr [] w1 w3) := Lib.hid (HF2.out.drew.tr hf3); have HB3 := Lib.hid (HB.out.fr HF3.out (by simp)); obtain ⟨z0, z1, z2, z3⟩ := Bps.blk4 HB3.out; obtain ⟨f0, f1, f2, f3⟩ := frz4 HB3.out; clear hf3)
      all_goals
        go_wp2_with fail
        go_meet
        obtain ⟨hfin, hbl⟩ := act_put HB3.out (HF.out.tr HF3.out) (by omega) (.int .i64 0) (.int .i64 (n : Int)) (.int .i64 0) (.slice none 0 0)
        exact ⟨hbl, hfin⟩
    case rest =>
      obtain ⟨hbl, hfin⟩ := hcut
      obtain ⟨y0, y1, y2, y3⟩ := Bps.blk4 hbl
      have HFin := Lib.hid hfin
      clear hbl hfin e0 e1 e7
      go_wp2_with fail
      exact bodyPost_ret (v := aV 0 n 0 none 0 0) (by simp [results, Try.results52, go_sem, y0, y1, y2, y3, aV]) rfl ⟨rfl, HFin.out⟩
  · have i1 : (la : Int) ≤ u := by omega
    have hz : n = 0 := by rw [← Hn.out]; unfold fsN; rw [if_neg (by rw [Hla.out]; exact hul)]
    subst hz
    have hbz := zeroAct
    go_wp2_with fail
    go_quiet (fail)
    have hb2 : Blk (w1.drewN nq) s0 82 #[.int .i64 0, .int .i64 0, .int .i64 0, .slice none 0 0] := HB.out
    have HB2 := Lib.hid hb2
    have HF2 : Hid (Fr [] w (w1.drewN nq)) := Lib.hid (HF.out.drewN nq)
    obtain ⟨z0, z1, z2, z3⟩ := Bps.blk4 hb2
    obtain ⟨f0, f1, f2, f3⟩ := frz4 hb2
    clear hb2 c0 c1 c7
    generalize w1.drewN nq = w2 at *
    go_wp2
    obtain ⟨hfin, hbl⟩ := act_put HB2.out HF2.out (by omega) (.int .i64 0) (.int .i64 0) (.int .i64 0) (.slice none 0 0)
    obtain ⟨y0, y1, y2, y3⟩ := Bps.blk4 hbl
    generalize (((w2.setCell ⟨s0, 0, none⟩ (.int .i64 0)).setCell ⟨s0, 1, none⟩ (.int .i64 0)).setCell ⟨s0, 2, none⟩ (.int .i64 0)).setCell ⟨s0, 3, none⟩ (.slice none 0 0) = w3 at *
    exact bodyPost_ret (v := aV 0 0 0 none 0 0) (by simp [results, Try.results52, go_sem, y0, y1, y2, y3, aV]) rfl ⟨rfl, hfin⟩

end Bm
end Go.Proofs.Ytokfcknfkhlmfaa
