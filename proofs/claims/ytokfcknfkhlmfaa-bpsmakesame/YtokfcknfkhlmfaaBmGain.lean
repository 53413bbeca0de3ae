/-
  Contracts of bpsmake's gain and better.
-/
import Derived.Test.YtokfcknfkhlmfaaBmSize
namespace Go.Proofs.Ytokfcknfkhlmfaa
open Go.RowKit
namespace Bm

set_option maxRecDepth 100000 in
set_option maxHeartbeats 1000000 in
theorem gain_any (w : World) (k n dn dc : Nat) (mv : Int) (D : Option Addr) (hk : k < 4) (hn2 : n ≤ 16777216) (h0 : -1073741824 ≤ mv) (h1 : mv ≤ 1073741824) :
    Calls Try.prog 57 #[aV k n mv D dn dc] w fun e w' => e = .returned (.int .i64 (gn k n mv)) ∧ Fr [] w w' := by
  by_cases hn : n = 0
  · subst hn
    unfold aV
    go_enter Try.func57, Try.ntmps57
    go_wp2
    go_ret
    exact ⟨rfl, (Fr.refl [] w).alloc _⟩
  · have hn1 : 1 ≤ n := by omega
    have hne : ((n : Int) == 0) = false := by simp; omega
    have hz := sz_le k n mv hk hn2 h0 h1
    obtain ⟨Z, hZ⟩ : ∃ Z, sz k n mv = Z := ⟨_, rfl⟩
    rw [hZ] at hz
    have HG : Hid (gn k n mv = (n : Int) - (Z : Int)) := Lib.hid (by unfold gn; rw [if_neg hn, hZ])
    have HC : Hid (∀ W, Calls Try.prog 58 #[.agg #[.int .i64 (k : Int), .int .i64 (n : Int), .int .i64 mv, .slice D dn dc]] W fun e w' => e = .returned (.int .i64 (Z : Int)) ∧ Fr [] W w') := Lib.hid fun W => by
      rw [← hZ]
      exact size_any W k n dn dc mv D hk hn1 hn2 h0 h1
    obtain ⟨s, hs⟩ : ∃ s, w.heap.size = s := ⟨_, rfl⟩
    have hb := Blk.fresh w 82 #[.int .i64 (k : Int), .int .i64 (n : Int), .int .i64 mv, .slice D dn dc]
    rw [hs] at hb
    have HB := Lib.hid hb
    have HF : Hid (Fr [] w (w.alloc (.cells #[.int .i64 (k : Int), .int .i64 (n : Int), .int .i64 mv, .slice D dn dc] 82))) := Lib.hid ((Fr.refl [] w).alloc _)
    clear hZ hb h0 h1 hn1
    unfold aV
    go_enter Try.func57, Try.ntmps57
    go_upto_region 1 with fail
    generalize w.alloc _ = w1 at *
    obtain ⟨c0, c1, c2, c3⟩ := Bps.blk4 HB.out
    have hZ1 : IntKind.i64.wrap ((n : Int) - (Z : Int)) = (n : Int) - (Z : Int) := by rw [IntKind.wrap_i64]; omega
    have HB2 : Hid (∀ W, Fr [] w1.drew W → W.cell? ⟨s, 1, none⟩ = some (.int .i64 (n : Int)) ∧ W.cell? ⟨s, 0, none⟩ = some (.int .i64 (k : Int)) ∧ W.cell? ⟨s, 2, none⟩ = some (.int .i64 mv) ∧ W.cell? ⟨s, 3, none⟩ = some (.slice D dn dc)) := Lib.hid fun W hW => by
      obtain ⟨d0, d1, d2, d3⟩ := Bps.blk4 (HB.out.fr ((Fr.refl [] w1).drew.tr hW) (by simp))
      exact ⟨d1, d0, d2, d3⟩
    go_wp2_with fail
    go_region_law (go_simp; go_at_call 58; (with_reducible refine (HC.out w1.drew).mono ?_); rintro e w2 ⟨rfl, hf2⟩; have HF2 : Hid (Fr [] w w2) := Lib.hid ((HF.out.drew).tr hf2); obtain ⟨d1, d0, d2, d3⟩ := HB2.out _ hf2; clear hf2)
    all_goals
      go_wp2
      go_ret
      exact ⟨by rw [HG.out]; rfl, HF2.out⟩

theorem triple3 (w : World) (t : TypeId) (X Y Z : Array Value) : Fr [] w (((w.alloc (.cells X t)).alloc (.cells Y t)).alloc (.cells Z t)) ∧ Blk (((w.alloc (.cells X t)).alloc (.cells Y t)).alloc (.cells Z t)) w.heap.size t X ∧
    Blk (((w.alloc (.cells X t)).alloc (.cells Y t)).alloc (.cells Z t)) (w.heap.size + 1) t Y ∧ Blk (((w.alloc (.cells X t)).alloc (.cells Y t)).alloc (.cells Z t)) (w.heap.size + 1 + 1) t Z := by
  have h1 := Blk.fresh w t X
  have h2 := Blk.fresh (w.alloc (.cells X t)) t Y
  have h3 := Blk.fresh ((w.alloc (.cells X t)).alloc (.cells Y t)) t Z
  have f3 : Fr [] ((w.alloc (.cells X t)).alloc (.cells Y t)) (((w.alloc (.cells X t)).alloc (.cells Y t)).alloc (.cells Z t)) := (Fr.refl [] _).alloc _
  have f2 : Fr [] (w.alloc (.cells X t)) (((w.alloc (.cells X t)).alloc (.cells Y t)).alloc (.cells Z t)) := ((Fr.refl [] _).alloc _).tr f3
  have e2 : (w.alloc (.cells X t)).heap.size = w.heap.size + 1 := by simp
  have e3 : ((w.alloc (.cells X t)).alloc (.cells Y t)).heap.size = w.heap.size + 1 + 1 := by simp
  rw [e2] at h2
  rw [e3] at h3
  exact ⟨((Fr.refl [] w).alloc _).tr f2, h1.fr f2 (by simp), h2.fr f3 (by simp), h3⟩

/-- The one that gains more. -/
def bet (x y : Nat × Nat × Int) : Nat × Nat × Int := if gn x.1 x.2.1 x.2.2 < gn y.1 y.2.1 y.2.2 then y else x

/-- An action is told, and nothing that was there is turned. -/
def Acted (w : World) (z : Nat × Nat × Int) (e : Ending) (w' : World) : Prop := e = .returned (aV z.1 z.2.1 z.2.2 none 0 0) ∧ Fr [] w w'

set_option maxRecDepth 100000 in
set_option maxHeartbeats 1000000 in
theorem better_any (w : World) (k n k' n' : Nat) (mv mv' : Int) (hk : k < 4) (hn : n ≤ 16777216) (h0 : -1073741824 ≤ mv) (h1 : mv ≤ 1073741824) (hk' : k' < 4) (hn' : n' ≤ 16777216) (h0' : -1073741824 ≤ mv') (h1' : mv' ≤ 1073741824) :
    Calls Try.prog 54 #[aV k n mv none 0 0, aV k' n' mv' none 0 0] w (Acted w (bet (k, n, mv) (k', n', mv'))) := by
  obtain ⟨z, hz⟩ : ∃ z, bet (k, n, mv) (k', n', mv') = z := ⟨_, rfl⟩
  obtain ⟨G, hG⟩ : ∃ G, gn k n mv = G := ⟨_, rfl⟩
  obtain ⟨G', hG'⟩ : ∃ G', gn k' n' mv' = G' := ⟨_, rfl⟩
  have HC : Hid (∀ W, Calls Try.prog 57 #[.agg #[.int .i64 (k : Int), .int .i64 (n : Int), .int .i64 mv, .slice none 0 0]] W fun e w' => e = .returned (.int .i64 G) ∧ Fr [] W w') := Lib.hid fun W => by
    rw [← hG]
    exact gain_any W k n 0 0 mv none hk hn h0 h1
  have HC' : Hid (∀ W, Calls Try.prog 57 #[.agg #[.int .i64 (k' : Int), .int .i64 (n' : Int), .int .i64 mv', .slice none 0 0]] W fun e w' => e = .returned (.int .i64 G') ∧ Fr [] W w') := Lib.hid fun W => by
    rw [← hG']
    exact gain_any W k' n' 0 0 mv' none hk' hn' h0' h1'
  have HZ : Hid (z = if G < G' then (k', n', mv') else (k, n, mv)) := Lib.hid (by rw [← hz]; unfold bet; simp only [hG, hG'])
  rw [hz]
  clear hz hG hG' h0 h1 h0' h1' hk hk' hn hn'
  obtain ⟨s, hs⟩ : ∃ s, w.heap.size = s := ⟨_, rfl⟩
  have ht := triple3 w 82 #[.int .i64 (k : Int), .int .i64 (n : Int), .int .i64 mv, .slice none 0 0] #[.int .i64 (k' : Int), .int .i64 (n' : Int), .int .i64 mv', .slice none 0 0] #[.int .i64 0, .int .i64 0, .int .i64 0, .slice none 0 0]
  rw [hs] at ht
  have HT := Lib.hid ht
  clear ht
  unfold aV
  go_enter Try.func54, Try.ntmps54
  go_upto_region 1 with fail
  generalize ((w.alloc _).alloc _).alloc _ = w1 at *
  have HX : Hid (∀ W, Fr [] w1 W → W.cell? ⟨s, 0, none⟩ = some (.int .i64 (k : Int)) ∧ W.cell? ⟨s, 1, none⟩ = some (.int .i64 (n : Int)) ∧ W.cell? ⟨s, 2, none⟩ = some (.int .i64 mv) ∧ W.cell? ⟨s, 3, none⟩ = some (.slice none 0 0)) := Lib.hid fun W hW => Bps.blk4 (HT.out.2.1.fr hW (by simp))
  have HY : Hid (∀ W, Fr [] w1 W → W.cell? ⟨s + 1, 0, none⟩ = some (.int .i64 (k' : Int)) ∧ W.cell? ⟨s + 1, 1, none⟩ = some (.int .i64 (n' : Int)) ∧ W.cell? ⟨s + 1, 2, none⟩ = some (.int .i64 mv') ∧ W.cell? ⟨s + 1, 3, none⟩ = some (.slice none 0 0)) := Lib.hid fun W hW => Bps.blk4 (HT.out.2.2.1.fr hW (by simp))
  obtain ⟨a0, a1, a2, a3⟩ := HX.out w1 (Fr.refl _ _)
  obtain ⟨b0, b1, b2, b3⟩ := HY.out w1 (Fr.refl _ _)
  obtain ⟨t, ht⟩ : ∃ t, decide (G < G') = t := ⟨_, rfl⟩
  go_wp2_with fail
  go_cut [9] (fun s9 wx => s9 = .bool t ∧ Fr [] w1 wx)
  case first =>
    go_region_law (go_simp; first
      | (go_at_call 57; (with_reducible refine (HC.out wY).mono ?_); rintro e wz ⟨rfl, hf⟩; have HFz : Hid (Fr [] w1 wz) := Lib.hid (HFY.out.tr hf); obtain ⟨a0', a1', a2', a3'⟩ := HX.out _ HFz.out; obtain ⟨b0', b1', b2', b3'⟩ := HY.out _ HFz.out; clear hf)
      | (go_at_call 57; (with_reducible refine (HC'.out wX).mono ?_); rintro e wz ⟨rfl, hf⟩; have HFz : Hid (Fr [] w1 wz) := Lib.hid (HFX.out.tr hf); obtain ⟨a0', a1', a2', a3'⟩ := HX.out _ HFz.out; obtain ⟨b0', b1', b2', b3'⟩ := HY.out _ HFz.out; clear hf)
      | (go_at_call 57; (with_reducible refine (HC'.out w1.drew).mono ?_); rintro e wY ⟨rfl, hf⟩; have HFY : Hid (Fr [] w1 wY) := Lib.hid ((Fr.refl [] w1).drew.tr hf); obtain ⟨a0', a1', a2', a3'⟩ := HX.out _ HFY.out; obtain ⟨b0', b1', b2', b3'⟩ := HY.out _ HFY.out; clear hf)
      | (go_at_call 57; (with_reducible refine (HC.out w1.drew).mono ?_); rintro e wX ⟨rfl, hf⟩; have HFX : Hid (Fr [] w1 wX) := Lib.hid ((Fr.refl [] w1).drew.tr hf); obtain ⟨a0', a1', a2', a3'⟩ := HX.out _ HFX.out; obtain ⟨b0', b1', b2', b3'⟩ := HY.out _ HFX.out; clear hf))
    all_goals
      go_wp2_with fail
      go_meet
      exact ⟨by rw [← ht], HFz.out⟩
  case rest =>
    obtain ⟨rfl, hfc⟩ := hcut
    have HFc := Lib.hid hfc
    clear hfc a0 a1 a2 a3 b0 b1 b2 b3
    obtain ⟨a0, a1, a2, a3⟩ := HX.out wc HFc.out
    obtain ⟨b0, b1, b2, b3⟩ := HY.out wc HFc.out
    have hb2 := HT.out.2.2.2.fr HFc.out (by simp)
    obtain ⟨z0, z1, z2, z3⟩ := Bps.blk4 hb2
    have f0 := hb2.frozen 0
    have f1 := hb2.frozen 1
    have f2 := hb2.frozen 2
    have f3 := hb2.frozen 3
    have HB2 := Lib.hid hb2
    clear hb2
    by_cases hgg : G < G'
    · have htt : t = true := by rw [← ht]; simp [hgg]
      subst htt
      go_wp2
      have hb := Bps.put4 HB2.out (.int .i64 (k' : Int)) (.int .i64 (n' : Int)) (.int .i64 mv') (.slice none 0 0)
      have hst := Bps.put4_fr wc (s + 1 + 1) (.int .i64 (k' : Int)) (.int .i64 (n' : Int)) (.int .i64 mv') (.slice none 0 0)
      have hfin : Fr [] w _ := (HT.out.1.tr HFc.out).trans hst (by simp; omega)
      obtain ⟨y0, y1, y2, y3⟩ := Bps.blk4 hb
      generalize (((wc.setCell ⟨s + 1 + 1, 0, none⟩ (.int .i64 (k' : Int))).setCell ⟨s + 1 + 1, 1, none⟩ (.int .i64 (n' : Int))).setCell ⟨s + 1 + 1, 2, none⟩ (.int .i64 mv')).setCell ⟨s + 1 + 1, 3, none⟩ (.slice none 0 0) = w3 at *
      exact bodyPost_ret (v := aV k' n' mv' none 0 0) (by simp [results, Try.results54, go_sem, y0, y1, y2, y3, aV]) rfl ⟨by rw [HZ.out, if_pos hgg], hfin⟩
    · have htt : t = false := by rw [← ht]; simp [hgg]
      subst htt
      go_wp2
      have hb := Bps.put4 HB2.out (.int .i64 (k : Int)) (.int .i64 (n : Int)) (.int .i64 mv) (.slice none 0 0)
      have hst := Bps.put4_fr wc (s + 1 + 1) (.int .i64 (k : Int)) (.int .i64 (n : Int)) (.int .i64 mv) (.slice none 0 0)
      have hfin : Fr [] w _ := (HT.out.1.tr HFc.out).trans hst (by simp; omega)
      obtain ⟨y0, y1, y2, y3⟩ := Bps.blk4 hb
      generalize (((wc.setCell ⟨s + 1 + 1, 0, none⟩ (.int .i64 (k : Int))).setCell ⟨s + 1 + 1, 1, none⟩ (.int .i64 (n : Int))).setCell ⟨s + 1 + 1, 2, none⟩ (.int .i64 mv)).setCell ⟨s + 1 + 1, 3, none⟩ (.slice none 0 0) = w3 at *
      exact bodyPost_ret (v := aV k n mv none 0 0) (by simp [results, Try.results54, go_sem, y0, y1, y2, y3, aV]) rfl ⟨by rw [HZ.out, if_neg (Int.not_lt.2 hgg)], hfin⟩

end Bm
end Go.Proofs.Ytokfcknfkhlmfaa
