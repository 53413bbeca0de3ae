/-
  Contracts of bpsmake's gain and better.
  The map from four bytes to two numbers that the index is made by: looked up, written, cleared. No condition.
-/
import Derived.Test.YtokfcknfkhlmfaaJ12
import Derived.Test.YtokfcknfkhlmfaaJ03
import Derived.Maps.OwnOps
import Derived.DeepKeys4
namespace Go.Proofs.Ytokfcknfkhlmfaa
open Go.RowKit
namespace Bm

set_option maxRecDepth 100000 in
set_option maxHeartbeats 1000000 in
theorem gain_any (w : World) (k n dn dc : Nat) (mv : Int) (D : Option Addr) (hk : k < 4) (hn2 : n ≤ 16777216) (h0 : -1073741824 ≤ mv) (h1 : mv ≤ 1073741824) :
    Calls Try.prog 57 #[aV k n mv D dn dc] w fun e w' => e = .returned (.int .i64 (gn k n mv)) ∧ Fr [] w w' := by
  by_cases hn : n = 0
  · subst hn
    unfold aV
    go_enter Try.func57, Try.ntmps57
    go_wp2
    go_ret
    exact ⟨rfl, (Fr.refl [] w).alloc _⟩
  · have hn1 : 1 ≤ n := by omega
    have hne : ((n : Int) == 0) = false := by simp; omega
    have hz := sz_le k n mv hk hn2 h0 h1
    obtain ⟨Z, hZ⟩ : ∃ Z, sz k n mv = Z := ⟨_, rfl⟩
    rw [hZ] at hz
    have HG : Hid (gn k n mv = (n : Int) - (Z : Int)) := Lib.hid (by unfold gn; rw [if_neg hn, hZ])
    have HC : Hid (∀ W, Calls Try.prog 58 #[.agg #[.int .i64 (k : Int), .int .i64 (n : Int), .int .i64 mv, .slice D dn dc]] W fun e w' => e = .returned (.int .i64 (Z : Int)) ∧ Fr [] W w') := Lib.hid fun W => by
      rw [← hZ]
      exact size_any W k n dn dc mv D hk hn1 hn2 h0 h1
    obtain ⟨s, hs⟩ : ∃ s, w.heap.size = s := ⟨_, rfl⟩
    have hb := Blk.fresh w 82 #[.int .i64 (k : Int), .int .i64 (n : Int), .int .i64 mv, .slice D dn dc]
    rw [hs] at hb
    have HB := Lib.hid hb
    have HF : Hid (Fr [] w (w.alloc (.cells #[.int .i64 (k : Int), .int .i64 (n : Int), .int .i64 mv, .slice D dn dc] 82))) := Lib.hid ((Fr.refl [] w).alloc _)
    clear hZ hb h0 h1 hn1
    unfold aV
    go_enter Try.func57, Try.ntmps57
    go_upto_region 1 with fail
    generalize w.alloc _ = w1 at *
    obtain ⟨c0, c1, c2, c3⟩ := Bps.blk4 HB.out
    have hZ1 : IntKind.i64.wrap ((n : Int) - (Z : Int)) = (n : Int) - (Z : Int) := by rw [IntKind.wrap_i64]; omega
    have HB2 : Hid (∀ W, Fr [] w1.drew W → W.cell? ⟨s, 1, none⟩ = some (.int .i64 (n : Int)) ∧ W.cell? ⟨s, 0, none⟩ = some (.int .i64 (k : Int)) ∧ W.cell? ⟨s, 2, none⟩ = some (.int .i64 mv) ∧ W.cell? ⟨s, 3, none⟩ = some (.slice D dn dc)) := Lib.hid fun W hW => by
      obtain ⟨d0, d1, d2, d3⟩ := Bps.blk4 (HB.out.fr ((Fr.refl [] w1).drew.tr hW) (by simp))
      exact ⟨d1, d0, d2, d3⟩
    go_wp2_with fail
    go_region_law (go_simp; go_at_call 58; (with_reducible refine (HC.out w1.drew).mono ?_); rintro e w2 ⟨rfl, hf2⟩; have HF2 : Hid (Fr [] w w2) := Lib.hid ((HF.out.drew).tr hf2); obtain ⟨d1, d0, d2, d3⟩ := HB2.out _ hf2; clear hf2)
    all_goals
      go_wp2
      go_ret
      exact ⟨by rw [HG.out]; rfl, HF2.out⟩

theorem triple3 (w : World) (t : TypeId) (X Y Z : Array Value) : Fr [] w (((w.alloc (.cells X t)).alloc (.cells Y t)).alloc (.cells Z t)) ∧ Blk (((w.alloc (.cells X t)).alloc (.cells Y t)).alloc (.cells Z t)) w.heap.size t X ∧
    Blk (((w.alloc (.cells X t)).alloc (.cells Y t)).alloc (.cells Z t)) (w.heap.size + 1) t Y ∧ Blk (((w.alloc (.cells X t)).alloc (.cells Y t)).alloc (.cells Z t)) (w.heap.size + 1 + 1) t Z := by
  have h1 := Blk.fresh w t X
  have h2 := Blk.fresh (w.alloc (.cells X t)) t Y
  have h3 := Blk.fresh ((w.alloc (.cells X t)).alloc (.cells Y t)) t Z
  have f3 : Fr [] ((w.alloc (.cells X t)).alloc (.cells Y t)) (((w.alloc (.cells X t)).alloc (.cells Y t)).alloc (.cells Z t)) := (Fr.refl [] _).alloc _
  have f2 : Fr [] (w.alloc (.cells X t)) (((w.alloc (.cells X t)).alloc (.cells Y t)).alloc (.cells Z t)) := ((Fr.refl [] _).alloc _).tr f3
  have e2 : (w.alloc (.cells X t)).heap.size = w.heap.size + 1 := by simp
  have e3 : ((w.alloc (.cells X t)).alloc (.cells Y t)).heap.size = w.heap.size + 1 + 1 := by simp
  rw [e2] at h2
  rw [e3] at h3
  exact ⟨((Fr.refl [] w).alloc _).tr f2, h1.fr f2 (by simp), h2.fr f3 (by simp), h3⟩

/-- The one that gains more. -/
def bet (x y : Nat × Nat × Int) : Nat × Nat × Int := if gn x.1 x.2.1 x.2.2 < gn y.1 y.2.1 y.2.2 then y else x

/-- An action is told, and nothing that was there is turned. -/
def Acted (w : World) (z : Nat × Nat × Int) (e : Ending) (w' : World) : Prop := e = .returned (aV z.1 z.2.1 z.2.2 none 0 0) ∧ Fr [] w w'

set_option maxRecDepth 100000 in
set_option maxHeartbeats 1000000 in
theorem better_any (w : World) (k n k' n' : Nat) (mv mv' : Int) (hk : k < 4) (hn : n ≤ 16777216) (h0 : -1073741824 ≤ mv) (h1 : mv ≤ 1073741824) (hk' : k' < 4) (hn' : n' ≤ 16777216) (h0' : -1073741824 ≤ mv') (h1' : mv' ≤ 1073741824) :
    Calls Try.prog 54 #[aV k n mv none 0 0, aV k' n' mv' none 0 0] w (Acted w (bet (k, n, mv) (k', n', mv'))) := by
  obtain ⟨z, hz⟩ : ∃ z, bet (k, n, mv) (k', n', mv') = z := ⟨_, rfl⟩
  obtain ⟨G, hG⟩ : ∃ G, gn k n mv = G := ⟨_, rfl⟩
  obtain ⟨G', hG'⟩ : ∃ G', gn k' n' mv' = G' := ⟨_, rfl⟩
  have HC : Hid (∀ W, Calls Try.prog 57 #[.agg #[.int .i64 (k : Int), .int .i64 (n : Int), .int .i64 mv, .slice none 0 0]] W fun e w' => e = .returned (.int .i64 G) ∧ Fr [] W w') := Lib.hid fun W => by
    rw [← hG]
    exact gain_any W k n 0 0 mv none hk hn h0 h1
  have HC' : Hid (∀ W, Calls Try.prog 57 #[.agg #[.int .i64 (k' : Int), .int .i64 (n' : Int), .int .i64 mv', .slice none 0 0]] W fun e w' => e = .returned (.int .i64 G') ∧ Fr [] W w') := Lib.hid fun W => by
    rw [← hG']
    exact gain_any W k' n' 0 0 mv' none hk' hn' h0' h1'
  have HZ : Hid (z = if G < G' then (k', n', mv') else (k, n, mv)) := Lib.hid (by rw [← hz]; unfold bet; simp only [hG, hG'])
  rw [hz]
  clear hz hG hG' h0 h1 h0' h1' hk hk' hn hn'
  obtain ⟨s, hs⟩ : ∃ s, w.heap.size = s := ⟨_, rfl⟩
  have ht := triple3 w 82 #[.int .i64 (k : Int), .int .i64 (n : Int), .int .i64 mv, .slice none 0 0] #[.int .i64 (k' : Int), .int .i64 (n' : Int), .int .i64 mv', .slice none 0 0] #[.int .i64 0, .int .i64 0, .int .i64 0, .slice none 0 0]
  rw [hs] at ht
  have HT := Lib.hid ht
  clear ht
  unfold aV
  go_enter Try.func54, Try.ntmps54
  go_upto_region 1 with fail
  generalize ((w.alloc _).alloc _).alloc _ = w1 at *
  have HX : Hid (∀ W, Fr [] w1 W → W.cell? ⟨s, 0, none⟩ = some (.int .i64 (k : Int)) ∧ W.cell? ⟨s, 1, none⟩ = some (.int .i64 (n : Int)) ∧ W.cell? ⟨s, 2, none⟩ = some (.int .i64 mv) ∧ W.cell? ⟨s, 3, none⟩ = some (.slice none 0 0)) := Lib.hid fun W hW => Bps.blk4 (HT.out.2.1.fr hW (by simp))
  have HY : Hid (∀ W, Fr [] w1 W → W.cell? ⟨s + 1, 0, none⟩ = some (.int .i64 (k' : Int)) ∧ W.cell? ⟨s + 1, 1, none⟩ = some (.int .i64 (n' : Int)) ∧ W.cell? ⟨s + 1, 2, none⟩ = some (.int .i64 mv') ∧ W.cell? ⟨s + 1, 3, none⟩ = some (.slice none 0 0)) := Lib.hid fun W hW => Bps.blk4 (HT.out.2.2.1.fr hW (by simp))
  obtain ⟨a0, a1, a2, a3⟩ := HX.out w1 (Fr.refl _ _)
  obtain ⟨b0, b1, b2, b3⟩ := HY.out w1 (Fr.refl _ _)
  obtain ⟨t, ht⟩ : ∃ t, decide (G < G') = t := ⟨_, rfl⟩
  go_wp2_with fail
  go_cut [9] (fun s9 wx => s9 = .bool t ∧ Fr [] w1 wx)
  case first =>
    go_region_law (go_simp; first
      | (go_at_call 57; (with_reducible refine (HC.out wY).mono ?_); rintro e wz ⟨rfl, hf⟩; have HFz : Hid (Fr [] w1 wz) := Lib.hid (HFY.out.tr hf); obtain ⟨a0', a1', a2', a3'⟩ := HX.out _ HFz.out; obtain ⟨b0', b1', b2', b3'⟩ := HY.out _ HFz.out; clear hf)
      | (go_at_call 57; (with_reducible refine (HC'.out wX).mono ?_); rintro e wz ⟨rfl, hf⟩; have HFz : Hid (Fr [] w1 wz) := Lib.hid (HFX.out.tr hf); obtain ⟨a0', a1', a2', a3'⟩ := HX.out _ HFz.out; obtain ⟨b0', b1', b2', b3'⟩ := HY.out _ HFz.out; clear hf)
      | (go_at_call 57; (with_reducible refine (HC'.out w1.drew).mono ?_); rintro e wY ⟨rfl, hf⟩; have HFY : Hid (Fr [] w1 wY) := Lib.hid ((Fr.refl [] w1).drew.tr hf); obtain ⟨a0', a1', a2', a3'⟩ := HX.out _ HFY.out; obtain ⟨b0', b1', b2', b3'⟩ := HY.out _ HFY.out; clear hf)
      | (go_at_call 57; (with_reducible refine (HC.out w1.drew).mono ?_); rintro e wX ⟨rfl, hf⟩; have HFX : Hid (Fr [] w1 wX) := Lib.hid ((Fr.refl [] w1).drew.tr hf); obtain ⟨a0', a1', a2', a3'⟩ := HX.out _ HFX.out; obtain ⟨b0', b1', b2', b3'⟩ := HY.out _ HFX.out; clear hf))
    all_goals
      go_wp2_with fail
      go_meet
      exact ⟨by rw [← ht], HFz.out⟩
  case rest =>
    obtain ⟨rfl, hfc⟩ := hcut
    have HFc := Lib.hid hfc
    clear hfc a0 a1 a2 a3 b0 b1 b2 b3
    obtain ⟨a0, a1, a2, a3⟩ := HX.out wc HFc.out
    obtain ⟨b0, b1, b2, b3⟩ := HY.out wc HFc.out
    have hb2 := HT.out.2.2.2.fr HFc.out (by simp)
    obtain ⟨z0, z1, z2, z3⟩ := Bps.blk4 hb2
    have f0 := hb2.frozen 0
    have f1 := hb2.frozen 1
    have f2 := hb2.frozen 2
    have f3 := hb2.frozen 3
    have HB2 := Lib.hid hb2
    clear hb2
    by_cases hgg : G < G'
    · have htt : t = true := by rw [← ht]; simp [hgg]
      subst htt
      go_wp2
      have hb := Bps.put4 HB2.out (.int .i64 (k' : Int)) (.int .i64 (n' : Int)) (.int .i64 mv') (.slice none 0 0)
      have hst := Bps.put4_fr wc (s + 1 + 1) (.int .i64 (k' : Int)) (.int .i64 (n' : Int)) (.int .i64 mv') (.slice none 0 0)
      have hfin : Fr [] w _ := (HT.out.1.tr HFc.out).trans hst (by simp; omega)
      obtain ⟨y0, y1, y2, y3⟩ := Bps.blk4 hb
      generalize (((wc.setCell ⟨s + 1 + 1, 0, none⟩ (.int .i64 (k' : Int))).setCell ⟨s + 1 + 1, 1, none⟩ (.int .i64 (n' : Int))).setCell ⟨s + 1 + 1, 2, none⟩ (.int .i64 mv')).setCell ⟨s + 1 + 1, 3, none⟩ (.slice none 0 0) = w3 at *
      exact bodyPost_ret (v := aV k' n' mv' none 0 0) (by simp [results, Try.results54, go_sem, y0, y1, y2, y3, aV]) rfl ⟨by rw [HZ.out, if_pos hgg], hfin⟩
    · have htt : t = false := by rw [← ht]; simp [hgg]
      subst htt
      go_wp2
      have hb := Bps.put4 HB2.out (.int .i64 (k : Int)) (.int .i64 (n : Int)) (.int .i64 mv) (.slice none 0 0)
      have hst := Bps.put4_fr wc (s + 1 + 1) (.int .i64 (k : Int)) (.int .i64 (n : Int)) (.int .i64 mv) (.slice none 0 0)
      have hfin : Fr [] w _ := (HT.out.1.tr HFc.out).trans hst (by simp; omega)
      obtain ⟨y0, y1, y2, y3⟩ := Bps.blk4 hb
      generalize (((wc.setCell ⟨s + 1 + 1, 0, none⟩ (.int .i64 (k : Int))).setCell ⟨s + 1 + 1, 1, none⟩ (.int .i64 (n : Int))).setCell ⟨s + 1 + 1, 2, none⟩ (.int .i64 mv)).setCell ⟨s + 1 + 1, 3, none⟩ (.slice none 0 0) = w3 at *
      exact bodyPost_ret (v := aV k n mv none 0 0) (by simp [results, Try.results54, go_sem, y0, y1, y2, y3, aV]) rfl ⟨by rw [HZ.out, if_neg (Int.not_lt.2 hgg)], hfin⟩

end Bm
end Go.Proofs.Ytokfcknfkhlmfaa

namespace Go.Proofs.Ytokfcknfkhlmfaa
open Go.RowKit
namespace Bm
open Go.ChangeMaps (setBlock)

/-- Four bytes as a value. -/
def keyA (k : List UInt8) : Value := .agg (bv k).toArray
/-- Two numbers as a value. -/
def pairA (p : Nat × Nat) : Value := .agg #[.int .i32 (p.1 : Int), .int .i32 (p.2 : Int)]

theorem keyA_inj {k k' : List UInt8} (h : keyA k = keyA k') : k = k' := by
  unfold keyA at h
  injection h with h
  have h1 := List.toArray_inj h
  unfold bv at h1
  refine List.map_inj_right (f := fun x : UInt8 => Value.int .u8 (x.toNat : Int)) (fun a b hab => ?_) |>.1 h1
  simp only [Value.int.injEq, true_and] at hab
  exact UInt8.toNat_inj.1 (by omega)

theorem keyLaw : Maps.Keyed Try.prog 144 := Maps.Keyed.of_law (deep_law_laid (by kernel_rfl) (m := 2) (by decide) (by decide +kernel) (by kernel_rfl) (by kernel_rfl))

theorem underlyingKey : Try.prog.underlying 144 = some (.array 4 5) := by kernel_rfl
theorem underlyingMap : Try.prog.underlying 134 = some (.map 144 146) := by kernel_rfl
theorem keyType : Try.prog.keyType 144 = true := by kernel_rfl
theorem zeroPair (w : World) : (zeroValue 146).run Try.prog w = .ok (pairA (0, 0)) w := by kernel_rfl

theorem cellsKey : Try.prog.cellsOf 144 = 4 := by kernel_rfl
theorem cells5 : Try.prog.cellsOf 5 = 1 := by kernel_rfl
theorem wf8 (a : UInt8) : (Lit.int .u8 (a.toNat : Int)).wf = true := by
  have := a.toNat_lt
  have e1 : IntKind.u8.min = 0 := rfl
  have e2 : IntKind.u8.max = 255 := rfl
  simp only [Lit.wf, e1, e2, Bool.and_eq_true, decide_eq_true_eq]
  omega

theorem key_of (k : List UInt8) (hk : k.length = 4) : ∃ l, keyOf Try.prog 144 (keyA k) = some l := by
  match k, hk with
  | [a, b, c, d], _ =>
    unfold keyOf
    rw [underlyingKey]
    have h1 : (keyA [a, b, c, d]).formed Try.prog 144 = true := by
      simp [keyA, Value.formed, cellsKey, bv]
    simp only [keyType, h1, Bool.and_self, if_true]
    have h0 : 0 < Try.prog.types.size := by decide +kernel
    generalize Try.prog.types.size = N at *
    obtain ⟨n, rfl⟩ : ∃ n, N = n + 1 := ⟨N - 1, by omega⟩
    simp [keyA, Value.cells, bv, Program.keyLits, cellsKey, cells5, Try.underlying5, List.range, List.range.loop, wf8]

/-- M, but p at k. -/
def upd (M : List UInt8 → Nat × Nat) (k : List UInt8) (p : Nat × Nat) : List UInt8 → Nat × Nat := fun k' => if k' = k then p else M k'
theorem upd_same (M : List UInt8 → Nat × Nat) (k : List UInt8) (p : Nat × Nat) : upd M k p k = p := if_pos rfl
theorem upd_other (M : List UInt8 → Nat × Nat) {k k' : List UInt8} (p : Nat × Nat) (h : k' ≠ k) : upd M k p k' = M k' := if_neg h

/-- Block B is a map that tells M of each key; what it does not have is told as noughts. -/
def KMap (w : World) (B : Nat) (M : List UInt8 → Nat × Nat) : Prop :=
  ∃ es clock, w.heap[B]? = some (.map es clock) ∧ (∀ e ∈ es.toList, ∃ k : List UInt8, k.length = 4 ∧ e.key = keyA k ∧ e.val = pairA (M k)) ∧
    (∀ k : List UInt8, k.length = 4 → M k ≠ (0, 0) → ∃ e ∈ es.toList, e.key = keyA k) ∧ (es.toList.map (·.key)).Nodup

theorem KMap.lt {w : World} {B : Nat} {M : List UInt8 → Nat × Nat} (h : KMap w B M) : B < w.heap.size := by
  obtain ⟨es, clock, hb, _⟩ := h
  exact (Array.getElem?_eq_some_iff.1 hb).1
theorem KMap.fr {S : List Nat} {w w' : World} {B : Nat} {M : List UInt8 → Nat × Nat} (h : KMap w B M) (hf : Fr S w w') (hB : B ∉ S) : KMap w' B M := by
  have hlt := h.lt
  obtain ⟨es, clock, hb, r⟩ := h
  exact ⟨es, clock, (hf.block B hlt hB).trans hb, r⟩
theorem KMap.other {w : World} {B g : Nat} {M : List UInt8 → Nat × Nat} (h : KMap w B M) {t : TypeId} {cs : Array Value} {z : Nat × Nat} (hg : w.heap[g]? = some (.cells cs t z)) : g ≠ B := by
  rintro rfl
  obtain ⟨es, clock, hb, _⟩ := h
  rw [hb] at hg
  cases hg
theorem KMap.congr {w : World} {B : Nat} {M M' : List UInt8 → Nat × Nat} (h : KMap w B M) (hM : ∀ k, k.length = 4 → M k = M' k) : KMap w B M' := by
  obtain ⟨es, clock, hb, h1, h2, h3⟩ := h
  refine ⟨es, clock, hb, fun e he => ?_, fun k hk hne => h2 k hk (by rw [hM k hk]; exact hne), h3⟩
  obtain ⟨k, hk, e1, e2⟩ := h1 e he
  exact ⟨k, hk, e1, by rw [e2, hM k hk]⟩
theorem KMap.made (w : World) : KMap (w.alloc (.map #[] 0)) w.heap.size fun _ => (0, 0) :=
  ⟨#[], 0, (MapKept.heap_alloc w _).1, by simp, fun _ _ h => absurd rfl h, by simp⟩

section
variable {w : World} {B : Nat} {M : List UInt8 → Nat × Nat}
theorem KMap.look (h : KMap w B M) (k : List UInt8) (hk : k.length = 4) :
    (Instr.lookup 134 (.map (some B)) (keyA k) false).run Try.prog w = .ok (pairA (M k)) w := by
  obtain ⟨es, clock, hb, h1, h2, _⟩ := h
  obtain ⟨l, hl⟩ := key_of k hk
  have hks : ∀ e ∈ es.toList, ∃ l, keyOf Try.prog 144 e.key = some l := by
    intro e he
    obtain ⟨k', hk', e1, _⟩ := h1 e he
    rw [e1]
    exact key_of k' hk'
  rcases keyLaw.find w hl es.toList hks with ⟨r1, r2⟩ | ⟨j, e0, r1, r2, r3⟩
  · have hM : M k = (0, 0) := by
      by_cases hne : M k = (0, 0)
      · exact hne
      · obtain ⟨e, he, e1⟩ := h2 k hk hne
        exact absurd e1 (r2 e he)
    rw [hM]
    simp [Instr.lookup, run_underlying underlyingMap, MapKept.run_getObj_map hb, keyLaw.check w _ hl, r1, Result.andThen]
    rfl
  · obtain ⟨k', hk', e1, e2⟩ := h1 e0 (List.mem_of_getElem? r2)
    have : k' = k := keyA_inj (e1.symm.trans r3)
    subst this
    simp [Instr.lookup, run_underlying underlyingMap, MapKept.run_getObj_map hb, keyLaw.check w _ hl, r1, e2, Result.andThen]

theorem fr_setBlock (w : World) (B : Nat) (o : Obj) : Fr [B] w (setBlock w B o) :=
  ⟨rfl, rfl, rfl, by simp [setBlock], fun k _ hk => by
    simp only [setBlock]
    rw [Array.getElem?_setIfInBounds_ne (by intro e; exact hk (by simp [e]))]⟩

theorem KMap.put (h : KMap w B M) (k : List UInt8) (hk : k.length = 4) (p : Nat × Nat) :
    ∃ w', (Instr.mapUpdate 134 (.map (some B)) (keyA k) (pairA p)).run Try.prog w = .ok () w' ∧ KMap w' B (upd M k p) ∧ Fr [B] w w' ∧ w'.heap.size = w.heap.size := by
  have hlt := h.lt
  obtain ⟨es, clock, hb, h1, h2, h3⟩ := h
  obtain ⟨l, hl⟩ := key_of k hk
  have hks : ∀ e ∈ es.toList, ∃ l, keyOf Try.prog 144 e.key = some l := by
    intro e he
    obtain ⟨k', hk', e1, _⟩ := h1 e he
    rw [e1]
    exact key_of k' hk'
  rcases keyLaw.find w hl es.toList hks with ⟨r1, r2⟩ | ⟨j, e0, r1, r2, r3⟩
  · refine ⟨setBlock w B (.map (es.push ⟨keyA k, pairA p, clock⟩) (clock + 1)), ?_, ⟨_, _, ChangeMaps.heap_setBlock_same hb _, ?_, ?_, ?_⟩, fr_setBlock _ _ _, by simp [setBlock]⟩
    · simp [Instr.mapUpdate, run_underlying underlyingMap, MapKept.run_getObj_map hb, keyLaw.check w false hl, r1, MapKept.run_setObj_map _ hb, Result.andThen, setBlock]
    · intro e he
      simp only [Array.toList_push, List.mem_append, List.mem_singleton] at he
      rcases he with he | rfl
      · obtain ⟨k', hk', e1, e2⟩ := h1 e he
        refine ⟨k', hk', e1, ?_⟩
        rw [upd_other M p (by rintro rfl; exact r2 e he e1), e2]
      · exact ⟨k, hk, rfl, by rw [upd_same]⟩
    · intro k' hk' hne
      by_cases hkk : k' = k
      · subst hkk
        exact ⟨⟨keyA k', pairA p, clock⟩, by simp, rfl⟩
      · rw [upd_other M p hkk] at hne
        obtain ⟨e, he, e1⟩ := h2 k' hk' hne
        exact ⟨e, by simp [he], e1⟩
    · simp only [Array.toList_push, List.map_append, List.map_cons, List.map_nil]
      rw [List.nodup_append]
      refine ⟨h3, by simp, ?_⟩
      intro a ha b hb' hab
      simp only [List.mem_singleton] at hb'
      obtain ⟨e, he, rfl⟩ := List.mem_map.1 ha
      exact r2 e he (hab.trans hb')
  · have hj := (List.getElem?_eq_some_iff.1 r2).1
    have hj' : es[j]? = some e0 := by simpa using r2
    have hkeys : (es.modify j fun e => { e with key := keyA k, val := pairA p }).toList.map (·.key) = es.toList.map (·.key) := by
      apply List.ext_getElem?
      intro i
      simp only [Array.toList_modify, List.getElem?_map, List.getElem?_modify]
      by_cases hij : j = i
      · subst hij
        simp [r2, r3]
      · simp [hij]
    have hmem : ∀ e ∈ (es.modify j fun e => { e with key := keyA k, val := pairA p }).toList, (∃ i, i ≠ j ∧ es.toList[i]? = some e) ∨ (e.key = keyA k ∧ e.val = pairA p) := by
      intro e he
      obtain ⟨i, hi⟩ := List.getElem?_of_mem he
      rw [Array.toList_modify, List.getElem?_modify] at hi
      by_cases hij : j = i
      · subst hij
        simp [r2] at hi
        right
        rw [← hi]
        exact ⟨rfl, rfl⟩
      · simp [hij] at hi
        left
        exact ⟨i, fun h => hij h.symm, by simpa using hi⟩
    refine ⟨setBlock w B (.map (es.modify j fun e => { e with key := keyA k, val := pairA p }) clock), ?_, ⟨_, _, ChangeMaps.heap_setBlock_same hb _, ?_, ?_, ?_⟩, fr_setBlock _ _ _, by simp [setBlock]⟩
    · have hstay := keyLaw.stays w hl
      simp [Instr.mapUpdate, run_underlying underlyingMap, MapKept.run_getObj_map hb, keyLaw.check w false hl, r1, hj', r3, hstay, MapKept.run_setObj_map _ hb, Result.andThen, setBlock]
    · intro e he
      rcases hmem e he with ⟨i, hij, hi⟩ | ⟨e1, e2⟩
      · obtain ⟨k', hk', e1, e2⟩ := h1 e (List.mem_of_getElem? hi)
        refine ⟨k', hk', e1, ?_⟩
        rw [upd_other M p ?_, e2]
        rintro rfl
        apply hij
        have hi' := (List.getElem?_eq_some_iff.1 hi).1
        have q1 : (es.toList.map (·.key))[i]'(by simpa using hi') = keyA k' := by
          have := (List.getElem?_eq_some_iff.1 hi).2
          simp only [List.getElem_map]; rw [this, e1]
        have q2 : (es.toList.map (·.key))[j]'(by simpa using hj) = keyA k' := by
          have := (List.getElem?_eq_some_iff.1 r2).2
          simp only [List.getElem_map]; rw [this, r3]
        exact (List.getElem_inj h3).1 (q1.trans q2.symm)
      · exact ⟨k, hk, e1, by rw [upd_same]; exact e2⟩
    · intro k' hk' hne
      have hex : keyA k' ∈ es.toList.map (·.key) := by
        by_cases hkk : k' = k
        · subst hkk
          exact List.mem_map.2 ⟨e0, List.mem_of_getElem? r2, r3⟩
        · rw [upd_other M p hkk] at hne
          obtain ⟨e, he, e1⟩ := h2 k' hk' hne
          exact List.mem_map.2 ⟨e, he, e1⟩
      rw [← hkeys] at hex
      obtain ⟨e, he, e1⟩ := List.mem_map.1 hex
      exact ⟨e, he, e1⟩
    · rw [hkeys]; exact h3

/-- clear. -/
theorem KMap.clear (h : KMap w B M) :
    ∃ w', (∀ ty, (Builtin.clear_ #[134] ty #[.map (some B)]).run Try.prog w = .ok (.tuple #[]) w') ∧ KMap w' B (fun _ => (0, 0)) ∧ Fr [B] w w' ∧ w'.heap.size = w.heap.size := by
  obtain ⟨es, clock, hb, _⟩ := h
  refine ⟨setBlock w B (.map #[] clock), fun ty => ?_, ⟨#[], clock, ChangeMaps.heap_setBlock_same hb _, by simp, fun _ _ h => absurd rfl h, by simp⟩, fr_setBlock _ _ _, by simp [setBlock]⟩
  simp [Builtin.clear_, run_underlying underlyingMap, MapKept.run_getObj_map hb, MapKept.run_setObj_map _ hb, Result.andThen, setBlock]
end

/-- The look-up at its operation. -/
theorem wpList_look (w : World) {ops : Array Oper} {rest : List Oper} {o : Oper} {a : Act} {Q : Exit → Act → World → Prop} (hg : o.guard = none) (m x : Operand) (hop : o.op = Op.lookup 134 m x false)
    (B : Nat) (M : List UInt8 → Nat × Nat) (h : KMap w B M) (k : List UInt8) (hk : k.length = 4) (p q : Nat) (hM : M k = (p, q)) (hm : a.eval m = .map (some B)) (hx : a.eval x = keyA k)
    (hK : wpList Try.prog ops Q rest (a.put o.dst (.agg #[.int .i32 (p : Int), .int .i32 (q : Int)])) w) : wpList Try.prog ops Q (o :: rest) a w := by
  refine wpList_plain hg fun K' hK' => ?_
  have hrun := h.look k hk
  rw [hM] at hrun
  unfold Oper.wp
  simp [execOp, hop, hm, hx, hrun, Result.andThen]
  exact hK' _ _ hK
/-- The store at its operation. -/
theorem wpList_put (w : World) {ops : Array Oper} {rest : List Oper} {o : Oper} {a : Act} {Q : Exit → Act → World → Prop} (hg : o.guard = none) (m x v : Operand) (hop : o.op = Op.mapUpdate 134 m x v)
    (B : Nat) (M : List UInt8 → Nat × Nat) (h : KMap w B M) (k : List UInt8) (hk : k.length = 4) (p q : Nat) (hm : a.eval m = .map (some B)) (hx : a.eval x = keyA k) (hv : a.eval v = .agg #[.int .i32 (p : Int), .int .i32 (q : Int)])
    (hK : ∀ w', KMap w' B (upd M k (p, q)) → Fr [B] w w' → wpList Try.prog ops Q rest (a.put o.dst undef) w') : wpList Try.prog ops Q (o :: rest) a w := by
  refine wpList_plain hg fun K' hK' => ?_
  obtain ⟨w', hrun, r1, r2, _⟩ := h.put k hk (p, q)
  unfold pairA at hrun
  unfold Oper.wp
  simp [execOp, hop, hm, hx, hv, hrun, Result.andThen]
  exact hK' _ _ (hK w' r1 r2)

end Bm
end Go.Proofs.Ytokfcknfkhlmfaa
