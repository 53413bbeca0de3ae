/-
  picklocklaw10.GbheadSigns returns true for every input. Condition: the table of RAM's sizes holds what its text lays.
-/
import Derived.Test.YthomlnaabkfcpaaDoorGbShown
import Derived.Test.YthomlnaabkfcpaaDoorOctSame
namespace Go.Proofs.YthomlnaabkfcpaaDoor
open Go.RowKit
namespace Gb

theorem signed_twice (l : List UInt8) (h : 333 < l.length) : signed (signed l) = signed l := by
  have h1 := sum_signed l h
  unfold signed at h1 ⊢
  rw [h1, List.set_set]
theorem set_back (l : List UInt8) (h : 333 < l.length) (y : UInt8) (hy : y.toNat = bt l 333) : (signed l).set 333 y = l := by
  unfold signed
  rw [List.set_set]
  have e : y = l[333] := by
    apply UInt8.toNat_inj.1
    rw [hy, bt_get l 333 h]
  rw [e, List.set_getElem_self]

theorem own_cell {w : World} {B g n c : Nat} {l : List UInt8} (h : Own w B (.slice (some ⟨g, 0, none⟩) n c) l) (hl : l.length = n) (k : Nat) (hk : k < n) :
    w.cell? ⟨g, k, none⟩ = some (.int .u8 (bt l k : Int)) ∧ w.frozen? ⟨g, k, none⟩ = false ∧ B ≤ g ∧ g < w.heap.size ∧ ∀ x : UInt8, Own (w.setCell ⟨g, k, none⟩ (.int .u8 (x.toNat : Int))) B (.slice (some ⟨g, 0, none⟩) n c) (l.set k x) := by
  obtain ⟨g', e, -, -, hfz, hset⟩ := h.head (by omega)
  have e1 : g = g' := by injection e with e; injection e
  subst e1
  obtain ⟨b', o', e', hcell⟩ := h.rd (by omega)
  have e1 : g = b' := by injection e' with e'; injection e'
  have e2 : 0 = o' := by injection e' with e'; injection e'
  subst e1 e2
  have d := hcell k (by omega)
  rw [← bt_get, Nat.zero_add] at d
  exact ⟨d, hfz k, (h.lt g (by simp [Value.ownBlock])).1, (h.lt g (by simp [Value.ownBlock])).2, fun x => hset k x⟩

set_option maxRecDepth 100000 in
set_option maxHeartbeats 4000000 in
theorem signs_walk (a0 : Option Addr) (cap0 : Nat) (l : List UInt8) (w : World) (hT : Tab w) (hr : Rd w a0 l) (hc : a0 = none → cap0 = 0) (hlc : l.length ≤ cap0) (_hcm : cap0 ≤ maxLen) :
    Calls Tryd.prog 5 #[.slice a0 l.length cap0] w fun e w' => e = .returned (.bool true) ∧ Below w.heap.size w w' := by
  obtain ⟨i0, hi, hz0, hz1, hz2⟩ := info_parts info5
  have HT := Lib.hid hT
  have HR := Lib.hid hr
  have HC := Lib.hid hc
  have HL := Lib.hid (take_len l 1000 (by omega))
  have hcnt : (min (l.length : Int) 1000).toNat ≤ 1000 := by omega
  unfold maxLen at _hcm
  clear hr hc hT
  go_enter Tryd.func5, Tryd.ntmps5
  go_wp2_with (first
    | (go_at_call 8; (with_reducible refine (shown10 _ HT.out).mono ?_); rintro e w1 ⟨rfl, hf1⟩; have HF1 := Lib.hid hf1; have hs1 := hf1.size; clear hf1)
    | (at_builtin; refine wpList_app _ rfl (.tmp 8) (.tmp 13) 26 rfl w.heap.size i0 Tryd.underlying26 hi hz0 hz1 hz2 (.slice (some ⟨w1.heap.size, 0, none⟩) 0 0) [] rfl (Own.empty w1 _ hs1) a0 _ cap0 (l.take (min (l.length : Int) 1000).toNat) rfl HL.out (rd_take (HR.out.later (HF1.out.alloc _) (by simp)) _) HC.out (by simp; omega) (by simp; omega) ?_))
  intro A1 c1 w2 ho2 hf2 hlies
  have HF2 : Hid (Fr [] w w2) := Lib.hid ((HF1.out.alloc _).trans hf2 (by simp [Value.ownBlock]; omega))
  have HM1 : Hid ((l.take (min (l.length : Int) 1000).toNat).length = (min (l.length : Int) 1000).toNat) := HL.out
  have HX : Hid (Rd w2 A1 (l.take (min (l.length : Int) 1000).toNat)) := Lib.hid ho2.rd
  obtain ⟨hna1, hna2⟩ := ho2.caps
  clear ho2 hf2 HR HC HL hlc hs1 hlies HF1
  generalize (min (l.length : Int) 1000).toNat = n at *
  generalize l.take n = x at *
  by_cases h3 : n < 334
  · have h334 : (n : Int) < 334 := by omega
    go_wp2_with fail
    (with_reducible refine (sign_none w2 A1 n c1 h3).mono ?_)
    rintro e w3 ⟨rfl, rfl⟩
    go_wp2
    go_ret
    exact ⟨rfl, HF2.out.below (by simp) (Nat.le_refl _)⟩
  · have h334 : ¬ (n : Int) < 334 := by omega
    have h333 : (333 : Int) < n := by omega
    have hx : 333 < x.length := by rw [HM1.out]; omega
    have HLs : Hid ((signed x).length = n) := Lib.hid (by rw [signed_length]; exact HM1.out)
    have HS1 : Hid (∀ W, Fr [] w2 W → Calls Tryd.prog 10 #[.slice A1 n c1] W fun e w' => e = .returned (.int .u8 (gsum x : Int)) ∧ w' = W) := Lib.hid fun W hW => (rsum_any W A1 n c1 x HM1.out (HX.out.later hW (by simp)) (by omega)).mono fun e w' ⟨h1, h2⟩ => ⟨h1, h2.symm⟩
    obtain ⟨s, hs⟩ : ∃ s : UInt8, gsum x = s.toNat := ⟨UInt8.ofNat (gsum x), by have := gsum_lt x; simp; omega⟩
    have hsg : signed x = x.set 333 s := by
      unfold signed
      congr 1
      rw [hs]; simp
    have HAt : Hid (bt (signed x) 333 = s.toNat) := Lib.hid (by rw [at_signed x hx, hs])
    have HTw : Hid (signed (signed x) = signed x) := Lib.hid (signed_twice x hx)
    obtain ⟨y, hy⟩ : ∃ y : UInt8, y.toNat = bt x 333 := ⟨UInt8.ofNat (bt x 333), by have := bt_lt x 333; simp; omega⟩
    have HBk : Hid ((signed x).set 333 y = x) := Lib.hid (set_back x hx y hy)
    have HSg := Lib.hid hsg
    have HYb := Lib.hid hy
    rw [hs] at HS1
    clear hsg hs hy
    obtain ⟨bb, bo, hA1, hcell⟩ := HX.out (by omega)
    subst hA1
    have hb333 := hcell 333 hx
    rw [← bt_get, ← HYb.out] at hb333
    have HB3 := Lib.hid hb333
    clear hb333 hcell
    go_wp2_with fail
    (with_reducible refine (sign_any w2 (some ⟨bb, bo, none⟩) n c1 x HM1.out (by omega) (by omega) HX.out).mono ?_)
    rintro e w3 ⟨A3, c3, rfl, ho3, hf3⟩
    obtain ⟨g, rfl, -, -, -, -⟩ := ho3.head (by omega)
    obtain ⟨d3, -, hg, -, -⟩ := own_cell ho3 HLs.out 333 (by omega)
    rw [HAt.out] at d3
    obtain ⟨hn3, -⟩ := ho3.caps
    have HF3 := Lib.hid hf3
    have HO3 := Lib.hid ho3
    clear hf3 ho3
    go_upto_region 6 with fail
    go_quiet (first | (go_at_call 10; with_reducible exact Calls.quiet_of_same (HS1.out _ (HF3.out.drewN _))))
    have HO4 := Lib.hid (HO3.out.fr ((Fr.refl [] w3).drewN nq) (by simp))
    have HF4 := Lib.hid (HF3.out.drewN nq)
    clear HF3 HO3 d3
    generalize w3.drewN nq = w4 at *
    go_wp2_with fail
    (with_reducible refine (sign_any w4 (some ⟨g, 0, none⟩) n c3 (signed x) HLs.out (by omega) (by omega) HO4.out.rd).mono ?_)
    rintro e w5 ⟨A5, c5, rfl, ho5, hf5⟩
    rw [HTw.out] at ho5
    have HO5 := Lib.hid (HO4.out.fr hf5 (by simp))
    have HF5 := Lib.hid (HF4.out.tr hf5)
    obtain ⟨d5, f5, -, hg5, hs5⟩ := own_cell HO5.out HLs.out 333 (by omega)
    have b5 := HF5.out.cell HB3.out (by simp)
    have hgt : ∀ k, (Value.slice A5 n c5).ownBlock = some k → k ∉ [g] := fun k hk hm => by
      have h1 := (ho5.lt k hk).1
      have h2 := (own_cell HO4.out HLs.out 333 (by omega)).2.2.2.1
      simp at hm
      omega
    have HG5 := Lib.hid hgt
    have HT5 := Lib.hid ho5
    have HX6 := Lib.hid (hs5 y)
    rw [HBk.out] at HX6
    have HT6 := Lib.hid (ho5.fr ((Fr.refl [g] w5).setCell (p := ⟨g, 333, none⟩) (by simp) (.int .u8 (y.toNat : Int))) hgt)
    have HF6 := Lib.hid (HF5.out.setCell (p := ⟨g, 333, none⟩) (.inr hg) (.int .u8 (y.toNat : Int)))
    clear ho5 hf5 hs5 hgt HO4 HF4
    go_upto_region 10 with fail
    generalize w5.setCell ⟨g, 333, none⟩ _ = w6 at *
    clear d5 f5 b5 HO5 HF5 HT5
    go_wp2_with fail
    (with_reducible refine (same_eq w6 (some ⟨g, 0, none⟩) (some ⟨bb, bo, none⟩) n n c3 c1 x HM1.out HM1.out HX6.out.rd (HX.out.later HF6.out (by simp))).mono ?_)
    rintro e w7 ⟨rfl, rfl⟩
    obtain ⟨d6, f6, -, hg6, hs6⟩ := own_cell HX6.out HM1.out 333 (by omega)
    have HX7 := Lib.hid (hs6 s)
    rw [← HSg.out] at HX7
    have HT7 := Lib.hid (HT6.out.fr ((Fr.refl [g] w6).setCell (p := ⟨g, 333, none⟩) (by simp) (.int .u8 (s.toNat : Int))) HG5.out)
    have HF7 := Lib.hid (HF6.out.setCell (p := ⟨g, 333, none⟩) (.inr hg) (.int .u8 (s.toNat : Int)))
    clear hs6
    go_wp2_with fail
    (with_reducible refine (HS1.out w6 HF6.out).mono ?_)
    rintro e w8 ⟨rfl, rfl⟩
    go_upto_region 12 with fail
    generalize w8.setCell ⟨g, 333, none⟩ _ = w9 at *
    clear d6 f6 HX6 HT6 HF6
    go_wp2_with fail
    (with_reducible refine (same_eq w9 A5 (some ⟨g, 0, none⟩) n n c5 c3 (signed x) HLs.out HLs.out HT7.out.rd HX7.out.rd).mono ?_)
    rintro e w10 ⟨rfl, rfl⟩
    go_wp2
    go_ret
    exact ⟨rfl, (HF2.out.tr HF7.out).below (by simp) (Nat.le_refl _)⟩

end Gb
end Go.Proofs.YthomlnaabkfcpaaDoor
