/-
  picklocklaw04.IpsFar returns true for every input: a record may stand at the last place that there is. No condition.
-/
import Derived.Test.YtcbmkmblfciflaaShown
import Derived.Test.YtcbmkmblfciflaaIpsMade
namespace Go.Proofs.Ytcbmkmblfciflaa
open Go.RowKit
namespace Ips

theorem and24 (n : Int) : 0 ≤ bits .and .i64 n 16777215 ∧ bits .and .i64 n 16777215 ≤ 16777215 := by
  have h : (BitVec.ofInt 64 16777215).toNat = 2 ^ 24 - 1 := by decide
  have key : (BitVec.ofInt 64 n &&& BitVec.ofInt 64 16777215).toNat = (n % ((2 ^ 64 : Nat) : Int)).toNat % 2 ^ 24 := by
    rw [BitVec.toNat_and, BitVec.toNat_ofInt, h, Nat.and_two_pow_sub_one_eq_mod]
  have e : bits .and .i64 n 16777215 = IntKind.i64.wrap ((BitVec.ofInt 64 n &&& BitVec.ofInt 64 16777215).toNat : Nat) := rfl
  rw [e, key, IntKind.wrap_i64]
  omega
/-- A number below k. -/
theorem below_of (z k : Int) (hk : 0 < k) : ∃ p : Nat, (bits .and .i64 z 16777215).tmod k = (p : Int) ∧ (p : Int) < k := by
  have h := and24 z
  rw [Int.tmod_eq_emod_of_nonneg h.1]
  have h1 := Int.emod_nonneg (bits .and .i64 z 16777215) (show k ≠ 0 by omega)
  have h2 := Int.emod_lt_of_pos (bits .and .i64 z 16777215) hk
  exact ⟨((bits .and .i64 z 16777215) % k).toNat, by omega, by omega⟩

theorem far_parse (a n : Nat) (x : UInt8) (ha : a < 16777216) (ha2 : 16000000 < a) (hn : n < 65536) (h0 : 0 < n) : parse ((patch ++ recB ⟨a, n, [x]⟩) ++ eof) = (0, [⟨a, n, [x]⟩], -1) := by
  have h := parse_made0 [⟨a, n, [x]⟩] (by intro r hr; simp at hr; subst hr; exact ⟨⟨⟨by simp, fun _ => rfl⟩, ha, hn, by simp⟩, by simp; omega⟩) (by simp [recB_length, h0]; decide)
  simpa using h
theorem far_bytes (a n : Nat) (x : UInt8) (h0 : 0 < n) : layAll [⟨a, n, [x]⟩] (pad [] (reach 0 [⟨a, n, [x]⟩])) = List.replicate a 0 ++ List.replicate n x := by
  have hs : max n 1 = n := by omega
  simp [layAll, reach, pad, over, bytesOf, span, h0, hs]
theorem far_applied (a n : Nat) (x : UInt8) (ha : a < 16777216) (ha2 : 16000000 < a) (hn : n < 65536) (h0 : 0 < n) :
    applied ((patch ++ recB ⟨a, n, [x]⟩) ++ eof) [] = if 16777216 < a + n then (6, []) else (0, List.replicate a 0 ++ List.replicate n x) := by
  have hr : reach 0 [⟨a, n, [x]⟩] = a + n := by simp [reach, span]; omega
  unfold applied
  rw [far_parse a n x ha ha2 hn h0]
  simp only [List.length_nil, hr]
  split
  · simp_all
  · rw [← hr, far_bytes a n x h0, cutTo_none _ _ (by omega), hr]

set_option maxRecDepth 100000 in
set_option maxHeartbeats 4000000 in
theorem far_walk (x : UInt8) (run back : Int) (w : World) :
    Calls Try.prog 7 #[.int .u8 (x.toNat : Int), .int .i64 run, .int .i64 back] w fun e w' => e = .returned (.bool true) ∧ Below w.heap.size w w' := by
  obtain ⟨i0, hi0, hz0, hz1, hz2⟩ := info_parts info5
  obtain ⟨P, hP, hP2⟩ := place_of back 999 (by omega)
  have hP' : (bits .and .i64 back 65535).tmod 1000 = (P : Int) := hP
  obtain ⟨Q, hQ, hQ2⟩ := below_of run 65535 (by omega)
  obtain ⟨a, ha⟩ : ∃ a : Nat, (16777215 : Int) - (P : Int) = (a : Int) := ⟨16777215 - P, by omega⟩
  obtain ⟨n, hn⟩ : ∃ n : Nat, (1 : Int) + (Q : Int) = (n : Int) := ⟨1 + Q, by omega⟩
  have ha1 : a < 16777216 := by omega
  have ha2 : 16000000 < a := by omega
  have hn1 : n < 65536 := by omega
  have hn0 : 0 < n := by omega
  have HA := Lib.hid (far_applied a n x ha1 ha2 hn1 hn0)
  have HL8 : Hid ((recB ⟨a, n, [x]⟩).length = 8) := Lib.hid (by rw [recB_length, if_pos hn0])
  have hxl := x.toNat_lt
  clear hP
  go_enter Try.func7, Try.ntmps7
  go_wp2_with fail
  refine (shown_any _).mono ?_
  rintro e w1 ⟨rfl, hf1⟩
  have HF1 := Lib.hid hf1
  have hs1 := hf1.size
  clear hf1
  have kc := conv_const w1 w1.heap.size rfl (bv patch).toArray 5 5
  have HPat : Hid (Rd (w1.alloc (.cells (bv patch).toArray 5 (5, 6))) (some ⟨w1.heap.size, 0, none⟩) patch) := Lib.hid (rd_const w1 _ rfl patch 5 _)
  simp [bv, patch] at kc
  go_wp2_with fail
  clear kc
  have HX : Hid (Rd ((w1.alloc (.cells (bv patch).toArray 5 (5, 6))).alloc (.cells #[.int .u8 (x.toNat : Int)] 5)) (some ⟨w1.heap.size + 1, 0, none⟩) [x]) := by
    have h := rd_one (w1.alloc (.cells (bv patch).toArray 5 (5, 6))) x
    rw [World.size_alloc] at h
    exact Lib.hid h
  refine (put_run ((w1.alloc (.cells (bv patch).toArray 5 (5, 6))).alloc (.cells #[.int .u8 (x.toNat : Int)] 5)) ⟨a, n, [x]⟩ (some ⟨w1.heap.size + 1, 0, none⟩) 1 HX.out ha1 hn1 (by simp) hn0).mono ?_
  rintro e w2 ⟨A2, c2, rfl, ho2, hf2⟩
  rw [HL8.out] at ho2 ⊢
  have HO2 := Lib.hid ho2
  have HF2 := Lib.hid hf2
  have hs2 := hf2.size
  simp at hs2
  have HAp : Hid (Ap w2 w.heap.size (.slice (some ⟨w1.heap.size, 0, none⟩) 5 5) patch) := Lib.hid (.inr ⟨w1.heap.size, rfl, HPat.out.later (S := []) (((Fr.refl [] _).alloc _).tr hf2) (by simp), hs1, by omega⟩)
  have HN2 : Hid (A2 = none → c2 = 0) := Lib.hid (by rcases ho2.form0 with ⟨_, h, _⟩ | ⟨g, h⟩; simp at h; exact fun e => by rw [h] at e; cases e)
  clear ho2 hf2
  go_wp2_with (at_builtin; refine wpList_ap _ rfl (.tmp 22) (.tmp 28) 22 rfl w.heap.size i0 Try.underlying22 hi0 hz0 hz1 hz2 _ patch rfl HAp.out A2 8 c2 (recB ⟨a, n, [x]⟩) rfl HL8.out HO2.out.rd HN2.out 13 rfl (by decide) (by omega) ?_)
  intro A3 c3 w3 ho3 hf3
  have HF3 : Hid (Fr [] w w3) := Lib.hid ((((HF1.out.alloc _).alloc _).tr HF2.out).trans hf3 (by simp [Value.ownBlock]; omega))
  have HO3 := Lib.hid ho3
  have hs3 := HF3.out.size
  have HL13 : Hid ((patch ++ recB ⟨a, n, [x]⟩).length + eof.length = 16) := Lib.hid (by rw [List.length_append, HL8.out]; rfl)
  clear ho3 hf3
  go_wp2_with (at_builtin; refine wpList_apS _ rfl (.tmp 29) (.const (.string ⟨#[69, 79, 70]⟩)) 22 9 rfl w.heap.size i0 Try.underlying22 Try.underlying9 hi0 hz0 hz1 hz2 _ (patch ++ recB ⟨a, n, [x]⟩) rfl HO3.out eof rfl (by decide) 16 HL13.out (by decide) hs3 ?_)
  intro A4 c4 w4 ho4 hf4
  have HF4 : Hid (Fr [] w w4) := Lib.hid (HF3.out.trans hf4 (fun k hk => .inr (HO3.out.lt k hk).1))
  have HR4 := Lib.hid ho4.rd
  have HL16 : Hid (((patch ++ recB ⟨a, n, [x]⟩) ++ eof).length = 16) := Lib.hid (by rw [List.length_append]; exact HL13.out)
  clear ho4 hf4
  go_wp2_with fail
  refine (applyZ w4 A4 none 16 c4 0 0 _ [] _ HA.out HL16.out HR4.out rfl (by decide) (rd_nil _)).mono ?_
  clear HA HR4 HL16 HL13 HL8 HO2 HO3 HX HPat HAp HN2
  by_cases hbig : 16777216 < a + n
  · have hbig' : 16777216 < (a : Int) + n := by omega
    rw [if_pos hbig]
    rintro e w5 ⟨A5, c5, rfl, _, _, _, _, hf5⟩
    have HF5 := Lib.hid hf5
    clear hf5
    go_wp2
    go_ret
    exact ⟨rfl, (HF4.out.tr HF5.out).below (by simp) (Nat.le_refl _)⟩
  · have hbig' : ¬ 16777216 < (a : Int) + n := by omega
    rw [if_neg hbig]
    rintro e w5 ⟨A5, c5, rfl, hr5, _, _, _, hf5⟩
    have HF5 := Lib.hid hf5
    have hlen : (List.replicate a (0 : UInt8) ++ List.replicate n x).length = a + n := by simp
    simp only at hr5 ⊢
    obtain ⟨b, o, y0, rfl, e0, c0⟩ := hr5.at 0 (by rw [hlen]; omega)
    obtain ⟨b', o', y1, e', e1, c1⟩ := hr5.at (a - 1) (by rw [hlen]; omega)
    cases e'
    obtain ⟨b', o', y2, e', e2, c2⟩ := hr5.at a (by rw [hlen]; omega)
    cases e'
    obtain ⟨b', o', y3, e', e3, c3⟩ := hr5.at (a + n - 1) (by rw [hlen]; omega)
    cases e'
    rw [List.getElem?_append_left (by simp; omega), List.getElem?_replicate, if_pos (by omega)] at e0 e1
    rw [List.getElem?_append_right (by simp), List.getElem?_replicate, if_pos (by simp; omega)] at e2
    rw [List.getElem?_append_right (by simp; omega), List.getElem?_replicate, if_pos (by simp; omega)] at e3
    cases e0
    cases e1
    cases e2
    cases e3
    rw [hlen]
    rw [Nat.add_zero] at c0
    clear hr5 hf5 hlen
    have z0 : w5.cell? ⟨b, o, none⟩ = some (.int .u8 0) := c0
    have z1 : w5.cell? ⟨b, o + (a - 1), none⟩ = some (.int .u8 0) := c1
    have t1 : ((a : Int) - 1).toNat = a - 1 := by omega
    have t3 : ((a : Int) + n - 1).toNat = a + n - 1 := by omega
    have i1 : (0 : Int) ≤ (a : Int) - 1 := by omega
    have i2 : (a : Int) - 1 < (a : Int) + n := by omega
    have i3 : (a : Int) < (a : Int) + n := by omega
    have i4 : (a : Int) + n - 1 < (a : Int) + n := by omega
    have i5 : (0 : Int) < (a : Int) + n := by omega
    have i6 : (0 : Int) ≤ (a : Int) + n - 1 := by omega
    clear c0 c1
    go_wp2
    go_ret
    exact ⟨rfl, (HF4.out.tr HF5.out).below (by simp) (Nat.le_refl _)⟩

end Ips
end Go.Proofs.Ytcbmkmblfciflaa
