/-
  picklocklaw07.shown returns true, and turns nothing that was there; Apply of a patch that was put together of actions.
-/
import Derived.Test.YtkefckoffnlkcaaBpsApply2
import Derived.Test.YtkefckoffnlkcaaBpsRefWhole
namespace Go.Proofs.Ytkefckoffnlkcaa
open Go.RowKit
namespace Bps
open Acts (ActRd)
open Ups (sum)

theorem flat_bound (L : List Act) (hok : ∀ a ∈ L, Ok a) : (L.flatMap actB).length ≤ 11 * total L := by
  induction L with
  | nil => simp
  | cons a l ih =>
    have ha := hok a (List.mem_cons_self ..)
    have h1 := actB_length a ha
    have h2 := ih fun b hb => hok b (List.mem_cons_of_mem _ hb)
    have h3 := ha.pos
    have h4 : a.data.length ≤ a.len := by
      by_cases h : a.kind = 1
      · rw [ha.data h]; exact Nat.le_refl _
      · rw [ha.none_ h]; simp
    rw [List.flatMap_cons, List.length_append, total]
    omega
theorem whole_bound (P : Pat) (hok : ∀ a ∈ P.L, Ok a) (hi : P.i ≤ 16777216) (ho : P.o ≤ 16777216) (hm : P.mt.length ≤ 16777216) : P.whole.length ≤ 31 + P.mt.length + 11 * total P.L := by
  have h1 := Var.putV_le5 (u := P.i) (by unfold Var.most; omega)
  have h2 := Var.putV_le5 (u := P.o) (by unfold Var.most; omega)
  have h3 := Var.putV_le5 (u := P.mt.length) (by unfold Var.most; omega)
  have h4 := flat_bound P.L hok
  unfold Pat.whole
  rw [whole_len]
  unfold inner
  simp only [List.length_append]
  omega
theorem fine_of (P : Pat) (hok : ∀ a ∈ P.L, Ok a) (ht : total P.L = P.o) (hi : P.i ≤ 1000000) (ho : P.o ≤ 1000000) (hm : P.mt.length ≤ 1000000) : Fine P := by
  have := whole_bound P hok (by omega) (by omega) (by omega)
  exact ⟨hok, ht, by omega, by omega, by omega, by omega⟩

theorem apply_any (w : World) (R S : Option Addr) (n c m d : Nat) (P : Pat) (x : List UInt8) (hP : Fine P) (hn : P.whole.length = n) (hr : Rd w R P.whole) (hc : n ≤ c) (hc2 : c ≤ maxLen) (hm : x.length = m) (hx : Rd w S x) (hmx : m ≤ 16777216) (hSn : S = none → d = 0) (hd : m ≤ d) (hd2 : d ≤ maxLen) :
    Calls Try.prog 11 #[.slice R n c, .slice S m d] w (AppliedB w (applyR P.i P.s1 P.s2 P.L x)) := by
  by_cases h : x.length = P.i ∧ sum x = P.s1
  · exact apply_fits w R S n c m d P x hP hn hr hc hc2 hm hx hmx hSn hd hd2 h
  · rw [applyR_sum h]
    exact apply_sum w R S n c m d P x hP hn hr hc hc2 hm hx hmx h

def abc : List UInt8 := [97, 98, 99]
def abd : List UInt8 := [97, 98, 100]
def outX : List UInt8 := [97, 98, 88, 97, 98, 97, 98]
def exL : List Act := [⟨0, 2, 0, []⟩, ⟨1, 1, 0, [88]⟩, ⟨2, 2, 0, []⟩, ⟨3, 2, 3, []⟩]
def exP : Pat := ⟨3, 7, sum abc, sum outX, [], exL⟩
theorem exL_ok : ∀ a ∈ exL, Ok a := by
  intro a ha
  simp [exL] at ha
  rcases ha with rfl | rfl | rfl | rfl
  · exact ⟨by decide, by decide, by decide, by decide, by decide, by decide, by decide, by decide⟩
  · exact ⟨by decide, by decide, by decide, by decide, by decide, by decide, by decide, by decide⟩
  · exact ⟨by decide, by decide, by decide, by decide, by decide, by decide, by decide, by decide⟩
  · exact ⟨by decide, by decide, by decide, by decide, by decide, by decide, by decide, by decide⟩
theorem exP_fine : Fine exP := fine_of exP exL_ok rfl (by decide) (by decide) (by decide)
theorem ex_made : makeA exL abc = some outX := rfl
theorem ex_sum : sum abd ≠ sum abc := by decide +kernel
theorem ex_ok : applyR exP.i exP.s1 exP.s2 exP.L abc = (0, outX) := applyR_ok ⟨rfl, rfl⟩ ex_made rfl
theorem ex_bad : applyR exP.i exP.s1 exP.s2 exP.L abd = (4, []) := applyR_sum fun h => ex_sum h.2

set_option maxRecDepth 100000 in
set_option maxHeartbeats 2000000 in
theorem shown7 (w : World) : Calls Try.prog 6 #[] w fun e w' => e = .returned (.bool true) ∧ Fr [] w w' := by
  obtain ⟨s, hs⟩ : ∃ s, w.heap.size = s := ⟨_, rfl⟩
  have kc := conv_const w s hs (bv abc).toArray 3 3
  have kd := conv_const (w.alloc (.cells (bv abc).toArray 5 (3, 4))) (s + 1) (by simp [hs]) (bv outX).toArray 7 7
  have ke := conv_const ((w.alloc (.cells (bv abc).toArray 5 (3, 4))).alloc (.cells (bv outX).toArray 5 (7, 8))) (s + 1 + 1) (by simp [hs]) (bv [88]).toArray 1 1
  simp [bv, abc, outX] at kc kd ke
  go_enter Try.func6, Try.ntmps6
  go_wp2_with fail
  clear kc kd ke
  have r0 : Rd (w.alloc (.cells (bv abc).toArray 5 (3, 4))) (some ⟨s, 0, none⟩) abc := rd_const w s hs abc 5 _
  have r1 : Rd ((w.alloc (.cells (bv abc).toArray 5 (3, 4))).alloc (.cells (bv outX).toArray 5 (7, 8))) (some ⟨s + 1, 0, none⟩) outX := rd_const _ (s + 1) (by simp [hs]) outX 5 _
  have r2 : Rd (((w.alloc (.cells (bv abc).toArray 5 (3, 4))).alloc (.cells (bv outX).toArray 5 (7, 8))).alloc (.cells (bv [88]).toArray 5 (1, 2))) (some ⟨s + 1 + 1, 0, none⟩) [88] := rd_const _ (s + 1 + 1) (by simp [hs]) [88] 5 _
  have f4 : Fr [] (((w.alloc (.cells (bv abc).toArray 5 (3, 4))).alloc (.cells (bv outX).toArray 5 (7, 8))).alloc (.cells (bv [88]).toArray 5 (1, 2))) ((((w.alloc (.cells (bv abc).toArray 5 (3, 4))).alloc (.cells (bv outX).toArray 5 (7, 8))).alloc (.cells (bv [88]).toArray 5 (1, 2))).alloc (.cells (Acts.flat [(⟨0, 2, 0, []⟩, none, 0), (⟨1, 1, 0, [88]⟩, some ⟨s + 1 + 1, 0, none⟩, 1), (⟨2, 2, 0, []⟩, none, 0), (⟨3, 2, 3, []⟩, none, 0)]).toArray 40)) := (Fr.refl [] _).alloc _
  have b4 := Blk.fresh (((w.alloc (.cells (bv abc).toArray 5 (3, 4))).alloc (.cells (bv outX).toArray 5 (7, 8))).alloc (.cells (bv [88]).toArray 5 (1, 2))) 40 (Acts.flat [(⟨0, 2, 0, []⟩, none, 0), (⟨1, 1, 0, [88]⟩, some ⟨s + 1 + 1, 0, none⟩, 1), (⟨2, 2, 0, []⟩, none, 0), (⟨3, 2, 3, []⟩, none, 0)]).toArray
  have hs4 : (((w.alloc (.cells (bv abc).toArray 5 (3, 4))).alloc (.cells (bv outX).toArray 5 (7, 8))).alloc (.cells (bv [88]).toArray 5 (1, 2))).heap.size = s + 1 + 1 + 1 := by simp [hs]
  rw [hs4] at b4
  have r2' := r2.later f4 (by simp)
  have HA4 : Hid (ActRd _ (some ⟨s + 1 + 1 + 1, 0, none⟩) exL) := Lib.hid (Acts.rd_blk4 b4 (by
    intro m hm
    simp at hm
    rcases hm with rfl | rfl | rfl | rfl
    · exact ⟨rd_nil _, fun _ => rfl, Nat.le_refl _, by simp [maxLen]⟩
    · exact ⟨r2', by simp, Nat.le_refl _, by simp [maxLen]⟩
    · exact ⟨rd_nil _, fun _ => rfl, Nat.le_refl _, by simp [maxLen]⟩
    · exact ⟨rd_nil _, fun _ => rfl, Nat.le_refl _, by simp [maxLen]⟩))
  have HR0 := Lib.hid ((r0.later (S := []) (((Fr.refl [] _).alloc _).alloc _) (by simp)).later f4 (by simp))
  have HR1 := Lib.hid ((r1.later (S := []) ((Fr.refl [] _).alloc _) (by simp)).later f4 (by simp))
  have HF4 : Hid (Fr [] w _) := Lib.hid ((((Fr.refl [] w).alloc _).alloc _).alloc _ |>.tr f4)
  clear r0 r1 r2 r2' b4 f4 hs4
  change Calls Try.prog _ _ ((((w.alloc (.cells (bv abc).toArray 5 (3, 4))).alloc (.cells (bv outX).toArray 5 (7, 8))).alloc (.cells (bv [88]).toArray 5 (1, 2))).alloc (.cells (Acts.flat [(⟨0, 2, 0, []⟩, none, 0), (⟨1, 1, 0, [88]⟩, some ⟨s + 1 + 1, 0, none⟩, 1), (⟨2, 2, 0, []⟩, none, 0), (⟨3, 2, 3, []⟩, none, 0)]).toArray 40)) _
  generalize (((w.alloc (.cells (bv abc).toArray 5 (3, 4))).alloc (.cells (bv outX).toArray 5 (7, 8))).alloc (.cells (bv [88]).toArray 5 (1, 2))).alloc (.cells (Acts.flat [(⟨0, 2, 0, []⟩, none, 0), (⟨1, 1, 0, [88]⟩, some ⟨s + 1 + 1, 0, none⟩, 1), (⟨2, 2, 0, []⟩, none, 0), (⟨3, 2, 3, []⟩, none, 0)]).toArray 40) = w4 at *
  refine (Crc.rsum_any w4 (some ⟨s, 0, none⟩) 3 3 abc rfl HR0.out (by decide)).mono ?_
  rintro e w5 ⟨rfl, rfl⟩
  obtain ⟨X, hX⟩ : ∃ X, Crc.next 0#32 abc = X := ⟨_, rfl⟩
  rw [hX]
  go_wp2_with fail
  refine (Crc.rsum_any w4 (some ⟨s + 1, 0, none⟩) 7 7 outX rfl HR1.out (by decide)).mono ?_
  rintro e w5 ⟨rfl, rfl⟩
  obtain ⟨Y, hY⟩ : ∃ Y, Crc.next 0#32 outX = Y := ⟨_, rfl⟩
  rw [hY]
  have HW := Lib.hid (rwhole_ok w4 exP none 0 (some ⟨s + 1 + 1 + 1, 0, none⟩) 4 exP_fine (rd_nil _) (fun _ => rfl) HA4.out)
  have HPx : Hid (patA exP none 0 (some ⟨s + 1 + 1 + 1, 0, none⟩) 4 = .agg #[.int .i64 3, .int .i64 7, .int .u32 (Crc.u X), .int .u32 (Crc.u Y), .slice none 0 0, .slice (some ⟨s + 1 + 1 + 1, 0, none⟩) 4 4]) := Lib.hid (by rw [← hX, ← hY]; rfl)
  rw [HPx.out] at HW
  obtain ⟨n, hn⟩ : ∃ n, exP.whole.length = n := ⟨_, rfl⟩
  have hnm : n ≤ 16777216 := by rw [← hn]; exact exP_fine.all
  have Hn := Lib.hid hn
  clear hX hY hn HPx
  go_wp2_with fail
  refine HW.out.mono ?_
  rintro e w5 ⟨A5, c5, rfl, ho5, hf5⟩
  rw [Hn.out] at ho5 ⊢
  have HO5 := Lib.hid ho5
  have HR5 := Lib.hid (HR0.out.later hf5 (by simp))
  have HF5 := Lib.hid (HF4.out.tr hf5)
  clear ho5 hf5 HW HR0 HR1 HA4 HF4
  obtain ⟨_, _, hv5, hr5, -, hc5, hm5, -⟩ := HO5.out.slice
  injection hv5 with v1 v2 v3
  subst v1 v3
  have HRp := Lib.hid hr5
  have hc5' : n ≤ c5 := by rw [← Hn.out]; exact hc5
  clear hr5 v2 hc5
  have HAp := Lib.hid fun (x : List UInt8) (R : Int × List UInt8) (hR : applyR exP.i exP.s1 exP.s2 exP.L x = R) (W : World) (S : Option Addr) (m : Nat) (hW : Fr [] w5 W) (hm : x.length = m) (hx : Rd W S x) (hS : S ≠ none) (hmx : m ≤ 16777216) => hR ▸ apply_any W A5 S n c5 m m exP x exP_fine Hn.out (HRp.out.later hW (by simp)) hc5' hm5 hm hx hmx (fun h => absurd h hS) (Nat.le_refl _) (by unfold maxLen; omega)
  go_wp2_with fail
  refine (HAp.out abc _ ex_ok w5 (some ⟨s, 0, none⟩) 3 (Fr.refl [] _) rfl HR5.out (by simp) (by decide)).mono ?_
  rintro e w6 ⟨A6, c6, rfl, ho6, hf6⟩
  have HO6 := Lib.hid ho6
  have HF6 := Lib.hid hf6
  clear ho6 hf6
  rw [show (0, outX).2.length = 7 from rfl] at HO6 ⊢
  simp only at HO6 ⊢
  have kc := conv_const w6 w6.heap.size rfl (bv abd).toArray 3 3
  simp [bv, abd] at kc
  go_wp2_with fail
  clear kc
  refine (HAp.out abd _ ex_bad (w6.alloc (.cells (bv abd).toArray 5 (3, 4))) (some ⟨w6.heap.size, 0, none⟩) 3 (HF6.out.alloc _) rfl (rd_const w6 _ rfl abd 5 _) (by simp) (by decide)).mono ?_
  rintro e w7 ⟨A7, c7, rfl, ho7, hf7⟩
  have HF7 : Hid (Fr [] w6 w7) := Lib.hid (((Fr.refl [] w6).alloc _).tr hf7)
  simp only [List.length_nil] at ho7 ⊢
  clear ho7 hf7
  go_wp2_with fail
  refine (parse_made w7 A5 n c5 exP exP_fine Hn.out (HRp.out.later (HF6.out.tr HF7.out) (by simp)) hc5' hm5).mono ?_
  rintro e w8 ⟨gm, AL, cL, rfl, -, -, hf8⟩
  have HF8 := Lib.hid hf8
  clear hf8
  rw [show exP.L.length = 4 from rfl, show exP.mt.length = 0 from rfl]
  obtain ⟨i, hi⟩ : ∃ i, exP.i = i := ⟨_, rfl⟩
  obtain ⟨o, ho⟩ : ∃ o, exP.o = o := ⟨_, rfl⟩
  obtain ⟨s1, hs1⟩ : ∃ s1, exP.s1 = s1 := ⟨_, rfl⟩
  obtain ⟨s2, hs2⟩ : ∃ s2, exP.s2 = s2 := ⟨_, rfl⟩
  rw [hi, ho, hs1, hs2]
  clear hi ho hs1 hs2
  obtain ⟨b9, hb9⟩ : ∃ b9, w8.heap.size = b9 := ⟨_, rfl⟩
  have HB9 := Lib.hid (Blk.fresh w8 45 #[.int .i64 (i : Int), .int .i64 (o : Int), .int .u32 (Crc.u s1), .int .u32 (Crc.u s2), .slice (some ⟨gm, 0, none⟩) 0 0, .slice AL 4 cL])
  rw [hb9] at HB9
  have HF9 : Hid (Fr [] w8 (w8.alloc (.cells #[.int .i64 (i : Int), .int .i64 (o : Int), .int .u32 (Crc.u s1), .int .u32 (Crc.u s2), .slice (some ⟨gm, 0, none⟩) 0 0, .slice AL 4 cL] 45))) := Lib.hid ((Fr.refl [] w8).alloc _)
  have hz9 : (w8.alloc (.cells #[.int .i64 (i : Int), .int .i64 (o : Int), .int .u32 (Crc.u s1), .int .u32 (Crc.u s2), .slice (some ⟨gm, 0, none⟩) 0 0, .slice AL 4 cL] 45)).heap.size = b9 + 1 := by simp [hb9]
  have HZ9 := Lib.hid hz9
  clear hz9
  go_upto_region 8 with fail
  generalize w8.alloc _ = W9 at *
  have hz9 := HZ9.out
  have kc := conv_const W9 (b9 + 1) hz9 (bv [66, 80, 83, 49]).toArray 4 4
  simp [bv] at kc
  go_wp2_with fail
  clear kc
  refine (parse_short (W9.alloc (.cells #[.int .u8 66, .int .u8 80, .int .u8 83, .int .u8 49] 5 (4, 5))) (some ⟨b9 + 1, 0, none⟩) 4 4 (by decide)).mono ?_
  rintro e w10 ⟨rfl, hf10⟩
  have HF10 : Hid (Fr [] W9 w10) := Lib.hid (((Fr.refl [] W9).alloc _).tr hf10)
  have hb10 := HB9.out.fr HF10.out (by simp)
  obtain ⟨y0, y1, y2, y3, y4, y5⟩ := blk6 hb10
  have hl10 : b9 < w10.heap.size := hb10.lt
  have hl11 : ¬ b9 = w10.heap.size := by omega
  have hstr := run_str (P := Try.prog) (w := w10.alloc (.cells #[.int .i64 0, .int .i64 0, .int .u32 0, .int .u32 0, .slice none 0 0, .slice none 0 0] 45)) 23 9 5 (cap := c6) Try.underlying23 Try.underlying5 Try.underlying9 (l := outX) (A := A6) (HO6.out.rd.later ((((HF7.out.tr HF8.out).tr HF9.out).tr HF10.out).alloc _) (by simp))
  simp only [show outX.length = 7 from rfl] at hstr
  unfold zeroP
  clear hf10 hb10
  go_wp2
  go_ret
  exact ⟨rfl, (((((HF5.out.tr HF6.out).tr HF7.out).tr HF8.out).tr HF9.out).tr HF10.out).alloc _⟩

end Bps
end Go.Proofs.Ytkefckoffnlkcaa
