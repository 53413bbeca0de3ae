/-
  Contracts of bpsmake's pays and tellLeft.
-/
import Derived.Test.YtokfcknfkhlmfaaBmTell
import Derived.Test.YtokfcknfkhlmfaaBmInv
namespace Go.Proofs.Ytokfcknfkhlmfaa
open Go.RowKit
namespace Bm

set_option maxRecDepth 100000 in
set_option maxHeartbeats 2000000 in
theorem pays_any (w : World) (m q ca cb la lb lk s t told u y o k n : Nat) (mv : Int) (A kn : Option Addr) (hk : k < 4) (hn2 : n ≤ 16777216) (hm0 : -1073741824 ≤ mv) (hm1 : mv ≤ 1073741824) (hto : told ≤ u) (hu : u ≤ lb) (hcb : lb ≤ cb) (hnb : lb ≤ 16777216)
    (h : Blk w m 92 (mkV A (some ⟨y, o, none⟩) ca cb la lb kn lk s t told u q)) :
    Calls Try.prog 34 #[.pointer (some ⟨m, 0, none⟩), .agg #[.int .i64 (k : Int), .int .i64 (n : Int), .int .i64 mv, .slice none 0 0]] w fun e w' => e = .returned (.bool (pay told u (k, n, mv))) ∧ Fr [] w w' := by
  obtain ⟨s3, hs3⟩ : ∃ s3, w.heap.size = s3 := ⟨_, rfl⟩
  have hx := Blk.fresh w 82 #[.int .i64 (k : Int), .int .i64 (n : Int), .int .i64 mv, .slice none 0 0]
  rw [hs3] at hx
  have hf : Fr [] w (w.alloc (.cells #[.int .i64 (k : Int), .int .i64 (n : Int), .int .i64 mv, .slice none 0 0] 82)) := (Fr.refl [] w).alloc _
  have HX := Lib.hid hx
  have HF := Lib.hid hf
  have HM := Lib.hid (h.fr hf (by simp))
  obtain ⟨G, hG⟩ : ∃ G, gn k n mv = G := ⟨_, rfl⟩
  have HC : Hid (∀ W, Calls Try.prog 57 #[.agg #[.int .i64 (k : Int), .int .i64 (n : Int), .int .i64 mv, .slice none 0 0]] W fun e w' => e = .returned (.int .i64 G) ∧ Fr [] W w') := Lib.hid fun W => by
    rw [← hG]
    exact gain_any W k n 0 0 mv none hk hn2 hm0 hm1
  have HG := Lib.hid hG
  clear hx hf h hG hm0 hm1
  go_enter Try.func34, Try.ntmps34
  go_upto_region 1 with fail
  generalize w.alloc _ = w1 at *
  obtain ⟨-, -, -, -, -, -, c6, c7, -⟩ := blk9 HM.out
  by_cases he : told = u
  · subst he
    have HE : Hid (pay told told (k, n, mv) = decide (0 ≤ G)) := Lib.hid (by unfold pay; rw [if_pos rfl]; simp only [HG.out])
    go_wp2_with fail
    go_quiet (fail)
    have hx2 : Blk (w1.drewN nq) s3 82 #[.int .i64 (k : Int), .int .i64 (n : Int), .int .i64 mv, .slice none 0 0] := HX.out
    have HF2 : Hid (Fr [] w (w1.drewN nq)) := Lib.hid (HF.out.drewN nq)
    obtain ⟨d0, d1, d2, d3⟩ := Bps.blk4 hx2
    clear hx2 c6 c7
    generalize w1.drewN nq = w2 at *
    go_wp2_with fail
    refine (HC.out w2).mono ?_
    rintro e w3 ⟨rfl, hf3⟩
    have HF3 := Lib.hid (HF2.out.tr hf3)
    clear hf3 d0 d1 d2 d3
    go_wp2
    go_ret
    exact ⟨by rw [HE.out]; rfl, HF3.out⟩
  · obtain ⟨N, hN⟩ : ∃ N, told + N = u := ⟨u - told, by omega⟩
    have hne : ((told : Int) == (u : Int)) = false := by simp; omega
    obtain ⟨Z, hZ⟩ : ∃ Z, sz 1 N 0 = Z := ⟨_, rfl⟩
    have HL : Hid (∀ W, Fr [] w1 W → Calls Try.prog 59 #[.pointer (some ⟨m, 0, none⟩)] W fun e w' => e = .returned (.agg #[.int .i64 1, .int .i64 (N : Int), .int .i64 0, .slice (some ⟨y, o + told, none⟩) N (cb - told)]) ∧ Fr [] W w') := Lib.hid fun W hW => left_any W m q ca cb la lb lk s t told u N y o A kn hN (by omega) hu hcb hnb (HM.out.fr hW (by simp))
    have HS : Hid (∀ W, Calls Try.prog 58 #[.agg #[.int .i64 1, .int .i64 (N : Int), .int .i64 0, .slice (some ⟨y, o + told, none⟩) N (cb - told)]] W fun e w' => e = .returned (.int .i64 (Z : Int)) ∧ Fr [] W w') := Lib.hid fun W => by
      rw [← hZ]
      exact size_any W 1 N N (cb - told) 0 (some ⟨y, o + told, none⟩) (by decide) (by omega) (by omega) (by decide) (by decide)
    have HE : Hid (pay told u (k, n, mv) = decide ((Z : Int) ≤ G)) := Lib.hid (by unfold pay; rw [if_neg he, show u - told = N by omega, hZ]; simp only [HG.out])
    clear hZ
    go_wp2_with fail
    go_quiet (fail)
    have hx2 : Blk (w1.drewN nq) s3 82 #[.int .i64 (k : Int), .int .i64 (n : Int), .int .i64 mv, .slice none 0 0] := HX.out
    have HF2 : Hid (Fr [] w1 (w1.drewN nq)) := Lib.hid ((Fr.refl [] w1).drewN nq)
    obtain ⟨d0, d1, d2, d3⟩ := Bps.blk4 hx2
    clear hx2 c6 c7
    generalize w1.drewN nq = w2 at *
    go_wp2_with fail
    refine (HC.out w2).mono ?_
    rintro e w3 ⟨rfl, hf3⟩
    have HF3 := Lib.hid (HF2.out.tr hf3)
    clear hf3 d0 d1 d2 d3
    go_wp2_with fail
    refine (HL.out w3 HF3.out).mono ?_
    rintro e w4 ⟨rfl, hf4⟩
    have HF4 := Lib.hid (HF3.out.tr hf4)
    clear hf4
    go_wp2_with fail
    refine (HS.out w4).mono ?_
    rintro e w5 ⟨rfl, hf5⟩
    have HF5 := Lib.hid (HF.out.tr (HF4.out.tr hf5))
    clear hf5
    go_wp2
    go_ret
    exact ⟨by rw [HE.out]; rfl, HF5.out⟩

/-- What is told of what is left. -/
theorem left_bytes (b : List UInt8) (told N : Nat) (hN : 0 < N) : (leftL b told (told + N)).flatMap Bps.actB = Var.putV ((N - 1) * 4 + 1) ++ (b.drop told).take N := by
  unfold leftL
  rw [if_pos (by omega)]
  simp only [List.flatMap_cons, List.flatMap_nil, List.append_nil]
  unfold Bps.actB
  rw [Bps.tail1 _ rfl]
  simp [leftA, Bps.headN]

set_option maxRecDepth 100000 in
set_option maxHeartbeats 2000000 in
theorem tellLeft_same (w0 w : World) (m q B : Nat) (A D : Option Addr) (ca cb la lb lk : Nat) (a b : List UInt8) (kn : Option Addr) (s t told : Nat) (v : Value) (l : List UInt8)
    (h : Ms w0 m q B A D ca cb la lb lk a b kn s t told told v l w) :
    Calls Try.prog 35 #[.pointer (some ⟨m, 0, none⟩)] w (Told w0 w m q B A D ca cb la lb lk a b kn s t told told (l ++ (leftL b told told).flatMap Bps.actB)) := by
  have hlt : ¬ (told : Int) < told := by omega
  have HM := Lib.hid h
  obtain ⟨-, -, -, -, -, -, c6, c7, -⟩ := blk9 h.mb
  have HQ : Hid (∀ W, Ms w0 m q B A D ca cb la lb lk a b kn s t told told v l W → KeepA w W → Told w0 w m q B A D ca cb la lb lk a b kn s t told told (l ++ (leftL b told told).flatMap Bps.actB) (.returned (.tuple #[])) W) := Lib.hid fun W h1 h2 => ⟨rfl, h2, v, by unfold leftL; rw [if_neg (by omega)]; simpa using h1⟩
  generalize Told w0 w m q B A D ca cb la lb lk a b kn s t told told (l ++ (leftL b told told).flatMap Bps.actB) = Q at *
  clear h
  go_enter Try.func35, Try.ntmps35
  go_wp2_with fail
  go_quiet (fail)
  go_wp2_with fail
  go_end0
  exact HQ.out _ (HM.out.later ((Fr.refl [] w).drewN nq)) (keep_fr ((Fr.refl [] w).drewN nq))

set_option maxRecDepth 100000 in
set_option maxHeartbeats 2000000 in
theorem tellLeft_any (w0 w : World) (m q B y o : Nat) (A : Option Addr) (ca cb la lb lk : Nat) (a b : List UInt8) (kn : Option Addr) (s t told u : Nat) (v : Value) (l : List UInt8) (hlb : b.length = lb) (hcb : lb ≤ cb) (hnb : lb ≤ 16777216) (hto : told ≤ u) (hu : u ≤ lb) (hl : l.length ≤ 100000000) (hs : s ≤ 16777216) (ht : t ≤ 16777216)
    (hD : ∀ j (hj : j < b.length), w0.cell? ⟨y, o + j, none⟩ = some (.int .u8 (b[j].toNat : Int)))
    (h : Ms w0 m q B A (some ⟨y, o, none⟩) ca cb la lb lk a b kn s t told u v l w) :
    Calls Try.prog 35 #[.pointer (some ⟨m, 0, none⟩)] w (Told w0 w m q B A (some ⟨y, o, none⟩) ca cb la lb lk a b kn s t u u (l ++ (leftL b told u).flatMap Bps.actB)) := by
  by_cases he : told < u
  · obtain ⟨N, hN⟩ : ∃ N, told + N = u := ⟨u - told, by omega⟩
    have hlt : (told : Int) < u := by omega
    have HB := Lib.hid (left_bytes b told N (by omega))
    have HT : Hid (∀ W, Ms w0 m q B A (some ⟨y, o, none⟩) ca cb la lb lk a b kn s t told u v l W → Calls Try.prog 36 #[.pointer (some ⟨m, 0, none⟩), .agg #[.int .i64 1, .int .i64 (N : Int), .int .i64 0, .slice (some ⟨y, o + told, none⟩) N (cb - told)]] W (Told w0 W m q B A (some ⟨y, o, none⟩) ca cb la lb lk a b kn s t u u (l ++ (leftL b told u).flatMap Bps.actB))) := Lib.hid fun W hW => by
      have hr := Rd.cut hD told N
      have := tell_any w0 W m q B A (some ⟨y, o, none⟩) ca cb la lb lk a b kn s t told u v l 1 N N (cb - told) ((N - 1) * 4 + 1) s t 0 (some ⟨y, o + told, none⟩) ((b.drop told).take N) (by decide) (by omega) (by omega) (by decide) (by decide) rfl (by rw [List.length_take, List.length_drop]; omega) (by omega) (fun W' hW' => hr.later hW' (by simp)) (by simp) hl (by omega) hs ht (by simp) (by simp) hW
      rw [if_neg (by decide), List.append_nil, ← HB.out, hN] at this
      exact this
    have HL : Hid (∀ W, Ms w0 m q B A (some ⟨y, o, none⟩) ca cb la lb lk a b kn s t told u v l W → Calls Try.prog 59 #[.pointer (some ⟨m, 0, none⟩)] W fun e w' => e = .returned (.agg #[.int .i64 1, .int .i64 (N : Int), .int .i64 0, .slice (some ⟨y, o + told, none⟩) N (cb - told)]) ∧ Fr [] W w') := Lib.hid fun W hW => left_any W m q ca cb la lb lk s t told u N y o A kn hN (by omega) hu hcb hnb hW.mb
    have HM := Lib.hid h
    obtain ⟨-, -, -, -, -, -, c6, c7, -⟩ := blk9 h.mb
    have HQ : Hid (∀ e W w3, KeepA w w3 → Told w0 w3 m q B A (some ⟨y, o, none⟩) ca cb la lb lk a b kn s t u u (l ++ (leftL b told u).flatMap Bps.actB) e W → e = .returned (.tuple #[]) ∧ Told w0 w m q B A (some ⟨y, o, none⟩) ca cb la lb lk a b kn s t u u (l ++ (leftL b told u).flatMap Bps.actB) e W) := Lib.hid fun e W w3 h0 h => ⟨h.1, h.1, h0.trans h.2.1, h.2.2⟩
    generalize Told w0 w m q B A (some ⟨y, o, none⟩) ca cb la lb lk a b kn s t u u (l ++ (leftL b told u).flatMap Bps.actB) = Q at *
    clear h hD hl
    go_enter Try.func35, Try.ntmps35
    go_wp2_with fail
    go_quiet (fail)
    have HM2 : Hid (Ms w0 m q B A (some ⟨y, o, none⟩) ca cb la lb lk a b kn s t told u v l (w.drewN nq)) := Lib.hid (HM.out.later ((Fr.refl [] w).drewN nq))
    have HK2 : Hid (KeepA w (w.drewN nq)) := Lib.hid (keep_fr ((Fr.refl [] w).drewN nq))
    clear c6 c7 HM
    generalize w.drewN nq = w2 at *
    go_wp2_with fail
    refine (HL.out w2 HM2.out).mono ?_
    rintro e w3 ⟨rfl, hf3⟩
    have HM3 := Lib.hid (HM2.out.later hf3)
    have HK3 := Lib.hid (HK2.out.trans (keep_fr hf3))
    clear hf3
    go_wp2_with fail
    refine (HT.out w3 HM3.out).mono ?_
    intro e w4 h4
    obtain ⟨he4, h5⟩ := HQ.out e w4 w3 HK3.out h4
    subst he4
    have HE := Lib.hid h5
    clear h4 h5
    go_wp2_with fail
    go_end0
    exact HE.out
  · obtain rfl : told = u := by omega
    exact tellLeft_same w0 w m q B A (some ⟨y, o, none⟩) ca cb la lb lk a b kn s t told v l h

end Bm
end Go.Proofs.Ytokfcknfkhlmfaa
