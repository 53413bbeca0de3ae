/-
  Contracts of ups' bytes and Create.
-/
import Derived.Test.YtpbjbmmnncohfaaUpsPut
import Derived.Test.YtpbjbmmnncohfaaOctApiW
import Derived.Deep.DeepCutAuto
namespace Go.Proofs.Ytpbjbmmnncohfaa
open Go.RowKit
namespace Ups

theorem putL_le4 (d : BitVec 32) : putL d.toNat (cnt 4) = le4 d := by
  have h : cnt 4 = 4 := rfl
  rw [h]
  simp [putL, le4, Crc.byteAt, Nat.div_div_eq_div_mul]

/-- What stands ahead of the last sum. -/
def ahead (A C : Nat × BitVec 32) (m : List UInt8) : List UInt8 := [85, 80, 83, 49] ++ (Var.putV A.1 ++ (Var.putV C.1 ++ ((hk 0 m).flatMap hkB ++ (le4 A.2 ++ le4 C.2))))
theorem ahead_body (a b : List UInt8) : ahead (meas a) (meas b) (dif a b) = body a b := rfl
theorem ahead_length (A C : Nat × BitVec 32) (m : List UInt8) (hA : A.1 ≤ 16777216) (hC : C.1 ≤ 16777216) (hm : m.length ≤ 16777216) : (ahead A C m).length ≤ 117440536 := by
  have h1 := hk_len m.length 0 m (Nat.le_refl _) (by unfold Var.most; omega)
  have h2 := Var.putV_le5 (u := A.1) (by unfold Var.most; omega)
  have h3 := Var.putV_le5 (u := C.1) (by unfold Var.most; omega)
  simp only [ahead, List.length_append, le4_length, List.length_cons, List.length_nil]
  omega

/-- What bytes leaves. -/
def Written (w : World) (L : List UInt8) (e : Ending) (w' : World) : Prop :=
  ∃ g, e = .returned (.slice (some ⟨g, 0, none⟩) L.length L.length) ∧ w.heap.size ≤ g ∧ Blk w' g 5 (bv L).toArray ∧ Fr [] w w'

set_option maxRecDepth 100000 in
set_option maxHeartbeats 1000000 in
theorem bytes_any (w : World) (p g : Nat) (A C : Nat × BitVec 32) (m : List UInt8) (h : Pt w p g A C m) (hA : A.1 ≤ 16777216) (hC : C.1 ≤ 16777216) (hm : m.length ≤ 16777216) :
    Calls Try.prog 16 #[.pointer (some ⟨p, 0, none⟩)] w (Written w (signed (ahead A C m))) := by
  obtain ⟨s, hs⟩ : ∃ s, w.heap.size = s := ⟨_, rfl⟩
  have hps : p < s := by have := h.1.lt; omega
  have hgs : g < s := by have := h.2.lt; omega
  obtain ⟨w0, hw0⟩ : ∃ w0, w0 = w.alloc (.cells #[.slice none 0 0] 55) := ⟨_, rfl⟩
  have hF0 : Fr [] w w0 := by rw [hw0]; exact (Fr.refl [] w).alloc _
  have hS0 : w0.heap.size = s + 1 := by rw [hw0]; simp [hs]
  have hW0 : Wr w0 (s + 1) s (.slice none 0 0) [] := ⟨by rw [hw0, ← hs]; exact Blk.fresh _ _ _, Own.none_ _ _⟩
  have HP := Lib.hid h
  have HW0 := Lib.hid hw0
  have HF0 := Lib.hid hF0
  have HS0 := Lib.hid hS0
  have HWr := Lib.hid hW0
  have HQ : Hid (∀ W k, w.heap.size ≤ k → Blk W k 5 (bv (signed (ahead A C m))).toArray → Fr [] w W → Written w (signed (ahead A C m)) (.returned (.slice (some ⟨k, 0, none⟩) (signed (ahead A C m)).length (signed (ahead A C m)).length)) W) := Lib.hid fun W k h1 h2 h3 => ⟨k, rfl, h1, h2, h3⟩
  have HAh := Lib.hid (ahead_length A C m hA hC hm)
  generalize Written w (signed (ahead A C m)) = Q at *
  clear h hF0 hW0 hw0
  obtain ⟨a1, a2⟩ := A
  obtain ⟨c1, c2⟩ := C
  simp only at hA hC
  have kc := conv_const w0 (s + 1) HS0.out #[.int .u8 85, .int .u8 80, .int .u8 83, .int .u8 49] 4 4
  simp only [List.size_toArray, List.length_cons, List.length_nil, Nat.reduceAdd, Nat.zero_add] at kc
  have kd := conv_const w0.drew (s + 1) HS0.out #[.int .u8 85, .int .u8 80, .int .u8 83, .int .u8 49] 4 4
  simp only [List.size_toArray, List.length_cons, List.length_nil, Nat.reduceAdd, Nat.zero_add] at kd
  have ke : (convert 22 22 (.slice (some ⟨s + 1, 0, none⟩) 4 4)).run Try.prog ((w0.alloc (.cells #[.int .u8 85, .int .u8 80, .int .u8 83, .int .u8 49] 5)).drew) = .ok (.slice (some ⟨s + 1, 0, none⟩) 4 4) ((w0.alloc (.cells #[.int .u8 85, .int .u8 80, .int .u8 83, .int .u8 49] 5 (4, 5))).drew) := kd
  obtain ⟨P1, hP1⟩ : ∃ P1, (Var.putV a1).length = P1 := ⟨_, rfl⟩
  obtain ⟨P2, hP2⟩ : ∃ P2, (Var.putV c1).length = P2 := ⟨_, rfl⟩
  have hP15 : P1 ≤ 5 := by rw [← hP1]; exact Var.putV_le5 (by unfold Var.most; omega)
  have hP25 : P2 ≤ 5 := by rw [← hP2]; exact Var.putV_le5 (by unfold Var.most; omega)
  have C1 : Hid (∀ W, Fr [] w0 W → Rd W (some ⟨s + 1, 0, none⟩) [85, 80, 83, 49] → Calls Try.prog 25 #[.pointer (some ⟨s, 0, none⟩), .slice (some ⟨s + 1, 0, none⟩) 4 4] W (Wrote W (s + 1) s (.slice none 0 0) [85, 80, 83, 49])) := Lib.hid fun W hf hr =>
    wbytes W (s + 1) s (.slice none 0 0) [] (some ⟨s + 1, 0, none⟩) 4 4 [85, 80, 83, 49] (HWr.out.fr hf (by simp) (by simp)) (by have := hf.size; have := HS0.out; omega) (by simp) rfl hr (by simp)
  have CP : Hid (∀ W (x P : Nat), x ≤ 16777216 → (Var.putV x).length = P → Calls Try.prog 26 #[.int .u64 (x : Int)] W fun e w' => ∃ V, e = .returned V ∧ (∃ g, V = .slice (some ⟨g, 0, none⟩) P P ∧ Blk w' g 5 (bv (Var.putV x)).toArray) ∧ Fr [] W w') := Lib.hid (by
    intro W x P hx hP
    rw [← hP]
    exact (Var.put_any W x (by unfold Var.most; omega)).mono fun e w' ⟨g, h1, _, h3, h4⟩ => ⟨_, h1, ⟨g, rfl, h3⟩, h4⟩)
  have CB : Hid (∀ W v L V (x P : Nat), (Var.putV x).length = P → L.length + P ≤ 1000 → Wr W (s + 1) s v L → (∃ g, V = Value.slice (some ⟨g, 0, none⟩) P P ∧ Blk W g 5 (bv (Var.putV x)).toArray) → s + 1 ≤ W.heap.size → Calls Try.prog 25 #[.pointer (some ⟨s, 0, none⟩), V] W (Wrote W (s + 1) s v (L ++ Var.putV x))) := Lib.hid (by
    rintro W v L V x P hP hL hW ⟨g2, rfl, h2⟩ hB
    exact wbytes W (s + 1) s v L (some ⟨g2, 0, none⟩) P P (Var.putV x) hW hB (by omega) hP (rd_blk h2) (by simp))
  have HFt : Hid (∀ v W W', (∀ k, v.ownBlock = some k → s + 1 ≤ k) → Fr [] w W → Fr (foot s v) W W' → Fr [] w W') := Lib.hid (by
    intro v W W' hv h1 h2
    refine h1.trans h2 fun k hk => .inr ?_
    simp only [foot, List.mem_cons, Option.mem_toList] at hk
    rcases hk with rfl | hk
    · omega
    · have := hv k hk; omega)
  have o0 : Hid (∀ W, Fr [] w W → Pt W p g (a1, a2) (c1, c2) m) := Lib.hid (by
    intro W hf
    exact ⟨HP.out.1.fr hf (by simp), HP.out.2.fr hf (by simp)⟩)
  have z0 : Hid (∀ W, Fr [] w W → W.cell? ⟨p, 0, none⟩ = some (.int .u64 (a1 : Int)) ∧ W.cell? ⟨p, 2, none⟩ = some (.int .u64 (c1 : Int))) := Lib.hid (by
    intro W hf
    have h1 := (o0.out W hf).1.cell 0
    have h2 := (o0.out W hf).1.cell 2
    simp at h1 h2
    exact ⟨h1, h2⟩)
  obtain ⟨d0, d2⟩ := z0.out w0 HF0.out
  go_enter Try.func16, Try.ntmps16
  go_upto_region 2 with fail
  rw [← HW0.out]
  go_cut [23] (fun _ wx => ∃ v, Wr wx (s + 1) s v ((([85, 80, 83, 49] : List UInt8) ++ Var.putV a1) ++ Var.putV c1) ∧ Fr [] w wx)
  case first =>
    go_region_law (go_simp; first
      | (go_at_call_of 25 V2; (with_reducible refine (CB.out w4 v3 _ V2 c1 P2 hP2 HN3.out HW4.out HV2.out (by omega)).mono ?_); rintro e w5 ⟨rfl, v5, hw5, hf5, hl5⟩; have HW5 := Lib.hid hw5; have HF5 : Hid (Fr [] w w5) := Lib.hid (HFt.out v3 w4 w5 (fun k hk => (HW4.out.2.lt k hk).1) HF4.out hf5); clear hw5 hf5 hl5)
      | (go_at_call 26; (with_reducible refine (CP.out w3 c1 P2 hC hP2).mono ?_); rintro e w4 ⟨V2, rfl, hv2, hf4⟩; have HV2 := Lib.hid hv2; have HF4 : Hid (Fr [] w w4) := Lib.hid (HF3.out.tr hf4); have HW4 := Lib.hid (HW3.out.fr hf4 (by simp) (by simp)); have HN3 : Hid (((([85, 80, 83, 49] : List UInt8) ++ Var.putV a1)).length + P2 ≤ 1000) := Lib.hid (by rw [List.length_append, hP1]; simp; omega); have hs4 : s + 1 ≤ w4.heap.size := Nat.le_trans hs3 hf4.size; clear hv2 hf4)
      | (go_at_call_of 25 V1; (with_reducible refine (CB.out w2 v1 _ V1 a1 P1 hP1 (by simp; omega) HW2.out HV1.out hs2).mono ?_); rintro e w3 ⟨rfl, v3, hw3, hf3, hl3⟩; have HW3 := Lib.hid hw3; have HF3 : Hid (Fr [] w w3) := Lib.hid (HFt.out v1 w2 w3 (fun k hk => (HW2.out.2.lt k hk).1) HF2.out hf3); have hs3 : s + 1 ≤ w3.heap.size := Nat.le_trans hs2 hf3.size; obtain ⟨x0, x2⟩ := z0.out w3 HF3.out; clear hw3 hf3 hl3)
      | (go_at_call 26; (with_reducible refine (CP.out w1 a1 P1 hA hP1).mono ?_); rintro e w2 ⟨V1, rfl, hv1, hf2⟩; have HV1 := Lib.hid hv1; have HF2 : Hid (Fr [] w w2) := Lib.hid (HF1.out.tr hf2); have HW2 := Lib.hid (HW1.out.fr hf2 (by simp) (by simp)); have hs2 : s + 1 ≤ w2.heap.size := Nat.le_trans hs1 hf2.size; obtain ⟨y0, y2⟩ := z0.out w2 HF2.out; clear hv1 hf2)
      | (go_at_call 25; refine (C1.out _ (((Fr.refl [] w0).alloc _).drew) ((rd_const w0 (s + 1) HS0.out [85, 80, 83, 49] 5 (4, 5)).later (S := []) (Fr.refl [] _).drew (by simp))).mono ?_; rintro e w1 ⟨rfl, v1, hw1, hf1, hl1⟩; have HW1 := Lib.hid hw1; have HF1 : Hid (Fr [] w w1) := Lib.hid (HFt.out (.slice none 0 0) _ w1 (by simp [Value.ownBlock]) (HF0.out.alloc _).drew hf1); have hs1 : s + 1 ≤ w1.heap.size := (by have h1 := hf1.size; simp at h1; have := HS0.out; omega); obtain ⟨q0, q2⟩ := z0.out w1 HF1.out; clear hw1 hf1 hl1))
    all_goals
      go_wp2_with fail
      go_meet
      exact ⟨v5, HW5.out, HF5.out⟩
  case rest =>
    obtain ⟨v2, hw2, hf2⟩ := hcut
    have hs2 : s + 1 ≤ wc.heap.size := by have h1 := hw2.1.lt; omega
    have HPH := Lib.hid (putHunks_any wc p g s (s + 1) (a1, a2) (c1, c2) m v2 _ (o0.out wc hf2) hw2 hs2 (by omega) (by omega) (by rw [List.length_append, List.length_append, hP1, hP2]; simp; omega) hm)
    have HV2 : Hid (∀ k, v2.ownBlock = some k → s + 1 ≤ k) := Lib.hid fun k hk => (hw2.2.lt k hk).1
    have HF2 := Lib.hid hf2
    clear kc kd ke d0 d2 hw2 hf2 C1 CP CB
    go_wp2_with fail
    refine HPH.out.mono ?_
    rintro e w3 ⟨rfl, v3, hw3, hf3, hl3⟩
    have HF3 : Hid (Fr [] w w3) := Lib.hid (HFt.out v2 wc w3 HV2.out HF2.out hf3)
    have hs3 : s + 1 ≤ w3.heap.size := Nat.le_trans hs2 hf3.size
    have HW3 := Lib.hid hw3
    clear hw3 hf3 hl3 HPH HF2 HV2 hs2
    obtain ⟨L3, hL3⟩ : ∃ L3, L3 = ((([85, 80, 83, 49] : List UInt8) ++ Var.putV a1) ++ Var.putV c1) ++ (hk 0 m).flatMap hkB := ⟨_, rfl⟩
    rw [← hL3] at HW3
    have HAE : Hid (L3 ++ le4 a2 ++ le4 c2 = ahead (a1, a2) (c1, c2) m) := Lib.hid (by rw [hL3]; simp [ahead, List.append_assoc])
    have HN3 : Hid (L3.length ≤ 117440528) := Lib.hid (by have h1 := HAh.out; rw [← HAE.out, List.length_append, List.length_append, le4_length, le4_length] at h1; omega)
    clear hL3
    have CL : Hid (∀ W v L (x : BitVec 32), Wr W (s + 1) s v L → s + 1 ≤ W.heap.size → L.length ≤ 1000000000 → Calls Try.prog 28 #[.pointer (some ⟨s, 0, none⟩), .int .u64 (Crc.u x), .int .i64 4] W (Wrote W (s + 1) s v (L ++ le4 x))) := Lib.hid (by
      intro W v L x h1 h2 h3
      rw [← putL_le4]
      exact wlittleZ W (s + 1) s v L (Crc.u x) x.toNat 4 rfl h1 h2 h3)
    have hwa : IntKind.u64.wrap (Crc.u a2) = Crc.u a2 := by have := Crc.u_bounds a2; rw [IntKind.wrap_u64]; omega
    have hwb : IntKind.u64.wrap (Crc.u c2) = Crc.u c2 := by have := Crc.u_bounds c2; rw [IntKind.wrap_u64]; omega
    have z1 : Hid (∀ W, Fr [] w W → W.cell? ⟨p, 1, none⟩ = some (.int .u32 (Crc.u a2)) ∧ W.cell? ⟨p, 3, none⟩ = some (.int .u32 (Crc.u c2))) := Lib.hid (by
      intro W hf
      have h1 := (o0.out W hf).1.cell 1
      have h2 := (o0.out W hf).1.cell 3
      simp at h1 h2
      exact ⟨h1, h2⟩)
    obtain ⟨d1, d3⟩ := z1.out w3 HF3.out
    have HWd := Lib.hid (HW3.out.fr (Fr.refl [] w3).drew (by simp) (by simp))
    have HFd : Hid (Fr [] w w3.drew) := Lib.hid HF3.out.drew
    have hsd : s + 1 ≤ w3.drew.heap.size := hs3
    go_upto_region 4 with fail
    go_cut [41] (fun _ wx => ∃ v, Wr wx (s + 1) s v (ahead (a1, a2) (c1, c2) m) ∧ Fr [] w wx)
    case first =>
      go_region_law (go_simp; first
        | (go_at_call 28; (with_reducible refine (CL.out w4 v4 _ c2 HW4.out hs4 HN4.out).mono ?_); rintro e w5 ⟨rfl, v5, hw5, hf5, hl5⟩; have HW5 := Lib.hid hw5; have HF5 : Hid (Fr [] w w5) := Lib.hid (HFt.out v4 w4 w5 (fun k hk => (HW4.out.2.lt k hk).1) HF4.out hf5); clear hw5 hf5 hl5)
        | (go_at_call 28; (with_reducible refine (CL.out w3.drew v3 L3 a2 HWd.out hsd (Nat.le_trans HN3.out (by decide))).mono ?_); rintro e w4 ⟨rfl, v4, hw4, hf4, hl4⟩; have HW4 := Lib.hid hw4; have HF4 : Hid (Fr [] w w4) := Lib.hid (HFt.out v3 w3.drew w4 (fun k hk => (HW3.out.2.lt k hk).1) HFd.out hf4); have hs4 : s + 1 ≤ w4.heap.size := Nat.le_trans hsd hf4.size; have HN4 : Hid ((L3 ++ le4 a2).length ≤ 1000000000) := Lib.hid (by have := HN3.out; rw [List.length_append, le4_length]; omega); obtain ⟨x1, x3⟩ := z1.out w4 HF4.out; clear hw4 hf4 hl4))
      all_goals
        go_wp2_with fail
        go_meet
        exact ⟨v5, by rw [← HAE.out]; exact HW5.out, HF5.out⟩
    case rest =>
      obtain ⟨v6, hw6, hf6⟩ := hcut
      have hs6 : s + 1 ≤ wc.heap.size := by have h1 := hw6.1.lt; omega
      have HW6 := Lib.hid hw6
      have HF6 := Lib.hid hf6
      clear hw6 hf6 z0 z1 d1 d3 HW3 HWd HF3 HFd HN3 HAE hs3 hsd
      obtain ⟨L, hL⟩ : ∃ L, ahead (a1, a2) (c1, c2) m = L := ⟨_, rfl⟩
      rw [hL] at HW6 HQ HAh
      clear hL
      have hLn := HAh.out
      obtain ⟨N, hN⟩ : ∃ N, L.length = N := ⟨_, rfl⟩
      rw [hN] at hLn
      have HN := Lib.hid hN
      clear hN HAh
      go_wp2_with fail
      refine (wdone wc (s + 1) s v6 L HW6.out (by rw [HN.out]; omega)).mono ?_
      rintro e w7 ⟨rfl, hb7, hf7⟩
      rw [HN.out]
      have HR7 := Lib.hid (rd_blk hb7)
      have HW7 := Lib.hid (HW6.out.fr hf7 (by simp) (by simp))
      have HF7 := Lib.hid (HF6.out.tr hf7)
      have hs7 : s + 1 ≤ w7.heap.size := Nat.le_trans hs6 hf7.size
      clear hb7 hf7
      go_wp2_with fail
      refine (Crc.sum_any w7 _ N N L HN.out HR7.out (by omega)).mono ?_
      rintro e w8 ⟨rfl, hf8⟩
      have HW8 := Lib.hid (HW7.out.fr hf8 (by simp) (by simp))
      have HF8 := Lib.hid (HF7.out.tr hf8)
      have hs8 : s + 1 ≤ w8.heap.size := Nat.le_trans hs7 hf8.size
      have HSg : Hid (L ++ le4 (Crc.next 0#32 L) = signed L) := Lib.hid rfl
      generalize Crc.next 0#32 L = t at *
      have hwt : IntKind.u64.wrap (Crc.u t) = Crc.u t := by have := Crc.u_bounds t; rw [IntKind.wrap_u64]; omega
      clear hf8
      go_wp2_with fail
      refine (CL.out w8 v6 L t HW8.out hs8 (by rw [HN.out]; omega)).mono ?_
      rintro e w9 ⟨rfl, v9, hw9, hf9, hl9⟩
      have HF9 : Hid (Fr [] w w9) := Lib.hid (HFt.out v6 w8 w9 (fun k hk => (HW8.out.2.lt k hk).1) HF8.out hf9)
      rw [HSg.out] at hw9
      have HW9 := Lib.hid hw9
      have HL9 : Hid ((signed L).length ≤ 1000000000) := Lib.hid (by rw [signed_length, HN.out]; omega)
      clear hw9 hf9 hl9
      go_wp2_with fail
      refine (wdone w9 (s + 1) s v9 (signed L) HW9.out HL9.out).mono ?_
      rintro e w10 ⟨rfl, hb10, hf10⟩
      have HX := Lib.hid (HQ.out w10 w9.heap.size HF9.out.size hb10 (HF9.out.tr hf10))
      clear hb10 hf10
      go_wp2
      exact HX.out

end Ups
end Go.Proofs.Ytpbjbmmnncohfaa
