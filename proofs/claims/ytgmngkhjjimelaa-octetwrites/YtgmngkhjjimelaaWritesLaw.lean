/-
  picklocklaw01.OctetWrites returns true for every input: what is written is what the document says. No condition.
-/
import Derived.Test.YtgmngkhjjimelaaWritesInv
namespace Go.Proofs.Ytgmngkhjjimelaa
open Go.RowKit

set_option maxRecDepth 100000 in
set_option maxHeartbeats 4000000 in
theorem writes_walk (a0 : Option Addr) (cap0 : Nat) (rs : List PutR) (w : World) (hr : RdP w a0 rs) (_hlc : rs.length ≤ cap0) (_hcm : cap0 ≤ maxLen) :
    Calls Try.prog 4 #[.slice a0 rs.length cap0] w fun e w' => e = .returned (.bool true) ∧ Below w.heap.size w w' := by
  obtain ⟨i0, hi, hz0, hz1, hz2⟩ := info_parts info5
  have HR := Lib.hid hr
  unfold maxLen at _hcm
  clear hr
  go_enter Try.func4, Try.ntmps4
  go_wp2_with (go_at_call 8; refine (shown_any _).mono ?_; rintro e w1 ⟨rfl, hf1⟩; have HF1 := Lib.hid hf1; have hs1 := hf1.size; clear hf1)
  have HI0 : Hid (WI w w1.heap.size (.slice (some ⟨w1.heap.size + 1, 0, none⟩) 0 0) [] [] ((w1.alloc (.cells #[.slice none 0 0] 47)).alloc (.cells #[] 5))) := by
    have h1 : Fr [] w1 (w1.alloc (.cells #[.slice none 0 0] 47)) := (Fr.refl [] w1).alloc _
    refine ⟨.slice none 0 0, ⟨(Blk.fresh w1 47 #[.slice none 0 0]).fr ((Fr.refl [] _).alloc _) (by simp), Own.none_ _ _⟩, ?_, by simp [Value.ownBlock], (HF1.out.tr h1).alloc _, hs1⟩
    have := Own.empty (w1.alloc (.cells #[.slice none 0 0] 47)) w.heap.size (by simp; omega)
    simpa using this
  go_loopw [5, 6] (fun o i wr => ∃ k A l c, (k ≤ rs.length ∧ k ≤ 50) ∧ i = .int .i64 ((k : Nat) : Int) ∧ o = .slice A l.length c ∧ l.length ≤ 20 * k ∧ WI w w1.heap.size o l l wr) (fun _ i _ => 50 - (intOf i).toNat)
  case atStart => exact ⟨0, _, [], 0, by omega, rfl, rfl, by simp, HI0.out⟩
  case round =>
    obtain ⟨k, Aw, l, cw, ⟨hkl, hk50⟩, rfl, rfl, hll, hi0⟩ := hrel
    have HI := Lib.hid hi0
    clear hi0
    by_cases hgo : k < rs.length ∧ k < 50
    · obtain ⟨hlt, hlt50⟩ := hgo
      obtain ⟨b, o, rfl, hc⟩ := HR.out (by omega)
      have hck := hc k hlt
      clear hc
      generalize rs[k] = r at *
      obtain ⟨K, N, U, A, n, c, lb⟩ := r
      have HCK := Lib.hid hck
      obtain ⟨q0, q1, q2, q3, q4, q5, q6, q7, q8, q9⟩ := hck
      simp only at q0 q1 q2 q3 q4 q5 q6 q7 q8 q9
      have HFR : Hid (Fr [] w wr) := HI.out.fr1
      have c0 := HFR.out.cell q0 (by simp)
      have c1 := HFR.out.cell q1 (by simp)
      have c2 := HFR.out.cell q2 (by simp)
      have c3 := HFR.out.cell q3 (by simp)
      obtain ⟨t, ht, htn⟩ : ∃ t : Nat, min (n : Int) 20 = (t : Int) ∧ t ≤ n ∧ t ≤ 20 := ⟨min n 20, by omega, by omega⟩
      unfold maxLen at q8
      have HR0 : Hid (Rd ((wr.alloc (.cells #[] 5)).drew) A (lb.take t)) := rd_take ((q4.later HFR.out (by simp)).later (((Fr.refl [] wr).alloc _).drew) (by simp)) t
      have HL0 : Hid ((lb.take t).length = t) := by unfold Hid; rw [List.length_take, q5]; omega
      have HOE : Hid (Own ((wr.alloc (.cells #[] 5)).drew) wr.heap.size (.slice (some ⟨wr.heap.size, 0, none⟩) 0 0) []) := Own.empty wr _ (Nat.le_refl _)
      have HC0 := Lib.hid q6
      have HF0 : Hid (Fr [] wr ((wr.alloc (.cells #[] 5)).drew)) := ((Fr.refl [] wr).alloc _).drew
      have HQ9 := Lib.hid q9
      have j0 : (0 : Int) ≤ (k : Int) := by omega
      have j1 : (k : Int) < (rs.length : Int) := by omega
      have j2 : (0 : Int) ≤ (t : Int) := by omega
      have j3 : (t : Int) ≤ (c : Int) := by omega
      have HQ0 := Lib.hid q0
      have HQ1 := Lib.hid q1
      have HQ2 := Lib.hid q2
      clear q0 q1 q2 q3 q4 q5 q6 q9 HCK
      go_wp2_with fail
      go_region_held3 (fun w' => w'.cell? ⟨b, o + k * 4 + 3, none⟩ = some (.slice A n c)) (first | exact hs0 | go_keep)
        (first | (refine step_app _ rfl (.tmp 22) (.tmp 35) 22 rfl wr.heap.size i0 Try.underlying22 hi hz0 hz1 hz2 (.slice (some ⟨wr.heap.size, 0, none⟩) 0 0) [] 0 rfl (by rfl) HOE.out A t c (lb.take t) (by rfl) HL0.out HR0.out HC0.out (by omega) (by simp) ?_; intro A2 cb w2 ho2 hf2 hl2; have hf2' := HF0.out.trans hf2 (by simp [Value.ownBlock]); have hs0 := hf2'.cell c3 (by simp); have HO2 := Lib.hid ho2; have HF2 := Lib.hid hf2'; clear ho2 hf2 hl2 hf2'))
      all_goals
        have e0 := HF2.out.cell c0 (by simp)
        have hw2 := HF2.out.size
        clear c0 c1 c2 c3 hs0 ht
        rcases (show K = 1 ∨ K = 2 ∨ K = 3 ∨ (K ≠ 1 ∧ K ≠ 2 ∧ K ≠ 3) by omega) with rfl | rfl | rfl | ⟨hK1, hK2, hK3⟩
        · have HO2' : Hid (Own w2 wr.heap.size (.slice A2 t cb) (lb.take t)) := by have h := HO2.out; rw [List.nil_append, Nat.zero_add] at h; exact h
          go_wp2_with fail
          refine (wi_bytes2 A2 t cb (lb.take t) HI.out HF2.out (by omega) HL0.out HO2'.out.rd HO2'.out.nilcap).mono ?_
          rintro e w3 ⟨rfl, hi3, S, hS, hS2⟩
          have HI3 := Lib.hid hi3
          have HR3 : Hid (Rd w3 A2 (lb.take t)) := (HO2'.out.fr hS (fun j hj hm => by have := (HO2'.out.lt j hj).1; have := (hS2 j hm).2; omega)).rd
          clear hi3 hS hS2
          go_wp2_with (at_builtin; refine wpList_appN _ rfl (.tmp 64) (.tmp 65) 22 rfl w.heap.size i0 Try.underlying22 hi hz0 hz1 hz2 (.slice Aw l.length cw) l l.length rfl rfl HI3.out.own A2 t cb (lb.take t) rfl HL0.out HR3.out HO2'.out.nilcap (by omega) HI3.out.fr1.size ?_)
          intro A9 c9 w5 ho5 hf5 hl5
          have hi9 := HI3.out.app ho5 hf5 hl5
          clear ho5 hf5 hl5
          have HI9 := Lib.hid hi9
          clear hi9
          go_wp2_with fail
          refine (wi_len (l.length + t) (by simp [HL0.out]) HI9.out).mono ?_
          rintro e w9 ⟨rfl, rfl⟩
          go_wp2
          go_roundw
          case rel => exact ⟨k + 1, A9, l ++ lb.take t, c9, by omega, by go_num, by rw [List.length_append, HL0.out], by rw [List.length_append, HL0.out]; omega, HI9.out⟩
          case measure => simp [intOf]; omega
        · have HI2 : Hid (WI w w1.heap.size (.slice Aw l.length cw) l l w2.drew) := HI.out.fr HF2.out.drew
          have d1 := (HFR.out.tr HF2.out).cell HQ1.out (by simp)
          have d2 := (HFR.out.tr HF2.out).cell HQ2.out (by simp)
          go_wp2_with fail
          go_region_held3 (fun w' => w'.cell? ⟨b, o + k * 4 + 2, none⟩ = some (.int .u64 (U : Int)) ∧ w'.cell? ⟨b, o + k * 4 + 1, none⟩ = some (.int .i64 N)) (first | exact ⟨hs2, hs1⟩ | go_keep)
            (first | (go_at_call 20; refine (wi_big U N HI2.out (by omega)).mono ?_; rintro e w3 ⟨rfl, hi3, _⟩; have hs1 := hi3.fr1.cell HQ1.out (by simp); have hs2 := hi3.fr1.cell HQ2.out (by simp); have HI3 := Lib.hid hi3; clear hi3))
          have HI3' : Hid (WI w w1.heap.size (.slice Aw l.length cw) (l ++ putB U (cnt N)) l w3.drew) := HI3.out.fr (Fr.refl [] w3).drew
          have hcn := cnt_le N
          go_wp2_with fail
          go_region_held3 (fun w' => w'.cell? ⟨b, o + k * 4 + 2, none⟩ = some (.int .u64 (U : Int)) ∧ w'.cell? ⟨b, o + k * 4 + 1, none⟩ = some (.int .i64 N)) (first | exact ⟨ht2, ht1⟩ | exact ⟨hr2, hr1⟩ | go_keep)
            (first
              | (go_at_call 21; refine (put_big _ U N HQ9.out).mono ?_; rintro e w4 ⟨A4, c4, rfl, ho4, hf4⟩; have HI4 := Lib.hid (HI3'.out.fr hf4); have hr1 := HI4.out.fr1.cell HQ1.out (by simp); have hr2 := HI4.out.fr1.cell HQ2.out (by simp); have HO4 := Lib.hid ho4; clear ho4 hf4)
              | (refine step_app _ rfl (.tmp 81) (.tmp 92) 22 rfl w.heap.size i0 Try.underlying22 hi hz0 hz1 hz2 (.slice Aw l.length cw) l l.length rfl rfl HI4.out.own A4 (cnt N) c4 (putB U (cnt N)) rfl (putB_length U (cnt N)) HO4.out.rd HO4.out.nilcap (by omega) HI4.out.fr1.size ?_; intro A9 c9 w5 ho5 hf5 hl5; have hi9 := HI4.out.app ho5 hf5 hl5; have ht1 := hi9.fr1.cell HQ1.out (by simp); have ht2 := hi9.fr1.cell HQ2.out (by simp); clear ho5 hf5 hl5))
          have HI9 := Lib.hid hi9
          clear hi9
          go_wp2_with fail
          refine (wi_len (l.length + cnt N) (by simp [putB_length]) HI9.out).mono ?_
          rintro e w9 ⟨rfl, rfl⟩
          go_wp2
          go_roundw
          case rel => exact ⟨k + 1, A9, l ++ putB U (cnt N), c9, by omega, by go_num, by rw [List.length_append, putB_length], by rw [List.length_append, putB_length]; omega, HI9.out⟩
          case measure => simp [intOf]; omega
        · have HI2 : Hid (WI w w1.heap.size (.slice Aw l.length cw) l l w2.drew) := HI.out.fr HF2.out.drew
          have d1 := (HFR.out.tr HF2.out).cell HQ1.out (by simp)
          have d2 := (HFR.out.tr HF2.out).cell HQ2.out (by simp)
          go_wp2_with fail
          go_region_held3 (fun w' => w'.cell? ⟨b, o + k * 4 + 2, none⟩ = some (.int .u64 (U : Int)) ∧ w'.cell? ⟨b, o + k * 4 + 1, none⟩ = some (.int .i64 N)) (first | exact ⟨hs2, hs1⟩ | go_keep)
            (first | (go_at_call 22; refine (wi_little U N HI2.out (by omega)).mono ?_; rintro e w3 ⟨rfl, hi3, _⟩; have hs1 := hi3.fr1.cell HQ1.out (by simp); have hs2 := hi3.fr1.cell HQ2.out (by simp); have HI3 := Lib.hid hi3; clear hi3))
          have HI3' : Hid (WI w w1.heap.size (.slice Aw l.length cw) (l ++ putL U (cnt N)) l w3.drew) := HI3.out.fr (Fr.refl [] w3).drew
          have hcn := cnt_le N
          go_wp2_with fail
          go_region_held3 (fun w' => w'.cell? ⟨b, o + k * 4 + 2, none⟩ = some (.int .u64 (U : Int)) ∧ w'.cell? ⟨b, o + k * 4 + 1, none⟩ = some (.int .i64 N)) (first | exact ⟨ht2, ht1⟩ | exact ⟨hr2, hr1⟩ | go_keep)
            (first
              | (go_at_call 21; refine (put_little _ U N HQ9.out).mono ?_; rintro e w4 ⟨A4, c4, rfl, ho4, hf4⟩; have HI4 := Lib.hid (HI3'.out.fr hf4); have hr1 := HI4.out.fr1.cell HQ1.out (by simp); have hr2 := HI4.out.fr1.cell HQ2.out (by simp); have HO4 := Lib.hid ho4; clear ho4 hf4)
              | (refine step_app _ rfl (.tmp 108) (.tmp 119) 22 rfl w.heap.size i0 Try.underlying22 hi hz0 hz1 hz2 (.slice Aw l.length cw) l l.length rfl rfl HI4.out.own A4 (cnt N) c4 (putL U (cnt N)) rfl (putL_length U (cnt N)) HO4.out.rd HO4.out.nilcap (by omega) HI4.out.fr1.size ?_; intro A9 c9 w5 ho5 hf5 hl5; have hi9 := HI4.out.app ho5 hf5 hl5; have ht1 := hi9.fr1.cell HQ1.out (by simp); have ht2 := hi9.fr1.cell HQ2.out (by simp); clear ho5 hf5 hl5))
          have HI9 := Lib.hid hi9
          clear hi9
          go_wp2_with fail
          refine (wi_len (l.length + cnt N) (by simp [putL_length]) HI9.out).mono ?_
          rintro e w9 ⟨rfl, rfl⟩
          go_wp2
          go_roundw
          case rel => exact ⟨k + 1, A9, l ++ putL U (cnt N), c9, by omega, by go_num, by rw [List.length_append, putL_length], by rw [List.length_append, putL_length]; omega, HI9.out⟩
          case measure => simp [intOf]; omega
        · have b1 : (K == 1) = false := by simpa using hK1
          have b2 : (K == 2) = false := by simpa using hK2
          have b3 : (K == 3) = false := by simpa using hK3
          clear hK1 hK2 hK3
          have HI2 : Hid (WI w w1.heap.size (.slice Aw l.length cw) l l w2) := HI.out.fr HF2.out
          have d2 := (HFR.out.tr HF2.out).cell HQ2.out (by simp)
          have HE := Lib.hid (byte_step U U 0 (by simp))
          generalize UInt8.ofNat (U / 256 ^ 0 % 256) = x at *
          go_wp2_with fail
          refine (wi_byte _ x HE.out HI2.out (by omega)).mono ?_
          rintro e w3 ⟨rfl, hi3, _⟩
          have HI3 := Lib.hid hi3
          have d3 := hi3.fr1.cell HQ2.out (by simp)
          clear hi3
          go_wp2_with (at_builtin; refine wpList_appN _ rfl (.tmp 50) (.tmp 57) 22 rfl w.heap.size i0 Try.underlying22 hi hz0 hz1 hz2 (.slice Aw l.length cw) l l.length rfl rfl (HI3.out.fr ((Fr.refl [] w3).alloc _)).own (some ⟨w3.heap.size, 0, none⟩) 1 1 [x] rfl rfl (rd_one' w3 _ x HE.out) (by simp) (by omega) (HI3.out.fr ((Fr.refl [] w3).alloc _)).fr1.size ?_)
          intro A9 c9 w5 ho5 hf5 hl5
          have hi9 := (HI3.out.fr ((Fr.refl [] w3).alloc _)).app ho5 hf5 hl5
          clear ho5 hf5 hl5
          have HI9 := Lib.hid hi9
          clear hi9
          go_wp2_with fail
          refine (wi_len (l.length + 1) (by simp) HI9.out).mono ?_
          rintro e w9 ⟨rfl, rfl⟩
          go_wp2
          go_roundw
          case rel => exact ⟨k + 1, A9, l ++ [x], c9, by omega, by go_num, by rw [List.length_append, List.length_singleton], by rw [List.length_append, List.length_singleton]; omega, HI9.out⟩
          case measure => simp [intOf]; omega
    · obtain ⟨Aq, cq, hvq, hrq, _⟩ := HI.out.own.slice
      cases hvq
      have HRW := Lib.hid hrq
      clear hrq
      rcases (show (k < rs.length ∧ ¬ k < 50) ∨ ¬ k < rs.length by omega) with ⟨hlt, h50⟩ | hlt
      all_goals
        go_wp2_with fail
        refine (wi_done l.length rfl HI.out (by omega)).mono ?_
        rintro e w2 ⟨rfl, hb2, hf2⟩
        have HR2 := Lib.hid (rd_blk hb2)
        have HF2 := Lib.hid hf2
        clear hb2 hf2
        go_wp2_with fail
        refine (same_eq w2 _ _ _ _ _ _ l rfl rfl HR2.out (HRW.out.later HF2.out (by simp))).mono ?_
        rintro e w3 ⟨rfl, rfl⟩
        go_wp2
        go_ret
        exact ⟨rfl, (HI.out.fr1.tr HF2.out).below (by simp) (Nat.le_refl _)⟩

end Go.Proofs.Ytgmngkhjjimelaa
