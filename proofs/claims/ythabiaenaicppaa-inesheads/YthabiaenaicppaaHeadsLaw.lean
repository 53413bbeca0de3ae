/-
  picklocklaw09.InesHeads returns true for every input. No condition.
-/
import Derived.Test.YthabiaenaicppaaIneShown
import Derived.Deep.DeepCutAuto
namespace Go.Proofs.Ythabiaenaicppaa
open Go.RowKit
namespace Ine

/-- A byte of Rest. -/
theorem rest_cell {w : World} {u : Nat} {t : TypeId} (a0 a1 b0 b1 r0 r1 r2 r3 r4 r5 r6 r7 x : UInt8) (m o : Int) (h : Blk w u t #[.int .u8 (a0.toNat : Int), .int .u8 (a1.toNat : Int), .int .u8 (b0.toNat : Int), .int .u8 (b1.toNat : Int), .int .u8 (r0.toNat : Int), .int .u8 (r1.toNat : Int), .int .u8 (r2.toNat : Int), .int .u8 (r3.toNat : Int), .int .u8 (r4.toNat : Int), .int .u8 (r5.toNat : Int), .int .u8 (r6.toNat : Int), .int .u8 (r7.toNat : Int), .int .u8 (x.toNat : Int), .int .i64 m, .int .i64 o]) (i : Nat) (hi : i < 8) : ∃ y : UInt8, w.cell? ⟨u, 4 + i, none⟩ = some (.int .u8 (y.toNat : Int)) := by
  rw [h.cell]
  rcases (by omega : i = 0 ∨ i = 1 ∨ i = 2 ∨ i = 3 ∨ i = 4 ∨ i = 5 ∨ i = 6 ∨ i = 7) with rfl | rfl | rfl | rfl | rfl | rfl | rfl | rfl
  · exact ⟨r0, rfl⟩
  · exact ⟨r1, rfl⟩
  · exact ⟨r2, rfl⟩
  · exact ⟨r3, rfl⟩
  · exact ⟨r4, rfl⟩
  · exact ⟨r5, rfl⟩
  · exact ⟨r6, rfl⟩
  · exact ⟨r7, rfl⟩

theorem p255 (z : Int) : ∃ p : Nat, (bits .and .i64 z 255).tmod 4 = (p : Int) ∧ p < 4 := by
  have h : (BitVec.ofInt 64 255).toNat = 2 ^ 8 - 1 := by decide
  have key : (BitVec.ofInt 64 z &&& BitVec.ofInt 64 255).toNat = (z % ((2 ^ 64 : Nat) : Int)).toNat % 2 ^ 8 := by
    rw [BitVec.toNat_and, BitVec.toNat_ofInt, h, Nat.and_two_pow_sub_one_eq_mod]
  have e : bits .and .i64 z 255 = IntKind.i64.wrap ((BitVec.ofInt 64 z &&& BitVec.ofInt 64 255).toNat : Nat) := rfl
  rw [e, key, IntKind.wrap_i64]
  obtain ⟨k, hk⟩ : ∃ k, (z % ((2 ^ 64 : Nat) : Int)).toNat % 2 ^ 8 = k := ⟨_, rfl⟩
  have hk2 : k < 256 := by rw [← hk]; exact Nat.mod_lt _ (by decide)
  rw [hk, show ((k : Nat) : Int) + 9223372036854775808 = ((k + 9223372036854775808 : Nat) : Int) by omega]
  refine ⟨k % 4, ?_, by omega⟩
  rw [Int.tmod_eq_emod_of_nonneg (by omega)]
  omega

theorem mod5 (x : UInt8) : ∃ y : UInt8, (x.toNat : Int) % 5 = (y.toNat : Int) := ⟨UInt8.ofNat (x.toNat % 5), by have := x.toNat_lt; simp; omega⟩
theorem mod4 (x : UInt8) : ∃ y : UInt8, (x.toNat : Int) % 4 = (y.toNat : Int) := ⟨UInt8.ofNat (x.toNat % 4), by have := x.toNat_lt; simp; omega⟩

set_option maxRecDepth 100000 in
set_option maxHeartbeats 4000000 in
theorem heads_walk (a0 a1 b0 b1 r0 r1 r2 r3 r4 r5 r6 r7 x : UInt8) (m o : Int) (w : World) :
    Calls Try.prog 3 #[.agg #[.int .u8 (a0.toNat : Int), .int .u8 (a1.toNat : Int), .int .u8 (b0.toNat : Int), .int .u8 (b1.toNat : Int), .int .u8 (r0.toNat : Int), .int .u8 (r1.toNat : Int), .int .u8 (r2.toNat : Int), .int .u8 (r3.toNat : Int), .int .u8 (r4.toNat : Int), .int .u8 (r5.toNat : Int), .int .u8 (r6.toNat : Int), .int .u8 (r7.toNat : Int), .int .u8 (x.toNat : Int), .int .i64 m, .int .i64 o]] w fun e w' => e = .returned (.bool true) ∧ Below w.heap.size w w' := by
  obtain ⟨i0, hi, hz0, hz1, hz2⟩ := info_parts info5
  obtain ⟨u, hu⟩ : ∃ u, w.heap.size = u := ⟨_, rfl⟩
  have hbu := Blk.fresh w 25 #[.int .u8 (a0.toNat : Int), .int .u8 (a1.toNat : Int), .int .u8 (b0.toNat : Int), .int .u8 (b1.toNat : Int), .int .u8 (r0.toNat : Int), .int .u8 (r1.toNat : Int), .int .u8 (r2.toNat : Int), .int .u8 (r3.toNat : Int), .int .u8 (r4.toNat : Int), .int .u8 (r5.toNat : Int), .int .u8 (r6.toNat : Int), .int .u8 (r7.toNat : Int), .int .u8 (x.toNat : Int), .int .i64 m, .int .i64 o]
  rw [hu] at hbu
  obtain ⟨CS, hCS⟩ : ∃ CS : Array Value, CS = #[.int .u8 (a0.toNat : Int), .int .u8 (a1.toNat : Int), .int .u8 (b0.toNat : Int), .int .u8 (b1.toNat : Int), .int .u8 (r0.toNat : Int), .int .u8 (r1.toNat : Int), .int .u8 (r2.toNat : Int), .int .u8 (r3.toNat : Int), .int .u8 (r4.toNat : Int), .int .u8 (r5.toNat : Int), .int .u8 (r6.toNat : Int), .int .u8 (r7.toNat : Int), .int .u8 (x.toNat : Int), .int .i64 m, .int .i64 o] := ⟨_, rfl⟩
  have HCf : Hid (∀ W, Blk W u 25 CS → (W.cell? ⟨u, 2, none⟩ = some (.int .u8 (b0.toNat : Int)) ∧ W.cell? ⟨u, 3, none⟩ = some (.int .u8 (b1.toNat : Int)) ∧ W.cell? ⟨u, 12, none⟩ = some (.int .u8 (x.toNat : Int)) ∧ W.cell? ⟨u, 13, none⟩ = some (.int .i64 m) ∧ W.cell? ⟨u, 14, none⟩ = some (.int .i64 o)) ∧ ∀ i, i < 8 → ∃ y : UInt8, W.cell? ⟨u, 4 + i, none⟩ = some (.int .u8 (y.toNat : Int))) := Lib.hid (by
    subst hCS
    exact fun W h => ⟨⟨by rw [h.cell]; rfl, by rw [h.cell]; rfl, by rw [h.cell]; rfl, by rw [h.cell]; rfl, by rw [h.cell]; rfl⟩, fun i hi => rest_cell a0 a1 b0 b1 r0 r1 r2 r3 r4 r5 r6 r7 x m o h i hi⟩)
  have HU0 : Hid (Blk (w.alloc (.cells #[.int .u8 (a0.toNat : Int), .int .u8 (a1.toNat : Int), .int .u8 (b0.toNat : Int), .int .u8 (b1.toNat : Int), .int .u8 (r0.toNat : Int), .int .u8 (r1.toNat : Int), .int .u8 (r2.toNat : Int), .int .u8 (r3.toNat : Int), .int .u8 (r4.toNat : Int), .int .u8 (r5.toNat : Int), .int .u8 (r6.toNat : Int), .int .u8 (r7.toNat : Int), .int .u8 (x.toNat : Int), .int .i64 m, .int .i64 o] 25)) u 25 #[.int .u8 (a0.toNat : Int), .int .u8 (a1.toNat : Int), .int .u8 (b0.toNat : Int), .int .u8 (b1.toNat : Int), .int .u8 (r0.toNat : Int), .int .u8 (r1.toNat : Int), .int .u8 (r2.toNat : Int), .int .u8 (r3.toNat : Int), .int .u8 (r4.toNat : Int), .int .u8 (r5.toNat : Int), .int .u8 (r6.toNat : Int), .int .u8 (r7.toNat : Int), .int .u8 (x.toNat : Int), .int .i64 m, .int .i64 o]) := Lib.hid hbu
  have HF0 := Lib.hid ((Fr.refl [] w).alloc (.cells #[.int .u8 (a0.toNat : Int), .int .u8 (a1.toNat : Int), .int .u8 (b0.toNat : Int), .int .u8 (b1.toNat : Int), .int .u8 (r0.toNat : Int), .int .u8 (r1.toNat : Int), .int .u8 (r2.toNat : Int), .int .u8 (r3.toNat : Int), .int .u8 (r4.toNat : Int), .int .u8 (r5.toNat : Int), .int .u8 (r6.toNat : Int), .int .u8 (r7.toNat : Int), .int .u8 (x.toNat : Int), .int .i64 m, .int .i64 o] 25))
  clear hbu
  go_enter Try.func3, Try.ntmps3
  go_wp2_with fail
  generalize w.alloc _ = w0 at *
  refine (shown9 w0).mono ?_
  rintro e w1 ⟨rfl, hf1⟩
  have HU1 := Lib.hid (HU0.out.fr hf1 (by simp))
  have HF1 := Lib.hid (HF0.out.tr hf1)
  clear hf1 HU0 HF0
  have d0 := HU1.out.cell 0
  have d1 := HU1.out.cell 1
  have d2 := HU1.out.cell 2
  have d3 := HU1.out.cell 3
  have d14 := HU1.out.cell 14
  simp at d0 d1 d2 d3 d14
  rw [← hCS] at HU1
  clear hCS
  go_upto_region 4 with fail
  obtain ⟨t1, ht1⟩ : ∃ t, bits .and .i64 o 1 = t := ⟨_, rfl⟩
  have ht1' : (t1 == 0) = true ∨ (t1 == 0) = false := by cases (t1 == 0) <;> simp
  obtain ⟨pa, hpa⟩ := mod5 a0
  obtain ⟨pb, hpb⟩ := mod4 a1
  rcases ht1' with h0 | h0
  all_goals
    go_upto_region 7 with fail
    first
      | (rw [hpa, hpb]; generalize pa = p at *; generalize pb = c at *)
      | (obtain ⟨p, hp⟩ : ∃ p, a0 = p := ⟨_, rfl⟩; obtain ⟨c, hc⟩ : ∃ c, a1 = c := ⟨_, rfl⟩; rw [hp, hc]; clear hp hc)
    clear hpa hpb h0 ht1 d0 d1 d2 d3 d14
    obtain ⟨d2, d3, -⟩ := (HCf.out w1 HU1.out).1
    go_wp2_with fail
    (with_reducible refine (head_any w1 p c b0 b1).mono ?_)
    rintro e w2 ⟨A1, c1, rfl, ho2, hf2⟩
    have HO2 := Lib.hid (ho2.base HF1.out.size)
    have HF2 := Lib.hid (HF1.out.tr hf2)
    have HU2 := Lib.hid (HU1.out.fr hf2 (by simp))
    obtain ⟨g, rfl, -⟩ := HO2.out.head (by omega)
    clear ho2 hf2 HU1 HF1 d2 d3
    go_wp2_with fail
    go_loopw [7] (fun s7 wr => ∃ (i : Nat) (L : List UInt8), s7 = .int .i64 (i : Int) ∧ i ≤ 8 ∧ L.length = 16 ∧ Own wr w.heap.size (.slice (some ⟨g, 0, none⟩) 16 c1) L ∧ Blk wr u 25 CS ∧ Fr [] w wr) (fun s7 _ => 8 - (intOf s7).toNat)
    case atStart => exact ⟨0, headL p c b0 b1, rfl, by omega, headL_length p c b0 b1, HO2.out, HU2.out, HF2.out⟩
    case round =>
      obtain ⟨i, L, rfl, hi8, hL, ho, hU, hf⟩ := hrel
      have HL := Lib.hid hL
      have HO := Lib.hid ho
      have HU := Lib.hid hU
      have HF := Lib.hid hf
      clear hL HO2 HU2 HF2
      by_cases hlt : i < 8
      · obtain ⟨g', hg', -, hcl, hfz, hput⟩ := ho.head (by omega)
        cases hg'
        obtain ⟨k, hk⟩ : ∃ k, 8 + i = k := ⟨_, rfl⟩
        have kk : (8 : Int) + (i : Int) = (k : Int) := by omega
        have hk1 : (k : Int) < 16 := by omega
        have hk0 : (0 : Int) ≤ k := by omega
        have hi0 : (0 : Int) ≤ i := by omega
        have hi1 : (i : Int) < 8 := by omega
        obtain ⟨uo, hco⟩ := hcl k (by omega)
        have hfo := hfz k
        obtain ⟨y, hy⟩ := (HCf.out wr hU).2 i hlt
        have HPut := Lib.hid (hput k y)
        have hgu : g ≠ u := fun e => by subst e; exact ho.other hU (by decide) rfl
        clear ho hU hf hcl hfz hput hk
        go_wp2
        go_roundw
        case rel =>
          have hst : Fr [g] wr (wr.setCell ⟨g, k, none⟩ (.int .u8 (y.toNat : Int))) := (Fr.refl [g] wr).setCell (by simp) _
          exact ⟨i + 1, L.set k y, by go_num, by omega, by rw [List.length_set]; exact HL.out, HPut.out, HU.out.fr hst (by simp; exact fun e => hgu e.symm), HF.out.trans hst (by simp; exact (HO.out.lt g rfl).1)⟩
        case measure => simp [intOf]; omega
      · clear ho hU hf
        obtain rfl : i = 8 := by omega
        obtain ⟨⟨d2, -, d12, d13, d14⟩, -⟩ := HCf.out wr HU.out
        obtain ⟨t6, ht6⟩ : ∃ t, bits .and .i64 o 6 = t := ⟨_, rfl⟩
        have ht6' : (t6 == 6) = true ∨ (t6 == 6) = false := by cases (t6 == 6) <;> simp
        go_upto_region 12 with fail
        rcases ht6' with h6 | h6
        · obtain ⟨k4, hk4, hk4b⟩ := p255 (o / 8)
          obtain ⟨g', hg', -, hcl, hfz, hput⟩ := HO.out.head (by omega)
          cases hg'
          obtain ⟨uo, hco⟩ := hcl k4 (by omega)
          have hfo := hfz k4
          have HPut := Lib.hid (hput k4 x)
          have hk4c : (k4 : Int) < 16 := by omega
          have hk4d : (0 : Int) ≤ k4 := by omega
          have hgu : g ≠ u := fun e => by subst e; exact HO.out.other HU.out (by decide) rfl
          clear hcl hfz hput
          go_upto_region 14 with fail
          have hst : Fr [g] wr (wr.setCell ⟨g, k4, none⟩ (.int .u8 (x.toNat : Int))) := (Fr.refl [g] wr).setCell (by simp) _
          have HOa : Hid (Own (wr.setCell ⟨g, k4, none⟩ (.int .u8 (x.toNat : Int))) w.heap.size (.slice (some ⟨g, 0, none⟩) 16 c1) (L.set k4 x)) := HPut
          have HUa := Lib.hid (HU.out.fr hst (by simp; exact fun e => hgu e.symm))
          have HFa : Hid (Fr [] w (wr.setCell ⟨g, k4, none⟩ (.int .u8 (x.toNat : Int)))) := Lib.hid (HF.out.trans hst (by simp; exact (HO.out.lt g rfl).1))
          have HLa : Hid ((L.set k4 x).length = 16) := Lib.hid (by rw [List.length_set]; exact HL.out)
          generalize wr.setCell ⟨g, k4, none⟩ (.int .u8 (x.toNat : Int)) = wa at *
          generalize L.set k4 x = La at *
          clear hst HPut hgu hco hfo hk4 hk4b hk4c hk4d
          clear HO HU HF HL d2 d12 d13 d14 ht6 h6 hi8 hlt
          obtain ⟨⟨d2, -, d12, d13, -⟩, -⟩ := HCf.out wa HUa.out
          have hp256 := p.toNat_lt
          have hc256 := c.toNat_lt
          go_upto_region 15 with fail
          obtain ⟨N1, hN1⟩ : ∃ N : Int, (p.toNat : Int) * 16384 + (c.toNat : Int) * 8192 = N := ⟨_, rfl⟩
          rw [hN1]
          have hN1a : 0 ≤ N1 := by omega
          have hN1b : N1 ≤ 7000000 := by omega
          obtain ⟨v4, hv4⟩ : ∃ v, (b0.toNat : Int) / 4 % 2 = v := ⟨_, rfl⟩
          have hv4' : (v4 == 1) = true ∨ (v4 == 1) = false := by cases (v4 == 1) <;> simp
          have hb256 := b0.toNat_lt
          clear hN1 hp256 hc256
          rcases hv4' with h4 | h4
          all_goals
            go_upto_region 17 with fail
            first
              | (obtain ⟨N2, hN2⟩ : ∃ N : Int, N1 + 512 = N := ⟨_, rfl⟩; rw [hN2])
              | (obtain ⟨N2, hN2⟩ : ∃ N : Int, N1 = N := ⟨_, rfl⟩; rw [hN2])
            have hN2a : 0 ≤ N2 := by omega
            have hN2b : N2 ≤ 7001000 := by omega
            clear h4 hv4 hN2 hN1a hN1b hb256
            obtain ⟨t, ht⟩ : ∃ t, m.tmod 2000 = t := ⟨_, rfl⟩
            have hta : t < 2000 := by rw [← ht]; exact Int.tmod_lt_of_pos m (by decide)
            have htb : -2000 < t := by rw [← ht]; exact Int.lt_tmod_of_pos m (by decide)
            have kwt : IntKind.i64.wrap t = t := by rw [IntKind.wrap_i64]; omega
            obtain ⟨N3, hN3⟩ : ∃ N : Int, N2 + t = N := ⟨_, rfl⟩
            have kw3 : IntKind.i64.wrap N3 = N3 := by rw [IntKind.wrap_i64]; omega
            obtain ⟨M, hM⟩ : ∃ M : Nat, max 0 N3 = (M : Int) := ⟨(max 0 N3).toNat, by omega⟩
            go_upto_region 18 with fail
            clear hN3 kw3 hM hN2a hN2b ht hta htb kwt d2 d13
            obtain ⟨K, hK⟩ : ∃ K : Nat, min (M : Int) 200000 = (K : Int) := ⟨(min (M : Int) 200000).toNat, by omega⟩
            have hK2 : K ≤ 200000 := by omega
            have HFi := Lib.hid (fill_any wa K x (by omega))
            go_wp2_with fail
            (with_reducible refine HFi.out.mono ?_)
            rintro e wb ⟨Lf, hLf, rfl, hbf, hfb⟩
            have HOb := Lib.hid (HOa.out.fr hfb (by simp))
            have HFb := Lib.hid (HFa.out.tr hfb)
            have HRb := Lib.hid (rd_blk hbf)
            have HLf := Lib.hid hLf
            clear hbf hfb hLf HFi hK d12
            obtain ⟨gf, hgf⟩ : ∃ gf, wa.heap.size = gf := ⟨_, rfl⟩
            rw [hgf] at HRb ⊢
            go_wp2_with (at_builtin; refine wpList_appN _ rfl _ _ 27 rfl w.heap.size i0 Try.underlying27 hi hz0 hz1 hz2 (.slice (some ⟨g, 0, none⟩) 16 c1) La 16 HLa.out rfl HOb.out (some ⟨gf, 0, none⟩) K K Lf rfl HLf.out HRb.out (by simp) (by omega) HFb.out.size ?_)
            intro A3 c3 w3 ho3 hf3 _
            obtain ⟨n3, hn3⟩ : ∃ n, 16 + K = n := ⟨_, rfl⟩
            obtain ⟨L3, hL3⟩ : ∃ L, La ++ Lf = L := ⟨_, rfl⟩
            have HLn : Hid (L3.length = n3) := Lib.hid (by rw [← hL3, ← hn3, List.length_append, HLa.out, HLf.out])
            rw [hn3, hL3] at ho3
            rw [hn3]
            obtain ⟨hc3, hm3⟩ := ho3.caps
            have HRD := Lib.hid ho3.rd
            have HF3 : Hid (Fr [] w w3) := Lib.hid (HFb.out.trans hf3 (fun k hk => .inr (HOb.out.lt k (by simpa using hk)).1))
            clear ho3 hf3 hn3 hL3 HOb HFb HRb HLf HOa HUa HFa HLa hgf hK2
            have HPa := Lib.hid (parse_any w3 A3 n3 c3 L3 HLn.out hc3 HRD.out)
            have HRa : Hid (∀ W, Fr [] w3 W → Calls Try.prog 11 #[.slice A3 n3 c3] W (Outcome W L3)) := Lib.hid fun W hW => rparse_any W A3 n3 c3 L3 HLn.out hc3 hm3 (HRD.out.later hW (by simp))
            unfold Outcome at HPa HRa
            generalize (fault L3 : Int) = ft at *
            generalize ctOf L3 = ct at *
            clear HRD HLn
            go_wp2_with fail
            (with_reducible refine HPa.out.mono ?_)
            rintro e w4 ⟨v, rfl, hin, hf4⟩
            obtain ⟨P, cp, C, cc, rfl, hP, hC⟩ := hin
            have HF4 := Lib.hid hf4
            have HPP := Lib.hid hP
            have HCC := Lib.hid hC
            obtain ⟨m, r, pl, cl, ram⟩ := ct
            simp only at HPP HCC ⊢
            obtain ⟨p1, hp1⟩ : ∃ p, pl.length = p := ⟨_, rfl⟩
            obtain ⟨p2, hp2⟩ : ∃ p, cl.length = p := ⟨_, rfl⟩
            rw [hp1, hp2]
            have HP1 := Lib.hid hp1
            have HP2 := Lib.hid hp2
            clear hf4 hP hC hp1 hp2 HPa
            go_upto_region 20 with fail
            obtain ⟨u1, hu1⟩ : ∃ u, w4.heap.size = u := ⟨_, rfl⟩
            have hb5 := Blk.fresh w4 32 #[.int .i64 (m : Int), .int .i64 (r : Int), .slice P p1 cp, .slice C p2 cc, .bool ram]
            have hal : Fr [] w4 (w4.alloc (.cells #[.int .i64 (m : Int), .int .i64 (r : Int), .slice P p1 cp, .slice C p2 cc, .bool ram] 32)) := (Fr.refl [] w4).alloc _
            rw [hu1] at hb5 ⊢
            have HB5 := Lib.hid hb5
            have HF5 := Lib.hid (HF4.out.tr hal)
            have HP5 := Lib.hid (HPP.out.later hal (by simp))
            have HC5 := Lib.hid (HCC.out.later hal (by simp))
            clear hb5 hal HF4 HPP HCC
            generalize w4.alloc _ = w5 at *
            have HRb := Lib.hid (HRa.out w5 HF5.out)
            clear HRa
            go_wp2_with fail
            (with_reducible refine HRb.out.mono ?_)
            rintro e w6 ⟨v, rfl, hin, hf6⟩
            obtain ⟨P', cp', C', cc', rfl, hP', hC'⟩ := hin
            simp only at hP' hC' ⊢
            rw [HP1.out, HP2.out]
            have HF6 := Lib.hid (HF5.out.tr hf6)
            have HB6 := Lib.hid (HB5.out.fr hf6 (by simp))
            have HP6 := Lib.hid (HP5.out.later hf6 (by simp))
            have HC6 := Lib.hid (HC5.out.later hf6 (by simp))
            have HPP := Lib.hid hP'
            have HCC := Lib.hid hC'
            clear hf6 hP' hC' HF5 HB5 HP5 HC5 HRb
            go_upto_region 21 with fail
            obtain ⟨u2, hu2⟩ : ∃ u, w6.heap.size = u := ⟨_, rfl⟩
            have hb7 := Blk.fresh w6 36 #[.int .i64 (m : Int), .int .i64 (r : Int), .slice P' p1 cp', .slice C' p2 cc', .bool ram]
            have hal : Fr [] w6 (w6.alloc (.cells #[.int .i64 (m : Int), .int .i64 (r : Int), .slice P' p1 cp', .slice C' p2 cc', .bool ram] 36)) := (Fr.refl [] w6).alloc _
            rw [hu2] at hb7 ⊢
            have hb5 := HB6.out.fr hal (by simp)
            have HF7 := Lib.hid (HF6.out.tr hal)
            have HK := Lib.hid (HP6.out.later hal (by simp))
            have HK2 := Lib.hid (HC6.out.later hal (by simp))
            have HK3 := Lib.hid (HPP.out.later hal (by simp))
            have HK4 := Lib.hid (HCC.out.later hal (by simp))
            clear hal HF6 HB6 HP6 HC6 HPP HCC
            generalize w6.alloc _ = w7 at *
            obtain ⟨d0, d1, d2, d3, d4⟩ := blk5 hb5
            obtain ⟨e0, e1, e2, e3, e4⟩ := blk5 hb7
            have HS := Lib.hid (same_cart w7 (.agg #[.int .i64 (m : Int), .int .i64 (r : Int), .slice P p1 cp, .slice C p2 cc, .bool ram]) (.agg #[.int .i64 (m : Int), .int .i64 (r : Int), .slice P' p1 cp', .slice C' p2 cc', .bool ram]) ⟨m, r, pl, cl, ram⟩ ⟨P, cp, C, cc, by rw [← HP1.out, ← HP2.out], HK.out, HK2.out⟩ ⟨P', cp', C', cc', by rw [← HP1.out, ← HP2.out], HK3.out, HK4.out⟩)
            clear hb5 hb7 HK HK2 HK3 HK4
            go_wp2_with fail
            (with_reducible refine HS.out.mono ?_)
            rintro e w8 ⟨rfl, hf8⟩
            have HF8 : Hid (Fr [] w w8) := Lib.hid (HF3.out.tr (HF7.out.tr hf8))
            clear hf8 d0 d1 d2 d3 d4 e0 e1 e2 e3 e4
            go_wp2
            go_ret
            exact ⟨by rfl, HF8.out.below (by simp) (Nat.le_refl _)⟩
        · go_upto_region 14 with fail
          have HOa := HO
          have HUa := HU
          have HFa := HF
          have HLa := HL
          generalize wr = wa at *
          generalize L = La at *
          clear HO HU HF HL d2 d12 d13 d14 ht6 h6 hi8 hlt
          obtain ⟨⟨d2, -, d12, d13, -⟩, -⟩ := HCf.out wa HUa.out
          have hp256 := p.toNat_lt
          have hc256 := c.toNat_lt
          go_upto_region 15 with fail
          obtain ⟨N1, hN1⟩ : ∃ N : Int, (p.toNat : Int) * 16384 + (c.toNat : Int) * 8192 = N := ⟨_, rfl⟩
          rw [hN1]
          have hN1a : 0 ≤ N1 := by omega
          have hN1b : N1 ≤ 7000000 := by omega
          obtain ⟨v4, hv4⟩ : ∃ v, (b0.toNat : Int) / 4 % 2 = v := ⟨_, rfl⟩
          have hv4' : (v4 == 1) = true ∨ (v4 == 1) = false := by cases (v4 == 1) <;> simp
          have hb256 := b0.toNat_lt
          clear hN1 hp256 hc256
          rcases hv4' with h4 | h4
          all_goals
            go_upto_region 17 with fail
            first
              | (obtain ⟨N2, hN2⟩ : ∃ N : Int, N1 + 512 = N := ⟨_, rfl⟩; rw [hN2])
              | (obtain ⟨N2, hN2⟩ : ∃ N : Int, N1 = N := ⟨_, rfl⟩; rw [hN2])
            have hN2a : 0 ≤ N2 := by omega
            have hN2b : N2 ≤ 7001000 := by omega
            clear h4 hv4 hN2 hN1a hN1b hb256
            obtain ⟨t, ht⟩ : ∃ t, m.tmod 2000 = t := ⟨_, rfl⟩
            have hta : t < 2000 := by rw [← ht]; exact Int.tmod_lt_of_pos m (by decide)
            have htb : -2000 < t := by rw [← ht]; exact Int.lt_tmod_of_pos m (by decide)
            have kwt : IntKind.i64.wrap t = t := by rw [IntKind.wrap_i64]; omega
            obtain ⟨N3, hN3⟩ : ∃ N : Int, N2 + t = N := ⟨_, rfl⟩
            have kw3 : IntKind.i64.wrap N3 = N3 := by rw [IntKind.wrap_i64]; omega
            obtain ⟨M, hM⟩ : ∃ M : Nat, max 0 N3 = (M : Int) := ⟨(max 0 N3).toNat, by omega⟩
            go_upto_region 18 with fail
            clear hN3 kw3 hM hN2a hN2b ht hta htb kwt d2 d13
            obtain ⟨K, hK⟩ : ∃ K : Nat, min (M : Int) 200000 = (K : Int) := ⟨(min (M : Int) 200000).toNat, by omega⟩
            have hK2 : K ≤ 200000 := by omega
            have HFi := Lib.hid (fill_any wa K x (by omega))
            go_wp2_with fail
            (with_reducible refine HFi.out.mono ?_)
            rintro e wb ⟨Lf, hLf, rfl, hbf, hfb⟩
            have HOb := Lib.hid (HOa.out.fr hfb (by simp))
            have HFb := Lib.hid (HFa.out.tr hfb)
            have HRb := Lib.hid (rd_blk hbf)
            have HLf := Lib.hid hLf
            clear hbf hfb hLf HFi hK d12
            obtain ⟨gf, hgf⟩ : ∃ gf, wa.heap.size = gf := ⟨_, rfl⟩
            rw [hgf] at HRb ⊢
            go_wp2_with (at_builtin; refine wpList_appN _ rfl _ _ 27 rfl w.heap.size i0 Try.underlying27 hi hz0 hz1 hz2 (.slice (some ⟨g, 0, none⟩) 16 c1) La 16 HLa.out rfl HOb.out (some ⟨gf, 0, none⟩) K K Lf rfl HLf.out HRb.out (by simp) (by omega) HFb.out.size ?_)
            intro A3 c3 w3 ho3 hf3 _
            obtain ⟨n3, hn3⟩ : ∃ n, 16 + K = n := ⟨_, rfl⟩
            obtain ⟨L3, hL3⟩ : ∃ L, La ++ Lf = L := ⟨_, rfl⟩
            have HLn : Hid (L3.length = n3) := Lib.hid (by rw [← hL3, ← hn3, List.length_append, HLa.out, HLf.out])
            rw [hn3, hL3] at ho3
            rw [hn3]
            obtain ⟨hc3, hm3⟩ := ho3.caps
            have HRD := Lib.hid ho3.rd
            have HF3 : Hid (Fr [] w w3) := Lib.hid (HFb.out.trans hf3 (fun k hk => .inr (HOb.out.lt k (by simpa using hk)).1))
            clear ho3 hf3 hn3 hL3 HOb HFb HRb HLf HOa HUa HFa HLa hgf hK2
            have HPa := Lib.hid (parse_any w3 A3 n3 c3 L3 HLn.out hc3 HRD.out)
            have HRa : Hid (∀ W, Fr [] w3 W → Calls Try.prog 11 #[.slice A3 n3 c3] W (Outcome W L3)) := Lib.hid fun W hW => rparse_any W A3 n3 c3 L3 HLn.out hc3 hm3 (HRD.out.later hW (by simp))
            unfold Outcome at HPa HRa
            generalize (fault L3 : Int) = ft at *
            generalize ctOf L3 = ct at *
            clear HRD HLn
            go_wp2_with fail
            (with_reducible refine HPa.out.mono ?_)
            rintro e w4 ⟨v, rfl, hin, hf4⟩
            obtain ⟨P, cp, C, cc, rfl, hP, hC⟩ := hin
            have HF4 := Lib.hid hf4
            have HPP := Lib.hid hP
            have HCC := Lib.hid hC
            obtain ⟨m, r, pl, cl, ram⟩ := ct
            simp only at HPP HCC ⊢
            obtain ⟨p1, hp1⟩ : ∃ p, pl.length = p := ⟨_, rfl⟩
            obtain ⟨p2, hp2⟩ : ∃ p, cl.length = p := ⟨_, rfl⟩
            rw [hp1, hp2]
            have HP1 := Lib.hid hp1
            have HP2 := Lib.hid hp2
            clear hf4 hP hC hp1 hp2 HPa
            go_upto_region 20 with fail
            obtain ⟨u1, hu1⟩ : ∃ u, w4.heap.size = u := ⟨_, rfl⟩
            have hb5 := Blk.fresh w4 32 #[.int .i64 (m : Int), .int .i64 (r : Int), .slice P p1 cp, .slice C p2 cc, .bool ram]
            have hal : Fr [] w4 (w4.alloc (.cells #[.int .i64 (m : Int), .int .i64 (r : Int), .slice P p1 cp, .slice C p2 cc, .bool ram] 32)) := (Fr.refl [] w4).alloc _
            rw [hu1] at hb5 ⊢
            have HB5 := Lib.hid hb5
            have HF5 := Lib.hid (HF4.out.tr hal)
            have HP5 := Lib.hid (HPP.out.later hal (by simp))
            have HC5 := Lib.hid (HCC.out.later hal (by simp))
            clear hb5 hal HF4 HPP HCC
            generalize w4.alloc _ = w5 at *
            have HRb := Lib.hid (HRa.out w5 HF5.out)
            clear HRa
            go_wp2_with fail
            (with_reducible refine HRb.out.mono ?_)
            rintro e w6 ⟨v, rfl, hin, hf6⟩
            obtain ⟨P', cp', C', cc', rfl, hP', hC'⟩ := hin
            simp only at hP' hC' ⊢
            rw [HP1.out, HP2.out]
            have HF6 := Lib.hid (HF5.out.tr hf6)
            have HB6 := Lib.hid (HB5.out.fr hf6 (by simp))
            have HP6 := Lib.hid (HP5.out.later hf6 (by simp))
            have HC6 := Lib.hid (HC5.out.later hf6 (by simp))
            have HPP := Lib.hid hP'
            have HCC := Lib.hid hC'
            clear hf6 hP' hC' HF5 HB5 HP5 HC5 HRb
            go_upto_region 21 with fail
            obtain ⟨u2, hu2⟩ : ∃ u, w6.heap.size = u := ⟨_, rfl⟩
            have hb7 := Blk.fresh w6 36 #[.int .i64 (m : Int), .int .i64 (r : Int), .slice P' p1 cp', .slice C' p2 cc', .bool ram]
            have hal : Fr [] w6 (w6.alloc (.cells #[.int .i64 (m : Int), .int .i64 (r : Int), .slice P' p1 cp', .slice C' p2 cc', .bool ram] 36)) := (Fr.refl [] w6).alloc _
            rw [hu2] at hb7 ⊢
            have hb5 := HB6.out.fr hal (by simp)
            have HF7 := Lib.hid (HF6.out.tr hal)
            have HK := Lib.hid (HP6.out.later hal (by simp))
            have HK2 := Lib.hid (HC6.out.later hal (by simp))
            have HK3 := Lib.hid (HPP.out.later hal (by simp))
            have HK4 := Lib.hid (HCC.out.later hal (by simp))
            clear hal HF6 HB6 HP6 HC6 HPP HCC
            generalize w6.alloc _ = w7 at *
            obtain ⟨d0, d1, d2, d3, d4⟩ := blk5 hb5
            obtain ⟨e0, e1, e2, e3, e4⟩ := blk5 hb7
            have HS := Lib.hid (same_cart w7 (.agg #[.int .i64 (m : Int), .int .i64 (r : Int), .slice P p1 cp, .slice C p2 cc, .bool ram]) (.agg #[.int .i64 (m : Int), .int .i64 (r : Int), .slice P' p1 cp', .slice C' p2 cc', .bool ram]) ⟨m, r, pl, cl, ram⟩ ⟨P, cp, C, cc, by rw [← HP1.out, ← HP2.out], HK.out, HK2.out⟩ ⟨P', cp', C', cc', by rw [← HP1.out, ← HP2.out], HK3.out, HK4.out⟩)
            clear hb5 hb7 HK HK2 HK3 HK4
            go_wp2_with fail
            (with_reducible refine HS.out.mono ?_)
            rintro e w8 ⟨rfl, hf8⟩
            have HF8 : Hid (Fr [] w w8) := Lib.hid (HF3.out.tr (HF7.out.tr hf8))
            clear hf8 d0 d1 d2 d3 d4 e0 e1 e2 e3 e4
            go_wp2
            go_ret
            exact ⟨by rfl, HF8.out.below (by simp) (Nat.le_refl _)⟩

end Ine
end Go.Proofs.Ythabiaenaicppaa
