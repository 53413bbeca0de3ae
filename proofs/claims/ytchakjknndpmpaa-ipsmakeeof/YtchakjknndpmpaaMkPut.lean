/-
  Contracts of ipsmake's record and put. Conditions: lengths.
-/
import Derived.Test.YtchakjknndpmpaaMkPart
import Derived.Test.YtchakjknndpmpaaOctApiW
namespace Go.Proofs.Ytchakjknndpmpaa
open Go.RowKit
namespace Ips

/-- What record answers. -/
def Recorded (w : World) (B : Option Addr) (r : Rec) (e : Ending) (w' : World) : Prop :=
  ∃ D dc, e = .returned (.agg #[.int .i64 (r.pos : Int), .int .i64 (r.run : Int), .slice D r.data.length dc]) ∧ Rd w D r.data ∧ (D = none → dc = 0) ∧ (∀ ad, D = some ad → ∃ a0, B = some a0 ∧ a0.block = ad.block) ∧ Fr [] w w'

set_option maxHeartbeats 1000000 in
theorem mrec_data (w : World) (A B : Option Addr) (n c m d j s : Nat) (b : List UInt8) (hm : b.length = m) (hB : Rd w B b) (hj : j < s) (hs : s ≤ m) (hd : m ≤ d) (_hd2 : d ≤ maxLen) (hm2 : m ≤ 16777216) :
    Calls Try.prog 30 #[pairV A B n c m d, .int .i64 1, .int .i64 (j : Int), .int .i64 (s : Int)] w (Recorded w B ⟨j, 0, (b.drop j).take (s - j)⟩) := by
  obtain ⟨bb, bo, rfl, hc⟩ := hB (by omega)
  have HR := Lib.hid (Rd.cut hc j (s - j))
  have HL : Hid (((b.drop j).take (s - j)).length = s - j) := Lib.hid (by simp; omega)
  unfold pairV Recorded
  simp only
  generalize (b.drop j).take (s - j) = x at *
  obtain ⟨k, hk⟩ : ∃ k, s - j = k := ⟨_, rfl⟩
  rw [hk] at HL
  rw [HL.out]
  unfold maxLen at _hd2
  have hj1 : (j : Int) ≤ s := by omega
  have hs1 : (s : Int) ≤ d := by omega
  have hjd : ¬ d = j := by omega
  clear hc
  go_enter Try.func30, Try.ntmps30
  go_wp2
  refine bodyPost_ret (v := .agg #[.int .i64 (j : Int), .int .i64 0, .slice (some ⟨bb, bo + j, none⟩) k (d - j)]) (by simp [results, Try.results30, go_sem]) rfl ?_
  exact ⟨_, _, rfl, HR.out, by simp, by simp, ((Fr.refl [] w).alloc _).alloc _⟩

set_option maxHeartbeats 1000000 in
theorem mrec_run (w : World) (A B : Option Addr) (n c m d j s : Nat) (b : List UInt8) (hm : b.length = m) (hB : Rd w B b) (hj : j < s) (hs : s ≤ m) (hd : m ≤ d) (_hd2 : d ≤ maxLen) (hm2 : m ≤ 16777216) :
    Calls Try.prog 30 #[pairV A B n c m d, .int .i64 2, .int .i64 (j : Int), .int .i64 (s : Int)] w (Recorded w B ⟨j, s - j, (b.drop j).take 1⟩) := by
  obtain ⟨bb, bo, rfl, hc⟩ := hB (by omega)
  have HR := Lib.hid (Rd.cut hc j 1)
  have HL : Hid (((b.drop j).take 1).length = 1) := Lib.hid (by simp; omega)
  unfold pairV Recorded
  simp only
  generalize (b.drop j).take 1 = x at *
  rw [HL.out]
  obtain ⟨k, hk⟩ : ∃ k, s - j = k := ⟨_, rfl⟩
  rw [hk]
  have hk1 : (s : Int) - (j : Int) = (k : Int) := by omega
  have hk2 : (k : Int) ≤ 16777216 := by omega
  unfold maxLen at _hd2
  have hj1 : (j : Int) + 1 ≤ d := by omega
  have hjd : ¬ d = j := by omega
  clear hc hk
  go_enter Try.func30, Try.ntmps30
  go_wp2
  refine bodyPost_ret (v := .agg #[.int .i64 (j : Int), .int .i64 (k : Int), .slice (some ⟨bb, bo + j, none⟩) 1 (d - j)]) (by simp [results, Try.results30, go_sem]) rfl ?_
  exact ⟨_, _, rfl, HR.out, by simp, by simp, ((Fr.refl [] w).alloc _).alloc _⟩

theorem mrec5 (w : World) (A B : Option Addr) (n c m d j : Nat) (b : List UInt8) (x : Ch) (hk : x.kind = 1 ∨ x.kind = 2) (hm : b.length = m) (hB : Rd w B b) (hj : j < x.stop) (hs : x.stop ≤ m) (hd : m ≤ d) (hd2 : d ≤ maxLen) (hm2 : m ≤ 16777216) :
    Calls Try.prog 30 #[pairV A B n c m d, .int .i64 (x.kind : Int), .int .i64 (j : Int), .int .i64 (x.stop : Int)] w (Recorded w B (recOf b j x)) := by
  obtain ⟨k, s, co⟩ := x
  simp only at *
  rcases hk with rfl | rfl
  · exact mrec_data w A B n c m d j s b hm hB hj hs hd hd2 hm2
  · exact mrec_run w A B n c m d j s b hm hB hj hs hd hd2 hm2

/-- Writes one behind the other. -/
theorem foot_trans {w w1 w2 : World} {p : Nat} {v v1 : Value} (h1 : Fr (foot p v) w w1) (hl : Lies w v v1) (h2 : Fr (foot p v1) w1 w2) : Fr (foot p v) w w2 := by
  refine h1.trans h2 fun i hi => ?_
  simp only [foot, List.mem_cons, Option.mem_toList] at hi ⊢
  rcases hi with hi | hi
  · exact .inl (.inl hi)
  · rcases hl with h | ⟨k, hk, hle⟩
    · rw [h] at hi; exact .inl (.inr hi)
    · rw [hk] at hi
      have : k = i := by simpa using hi
      exact .inr (by omega)

/-- What put leaves. -/
def PutDone (w : World) (B p : Nat) (v : Value) (l : List UInt8) (e : Ending) (w' : World) : Prop :=
  e = .returned (.tuple #[]) ∧ ∃ v', Wr w' B p v' l ∧ Fr (foot p v) w w' ∧ Lies w v v'

theorem ofNat_mod (x : Nat) : UInt8.ofNat (x % 256) = UInt8.ofNat x := by apply UInt8.toNat_inj.1; simp
theorem put3 (p : Nat) : putB p (cnt 3) = [hi p, mid p, lo p] := by
  rw [show cnt 3 = 3 from by decide]
  simp [putB, putL, hi, mid, lo, Nat.div_div_eq_div_mul, ofNat_mod]
theorem put2 (p : Nat) : putB p (cnt 2) = [mid p, lo p] := by
  rw [show cnt 2 = 2 from by decide]
  simp [putB, putL, mid, lo, ofNat_mod]

set_option maxRecDepth 100000 in
set_option maxHeartbeats 2000000 in
theorem put_data5 (w : World) (B p : Nat) (v : Value) (l : List UInt8) (r : Rec) (D : Option Addr) (dc : Nat) (h : Wr w B p v l) (hB : B ≤ w.heap.size) (hl : l.length ≤ 500000000) (hD : Rd w D r.data) (hDf : ∀ ad, D = some ad → ad.block ∉ foot p v) (hDc : D = none → dc = 0) (hf : Fits r) (h0 : r.run = 0) :
    Calls Try.prog 29 #[.pointer (some ⟨p, 0, none⟩), .agg #[.int .i64 (r.pos : Int), .int .i64 (r.run : Int), .slice D r.data.length dc]] w (PutDone w B p v (l ++ recB r)) := by
  obtain ⟨pos, run, data⟩ := r
  simp only at *
  subst h0
  have HB : Hid (recB ⟨pos, 0, data⟩ = putB pos (cnt 3) ++ putB data.length (cnt 2) ++ data) := Lib.hid (by rw [put3, put2]; simp [recB])
  generalize recB ⟨pos, 0, data⟩ = R at *
  obtain ⟨k, hk⟩ : ∃ k, data.length = k := ⟨_, rfl⟩
  have HK := Lib.hid hk
  rw [hk] at HB ⊢
  have hpos : (pos : Int) < 16777216 := by have := hf.2.1; simp only at this; omega
  have hk2 : (k : Int) < 65536 := by have := hf.2.2.2; simp only at this; omega
  have HW := Lib.hid (h.fr ((Fr.refl [] w).alloc (.cells #[.int .i64 (pos : Int), .int .i64 0, .slice D k dc] 55)) (by simp) (by simp))
  have HBx := Lib.hid (Blk.fresh w 55 #[.int .i64 (pos : Int), .int .i64 0, .slice D k dc])
  have hplt := h.1.lt
  have HD := Lib.hid hD
  have HDf := Lib.hid hDf
  have HDc := Lib.hid hDc
  have HLt := Lib.hid h.2.lt
  unfold PutDone
  clear h hD hDf hDc hf hk
  go_enter Try.func29, Try.ntmps29
  go_wp2_with fail
  refine (wbigZ _ B p v l _ pos 3 rfl HW.out (by simp; omega) (by omega)).mono ?_
  rintro e w1 ⟨rfl, v1, hw1, hf1, hl1⟩
  have HF1 : Hid (Fr (foot p v) w w1) := Lib.hid (((Fr.refl [] w).alloc _).nil.tr hf1)
  have HL1 : Hid (Lies w v v1) := Lib.hid ((Lies.refl w v).trans hl1 (by simp))
  have HB1 := Lib.hid (HBx.out.fr hf1 (by simp only [foot, List.mem_cons, Option.mem_toList]; rintro (h | h); omega; exact absurd (HLt.out _ h).2 (by omega)))
  have HW1 := Lib.hid hw1
  have hs1 := HF1.out.size
  clear hw1 hf1 hl1 HBx HW
  have c1 := HB1.out.cell 1
  have c2 := HB1.out.cell 2
  simp at c1 c2
  go_wp2_with fail
  refine (wbigZ _ B p v1 _ _ k 2 rfl HW1.out (by omega) (by simp [putB_length, cnt]; omega)).mono ?_
  rintro e w2 ⟨rfl, v2, hw2, hf2, hl2⟩
  have HF2 : Hid (Fr (foot p v) w w2) := Lib.hid (foot_trans HF1.out HL1.out hf2)
  have HL2 : Hid (Lies w v v2) := Lib.hid (HL1.out.trans hl2 hs1)
  have HB2 := Lib.hid (HB1.out.fr hf2 (by simp only [foot, List.mem_cons, Option.mem_toList]; rintro (h | h); omega; exact HW1.out.2.other HB1.out (by decide) h))
  have HW2 := Lib.hid hw2
  have hs2 := HF2.out.size
  have HD2 := Lib.hid (HD.out.fr HF2.out HDf.out)
  clear hw2 hf2 hl2 HB1 HW1 c1 c2
  have c2 := HB2.out.cell 2
  simp at c2
  go_wp2_with fail
  refine (wbytes _ B p v2 _ D k dc data HW2.out (by omega) (by simp [putB_length, cnt]; omega) HK.out HD2.out HDc.out).mono ?_
  rintro e w3 ⟨rfl, v3, hw3, hf3, hl3⟩
  have HF3 : Hid (Fr (foot p v) w w3) := Lib.hid (foot_trans HF2.out HL2.out hf3)
  have HL3 : Hid (Lies w v v3) := Lib.hid (HL2.out.trans hl3 hs2)
  have HW3 := Lib.hid hw3
  clear hw3 hf3 hl3 c2
  go_wp2
  go_end0
  refine ⟨rfl, v3, ?_, HF3.out, HL3.out⟩
  rw [HB.out]
  simpa [List.append_assoc] using HW3.out

set_option maxRecDepth 100000 in
set_option maxHeartbeats 2000000 in
theorem put_run5 (w : World) (B p : Nat) (v : Value) (l : List UInt8) (r : Rec) (D : Option Addr) (dc : Nat) (h : Wr w B p v l) (hB : B ≤ w.heap.size) (hl : l.length ≤ 500000000) (hD : Rd w D r.data) (hDf : ∀ ad, D = some ad → ad.block ∉ foot p v) (hDc : D = none → dc = 0) (hf : Fits r) (h0 : 0 < r.run) :
    Calls Try.prog 29 #[.pointer (some ⟨p, 0, none⟩), .agg #[.int .i64 (r.pos : Int), .int .i64 (r.run : Int), .slice D r.data.length dc]] w (PutDone w B p v (l ++ recB r)) := by
  obtain ⟨pos, run, data⟩ := r
  simp only at *
  have hd1 : data.length = 1 := hf.1.2 h0
  have HB : Hid (recB ⟨pos, run, data⟩ = putB pos (cnt 3) ++ putB 0 (cnt 2) ++ putB run (cnt 2) ++ data) := Lib.hid (by
    rw [put3, put2, put2]
    obtain ⟨x, rfl⟩ := List.length_eq_one_iff.1 hd1
    simp [recB, h0, mid, lo])
  generalize recB ⟨pos, run, data⟩ = R at *
  rw [hd1]
  have HK := Lib.hid hd1
  have hpos : (pos : Int) < 16777216 := by have := hf.2.1; simp only at this; omega
  have hk2 : (run : Int) < 65536 := by have := hf.2.2.1; simp only at this; omega
  have h0' : (0 : Int) < run := by omega
  have HW := Lib.hid (h.fr ((Fr.refl [] w).alloc (.cells #[.int .i64 (pos : Int), .int .i64 (run : Int), .slice D 1 dc] 55)) (by simp) (by simp))
  have HBx := Lib.hid (Blk.fresh w 55 #[.int .i64 (pos : Int), .int .i64 (run : Int), .slice D 1 dc])
  have hplt := h.1.lt
  have HD := Lib.hid hD
  have HDf := Lib.hid hDf
  have HDc := Lib.hid hDc
  have HLt := Lib.hid h.2.lt
  unfold PutDone
  clear h hD hDf hDc hf hd1
  go_enter Try.func29, Try.ntmps29
  go_wp2_with fail
  refine (wbigZ _ B p v l _ pos 3 rfl HW.out (by simp; omega) (by omega)).mono ?_
  rintro e w1 ⟨rfl, v1, hw1, hf1, hl1⟩
  have HF1 : Hid (Fr (foot p v) w w1) := Lib.hid (((Fr.refl [] w).alloc _).nil.tr hf1)
  have HL1 : Hid (Lies w v v1) := Lib.hid ((Lies.refl w v).trans hl1 (by simp))
  have HB1 := Lib.hid (HBx.out.fr hf1 (by simp only [foot, List.mem_cons, Option.mem_toList]; rintro (h | h); omega; exact absurd (HLt.out _ h).2 (by omega)))
  have HW1 := Lib.hid hw1
  have hs1 := HF1.out.size
  clear hw1 hf1 hl1 HBx HW
  have c1 := HB1.out.cell 1
  simp at c1
  go_wp2_with fail
  obtain ⟨q, hq⟩ : ∃ q, w.heap.size = q := ⟨_, rfl⟩
  have HQ : Hid (q ∉ foot p v1) := Lib.hid (by
    simp only [foot, List.mem_cons, Option.mem_toList]
    rintro (h | h)
    · omega
    · exact HW1.out.2.other HB1.out (by decide) (hq ▸ h))
  obtain ⟨l2, hl2⟩ : ∃ l2, l2 = l ++ putB pos (cnt 3) ++ putB 0 (cnt 2) := ⟨_, rfl⟩
  obtain ⟨l3, hl3⟩ : ∃ l3, l3 = l2 ++ putB run (cnt 2) := ⟨_, rfl⟩
  have HN3 : Hid (l3.length ≤ 600000000) := Lib.hid (by rw [hl3, hl2]; simp [putB_length, cnt]; omega)
  have HR3 : Hid (l ++ R = l3 ++ data) := Lib.hid (by rw [HB.out, hl3, hl2]; simp [List.append_assoc])
  have C1 : Hid (Calls Try.prog 19 #[.pointer (some ⟨p, 0, none⟩), .int .u64 0, .int .i64 2] w1.drew (Wrote w1.drew B p v1 l2)) := Lib.hid (by
    rw [hl2]
    exact wbigZ w1.drew B p v1 _ 0 0 2 rfl (HW1.out.fr (Fr.refl [] w1).drew (by simp) (by simp)) (by have : w1.drew.heap.size = w1.heap.size := rfl; omega) (by simp [putB_length, cnt]; omega))
  have C2 : Hid (∀ w2 v2, Wr w2 B p v2 l2 → B ≤ w2.heap.size → Calls Try.prog 19 #[.pointer (some ⟨p, 0, none⟩), .int .u64 (run : Int), .int .i64 2] w2 (Wrote w2 B p v2 l3)) := Lib.hid (by
    intro w2 v2 h1 h2
    rw [hl3]
    exact wbigZ w2 B p v2 l2 _ run 2 rfl h1 h2 (by rw [hl2]; simp [putB_length, cnt]; omega))
  have hBw1 : B ≤ w1.heap.size := by omega
  have o1 : ∀ w', Fr (foot p v1) w1 w' → w'.cell? ⟨q, 1, none⟩ = some (.int .i64 (run : Int)) := fun w' hf => by
    have h := (HB1.out.fr hf (by rw [hq]; exact HQ.out)).cell 1
    rw [hq] at h
    simpa using h
  have HQQ := Lib.hid hq
  rw [hq] at c1 HB1 ⊢
  clear hl2 hl3 HB hs1 hB hl hq hplt HLt
  obtain ⟨F1, hF1⟩ : ∃ F1, F1 = foot p v1 := ⟨_, rfl⟩
  have HF1s : Hid (∀ w2, Fr (foot p v1) w1.drew w2 → Fr F1 w1 w2) := Lib.hid fun w2 h => by rw [hF1]; exact (Fr.refl [] w1).drew.nil.tr h
  have HF2s : Hid (∀ w2 v2 w3, Fr F1 w1 w2 → Lies w1.drew v1 v2 → Fr (foot p v2) w2 w3 → Fr F1 w1 w3) := Lib.hid fun w2 v2 w3 h1 h2 h3 => by rw [hF1] at h1 ⊢; exact foot_trans h1 ((Lies.refl w1 v1).trans h2 (Nat.le_refl _)) h3
  have HFF := Lib.hid hF1
  rw [← hF1] at o1 HQ
  clear hF1
  have hwr : IntKind.u64.wrap (run : Int) = (run : Int) := by rw [IntKind.wrap_u64]; omega
  go_region_law (first
    | (go_simp; go_at_call_of 19 (Value.int IntKind.u64 0); refine C1.out.mono ?_; rintro e w2 ⟨rfl, v2, hw2, hf2, hl2⟩; have HG2 : Hid (Fr F1 w1 w2) := Lib.hid (HF1s.out _ hf2); have HL2 := Lib.hid hl2; have HW2 := Lib.hid hw2; have c2 := o1 _ HG2.out; clear hw2 hf2 hl2)
    | (go_simp; go_at_call 19; refine (C2.out w2 v2 HW2.out (Nat.le_trans hBw1 HG2.out.size)).mono ?_; rintro e w3 ⟨rfl, v3, hw3, hf3, hl3⟩; have HG3 : Hid (Fr F1 w1 w3) := Lib.hid (HF2s.out _ _ _ HG2.out HL2.out hf3); have HL3 := Lib.hid hl3; have HW3 := Lib.hid hw3; clear hw3 hf3 hl3))
  all_goals
    clear c1 c2 o1
    have HB3 := Lib.hid (HB1.out.fr HG3.out HQ.out)
    have HF3 : Hid (Fr (foot p v) w w3) := Lib.hid (by have h := HG3.out; rw [HFF.out] at h; exact foot_trans HF1.out HL1.out h)
    have HLv3 : Hid (Lies w v v3) := Lib.hid (by
      have h1 : Lies w v v2 := HL1.out.trans ((Lies.refl w1 v1).trans HL2.out (Nat.le_refl _)) HF1.out.size
      exact h1.trans HL3.out (Nat.le_trans HF1.out.size HG2.out.size))
    have HD3 := Lib.hid (HD.out.fr HF3.out HDf.out)
    have c3 := HB3.out.cell 2
    simp at c3
    go_wp2_with fail
    refine (wbytes _ B p v3 _ D 1 dc data HW3.out (Nat.le_trans hBw1 HG3.out.size) (by have := HN3.out; omega) HK.out HD3.out HDc.out).mono ?_
    rintro e w4 ⟨rfl, v4, hw4, hf4, hl4⟩
    have HF4 : Hid (Fr (foot p v) w w4) := Lib.hid (foot_trans HF3.out HLv3.out hf4)
    have HL4 : Hid (Lies w v v4) := Lib.hid (HLv3.out.trans hl4 HF3.out.size)
    have HW4 := Lib.hid hw4
    clear hw4 hf4 hl4 c3
    go_wp2
    go_end0
    refine ⟨rfl, v4, ?_, HF4.out, HL4.out⟩
    rw [HR3.out]
    exact HW4.out

theorem put5 (w : World) (B p : Nat) (v : Value) (l : List UInt8) (r : Rec) (D : Option Addr) (dc : Nat) (h : Wr w B p v l) (hB : B ≤ w.heap.size) (hl : l.length ≤ 500000000) (hD : Rd w D r.data) (hDf : ∀ ad, D = some ad → ad.block ∉ foot p v) (hDc : D = none → dc = 0) (hf : Fits r) :
    Calls Try.prog 29 #[.pointer (some ⟨p, 0, none⟩), .agg #[.int .i64 (r.pos : Int), .int .i64 (r.run : Int), .slice D r.data.length dc]] w (PutDone w B p v (l ++ recB r)) := by
  by_cases h0 : r.run = 0
  · exact put_data5 w B p v l r D dc h hB hl hD hDf hDc hf h0
  · exact put_run5 w B p v l r D dc h hB hl hD hDf hDc hf (by omega)

end Ips
end Go.Proofs.Ytchakjknndpmpaa
