/-
  picklocklaw02.CrcXors returns true for every input: of three rows of as many bytes the xor has the xor of their sums. No condition.
-/
import Derived.Test.YtcemljbocaadfaaPartsLaw
namespace Go.Proofs.Ytcemljbocaadfaa
open Go.RowKit

theorem xr_length (a b c : List UInt8) (h1 : b.length = a.length) (h2 : c.length = a.length) : (xr a b c).length = a.length := by
  induction a generalizing b c with
  | nil => rfl
  | cons x a ih =>
    cases b with
    | nil => simp at h1
    | cons y b =>
      cases c with
      | nil => simp at h2
      | cons z c => simp [xr, ih b c (by simpa using h1) (by simpa using h2)]
theorem xr_snoc (a b c : List UInt8) (x y z : UInt8) (h1 : b.length = a.length) (h2 : c.length = a.length) : xr (a ++ [x]) (b ++ [y]) (c ++ [z]) = xr a b c ++ [x ^^^ y ^^^ z] := by
  induction a generalizing b c with
  | nil =>
    obtain rfl := List.eq_nil_of_length_eq_zero h1
    obtain rfl := List.eq_nil_of_length_eq_zero h2
    rfl
  | cons v a ih =>
    cases b with
    | nil => simp at h1
    | cons y b =>
      cases c with
      | nil => simp at h2
      | cons z c => simp [xr, ih b c (by simpa using h1) (by simpa using h2)]
theorem xr_take (a b c : List UInt8) (k : Nat) (x y z : UInt8) (hx : a[k]? = some x) (hy : b[k]? = some y) (hz : c[k]? = some z) :
    xr (a.take (k + 1)) (b.take (k + 1)) (c.take (k + 1)) = xr (a.take k) (b.take k) (c.take k) ++ [x ^^^ y ^^^ z] := by
  obtain ⟨ha, rfl⟩ := List.getElem?_eq_some_iff.1 hx
  obtain ⟨hb, rfl⟩ := List.getElem?_eq_some_iff.1 hy
  obtain ⟨hc, rfl⟩ := List.getElem?_eq_some_iff.1 hz
  rw [take_snoc a k ha, take_snoc b k hb, take_snoc c k hc, xr_snoc]
  · simp; omega
  · simp; omega
theorem xor8 (x y : UInt8) : bits .xor .u8 (x.toNat : Int) (y.toNat : Int) = ((x ^^^ y).toNat : Int) := by
  rw [u8_xor_nat _ _ x.toNat_lt y.toNat_lt, UInt8.toNat_xor]

theorem min_if (x y : Int) : (if y < x then y else x) = min x y := by
  rw [Int.min_def]
  split <;> split <;> omega
theorem run_min4 {P : Program} (w : World) (ts : Array TypeId) (t : TypeId) (a b c d : Int) :
    (Builtin.min_ ts t #[.int .i64 a, .int .i64 b, .int .i64 c, .int .i64 d]).run P w = .ok (.int .i64 (min (min (min a b) c) d)) w := by
  simp [Builtin.min_, Builtin.min2, min_if]
theorem min4 {P : Program} (ts : Array TypeId) (t : TypeId) (a b c : Nat) (d : Int) (hd : 0 ≤ d) : ∃ n : Nat, n ≤ a ∧ n ≤ b ∧ n ≤ c ∧ n ≤ d ∧
    ∀ w, (Builtin.min_ ts t #[.int .i64 (a : Int), .int .i64 (b : Int), .int .i64 (c : Int), .int .i64 d]).run P w = .ok (.int .i64 (n : Int)) w := by
  refine ⟨min (min (min a b) c) d.toNat, by omega, by omega, by omega, by omega, fun w => ?_⟩
  rw [run_min4]
  congr 2
  omega

set_option maxRecDepth 100000 in
set_option maxHeartbeats 4000000 in
theorem xors_walk (a0 a1 a2 : Option Addr) (cap0 cap1 cap2 : Nat) (la lb lc : List UInt8) (w : World) (hr0 : Rd w a0 la) (hr1 : Rd w a1 lb) (hr2 : Rd w a2 lc)
    (hlc0 : la.length ≤ cap0) (_hcm0 : cap0 ≤ maxLen) (hlc1 : lb.length ≤ cap1) (_hcm1 : cap1 ≤ maxLen) (hlc2 : lc.length ≤ cap2) (_hcm2 : cap2 ≤ maxLen) :
    Calls Try.prog 6 #[.slice a0 la.length cap0, .slice a1 lb.length cap1, .slice a2 lc.length cap2] w fun e w' => e = .returned (.bool true) ∧ Below w.heap.size w w' := by
  obtain ⟨i0, hi, hz0, hz1, hz2⟩ := info_parts info5
  have HR0 := Lib.hid hr0
  have HR1 := Lib.hid hr1
  have HR2 := Lib.hid hr2
  unfold maxLen at _hcm0 _hcm1 _hcm2
  clear hr0 hr1 hr2
  go_enter Try.func6, Try.ntmps6
  go_wp2_with fail
  refine (shown_any _).mono ?_
  rintro e w1 ⟨rfl, hf1⟩
  have HF1 := Lib.hid hf1
  have hs1 := hf1.size
  clear hf1
  obtain ⟨n, hn0, hn1, hn2, hn3, hmin⟩ := min4 (P := Try.prog) #[3, 3, 3, 3] 3 la.length lb.length lc.length 500 (by omega)
  have hc0 : (n : Int) ≤ cap0 := by omega
  have hc1 : (n : Int) ≤ cap1 := by omega
  have hc2 : (n : Int) ≤ cap2 := by omega
  go_wp2
  clear hmin
  go_loopw [9, 10] (fun o i wr => ∃ k : Nat, k ≤ n ∧ i = .int .i64 k ∧ Own wr w1.heap.size o (xr (la.take k) (lb.take k) (lc.take k)) ∧ Fr [] w1 wr) (fun _ i _ => n - (intOf i).toNat)
  case atStart => exact ⟨0, Nat.zero_le _, rfl, by simpa [xr] using Own.none_ w1 w1.heap.size, Fr.refl _ _⟩
  case round =>
    obtain ⟨k, hk, rfl, ho, hf⟩ := hrel
    have HF := Lib.hid hf
    have hsr := hf.size
    obtain ⟨t, ht⟩ : ∃ t, t = xr (la.take k) (lb.take k) (lc.take k) := ⟨_, rfl⟩
    rw [← ht] at ho
    have HO := Lib.hid ho
    have HTL : Hid (t.length = k) := by
      show t.length = k
      rw [ht, xr_length _ _ _ (by simp; omega) (by simp; omega), List.length_take]
      omega
    obtain ⟨Ao, co, hv, -⟩ := HO.out.slice
    rw [HTL.out] at hv
    subst hv
    have HT := Lib.hid ht
    clear ho hf ht
    by_cases hlt : k < n
    · have HW : Hid (Fr [] w wr) := HF1.out.tr HF.out
      obtain ⟨b0, o0, x, rfl, hx, hcx⟩ := HR0.out.at k (by omega)
      obtain ⟨b1, o1, y, rfl, hy, hcy⟩ := HR1.out.at k (by omega)
      obtain ⟨b2, o2, z, rfl, hz, hcz⟩ := HR2.out.at k (by omega)
      have HXR := Lib.hid (xr_take la lb lc k x y z hx hy hz)
      have hcx' := HW.out.cell hcx (by simp)
      have hcy' := HW.out.cell hcy (by simp)
      have hcz' := HW.out.cell hcz (by simp)
      have HCX : Hid (w.cell? ⟨b0, o0 + k, none⟩ = some (.int .u8 (x.toNat : Int)) ∧ w.cell? ⟨b1, o1 + k, none⟩ = some (.int .u8 (y.toNat : Int)) ∧ w.cell? ⟨b2, o2 + k, none⟩ = some (.int .u8 (z.toNat : Int))) := ⟨hcx, hcy, hcz⟩
      clear hx hy hz hcx hcy hcz
      have e1 := xor8 x y
      have e2 := xor8 (x ^^^ y) z
      generalize x ^^^ y = xy at *
      generalize xy ^^^ z = v at *
      have hk0 : (k : Int) < la.length := by omega
      have hk1 : (k : Int) < lb.length := by omega
      have hk2 : (k : Int) < lc.length := by omega
      have HFA : Hid (Fr [] wr (wr.alloc (.cells #[.int .u8 (v.toNat : Int)] 5)).drew) := ((Fr.refl [] wr).alloc _).drew
      have HOW : Hid (Own (wr.alloc (.cells #[.int .u8 (v.toNat : Int)] 5)).drew w1.heap.size (.slice Ao k co) t) := HO.out.fr HFA.out (by simp)
      have HRV : Hid (Rd (wr.alloc (.cells #[.int .u8 (v.toNat : Int)] 5)).drew (some ⟨wr.heap.size, 0, none⟩) [v]) := (rd_one wr v).fr ((Fr.refl [] _).drew) (by simp)
      have HFV : Hid (Fr [] w (wr.alloc (.cells #[.int .u8 (v.toNat : Int)] 5)).drew) := HW.out.tr HFA.out
      have HSV : Hid (∀ i ∈ (Value.slice Ao k co).ownBlock.toList, i ∈ [] ∨ w.heap.size ≤ i) := fun i hi => .inr (by have := (HO.out.lt i (by simpa using hi)).1; omega)
      go_wp2
      go_region_held3 (fun w' => w'.cell? ⟨b0, o0 + k, none⟩ = some (.int .u8 (x.toNat : Int)) ∧ w'.cell? ⟨b1, o1 + k, none⟩ = some (.int .u8 (y.toNat : Int)) ∧ w'.cell? ⟨b2, o2 + k, none⟩ = some (.int .u8 (z.toNat : Int))) (first | exact ⟨hx3, hy3, hz3⟩ | exact ⟨hcx', hcy', hcz'⟩ | go_keep)
        ((refine step_app _ (by rfl) (.tmp 24) (.tmp 39) 23 (by rfl) w1.heap.size i0 Try.underlying23 hi hz0 hz1 hz2 (.slice Ao k co) t k HTL.out (by rfl) (by exact HOW.out) (some ⟨wr.heap.size, 0, none⟩) 1 1 [v] (by rfl) rfl (by exact HRV.out) (by simp) (by omega) (by simp; omega) ?_; intro A' c' w3 ho3 hf3 hl3; have hf3' := HFV.out.trans hf3 HSV.out; have hx3 := hf3'.cell HCX.out.1 (by simp); have hy3 := hf3'.cell HCX.out.2.1 (by simp); have hz3 := hf3'.cell HCX.out.2.2 (by simp); have HO3 := Lib.hid ho3; have HF3 := Lib.hid hf3; clear ho3 hf3 hl3 hf3'))
      go_wp2
      refine ⟨⟨k + 1, by omega, by go_num, ?_, ?_⟩, by simp [intOf]; omega⟩
      · rw [HXR.out, ← HT.out]
        exact HO3.out
      · exact (HF.out.tr HFA.out).trans HF3.out (fun i hi => .inr (HO.out.lt i (by simpa using hi)).1)
    · obtain rfl : k = n := by omega
      have HW : Hid (Fr [] w wr) := HF1.out.tr HF.out
      have HLA : Hid ((la.take k).length = k) := by
        show (la.take k).length = k
        rw [List.length_take]; omega
      have HLB : Hid ((lb.take k).length = k) := by
        show (lb.take k).length = k
        rw [List.length_take]; omega
      have HLC : Hid ((lc.take k).length = k) := by
        show (lc.take k).length = k
        rw [List.length_take]; omega
      have hsum := next_xr (la.take k) (lb.take k) (lc.take k) (by rw [HLA.out, HLB.out]) (by rw [HLA.out, HLC.out])
      rw [← HT.out] at hsum
      have C1 : Hid (∀ w', Fr [] wr w' → Calls Try.prog 9 #[.slice Ao k co] w' fun e w'' => e = .returned (.int .u32 (u (next 0#32 t))) ∧ Fr [] w' w'') :=
        fun w' hf => sum_any w' Ao k co t HTL.out (HO.out.rd.fr hf (by simp)) (by omega)
      have C2 : Hid (∀ w', Fr [] wr w' → Calls Try.prog 9 #[.slice a0 k cap0] w' fun e w'' => e = .returned (.int .u32 (u (next 0#32 (la.take k)))) ∧ Fr [] w' w'') :=
        fun w' hf => sum_any w' a0 k cap0 _ HLA.out ((rd_take HR0.out k).fr (HW.out.tr hf) (by simp)) (by omega)
      have C3 : Hid (∀ w', Fr [] wr w' → Calls Try.prog 9 #[.slice a1 k cap1] w' fun e w'' => e = .returned (.int .u32 (u (next 0#32 (lb.take k)))) ∧ Fr [] w' w'') :=
        fun w' hf => sum_any w' a1 k cap1 _ HLB.out ((rd_take HR1.out k).fr (HW.out.tr hf) (by simp)) (by omega)
      have C4 : Hid (∀ w', Fr [] wr w' → Calls Try.prog 9 #[.slice a2 k cap2] w' fun e w'' => e = .returned (.int .u32 (u (next 0#32 (lc.take k)))) ∧ Fr [] w' w'') :=
        fun w' hf => sum_any w' a2 k cap2 _ HLC.out ((rd_take HR2.out k).fr (HW.out.tr hf) (by simp)) (by omega)
      generalize next 0#32 (la.take k) = sa at *
      generalize next 0#32 (lb.take k) = sb at *
      generalize next 0#32 (lc.take k) = sc at *
      generalize next 0#32 t = sd at *
      have e1 := xor_u sa sb
      have e2 := xor_u (sa ^^^ sb) sc
      rw [← hsum] at e2
      clear hsum
      generalize sa ^^^ sb = sab at *
      have hk0 : (0 : Int) ≤ k := by omega
      go_wp2
      go_region_held3 (fun w' => Fr [] wr w') (first | exact (Fr.refl [] wr).drew | exact Fr.tr (by assumption) HF6.out | exact Fr.tr (by assumption) HF5.out | exact Fr.tr (by assumption) HF4.out | exact Fr.tr (by assumption) HF3.out)
        (first
        | (go_at_call_of 9 (Value.slice Ao k co); refine (C1.out _ (by assumption)).mono ?_; rintro e w3 ⟨rfl, hf3⟩; have HF3 := Lib.hid hf3; clear hf3)
        | (go_at_call_of 9 (Value.slice a0 k cap0); refine (C2.out _ (by assumption)).mono ?_; rintro e w4 ⟨rfl, hf4⟩; have HF4 := Lib.hid hf4; clear hf4)
        | (go_at_call_of 9 (Value.slice a1 k cap1); refine (C3.out _ (by assumption)).mono ?_; rintro e w5 ⟨rfl, hf5⟩; have HF5 := Lib.hid hf5; clear hf5)
        | (go_at_call_of 9 (Value.slice a2 k cap2); refine (C4.out _ (by assumption)).mono ?_; rintro e w6 ⟨rfl, hf6⟩; have HF6 := Lib.hid hf6; clear hf6))
      have HF7 : Hid (Fr [] wr w6) := by assumption
      go_wp2
      go_ret
      exact ⟨rfl, (HW.out.tr HF7.out).below (by simp) (Nat.le_refl _)⟩

end Go.Proofs.Ytcemljbocaadfaa
