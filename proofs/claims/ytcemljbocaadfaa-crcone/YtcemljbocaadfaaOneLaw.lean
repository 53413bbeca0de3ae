/-
  picklocklaw02.CrcOne returns true for every input: bytes that differ in one byte, or in four that follow each other, have unlike sums. No condition.
-/
import Derived.Test.YtcemljbocaadfaaPartsLaw
import Derived.Test.YtcemljbocaadfaaForgedLaw
import Derived.Test.YtcemljbocaadfaaXorsLaw
import Derived.StillTailTactics
namespace Go.Proofs.Ytcemljbocaadfaa
open Go.RowKit

/-- The bytes l, of which k from place p on are xored. -/
def xored (l : List UInt8) (p : Nat) (z : Nat → UInt8) : Nat → List UInt8
  | 0 => l
  | k + 1 => (xored l p z k).set (p + k) (l.getD (p + k) 0 ^^^ z k)
theorem xored_length (l : List UInt8) (p : Nat) (z : Nat → UInt8) (k : Nat) : (xored l p z k).length = l.length := by
  induction k with
  | zero => rfl
  | succ k ih => simp [xored, ih]
theorem xored_get (l : List UInt8) (p : Nat) (z : Nat → UInt8) (k j : Nat) (h : p + k ≤ j) : (xored l p z k)[j]? = l[j]? := by
  induction k with
  | zero => rfl
  | succ k ih => rw [xored, List.getElem?_set_ne (by omega), ih (by omega)]
theorem xored_four (pre post : List UInt8) (x0 x1 x2 x3 : UInt8) (z : Nat → UInt8) :
    xored (pre ++ [x0, x1, x2, x3] ++ post) pre.length z 4 = pre ++ [x0 ^^^ z 0, x1 ^^^ z 1, x2 ^^^ z 2, x3 ^^^ z 3] ++ post := by
  simp [xored, List.getD, List.set_append_right]
theorem cut_four (l : List UInt8) (p : Nat) (h : p + 4 ≤ l.length) : ∃ x0 x1 x2 x3, l = l.take p ++ [x0, x1, x2, x3] ++ l.drop (p + 4) := by
  have e : l.drop p = l[p] :: l[p + 1] :: l[p + 2] :: l[p + 3] :: l.drop (p + 4) := by
    rw [List.drop_eq_getElem_cons (by omega), List.drop_eq_getElem_cons (by omega), List.drop_eq_getElem_cons (by omega), List.drop_eq_getElem_cons (by omega)]
  refine ⟨l[p], l[p + 1], l[p + 2], l[p + 3], ?_⟩
  have h1 := List.take_append_drop p l
  rw [e] at h1
  simp
theorem xor_self_iff (x y : UInt8) : x ^^^ y = x ↔ y = 0 := by
  constructor
  · intro h
    have : x ^^^ (x ^^^ y) = x ^^^ x := by rw [h]
    rw [← UInt8.xor_assoc, UInt8.xor_self, UInt8.zero_xor] at this
    exact this
  · rintro rfl
    simp
/-- The four bytes, by their places. -/
def at4 (y0 y1 y2 y3 : UInt8) : Nat → UInt8
  | 0 => y0
  | 1 => y1
  | 2 => y2
  | _ => y3
theorem Quad.at {w : World} {g : Nat} {y0 y1 y2 y3 : UInt8} (h : Quad w g y0 y1 y2 y3) (k : Nat) (hk : k < 4) : w.cell? ⟨g, k, none⟩ = some (.int .u8 ((at4 y0 y1 y2 y3 k).toNat : Int)) := by
  rcases (show k = 0 ∨ k = 1 ∨ k = 2 ∨ k = 3 by omega) with rfl | rfl | rfl | rfl
  · exact Blk.cell h 0
  · exact Blk.cell h 1
  · exact Blk.cell h 2
  · exact Blk.cell h 3
theorem xored_same (l : List UInt8) (p : Nat) (y0 y1 y2 y3 : UInt8) (h : p + 4 ≤ l.length) :
    (next 0#32 (xored l p (at4 y0 y1 y2 y3) 4) = next 0#32 l) ↔ (y0 = 0 ∧ y1 = 0 ∧ y2 = 0 ∧ y3 = 0) := by
  obtain ⟨x0, x1, x2, x3, e⟩ := cut_four l p h
  have hp : (l.take p).length = p := by rw [List.length_take]; omega
  have e2 : xored l p (at4 y0 y1 y2 y3) 4 = l.take p ++ [x0 ^^^ y0, x1 ^^^ y1, x2 ^^^ y2, x3 ^^^ y3] ++ l.drop (p + 4) := by
    have := xored_four (l.take p) (l.drop (p + 4)) x0 x1 x2 x3 (at4 y0 y1 y2 y3)
    rw [← e, hp] at this
    exact this
  constructor
  · intro hn
    rw [e2] at hn
    have hn2 : next 0#32 (l.take p ++ [x0 ^^^ y0, x1 ^^^ y1, x2 ^^^ y2, x3 ^^^ y3] ++ l.drop (p + 4)) = next 0#32 (l.take p ++ [x0, x1, x2, x3] ++ l.drop (p + 4)) := by rw [hn, ← e]
    obtain ⟨h0, h1, h2, h3⟩ := next_one _ _ _ _ _ _ _ _ _ _ _ hn2
    exact ⟨(xor_self_iff _ _).1 h0, (xor_self_iff _ _).1 h1, (xor_self_iff _ _).1 h2, (xor_self_iff _ _).1 h3⟩
  · rintro ⟨rfl, rfl, rfl, rfl⟩
    rw [e2]
    simp only [UInt8.xor_zero]
    rw [← e]

/-- A step of the loop: the byte that stands there, and what the store leaves. -/
theorem Own.xor_step {w : World} {B n c g p k : Nat} {l : List UInt8} {z : Nat → UInt8} (h : Own w B (.slice (some ⟨g, 0, none⟩) n c) (xored l p z k)) (hl : l.length = n) (hpk : p + k < n) :
    ∃ x : UInt8, w.cell? ⟨g, p + k, none⟩ = some (.int .u8 (x.toNat : Int)) ∧ w.frozen? ⟨g, p + k, none⟩ = false ∧ Own (w.setCell ⟨g, p + k, none⟩ (.int .u8 ((x ^^^ z k).toNat : Int))) B (.slice (some ⟨g, 0, none⟩) n c) (xored l p z (k + 1)) := by
  obtain ⟨g', e, hn, _, h2, h3⟩ := h.head (by omega)
  cases e
  obtain ⟨b, o, x, e, hx, hc⟩ := h.rd.at (p + k) (by rw [xored_length]; omega)
  cases e
  rw [Nat.zero_add] at hc
  refine ⟨x, hc, h2 _, ?_⟩
  rw [xored_get l p z k _ (Nat.le_refl _)] at hx
  have hx' : l.getD (p + k) 0 = x := by rw [List.getD, hx]; rfl
  have := h3 (p + k) (x ^^^ z k)
  rw [xored, hx']
  exact this

set_option maxRecDepth 100000 in
set_option maxHeartbeats 4000000 in
theorem one_walk (a0 : Option Addr) (cap0 : Nat) (l : List UInt8) (z1 : Int) (y0 y1 y2 y3 : UInt8) (w : World) (hr : Rd w a0 l) (hc : a0 = none → cap0 = 0) (hlc : l.length ≤ cap0) (_hcm : cap0 ≤ maxLen) :
    Calls Try.prog 7 #[.slice a0 l.length cap0, .int .i64 z1, .agg #[.int .u8 (y0.toNat : Int), .int .u8 (y1.toNat : Int), .int .u8 (y2.toNat : Int), .int .u8 (y3.toNat : Int)]] w fun e w' => e = .returned (.bool true) ∧ Below w.heap.size w w' := by
  obtain ⟨i0, hi, hz0, hz1, hz2⟩ := info_parts info5
  have HR := Lib.hid hr
  have HC := Lib.hid hc
  have HL := Lib.hid (take_len l 1000 (by omega))
  have hcnt : (min (l.length : Int) 1000).toNat ≤ 1000 := by omega
  unfold maxLen at _hcm
  have HB0 : Hid (Blk (w.alloc (.cells #[.int .u8 (y0.toNat : Int), .int .u8 (y1.toNat : Int), .int .u8 (y2.toNat : Int), .int .u8 (y3.toNat : Int)] 28)) w.heap.size 28 #[.int .u8 (y0.toNat : Int), .int .u8 (y1.toNat : Int), .int .u8 (y2.toNat : Int), .int .u8 (y3.toNat : Int)]) := Blk.fresh _ _ _
  have HF0 : Hid (Fr [] w (w.alloc (.cells #[.int .u8 (y0.toNat : Int), .int .u8 (y1.toNat : Int), .int .u8 (y2.toNat : Int), .int .u8 (y3.toNat : Int)] 28))) := (Fr.refl [] w).alloc _
  clear hr hc
  go_enter Try.func7, Try.ntmps7
  go_wp2_with fail
  refine (shown_any _).mono ?_
  rintro e w1 ⟨rfl, hf1⟩
  have HF1 : Hid (Fr [] w w1) := HF0.out.tr hf1
  have HQ1 : Hid (Quad w1 w.heap.size y0 y1 y2 y3) := HB0.out.fr hf1 (by simp)
  have hs1 := HF1.out.size
  have hs1' : w.heap.size < w1.heap.size := HQ1.out.lt
  clear hf1 HF0 HB0
  go_wp2_with (at_builtin; refine wpList_app _ rfl (.tmp 11) (.tmp 16) 23 rfl w1.heap.size i0 Try.underlying23 hi hz0 hz1 hz2 _ [] rfl (Own.empty w1 _ (Nat.le_refl _)) a0 _ cap0 (l.take (min (l.length : Int) 1000).toNat) rfl HL.out (rd_take (HR.out.later (HF1.out.alloc _) (by simp)) _) HC.out (by simp; omega) (by simp) ?_)
  intro A1 c1 w2 ho2 hf2 hl2
  have HF12 : Hid (Fr [] w1 w2) := ((Fr.refl [] w1).alloc _).trans hf2 (by simp [Value.ownBlock])
  have HM : Hid ((l.take (min (l.length : Int) 1000).toNat).length = (min (l.length : Int) 1000).toNat) := HL.out
  obtain ⟨g, rfl⟩ := ho2.some_ hl2
  have HO2 := Lib.hid ho2
  have HQ2 : Hid (Quad w2 w.heap.size y0 y1 y2 y3) := HQ1.out.fr HF12.out (by simp)
  clear ho2 hf2 hl2 HL HR HC hlc
  generalize (min (l.length : Int) 1000).toNat = n at *
  generalize l.take n = m at *
  obtain ⟨hnc1, hnc2⟩ := HO2.out.caps
  by_cases hn4 : n < 4
  · go_wp2
    go_ret
    exact ⟨rfl, (HF1.out.tr HF12.out).below (by simp) (Nat.le_refl _)⟩
  · obtain ⟨p, hp, hpn⟩ := place_of z1 ((n : Int) - 4) (by omega)
    rw [show (n : Int) - 4 + 1 = n - 3 by omega] at hp
    go_wp2_with (at_builtin; refine wpList_app _ rfl (.tmp 28) (.tmp 29) 23 rfl w2.heap.size i0 Try.underlying23 hi hz0 hz1 hz2 _ [] rfl (Own.empty w2 _ (Nat.le_refl _)) (some ⟨g, 0, none⟩) n c1 m rfl HM.out (HO2.out.rd.later ((Fr.refl [] _).alloc _) (by simp)) (by simp) (by simp; omega) (by simp) ?_)
    intro A3 c3 w3 ho3 hf3 hl3
    have HF23 : Hid (Fr [] w2 w3) := ((Fr.refl [] w2).alloc _).trans hf3 (by simp [Value.ownBlock])
    obtain ⟨g2, rfl⟩ := ho3.some_ hl3
    have HO3 := Lib.hid ho3
    have hg2 : w2.heap.size ≤ g2 := (ho3.lt g2 rfl).1
    have HS2 := Lib.hid HF12.out.size
    have HR3 : Hid (Rd w3 (some ⟨g, 0, none⟩) m) := HO2.out.rd.fr HF23.out (by simp)
    have hg1 : g < w2.heap.size := (HO2.out.lt g rfl).2
    have HQ3 : Hid (Quad w3 w.heap.size y0 y1 y2 y3) := HQ2.out.fr HF23.out (by simp)
    clear ho3 hf3 hl3 hp
    go_wp2
    go_loopw [9] (fun i wr => ∃ k : Nat, k ≤ 4 ∧ i = .int .i64 k ∧ Own wr w2.heap.size (.slice (some ⟨g2, 0, none⟩) n c3) (xored m p (at4 y0 y1 y2 y3) k) ∧ Fr [g2] w3 wr) (fun i _ => 4 - (intOf i).toNat)
    case atStart => exact ⟨0, Nat.zero_le _, rfl, HO3.out, Fr.refl _ _⟩
    case round =>
      obtain ⟨k, hk, rfl, ho, hf⟩ := hrel
      have HO := Lib.hid ho
      have HF := Lib.hid hf
      have HQ : Hid (Quad wr w.heap.size y0 y1 y2 y3) := HQ3.out.fr hf (by have := HS2.out; simp; omega)
      clear ho hf
      by_cases hlt : k < 4
      · obtain ⟨x, hx, hfz, hnew⟩ := HO.out.xor_step HM.out (by omega)
        have HN := Lib.hid hnew
        have hy := HQ.out.at k hlt
        have e1 := xor8 x (at4 y0 y1 y2 y3 k)
        clear hnew
        generalize at4 y0 y1 y2 y3 k = y at *
        generalize x ^^^ y = v at *
        obtain ⟨q, hq⟩ : ∃ q, q = p + k := ⟨_, rfl⟩
        rw [← hq] at hx hfz HN
        have hwr : IntKind.i64.wrap ((p : Int) + k) = (q : Int) := by rw [IntKind.wrap_i64]; omega
        have hqn : (q : Int) < n := by omega
        have hq0 : (0 : Int) ≤ q := by omega
        clear hq
        go_wp2
        go_still_tail 15, (by kernel_rfl)
        change wpList _ _ _ _ _ wr.drew
        go_wp2
        exact ⟨⟨k + 1, by omega, by go_num, HN.out.fr ((Fr.refl [] _).drew) (by simp), (HF.out.setCell (by simp) _).drew⟩, by simp [intOf]; omega⟩
      · obtain rfl : k = 4 := by omega
        have HW : Hid (Fr [] w wr) := (HF1.out.tr (HF12.out.tr HF23.out)).trans HF.out (by have := HS2.out; simp; omega)
        have HRB : Hid (Rd wr (some ⟨g, 0, none⟩) m) := HR3.out.fr HF.out (by simp; omega)
        have HLX : Hid ((xored m p (at4 y0 y1 y2 y3) 4).length = n) := by
          show (xored m p (at4 y0 y1 y2 y3) 4).length = n
          rw [xored_length, HM.out]
        have hiff := xored_same m p y0 y1 y2 y3 (by rw [HM.out]; omega)
        have C1 : Hid (∀ w', Fr [] wr w' → Calls Try.prog 9 #[.slice (some ⟨g2, 0, none⟩) n c3] w' fun e w'' => e = .returned (.int .u32 (u (next 0#32 (xored m p (at4 y0 y1 y2 y3) 4)))) ∧ Fr [] w' w'') :=
          fun w' hf => sum_any w' _ n c3 _ HLX.out (HO.out.rd.fr hf (by simp)) (by omega)
        have C2 : Hid (∀ w', Fr [] wr w' → Calls Try.prog 9 #[.slice (some ⟨g, 0, none⟩) n c1] w' fun e w'' => e = .returned (.int .u32 (u (next 0#32 m))) ∧ Fr [] w' w'') :=
          fun w' hf => sum_any w' _ n c1 m HM.out (HRB.out.fr hf (by simp)) (by omega)
        have K : Hid (∀ w', Fr [] wr w' → Quad w' w.heap.size y0 y1 y2 y3) := fun w' hf => HQ.out.fr hf (by simp)
        have g28 := guard28
        have b28 := build28
        have o0 := fun w' hf => (K.out w' hf).cells.1
        have o1 := fun w' hf => (K.out w' hf).cells.2.1
        have o2 := fun w' hf => (K.out w' hf).cells.2.2.1
        have o3 := fun w' hf => (K.out w' hf).cells.2.2.2
        by_cases hy : y0 = 0 ∧ y1 = 0 ∧ y2 = 0 ∧ y3 = 0
        · have hsame := hiff.2 hy
          rw [hsame] at C1
          have he : ∀ w', (Op.equalIn 10000 28 (.agg #[.int .u8 (y0.toNat : Int), .int .u8 (y1.toNat : Int), .int .u8 (y2.toNat : Int), .int .u8 (y3.toNat : Int)]) (.agg #[.int .u8 0, .int .u8 0, .int .u8 0, .int .u8 0])).run Try.prog w' = .ok true w' := by
            obtain ⟨rfl, rfl, rfl, rfl⟩ := hy
            exact eq28_same 0 0 0 0
          clear hsame hiff hy HLX HO
          generalize next 0#32 m = sm at *
          go_wp2
          go_region_held3 (fun w' => Fr [] wr w') (first | exact (Fr.refl [] wr).drew | exact Fr.tr (by assumption) HF6.out | exact Fr.tr (by assumption) HF5.out)
            (first
            | (go_at_call_of 9 (Value.slice (some (⟨g2, 0, none⟩ : Addr)) n c3); refine (C1.out _ (by assumption)).mono ?_; rintro e w5 ⟨rfl, hf5⟩; have HF5 := Lib.hid hf5; clear hf5)
            | (go_at_call_of 9 (Value.slice (some (⟨g, 0, none⟩ : Addr)) n c1); refine (C2.out _ (by assumption)).mono ?_; rintro e w6 ⟨rfl, hf6⟩; have HF6 := Lib.hid hf6; clear hf6))
          have HF7 : Hid (Fr [] wr w6) := by assumption
          go_wp2
          go_ret
          exact ⟨rfl, (HW.out.tr HF7.out).below (by simp) (Nat.le_refl _)⟩
        · have hne : (u (next 0#32 (xored m p (at4 y0 y1 y2 y3) 4)) == u (next 0#32 m)) = false := by
            rw [beq_eq_false_iff_ne]
            exact fun e => hy (hiff.1 (u_inj e))
          have he : ∀ w', (Op.equalIn 10000 28 (.agg #[.int .u8 (y0.toNat : Int), .int .u8 (y1.toNat : Int), .int .u8 (y2.toNat : Int), .int .u8 (y3.toNat : Int)]) (.agg #[.int .u8 0, .int .u8 0, .int .u8 0, .int .u8 0])).run Try.prog w' = .ok false w' := eq28_other y0 y1 y2 y3 0 0 0 0 hy
          clear hiff hy HLX HO
          generalize next 0#32 (xored m p (at4 y0 y1 y2 y3) 4) = sx at *
          generalize next 0#32 m = sm at *
          go_wp2
          go_region_held3 (fun w' => Fr [] wr w') (first | exact (Fr.refl [] wr).drew | exact Fr.tr (by assumption) HF6.out | exact Fr.tr (by assumption) HF5.out)
            (first
            | (go_at_call_of 9 (Value.slice (some (⟨g2, 0, none⟩ : Addr)) n c3); refine (C1.out _ (by assumption)).mono ?_; rintro e w5 ⟨rfl, hf5⟩; have HF5 := Lib.hid hf5; clear hf5)
            | (go_at_call_of 9 (Value.slice (some (⟨g, 0, none⟩ : Addr)) n c1); refine (C2.out _ (by assumption)).mono ?_; rintro e w6 ⟨rfl, hf6⟩; have HF6 := Lib.hid hf6; clear hf6))
          have HF7 : Hid (Fr [] wr w6) := by assumption
          go_wp2
          go_ret
          exact ⟨rfl, (HW.out.tr HF7.out).below (by simp) (Nat.le_refl _)⟩

end Go.Proofs.Ytcemljbocaadfaa
