/-
  Patches of differences (ups): hunks, what they xor in, both ways, and why a patch that was spoilt is refused: in mathematics, of no program.
  append of bytes, slices that came in, parts of slices, rows of cells, min of four, a text's bytes: plain laws, of no function of the program.
-/
import Derived.Test.YtokfcknfkhlmfaaJ01
import Derived.Test.YtokfcknfkhlmfaaJ02
import Derived.Test.YtokfcknfkhlmfaaRows
import Derived.Maps.AppendAt
import Derived.Deep.RegionHeld3
import Derived.OpenShut
import Derived.Lib.MinMax
import Derived.Laws.EntriesVeiled
import Derived.WalkLawsBesides
import Derived.WalkSpells
import Derived.IntWalk
import Derived.Laws.Tables
import Derived.Lib.SlBytesConst
import Derived.Laws.Bits128
import Derived.BigQuiet
import Derived.Deep.QuietTactic
import Derived.Deep.WholeRow
namespace Go.Proofs.Ytokfcknfkhlmfaa
namespace Ups

/-- The byte at a place; 0, if there is none. -/
def at0 (l : List UInt8) (i : Nat) : UInt8 := l.getD i 0
theorem at0_lt (l : List UInt8) (i : Nat) (h : i < l.length) : at0 l i = l[i] := by simp [at0, List.getD, h]
theorem at0_ge (l : List UInt8) (i : Nat) (h : l.length ≤ i) : at0 l i = 0 := by simp [at0, List.getD, h]
theorem at0_get (l : List UInt8) (i : Nat) (x : UInt8) (h : l[i]? = some x) : at0 l i = x := by simp [at0, List.getD, h]
theorem at0_left (l m : List UInt8) (i : Nat) (h : i < l.length) : at0 (l ++ m) i = at0 l i := by simp [at0, List.getD, List.getElem?_append_left h]
theorem at0_right (l m : List UInt8) (i : Nat) (h : l.length ≤ i) : at0 (l ++ m) i = at0 m (i - l.length) := by simp [at0, List.getD, List.getElem?_append_right h]
theorem at0_zeros (n i : Nat) : at0 (List.replicate n 0) i = 0 := by
  by_cases h : i < n
  · rw [at0_lt _ _ (by simpa using h)]; simp
  · rw [at0_ge _ _ (by simpa using h)]
theorem at0_drop (l : List UInt8) (k i : Nat) : at0 (l.drop k) i = at0 l (k + i) := by simp [at0, List.getD]
theorem at0_zeros_app (g : Nat) (l : List UInt8) (i : Nat) : at0 (List.replicate g 0 ++ l) i = if i < g then 0 else at0 l (i - g) := by
  split
  · rename_i h; rw [at0_left _ _ _ (by simpa using h), at0_zeros]
  · rename_i h; rw [at0_right _ _ _ (by simp; omega)]; simp

/-- A hunk: what is skipped, and what is xored in. -/
structure Hk where
  skip : Nat
  xs : List UInt8
/-- The bytes of a hunk. -/
def hkB (h : Hk) : List UInt8 := Var.putV h.skip ++ (h.xs ++ [0])
/-- The bytes ahead of the first 0. -/
def lead (l : List UInt8) : List UInt8 := l.takeWhile (fun x => x != 0)

theorem lead_nil : lead [] = [] := rfl
theorem lead_zero (t : List UInt8) : lead (0 :: t) = [] := by simp [lead]
theorem lead_cons (x : UInt8) (t : List UInt8) (h : x ≠ 0) : lead (x :: t) = x :: lead t := by simp [lead, h]
theorem lead_all (l : List UInt8) : ∀ x ∈ lead l, x ≠ 0 := by
  intro x hx
  induction l with
  | nil => simp [lead] at hx
  | cons y t ih =>
    by_cases h : y = 0
    · subst h; rw [lead_zero] at hx; simp at hx
    · rw [lead_cons y t h] at hx
      rcases List.mem_cons.1 hx with rfl | hx
      · exact h
      · exact ih hx
theorem lead_le (l : List UInt8) : (lead l).length ≤ l.length := by
  induction l with
  | nil => simp [lead]
  | cons y t ih =>
    by_cases h : y = 0
    · subst h; rw [lead_zero]; simp
    · rw [lead_cons y t h]; simpa using ih
/-- Bytes are those ahead of the first 0, and the rest, which is none or begins with 0. -/
theorem lead_drop (l : List UInt8) : l = lead l ++ l.drop (lead l).length ∧ at0 l (lead l).length = 0 := by
  induction l with
  | nil => simp [lead, at0]
  | cons y t ih =>
    by_cases h : y = 0
    · subst h; simp [lead_zero, at0]
    · rw [lead_cons y t h]
      refine ⟨by simpa using ih.1, ?_⟩
      have := ih.2
      simpa [at0] using this

/-- The hunks of the bytes l, g places behind the last one. -/
def hk (g : Nat) (l : List UInt8) : List Hk :=
  match l with
  | [] => []
  | x :: t => if x = 0 then hk (g + 1) t else ⟨g, lead (x :: t)⟩ :: hk 0 ((x :: t).drop ((lead (x :: t)).length + 1))
termination_by l.length
decreasing_by
  · simp
  · simp; omega

theorem hk_nil (g : Nat) : hk g [] = [] := by rw [hk]
theorem hk_zero (g : Nat) (t : List UInt8) : hk g (0 :: t) = hk (g + 1) t := by rw [hk]; simp
theorem hk_more (g : Nat) (x : UInt8) (t : List UInt8) (h : x ≠ 0) : hk g (x :: t) = ⟨g, lead (x :: t)⟩ :: hk 0 ((x :: t).drop ((lead (x :: t)).length + 1)) := by rw [hk]; simp [h]

/-- What hunks xor in, place by place. -/
def ex : List Hk → List UInt8
  | [] => []
  | h :: hs => List.replicate h.skip 0 ++ (h.xs ++ (0 :: ex hs))
theorem ex_cons (h : Hk) (hs : List Hk) : ex (h :: hs) = List.replicate h.skip 0 ++ (h.xs ++ (0 :: ex hs)) := rfl

theorem ex_hk : ∀ (n : Nat) (g : Nat) (l : List UInt8), l.length ≤ n → ∀ i, at0 (ex (hk g l)) i = at0 (List.replicate g 0 ++ l) i := by
  intro n
  induction n with
  | zero =>
    intro g l hl i
    obtain rfl : l = [] := List.eq_nil_of_length_eq_zero (by omega)
    rw [hk_nil, List.append_nil, at0_zeros]
    rfl
  | succ n ih =>
    intro g l hl i
    cases l with
    | nil =>
      rw [hk_nil, List.append_nil, at0_zeros]
      rfl
    | cons x t =>
      by_cases h : x = 0
      · subst h
        rw [hk_zero, ih (g + 1) t (by simpa using hl) i, at0_zeros_app, at0_zeros_app]
        by_cases h1 : i < g
        · rw [if_pos (by omega), if_pos h1]
        · rw [if_neg h1]
          by_cases h2 : i = g
          · subst h2
            rw [if_pos (by omega)]
            simp [at0]
          · rw [if_neg (by omega), show i - g = (i - (g + 1)) + 1 by omega]
            simp [at0]
      · have hd := lead_drop (x :: t)
        have hp : 0 < (lead (x :: t)).length := by rw [lead_cons x t h]; simp
        rw [hk_more g x t h, ex_cons]
        simp only
        rw [at0_zeros_app, at0_zeros_app]
        split
        · rfl
        · generalize i - g = k
          generalize hm : lead (x :: t) = m at *
          by_cases h1 : k < m.length
          · rw [at0_left _ _ _ h1]
            conv => rhs; rw [hd.1]
            rw [at0_left _ _ _ h1]
          · rw [at0_right _ _ _ (by omega)]
            by_cases h2 : k = m.length
            · subst h2
              rw [hd.2]
              simp [at0]
            · rw [show k - m.length = (k - m.length - 1) + 1 by omega]
              have e : at0 (0 :: ex (hk 0 ((x :: t).drop (m.length + 1)))) (k - m.length - 1 + 1) = at0 (ex (hk 0 ((x :: t).drop (m.length + 1)))) (k - m.length - 1) := by simp [at0]
              rw [e, ih 0 _ (by simp at hl ⊢; omega) _, List.replicate_zero, List.nil_append, at0_drop]
              congr 1
              omega

/-- The differences of a and b, up to the longer one's end. -/
def dif (a b : List UInt8) : List UInt8 := (List.range (max a.length b.length)).map fun i => at0 a i ^^^ at0 b i
theorem dif_length (a b : List UInt8) : (dif a b).length = max a.length b.length := by simp [dif]
theorem dif_get (a b : List UInt8) (i : Nat) (h : i < max a.length b.length) : (dif a b)[i]? = some (at0 a i ^^^ at0 b i) := by
  unfold dif
  rw [List.getElem?_map, List.getElem?_range h]
  rfl
theorem dif_at (a b : List UInt8) (i : Nat) : at0 (dif a b) i = at0 a i ^^^ at0 b i := by
  by_cases h : i < max a.length b.length
  · exact at0_get _ _ _ (dif_get a b i h)
  · rw [at0_ge _ _ (by rw [dif_length]; omega), at0_ge a i (by omega), at0_ge b i (by omega)]
    simp
/-- The hunks of a patch from a to b. -/
def hunks (a b : List UInt8) : List Hk := hk 0 (dif a b)
theorem hunks_at (a b : List UInt8) (i : Nat) : at0 (ex (hunks a b)) i = at0 a i ^^^ at0 b i := by
  unfold hunks
  rw [ex_hk _ 0 (dif a b) (Nat.le_refl _) i, List.replicate_zero, List.nil_append, dif_at]

/-- What is made of x by what is xored in, of so many bytes. -/
def madeL (m x : List UInt8) (n : Nat) : List UInt8 := (List.range n).map fun i => at0 x i ^^^ at0 m i
theorem madeL_length (m x : List UInt8) (n : Nat) : (madeL m x n).length = n := by simp [madeL]
theorem madeL_get (m x : List UInt8) (n i : Nat) (h : i < n) : (madeL m x n)[i]? = some (at0 x i ^^^ at0 m i) := by
  unfold madeL
  rw [List.getElem?_map, List.getElem?_range h]
  rfl
/-- A byte that is xored in behind the end leaves there something other than 0. -/
def Spills (m x : List UInt8) (n : Nat) : Prop := ∃ i, n ≤ i ∧ at0 m i ≠ 0 ∧ at0 x i ^^^ at0 m i ≠ 0

theorem xor_cancel (x y : UInt8) : x ^^^ (x ^^^ y) = y := by rw [← UInt8.xor_assoc, UInt8.xor_self, UInt8.zero_xor]
theorem xor_cancel' (x y : UInt8) : y ^^^ (x ^^^ y) = x := by rw [UInt8.xor_comm x y, xor_cancel]
theorem forth (a b : List UInt8) : madeL (ex (hunks a b)) a b.length = b ∧ ¬ Spills (ex (hunks a b)) a b.length := by
  constructor
  · apply List.ext_getElem?
    intro i
    by_cases h : i < b.length
    · rw [madeL_get _ _ _ _ h, hunks_at, xor_cancel, at0_lt b i h, List.getElem?_eq_getElem h]
    · rw [List.getElem?_eq_none (by rw [madeL_length]; omega), List.getElem?_eq_none (by omega)]
  · rintro ⟨i, h1, _, h3⟩
    rw [hunks_at, xor_cancel, at0_ge b i h1] at h3
    exact h3 rfl
theorem back (a b : List UInt8) : madeL (ex (hunks a b)) b a.length = a ∧ ¬ Spills (ex (hunks a b)) b a.length := by
  constructor
  · apply List.ext_getElem?
    intro i
    by_cases h : i < a.length
    · rw [madeL_get _ _ _ _ h, hunks_at, xor_cancel', at0_lt a i h, List.getElem?_eq_getElem h]
    · rw [List.getElem?_eq_none (by rw [madeL_length]; omega), List.getElem?_eq_none (by omega)]
  · rintro ⟨i, h1, _, h3⟩
    rw [hunks_at, xor_cancel', at0_ge a i h1] at h3
    exact h3 rfl

/-- Four bytes of a sum, the lowest one first. -/
def le4 (d : BitVec 32) : List UInt8 := [Crc.byteAt d 0, Crc.byteAt d 1, Crc.byteAt d 2, Crc.byteAt d 3]
theorem le4_length (d : BitVec 32) : (le4 d).length = 4 := rfl
def sum (l : List UInt8) : BitVec 32 := Crc.next 0#32 l
/-- Bytes with their sum behind them. -/
def signed (l : List UInt8) : List UInt8 := l ++ le4 (sum l)
theorem signed_length (l : List UInt8) : (signed l).length = l.length + 4 := by simp [signed, le4_length]

/-- All that is signed has one sum. -/
theorem signed_sum (l : List UInt8) : sum (signed l) = ~~~ Crc.eight (Crc.eight (Crc.eight (Crc.eight (BitVec.allOnes 32)))) := by
  unfold signed sum le4
  rw [Crc.next_append]
  unfold Crc.next
  rw [Crc.run_four, Crc.word_bytes]
  congr 5
  generalize Crc.run (~~~ 0#32) l = r
  rw [BitVec.not_not]
  apply BitVec.eq_of_getLsbD_eq
  intro i hi
  simp only [BitVec.getLsbD_xor, BitVec.getLsbD_not, BitVec.getLsbD_allOnes, hi, decide_true, Bool.true_and]
  cases r.getLsbD i <;> rfl

/-- Of two that are signed, and that differ in four bytes next to each other at most, both are the same. -/
theorem signed_one (l m : List UInt8) (pre post : List UInt8) (x0 x1 x2 x3 y0 y1 y2 y3 : UInt8) (hl : signed l = pre ++ [x0, x1, x2, x3] ++ post) (hm : signed m = pre ++ [y0, y1, y2, y3] ++ post) : x0 = y0 ∧ x1 = y1 ∧ x2 = y2 ∧ x3 = y3 := by
  refine Crc.next_one 0#32 pre post x0 x1 x2 x3 y0 y1 y2 y3 ?_
  rw [← hl, ← hm]
  exact (signed_sum l).trans (signed_sum m).symm

/-- What stands ahead of the last sum. -/
def body (a b : List UInt8) : List UInt8 := [85, 80, 83, 49] ++ (Var.putV a.length ++ (Var.putV b.length ++ ((hunks a b).flatMap hkB ++ (le4 (sum a) ++ le4 (sum b)))))
/-- The patch. -/
def patch (a b : List UInt8) : List UInt8 := signed (body a b)
theorem patch_long (a b : List UInt8) : 18 ≤ (patch a b).length := by
  have h1 := Var.putV_pos a.length
  have h2 := Var.putV_pos b.length
  unfold patch
  rw [signed_length]
  simp only [body, List.length_append, le4_length, List.length_cons, List.length_nil]
  omega

/-- Hunks: none is empty, and none of their bytes is 0. -/
def Fine (h : Hk) : Prop := h.xs ≠ [] ∧ ∀ x ∈ h.xs, x ≠ 0
theorem hk_fine : ∀ (n g : Nat) (l : List UInt8), l.length ≤ n → ∀ h ∈ hk g l, Fine h := by
  intro n
  induction n with
  | zero =>
    intro g l hl h hh
    obtain rfl : l = [] := List.eq_nil_of_length_eq_zero (by omega)
    rw [hk_nil] at hh; simp at hh
  | succ n ih =>
    intro g l hl h hh
    cases l with
    | nil => rw [hk_nil] at hh; simp at hh
    | cons x t =>
      by_cases hx : x = 0
      · subst hx
        rw [hk_zero] at hh
        exact ih (g + 1) t (by simpa using hl) h hh
      · rw [hk_more g x t hx] at hh
        rcases List.mem_cons.1 hh with rfl | hh
        · refine ⟨?_, lead_all (x :: t)⟩
          simp only
          rw [lead_cons x t hx]
          simp
        · exact ih 0 _ (by simp at hl ⊢; omega) h hh
/-- How far hunks reach. -/
def far : List Hk → Nat
  | [] => 0
  | h :: hs => h.skip + h.xs.length + 1 + far hs
theorem ex_length (hs : List Hk) : (ex hs).length = far hs := by
  induction hs with
  | nil => rfl
  | cons h hs ih => simp [ex_cons, far, ih]; omega
theorem hk_far : ∀ (n g : Nat) (l : List UInt8), l.length ≤ n → far (hk g l) ≤ g + l.length + 1 := by
  intro n
  induction n with
  | zero =>
    intro g l hl
    obtain rfl : l = [] := List.eq_nil_of_length_eq_zero (by omega)
    rw [hk_nil]; simp [far]
  | succ n ih =>
    intro g l hl
    cases l with
    | nil => rw [hk_nil]; simp [far]
    | cons x t =>
      by_cases hx : x = 0
      · subst hx
        rw [hk_zero]
        have := ih (g + 1) t (by simpa using hl)
        simp only [List.length_cons]
        omega
      · rw [hk_more g x t hx]
        have h1 := lead_le (x :: t)
        by_cases he : (lead (x :: t)).length + 1 ≤ (x :: t).length
        · have h2 := ih 0 ((x :: t).drop ((lead (x :: t)).length + 1)) (by simp at hl ⊢; omega)
          simp only [far]
          rw [List.length_drop] at h2
          omega
        · rw [List.drop_eq_nil_of_le (by omega), hk_nil]
          simp only [far]
          omega

end Ups
end Go.Proofs.Ytokfcknfkhlmfaa

namespace Go.Proofs.Ytokfcknfkhlmfaa
open Go.RowKit

theorem info5 : (Try.prog.info? 5).map (fun i => (i.zero, i.size, i.bytes)) = some (some (.int .u8 0), 1, 1) := by kernel_rfl

/-- Where a slice that was appended to lies: in the old row, or in a new block. -/
def Lies (w : World) (v v' : Value) : Prop := v'.ownBlock = v.ownBlock ∨ ∃ k, v'.ownBlock = some k ∧ w.heap.size ≤ k

theorem Lies.refl (w : World) (v : Value) : Lies w v v := .inl rfl
theorem Lies.trans {w w' : World} {v v' v'' : Value} (h : Lies w v v') (h' : Lies w' v' v'') (hs : w.heap.size ≤ w'.heap.size) : Lies w v v'' := by
  rcases h' with h' | ⟨k, hk, hl⟩
  · rcases h with h | ⟨k, hk, hl⟩
    · exact .inl (h'.trans h)
    · exact .inr ⟨k, h'.trans hk, hl⟩
  · exact .inr ⟨k, hk, by omega⟩
/-- .. and so a row that was other than the old one is other than the new one. -/
theorem Lies.other {w : World} {v v' : Value} (h : Lies w v v') {g : Nat} (hg : v.ownBlock ≠ some g) (hlt : g < w.heap.size) : v'.ownBlock ≠ some g := by
  rcases h with h | ⟨k, hk, hl⟩
  · rwa [h]
  · rw [hk]; intro e; cases e; omega

/-- A list of bytes of which nothing is known but that a slice of it can be appended. -/
theorem run_app {P : Program} (w : World) (B : Nat) (t ty : TypeId) (i : TypeInfo) (ht : P.underlying t = some (.slice 5)) (hi : P.info? 5 = some i) (hz : i.zero = some (.int .u8 0)) (hz1 : i.size = 1) (hz2 : i.bytes = 1)
    (v : Value) (l : List UInt8) (hown : Own w B v l) (A : Option Addr) (m c : Nat) (news : List UInt8) (hm : news.length = m) (hr : Rd w A news) (hc : A = none → c = 0) (hlen : l.length + m ≤ 2000000000) (hB : B ≤ w.heap.size) :
    ∃ A' cap' w', (Builtin.append_ #[t, t] ty #[v, .slice A m c]).run P w = .ok (.slice A' (l.length + m) cap') w' ∧ Own w' B (.slice A' (l.length + m) cap') (l ++ news) ∧ Fr v.ownBlock.toList w w' ∧ Lies w v (.slice A' (l.length + m) cap') := by
  subst hm
  cases A with
  | none =>
    obtain rfl := hc rfl
    have hn : news = [] := by
      rcases Nat.eq_zero_or_pos news.length with h0 | h0
      · exact List.eq_nil_of_length_eq_zero h0
      · obtain ⟨b, o, hx, _⟩ := hr h0
        cases hx
    subst hn
    have hrun := run_append_owned_none (P := P) (w := w) B t ty 5 i 1 ht hi v l.length (bv l) hown
    obtain ⟨A', cap', rfl, -⟩ := hown.slice
    exact ⟨A', cap', w, hrun, by simpa using hown, Fr.refl _ _, Lies.refl _ _⟩
  | some ad =>
    have hcells : ∀ j u, (bv news)[j]? = some u → w.cell? (ad.add j) = some u := by
      intro j u hu
      have h0 : 0 < (bv news).length := by have := (List.getElem?_eq_some_iff.1 hu).1; omega
      obtain ⟨ad', e, hx⟩ := hr.cells h0
      cases e
      exact hx j u hu
    obtain ⟨v', w', hrun, h2, h3, _, h5⟩ := run_append_own_at (P := P) w B t ty 5 i (.int .u8 0) 1 1 ht hi hz hz1 hz2 rfl (by decide) v l.length (bv l) hown ad news.length c (bv news) (by simp [bv_length]) hcells (bv_one news) (by unfold maxLen; omega) (by omega) hB
    have ho : Own w' B v' (l ++ news) := by unfold Own; rw [bv_append, List.length_append]; exact h2
    obtain ⟨A', cap', rfl, -⟩ := ho.slice
    rw [List.length_append] at hrun ho h5
    refine ⟨A', cap', w', hrun, ho, (Fr.refl _ w).grown h3 (fun k hk => .inl (by simp [hk])), ?_⟩
    rcases h5 with h5 | h5
    · exact .inl h5
    · exact .inr ⟨_, h5, Nat.le_refl _⟩

theorem wp_app {P : Program} (w : World) {o : Oper} {a : Act} {K : Act → World → Prop} {Q : Exit → Act → World → Prop} (s x : Operand) (t : TypeId)
    (ho : o.op = .call { callee := .builtin .append, args := #[s, x], argTypes := #[t, t] }) (B : Nat) (i : TypeInfo) (ht : P.underlying t = some (.slice 5)) (hi : P.info? 5 = some i) (hz : i.zero = some (.int .u8 0)) (hz1 : i.size = 1) (hz2 : i.bytes = 1)
    (v : Value) (l : List UInt8) (hs : a.eval s = v) (hown : Own w B v l) (A : Option Addr) (m c : Nat) (news : List UInt8) (hx : a.eval x = .slice A m c) (hm : news.length = m) (hr : Rd w A news) (hc : A = none → c = 0)
    (hlen : l.length + m ≤ 2000000000) (hB : B ≤ w.heap.size)
    (h : ∀ A' cap' w', Own w' B (.slice A' (l.length + m) cap') (l ++ news) → Fr v.ownBlock.toList w w' → Lies w v (.slice A' (l.length + m) cap') → K (a.put o.dst (.slice A' (l.length + m) cap')) w') : o.wp P a w K Q := by
  obtain ⟨A', cap', w', hrun, h2, h3, h4⟩ := run_app (P := P) w B t o.type i ht hi hz hz1 hz2 v l hown A m c news hm hr hc hlen hB
  unfold Oper.wp execOp
  simp only [ho, resolve, invoke, builtin, Sem.run_bind, Sem.run_pure, Result.andThen_ok, List.map_toArray, List.map_cons, List.map_nil, hs, hx, hrun]
  exact h A' cap' w' h2 h3 h4

theorem wpList_app {P : Program} (w : World) {ops : Array Oper} {rest : List Oper} {o : Oper} {a : Act} {Q : Exit → Act → World → Prop} (hgd : o.guard = none) (s x : Operand) (t : TypeId)
    (ho : o.op = .call { callee := .builtin .append, args := #[s, x], argTypes := #[t, t] }) (B : Nat) (i : TypeInfo) (ht : P.underlying t = some (.slice 5)) (hi : P.info? 5 = some i) (hz : i.zero = some (.int .u8 0)) (hz1 : i.size = 1) (hz2 : i.bytes = 1)
    (v : Value) (l : List UInt8) (hs : a.eval s = v) (hown : Own w B v l) (A : Option Addr) (m c : Nat) (news : List UInt8) (hx : a.eval x = .slice A m c) (hm : news.length = m) (hr : Rd w A news) (hc : A = none → c = 0)
    (hlen : l.length + m ≤ 2000000000) (hB : B ≤ w.heap.size)
    (h : ∀ A' cap' w', Own w' B (.slice A' (l.length + m) cap') (l ++ news) → Fr v.ownBlock.toList w w' → Lies w v (.slice A' (l.length + m) cap') → wpList P ops Q rest (a.put o.dst (.slice A' (l.length + m) cap')) w') : wpList P ops Q (o :: rest) a w :=
  wpList_plain hgd fun _ hK => wp_app w s x t ho B i ht hi hz hz1 hz2 v l hs hown A m c news hx hm hr hc hlen hB fun A' cap' w' h2 h3 h4 => hK _ _ (h A' cap' w' h2 h3 h4)

theorem rd_one' (w : World) (z : Int) (x : UInt8) (h : z = (x.toNat : Int)) : Rd (w.alloc (.cells #[.int .u8 z] 5)) (some ⟨w.heap.size, 0, none⟩) [x] := by
  subst h
  intro _
  refine ⟨_, _, rfl, fun j hj => ?_⟩
  obtain rfl : j = 0 := by simpa using hj
  simp

theorem rd_one (w : World) (x : UInt8) : Rd (w.alloc (.cells #[.int .u8 (x.toNat : Int)] 5)) (some ⟨w.heap.size, 0, none⟩) [x] := by
  intro _
  refine ⟨_, _, rfl, fun j hj => ?_⟩
  obtain rfl : j = 0 := by simpa using hj
  simp

/-- append at a step of a region that draws its order. -/
theorem step_app {P : Program} (w : World) {ops : Array Oper} {o : Oper} {a : Act} {K : Act → World → Prop} {Q : Exit → Act → World → Prop} {E : Prop} (hgd : o.guard = none) (s x : Operand) (t : TypeId)
    (ho : o.op = .call { callee := .builtin .append, args := #[s, x], argTypes := #[t, t] }) (B : Nat) (i : TypeInfo) (ht : P.underlying t = some (.slice 5)) (hi : P.info? 5 = some i) (hz : i.zero = some (.int .u8 0)) (hz1 : i.size = 1) (hz2 : i.bytes = 1)
    (v : Value) (l : List UInt8) (k : Nat) (hk : l.length = k) (hs : a.eval s = v) (hown : Own w B v l) (A : Option Addr) (m c : Nat) (news : List UInt8) (hx : a.eval x = .slice A m c) (hm : news.length = m) (hr : Rd w A news) (hc : A = none → c = 0)
    (hlen : k + m ≤ 2000000000) (hB : B ≤ w.heap.size)
    (h : ∀ A' cap' w', Own w' B (.slice A' (k + m) cap') (l ++ news) → Fr v.ownBlock.toList w w' → Lies w v (.slice A' (k + m) cap') → K (a.put o.dst (.slice A' (k + m) cap')) w') :
    if Region.wanted o (yielded ops a.tmps) = true then Oper.wp P o a w K Q else E := by
  subst hk
  have hw : Region.wanted o (yielded ops a.tmps) = true := by simp [Region.wanted, hgd]
  rw [if_pos hw]
  exact wp_app w s x t ho B i ht hi hz hz1 hz2 v l hs hown A m c news hx hm hr hc hlen hB h

theorem wpList_appN {P : Program} (w : World) {ops : Array Oper} {rest : List Oper} {o : Oper} {a : Act} {Q : Exit → Act → World → Prop} (hgd : o.guard = none) (s x : Operand) (t : TypeId)
    (ho : o.op = .call { callee := .builtin .append, args := #[s, x], argTypes := #[t, t] }) (B : Nat) (i : TypeInfo) (ht : P.underlying t = some (.slice 5)) (hi : P.info? 5 = some i) (hz : i.zero = some (.int .u8 0)) (hz1 : i.size = 1) (hz2 : i.bytes = 1)
    (v : Value) (l : List UInt8) (k : Nat) (hk : l.length = k) (hs : a.eval s = v) (hown : Own w B v l) (A : Option Addr) (m c : Nat) (news : List UInt8) (hx : a.eval x = .slice A m c) (hm : news.length = m) (hr : Rd w A news) (hc : A = none → c = 0)
    (hlen : k + m ≤ 2000000000) (hB : B ≤ w.heap.size)
    (h : ∀ A' cap' w', Own w' B (.slice A' (k + m) cap') (l ++ news) → Fr v.ownBlock.toList w w' → Lies w v (.slice A' (k + m) cap') → wpList P ops Q rest (a.put o.dst (.slice A' (k + m) cap')) w') : wpList P ops Q (o :: rest) a w := by
  subst hk
  exact wpList_app w hgd s x t ho B i ht hi hz hz1 hz2 v l hs hown A m c news hx hm hr hc hlen hB h

theorem Own.caps {w : World} {B n c : Nat} {A : Option Addr} {l : List UInt8} (h : Own w B (.slice A n c) l) : n ≤ c ∧ c ≤ 9223372036854775807 := by
  obtain ⟨_, _, hv, _, _, h1, h2, _⟩ := h.slice
  cases hv
  unfold maxLen at h2
  exact ⟨h1, by omega⟩

theorem take_len (l : List UInt8) (n : Int) (hn : 0 ≤ n) : (l.take (min (l.length : Int) n).toNat).length = (min (l.length : Int) n).toNat := by
  simp; omega

theorem Own.rd {w : World} {B n c : Nat} {A : Option Addr} {l : List UInt8} (h : Own w B (.slice A n c) l) : Rd w A l := by
  obtain ⟨_, _, hv, hr, _⟩ := h.slice
  cases hv
  exact hr

/-- The block of an own slice is new. -/
theorem Own.fresh {w w' : World} {v : Value} {l : List UInt8} (h : Own w' w.heap.size v l) : ∀ k ∈ v.ownBlock.toList, w.heap.size ≤ k := by
  intro k hk
  exact (h.lt k (by simpa using hk)).1

theorem row_int {k : IntKind} {w : World} {a : Option Addr} {len cap : Nat} {zs : List Int}
    (h : (a = none ∧ len = 0 ∧ cap = 0 ∧ zs = []) ∨ ∃ x, a = some x ∧ len ≤ cap ∧ cap ≤ maxLen ∧ zs.length = cap ∧ (∀ i, i < zs.length → w.cell? (x.add i) = some (.int k (zs.getD i 0))) ∧ ∀ n ∈ zs, (Lit.int k n).wf = true) :
    ∃ l : List Int, l.length = len ∧ RdI k w a l ∧ (a = none → cap = 0) ∧ len ≤ cap ∧ cap ≤ maxLen ∧ ∀ n ∈ l, (Lit.int k n).wf = true := by
  rcases h with ⟨rfl, rfl, rfl, rfl⟩ | ⟨x, rfl, h1, h2, h3, h4, h5⟩
  · exact ⟨[], rfl, fun h0 => by simp at h0, fun _ => rfl, by omega, by simp [maxLen], by simp⟩
  · refine ⟨zs.take len, by simp; omega, fun h0 => ?_, by simp, h1, h2, fun n hn => h5 n (List.mem_of_mem_take hn)⟩
    obtain ⟨b, o, rfl, hc⟩ := ints_at h4 (by simp at h0; omega)
    refine ⟨b, o, rfl, fun j hj => ?_⟩
    have hj' : j < zs.length := by simp at hj; omega
    rw [hc j hj']
    simp [List.getD, hj']

theorem byte_of {n : Int} (h : (Lit.int .u8 n).wf = true) : ∃ x : UInt8, n = (x.toNat : Int) := by
  have := bounds_u8 h
  refine ⟨UInt8.ofNat n.toNat, ?_⟩
  simp
  omega

theorem row_u8 {w : World} {a : Option Addr} {len cap : Nat} {zs : List Int}
    (h : (a = none ∧ len = 0 ∧ cap = 0 ∧ zs = []) ∨ ∃ x, a = some x ∧ len ≤ cap ∧ cap ≤ maxLen ∧ zs.length = cap ∧ (∀ i, i < zs.length → w.cell? (x.add i) = some (.int .u8 (zs.getD i 0))) ∧ ∀ n ∈ zs, (Lit.int .u8 n).wf = true) :
    ∃ l : List UInt8, l.length = len ∧ Rd w a l ∧ (a = none → cap = 0) ∧ len ≤ cap ∧ cap ≤ maxLen := by
  obtain ⟨l, h1, h2, h3, h4, h5, h6⟩ := row_int h
  refine ⟨l.map fun z => UInt8.ofNat z.toNat, by simpa using h1, fun h0 => ?_, h3, h4, h5⟩
  obtain ⟨b, o, rfl, hc⟩ := h2 (by simpa using h0)
  refine ⟨b, o, rfl, fun j hj => ?_⟩
  have hj' : j < l.length := by simpa using hj
  rw [hc j hj']
  have := bounds_u8 (h6 _ (List.getElem_mem hj'))
  simp
  omega

theorem rd_take {w : World} {A : Option Addr} {l : List UInt8} (h : Rd w A l) (n : Nat) : Rd w A (l.take n) := by
  intro h0
  obtain ⟨b, o, rfl, hc⟩ := h (by simp at h0; omega)
  refine ⟨b, o, rfl, fun j hj => ?_⟩
  rw [hc j (by simp at hj; omega)]
  simp

theorem take_snoc (l : List UInt8) (k : Nat) (h : k < l.length) : l.take (k + 1) = l.take k ++ [l[k]] := by
  rw [List.take_succ_eq_append_getElem h]

/-- A byte of a slice that is read. -/
theorem Rd.at {w : World} {A : Option Addr} {l : List UInt8} (h : Rd w A l) (k : Nat) (hk : k < l.length) : ∃ b o x, A = some ⟨b, o, none⟩ ∧ l[k]? = some x ∧ w.cell? ⟨b, o + k, none⟩ = some (.int .u8 (x.toNat : Int)) := by
  obtain ⟨b, o, rfl, hc⟩ := h (by omega)
  exact ⟨b, o, l[k], rfl, List.getElem?_eq_getElem hk, hc k hk⟩

theorem Fr.setRow {S : List Nat} {a w : World} (h : Fr S a w) {g : Nat} (hg : g ∈ S ∨ a.heap.size ≤ g) (cs : Array Value) : Fr S a (w.setRow g cs) :=
  h.trans (T := [g]) ⟨rfl, rfl, rfl, by simp, fun k _ hk => setRow_other w g k cs (by simpa using hk)⟩ (by simpa using hg)
theorem Blk.setRow {w : World} {g : Nat} {t : TypeId} {old : Array Value} (h : Blk w g t old) (cs : Array Value) : Blk (w.setRow g cs) g t cs := setRow_heap w g old cs t (0, 0) h

/-- A whole row of cells into a block of as many. -/
theorem storeRow {w : World} {g : Nat} {t : TypeId} {Z cs : Array Value} (h : Blk w g t Z) (hz : Z.size = cs.size) (h1 : cs.all (·.oneCell') = true) :
    (storeCells ⟨g, 0, none⟩ cs.toList).run Try.prog w = .ok () (w.setRow g cs) := by
  have h2 := run_storeCells_from (P := Try.prog) g t cs.toList 0 Z w h (by simp; omega) (fun v hv => (Array.all_eq_true_iff_forall_mem.1 h1) v (by simpa using hv))
  simpa using h2

theorem rd_blk {w : World} {g : Nat} {t : TypeId} {l : List UInt8} (h : Blk w g t (bv l).toArray) : Rd w (some ⟨g, 0, none⟩) l :=
  fun _ => ⟨g, 0, rfl, h.rd (by rw [List.take_of_length_le (by simp [bv_length])])⟩

/-- A text's bytes, as a slice of their own. -/
theorem conv_const (w : World) (g : Nat) (hg : w.heap.size = g) (C : Array Value) (n c : Nat) :
    (convert 22 22 (.slice (some ⟨g, 0, none⟩) n c)).run Try.prog (w.alloc (.cells C 5)) = .ok (.slice (some ⟨g, 0, none⟩) n c) (w.alloc (.cells C 5 (C.size, C.size + 1))) := by
  subst hg
  exact Lib.run_convert_bytes_const w 22 5 C n c Try.underlying22 Try.underlying5
theorem rd_const (w : World) (g : Nat) (hg : w.heap.size = g) (l : List UInt8) (t : TypeId) (fr : Nat × Nat) : Rd (w.alloc (.cells (bv l).toArray t fr)) (some ⟨g, 0, none⟩) l := by
  subst hg
  intro _
  refine ⟨_, 0, rfl, fun j hj => ?_⟩
  rw [cell_of_row _ _ _ _ _ _ (heap_alloc_new w _), Nat.zero_add]
  simpa using bv_get l j hj

theorem rd_nil (w : World) : Rd w none [] := fun h => by simp at h

theorem Own.some_ {w w0 : World} {B n c g0 : Nat} {A : Option Addr} {l : List UInt8} (h : Own w B (.slice A n c) l) (hl : Lies w0 (.slice (some ⟨g0, 0, none⟩) 0 0) (.slice A n c)) : ∃ g, A = some ⟨g, 0, none⟩ := by
  rcases h.2 with ⟨hv, _⟩ | ⟨g, cap', cur, hv, _⟩
  · cases hv
    rcases hl with hl | ⟨k, hk, _⟩
    · simp [Value.ownBlock] at hl
    · simp [Value.ownBlock] at hk
  · cases hv; exact ⟨g, rfl⟩

theorem and65535 (n : Int) : 0 ≤ bits .and .i64 n 65535 ∧ bits .and .i64 n 65535 ≤ 65535 := by
  have h : (BitVec.ofInt 64 65535).toNat = 2 ^ 16 - 1 := by decide
  have key : (BitVec.ofInt 64 n &&& BitVec.ofInt 64 65535).toNat = (n % ((2 ^ 64 : Nat) : Int)).toNat % 2 ^ 16 := by
    rw [BitVec.toNat_and, BitVec.toNat_ofInt, h, Nat.and_two_pow_sub_one_eq_mod]
  have e : bits .and .i64 n 65535 = IntKind.i64.wrap ((BitVec.ofInt 64 n &&& BitVec.ofInt 64 65535).toNat : Nat) := rfl
  rw [e, key, IntKind.wrap_i64]
  omega
/-- A place up to k. -/
theorem place_of (z k : Int) (hk : 0 ≤ k) : ∃ p : Nat, (bits .and .i64 z 65535).tmod (k + 1) = (p : Int) ∧ (p : Int) ≤ k := by
  have h := and65535 z
  rw [Int.tmod_eq_emod_of_nonneg h.1]
  have h1 := Int.emod_nonneg (bits .and .i64 z 65535) (show k + 1 ≠ 0 by omega)
  have h2 := Int.emod_lt_of_pos (bits .and .i64 z 65535) (show 0 < k + 1 by omega)
  exact ⟨((bits .and .i64 z 65535) % (k + 1)).toNat, by omega, by omega⟩

theorem cut_rd {w : World} {g c k n : Nat} {l : List UInt8} (h : Rd w (some ⟨g, 0, none⟩) l) (hn : k + n ≤ l.length) (hc : l.length ≤ c) : Rd w (if c = k then some (⟨g, 0, none⟩ : Addr) else some ⟨g, k, none⟩) ((l.drop k).take n) := by
  by_cases hk : c = k
  · rw [if_pos hk]
    exact fun h0 => by simp at h0; omega
  · rw [if_neg hk]
    intro h0
    obtain ⟨b, o, e, hx⟩ := h (by simp at h0; omega)
    cases e
    simpa using Rd.cut hx k n h0

theorem Own.form0 {w : World} {B n c : Nat} {A : Option Addr} {l : List UInt8} (h : Own w B (.slice A n c) l) : (A = none ∧ n = 0 ∧ c = 0) ∨ ∃ g, A = some ⟨g, 0, none⟩ := by
  rcases h.2 with ⟨hv, _⟩ | ⟨g, cap', cur, hv, _⟩
  · cases hv; exact .inl ⟨rfl, rfl, rfl⟩
  · cases hv; exact .inr ⟨g, rfl⟩

theorem Own.base {w : World} {B B' : Nat} {v : Value} {l : List UInt8} (h : Own w B v l) (hB : B' ≤ B) : Own w B' v l := by
  obtain ⟨h1, h2⟩ := h
  refine ⟨h1, ?_⟩
  rcases h2 with h2 | ⟨g, cap, cur, hv, hg, r⟩
  · exact .inl h2
  · exact .inr ⟨g, cap, cur, hv, by omega, r⟩

theorem min_if (x y : Int) : (if y < x then y else x) = min x y := by
  rw [Int.min_def]
  split <;> split <;> omega
theorem run_min4 {P : Program} (w : World) (ts : Array TypeId) (t : TypeId) (a b c d : Int) :
    (Builtin.min_ ts t #[.int .i64 a, .int .i64 b, .int .i64 c, .int .i64 d]).run P w = .ok (.int .i64 (min (min (min a b) c) d)) w := by
  simp [Builtin.min_, Builtin.min2, min_if]
theorem min4 {P : Program} (ts : Array TypeId) (t : TypeId) (a b c : Nat) (d : Int) (hd : 0 ≤ d) : ∃ n : Nat, n ≤ a ∧ n ≤ b ∧ n ≤ c ∧ n ≤ d ∧
    ∀ w, (Builtin.min_ ts t #[.int .i64 (a : Int), .int .i64 (b : Int), .int .i64 (c : Int), .int .i64 d]).run P w = .ok (.int .i64 (n : Int)) w := by
  refine ⟨min (min (min a b) c) d.toNat, by omega, by omega, by omega, by omega, fun w => ?_⟩
  rw [run_min4]
  congr 2
  omega

end Go.Proofs.Ytokfcknfkhlmfaa
