/-
  Where four bytes stood last: in mathematics, of no program.
  Contracts of bpsmake's keyOf and alike. No condition but that the bytes can be read.
-/
import Derived.Test.YtokfcknfkhlmfaaJ13
import Derived.Test.YtokfcknfkhlmfaaJ12
import Derived.StillTailTactics
namespace Go.Proofs.Ytokfcknfkhlmfaa
open Go.RowKit
namespace Bm

/-- The four bytes from a place on. -/
def key4 (l : List UInt8) (i : Nat) : List UInt8 := (l.drop i).take 4
/-- The place behind the last one ahead of a place at which these four bytes stand; nought: there is none. -/
def prev (l k : List UInt8) : Nat → Nat
  | 0 => 0
  | u + 1 => if u + 4 ≤ l.length ∧ key4 l u = k then u + 1 else prev l k u
theorem prev_zero (l k : List UInt8) : prev l k 0 = 0 := rfl
theorem prev_hit (l k : List UInt8) (u : Nat) (h : u + 4 ≤ l.length) (hk : key4 l u = k) : prev l k (u + 1) = u + 1 := if_pos ⟨h, hk⟩
theorem prev_miss (l k : List UInt8) (u : Nat) (h : ¬ (u + 4 ≤ l.length ∧ key4 l u = k)) : prev l k (u + 1) = prev l k u := if_neg h
theorem prev_le (l k : List UInt8) (u : Nat) : prev l k u ≤ u := by
  induction u with
  | zero => exact Nat.le_refl _
  | succ u ih =>
    by_cases h : u + 4 ≤ l.length ∧ key4 l u = k
    · rw [prev_hit l k u h.1 h.2]; exact Nat.le_refl _
    · rw [prev_miss l k u h]; omega
theorem prev_spec (l k : List UInt8) (u p : Nat) (h : prev l k u = p + 1) : p < u ∧ p + 4 ≤ l.length ∧ key4 l p = k := by
  induction u with
  | zero => rw [prev_zero] at h; omega
  | succ u ih =>
    by_cases hc : u + 4 ≤ l.length ∧ key4 l u = k
    · rw [prev_hit l k u hc.1 hc.2] at h
      obtain rfl : u = p := by omega
      exact ⟨by omega, hc⟩
    · rw [prev_miss l k u hc] at h
      obtain ⟨h1, h2⟩ := ih h
      exact ⟨by omega, h2⟩
theorem prev_max (l k : List UInt8) (u q : Nat) (hq : q < u) (h4 : q + 4 ≤ l.length) (hk : key4 l q = k) : q + 1 ≤ prev l k u := by
  induction u with
  | zero => omega
  | succ u ih =>
    by_cases hc : u + 4 ≤ l.length ∧ key4 l u = k
    · rw [prev_hit l k u hc.1 hc.2]; omega
    · rw [prev_miss l k u hc]
      refine ih ?_
      rcases Nat.lt_or_eq_of_le (Nat.le_of_lt_succ hq) with h | rfl
      · exact h
      · exact absurd ⟨h4, hk⟩ hc
theorem prev_end (l k : List UInt8) (u m : Nat) (h : l.length < u + 4) : prev l k (u + m) = prev l k u := by
  induction m with
  | zero => rfl
  | succ m ih => rw [← Nat.add_assoc, prev_miss l k _ (by omega), ih]
theorem prev_all (l k : List UInt8) (u : Nat) (h : l.length < u + 4) (hu : u ≤ l.length) : prev l k l.length = prev l k u := by
  have := prev_end l k u (l.length - u) h
  rwa [show u + (l.length - u) = l.length by omega] at this

/-- The part of a key; the part of a place. -/
def kp (k : List UInt8) : Nat := (k.headD 0).toNat % 16
def pt (l : List UInt8) (i : Nat) : Nat := kp (key4 l i)
theorem pt_get (l : List UInt8) (i : Nat) (x : UInt8) (hx : l[i]? = some x) : pt l i = x.toNat % 16 := by
  obtain ⟨hi, e⟩ := List.getElem?_eq_some_iff.1 hx
  unfold pt kp key4
  rw [List.drop_eq_getElem_cons hi, e]
  rfl
theorem key4_length (l : List UInt8) (i : Nat) (h : i + 4 ≤ l.length) : (key4 l i).length = 4 := by simp [key4]; omega

/-- What the map tells within a part: of both texts, up to a place of each. -/
def seen (a b : List UInt8) (part i j : Nat) (k : List UInt8) : Nat × Nat := if kp k = part then (prev a k i, prev b k j) else (0, 0)
theorem seen_start (a b : List UInt8) (part : Nat) : seen a b part 0 0 = fun _ => (0, 0) := by
  funext k
  unfold seen
  simp [prev_zero]
theorem seen_part (a b : List UInt8) (part i j : Nat) (k : List UInt8) (h : kp k = part) : seen a b part i j k = (prev a k i, prev b k j) := if_pos h
theorem seen_skip1 (a b : List UInt8) (part i j : Nat) (h : pt a i ≠ part) : seen a b part (i + 1) j = seen a b part i j := by
  funext k
  unfold seen
  by_cases hk : kp k = part
  · rw [if_pos hk, if_pos hk, prev_miss]
    rintro ⟨_, rfl⟩
    exact h hk
  · rw [if_neg hk, if_neg hk]
theorem seen_skip2 (a b : List UInt8) (part i j : Nat) (h : pt b j ≠ part) : seen a b part i (j + 1) = seen a b part i j := by
  funext k
  unfold seen
  by_cases hk : kp k = part
  · rw [if_pos hk, if_pos hk, prev_miss]
    rintro ⟨_, rfl⟩
    exact h hk
  · rw [if_neg hk, if_neg hk]
theorem seen_hit1 (a b : List UInt8) (part i j : Nat) (h : pt a i = part) (h4 : i + 4 ≤ a.length) : upd (seen a b part i j) (key4 a i) (i + 1, prev b (key4 a i) j) = seen a b part (i + 1) j := by
  funext k
  by_cases hk : k = key4 a i
  · subst hk
    rw [upd_same, seen_part _ _ _ _ _ _ h, prev_hit _ _ _ h4 rfl]
  · rw [upd_other _ _ hk]
    unfold seen
    by_cases hp : kp k = part
    · rw [if_pos hp, if_pos hp, prev_miss]
      rintro ⟨_, h1⟩
      exact hk h1.symm
    · rw [if_neg hp, if_neg hp]
theorem seen_hit2 (a b : List UInt8) (part i j : Nat) (h : pt b j = part) (h4 : j + 4 ≤ b.length) : upd (seen a b part i j) (key4 b j) (prev a (key4 b j) i, j + 1) = seen a b part i (j + 1) := by
  funext k
  by_cases hk : k = key4 b j
  · subst hk
    rw [upd_same, seen_part _ _ _ _ _ _ h, prev_hit _ _ _ h4 rfl]
  · rw [upd_other _ _ hk]
    unfold seen
    by_cases hp : kp k = part
    · rw [if_pos hp, if_pos hp, prev_miss]
      rintro ⟨_, h1⟩
      exact hk h1.symm
    · rw [if_neg hp, if_neg hp]

/-- f, but within a part what g tells, up to a place. -/
def fill (l : List UInt8) (part u : Nat) (g f : Nat → Nat) (i : Nat) : Nat := if i + 4 ≤ l.length ∧ pt l i = part ∧ i < u then g i else f i
theorem fill_zero (l : List UInt8) (part : Nat) (g f : Nat → Nat) : fill l part 0 g f = f := by
  funext i
  unfold fill
  rw [if_neg (by omega)]
theorem fill_skip (l : List UInt8) (part u : Nat) (g f : Nat → Nat) (h : pt l u ≠ part) : fill l part (u + 1) g f = fill l part u g f := by
  funext i
  unfold fill
  by_cases hc : i + 4 ≤ l.length ∧ pt l i = part ∧ i < u
  · rw [if_pos hc, if_pos ⟨hc.1, hc.2.1, by omega⟩]
  · rw [if_neg hc, if_neg]
    rintro ⟨h1, h2, h3⟩
    rcases Nat.lt_or_eq_of_le (Nat.le_of_lt_succ h3) with h4 | rfl
    · exact hc ⟨h1, h2, h4⟩
    · exact h h2
def updN (f : Nat → Nat) (u v : Nat) : Nat → Nat := fun i => if i = u then v else f i
theorem fill_hit (l : List UInt8) (part u : Nat) (g f : Nat → Nat) (h : pt l u = part) (h4 : u + 4 ≤ l.length) : updN (fill l part u g f) u (g u) = fill l part (u + 1) g f := by
  funext i
  unfold updN fill
  by_cases hi : i = u
  · subst hi
    rw [if_pos rfl, if_pos ⟨h4, h, by omega⟩]
  · rw [if_neg hi]
    by_cases hc : i + 4 ≤ l.length ∧ pt l i = part ∧ i < u
    · rw [if_pos hc, if_pos ⟨hc.1, hc.2.1, by omega⟩]
    · rw [if_neg hc, if_neg]
      rintro ⟨h1, h2, h3⟩
      exact hc ⟨h1, h2, by omega⟩
/-- All of a part. -/
def fills (l : List UInt8) (part : Nat) (g f : Nat → Nat) (i : Nat) : Nat := if i + 4 ≤ l.length ∧ pt l i = part then g i else f i
theorem fill_all (l : List UInt8) (part u : Nat) (g f : Nat → Nat) (h : l.length < u + 4) : fill l part u g f = fills l part g f := by
  funext i
  unfold fill fills
  by_cases hc : i + 4 ≤ l.length ∧ pt l i = part
  · rw [if_pos hc, if_pos ⟨hc.1, hc.2, by omega⟩]
  · rw [if_neg hc, if_neg]
    rintro ⟨h1, h2, _⟩
    exact hc ⟨h1, h2⟩
/-- All parts ahead of one. -/
def upto (l : List UInt8) (n : Nat) (g : Nat → Nat) (i : Nat) : Nat := if i + 4 ≤ l.length ∧ pt l i < n then g i else 0
theorem upto_zero (l : List UInt8) (g : Nat → Nat) : upto l 0 g = fun _ => 0 := by
  funext i
  unfold upto
  rw [if_neg (by omega)]
theorem upto_step (l : List UInt8) (n : Nat) (g : Nat → Nat) : fills l n g (upto l n g) = upto l (n + 1) g := by
  funext i
  unfold fills upto
  by_cases h1 : i + 4 ≤ l.length ∧ pt l i = n
  · rw [if_pos h1, if_pos ⟨h1.1, by omega⟩]
  · rw [if_neg h1]
    by_cases h2 : i + 4 ≤ l.length ∧ pt l i < n
    · rw [if_pos h2, if_pos ⟨h2.1, by omega⟩]
    · rw [if_neg h2, if_neg]
      rintro ⟨h3, h4⟩
      rcases Nat.lt_or_eq_of_le (Nat.le_of_lt_succ h4) with h5 | h5
      · exact h2 ⟨h3, h5⟩
      · exact h1 ⟨h3, h5⟩
/-- All places. -/
def full (l : List UInt8) (g : Nat → Nat) (i : Nat) : Nat := if i + 4 ≤ l.length then g i else 0
theorem upto_full (l : List UInt8) (g : Nat → Nat) : upto l 16 g = full l g := by
  funext i
  unfold upto full
  by_cases h : i + 4 ≤ l.length
  · rw [if_pos ⟨h, by unfold pt kp; omega⟩, if_pos h]
  · rw [if_neg (fun h1 => h h1.1), if_neg h]

/-- What the index tells: in a text itself; of b in a. -/
def within (l : List UInt8) (i : Nat) : Nat := prev l (key4 l i) i
def across (a b : List UInt8) (i : Nat) : Nat := prev a (key4 b i) a.length

/-- A row of int32. -/
def rowV (n : Nat) (f : Nat → Nat) : Array Value := ((List.range n).map fun i => Value.int .i32 (f i : Int)).toArray
theorem rowV_get (n : Nat) (f : Nat → Nat) (i : Nat) (h : i < n) : (rowV n f)[i]? = some (.int .i32 (f i : Int)) := by
  unfold rowV
  rw [List.getElem?_toArray, List.getElem?_map, List.getElem?_range h]
  rfl
theorem rowV_size (n : Nat) (f : Nat → Nat) : (rowV n f).size = n := by simp [rowV]
theorem rowV_set (n : Nat) (f : Nat → Nat) (u v : Nat) : (rowV n f).setIfInBounds u (.int .i32 (v : Int)) = rowV n (updN f u v) := by
  apply Array.ext_getElem?
  intro i
  by_cases hi : i < n
  · rw [rowV_get _ _ _ hi]
    unfold updN
    by_cases hu : i = u
    · subst hu
      rw [Array.getElem?_setIfInBounds_self_of_lt (by rw [rowV_size]; exact hi), if_pos rfl]
    · rw [Array.getElem?_setIfInBounds_ne (fun h => hu h.symm), rowV_get _ _ _ hi, if_neg hu]
  · rw [Array.getElem?_eq_none (by simp [rowV_size]; omega), Array.getElem?_eq_none (by simp [rowV_size]; omega)]
/-- Block g is such a row. -/
def IRow (w : World) (g n : Nat) (f : Nat → Nat) : Prop := Blk w g 21 (rowV n f)
theorem IRow.get {w : World} {g n : Nat} {f : Nat → Nat} (h : IRow w g n f) (i : Nat) (hi : i < n) : w.cell? ⟨g, i, none⟩ = some (.int .i32 (f i : Int)) := by
  rw [Blk.cell h, rowV_get _ _ _ hi]
theorem IRow.put {w : World} {g n : Nat} {f : Nat → Nat} (h : IRow w g n f) (u v : Nat) : IRow (w.setCell ⟨g, u, none⟩ (.int .i32 (v : Int))) g n (updN f u v) := by
  have := Blk.put h u (.int .i32 (v : Int))
  rw [rowV_set] at this
  exact this
theorem IRow.fr {S : List Nat} {w w' : World} {g n : Nat} {f : Nat → Nat} (h : IRow w g n f) (hf : Fr S w w') (hg : g ∉ S) : IRow w' g n f := Blk.fr h hf hg

end Bm
end Go.Proofs.Ytokfcknfkhlmfaa

namespace Go.Proofs.Ytokfcknfkhlmfaa
open Go.RowKit
namespace Bm

/-- How many bytes are the same from the first one on. -/
def alk : List UInt8 → List UInt8 → Nat
  | x :: l, y :: m => if x = y then alk l m + 1 else 0
  | _, _ => 0
theorem alk_le1 (l m : List UInt8) : alk l m ≤ l.length := by
  induction l generalizing m with
  | nil => simp [alk]
  | cons x l ih =>
    cases m with
    | nil => simp [alk]
    | cons y m =>
      simp only [alk, List.length_cons]
      split
      · have := ih m; omega
      · omega
theorem alk_le2 (l m : List UInt8) : alk l m ≤ m.length := by
  induction l generalizing m with
  | nil => simp [alk]
  | cons x l ih =>
    cases m with
    | nil => simp [alk]
    | cons y m =>
      simp only [alk, List.length_cons]
      split
      · have := ih m; omega
      · omega
theorem alk_take (l m : List UInt8) (n : Nat) (h : n ≤ alk l m) : l.take n = m.take n := by
  induction l generalizing m n with
  | nil => simp [alk] at h; subst h; simp
  | cons x l ih =>
    cases m with
    | nil => simp [alk] at h; subst h; simp
    | cons y m =>
      simp only [alk] at h
      split at h
      · rename_i e
        subst e
        cases n with
        | zero => simp
        | succ n => simp only [List.take_succ_cons]; rw [ih m n (by omega)]
      · obtain rfl : n = 0 := by omega
        simp
/-- All of n and the next ones. -/
theorem alk_of (l m : List UInt8) (n : Nat) (h1 : n ≤ l.length) (h2 : n ≤ m.length) (h : l.take n = m.take n) (hs : n = l.length ∨ n = m.length ∨ l[n]? ≠ m[n]?) : alk l m = n := by
  induction l generalizing m n with
  | nil => simp at h1; subst h1; simp [alk]
  | cons x l ih =>
    cases m with
    | nil => simp at h2; subst h2; simp [alk]
    | cons y m =>
      cases n with
      | zero =>
        simp only [alk]
        rw [if_neg]
        rintro rfl
        simp at hs
      | succ n =>
        simp only [List.take_succ_cons, List.cons.injEq] at h
        obtain ⟨rfl, h⟩ := h
        simp only [alk, if_true]
        rw [ih m n (by simpa using h1) (by simpa using h2) h (by simpa using hs)]
theorem alk_ge (l m : List UInt8) (n : Nat) (h1 : n ≤ l.length) (h2 : n ≤ m.length) (h : l.take n = m.take n) : n ≤ alk l m := by
  induction l generalizing m n with
  | nil => simp at h1; omega
  | cons x l ih =>
    cases m with
    | nil => simp at h2; omega
    | cons y m =>
      cases n with
      | zero => omega
      | succ n =>
        simp only [List.take_succ_cons, List.cons.injEq] at h
        obtain ⟨rfl, h⟩ := h
        simp only [alk, if_true]
        have := ih m n (by simpa using h1) (by simpa using h2) h
        omega
theorem alk_next (l m : List UInt8) (h1 : alk l m < l.length) (h2 : alk l m < m.length) : l[alk l m]? ≠ m[alk l m]? := by
  induction l generalizing m with
  | nil => simp [alk] at h1
  | cons x l ih =>
    cases m with
    | nil => simp [alk] at h2
    | cons y m =>
      simp only [alk] at h1 h2 ⊢
      split
      · rename_i e
        rw [if_pos e] at h1 h2
        simpa using ih m (by simpa using h1) (by simpa using h2)
      · rename_i e
        simp
        exact e

theorem infoKey : (Try.prog.info? 144).map (fun i => (i.zero, i.size, i.bytes)) = some (some (.agg #[.int .u8 0, .int .u8 0, .int .u8 0, .int .u8 0]), 4, 4) := by kernel_rfl

set_option maxRecDepth 100000 in
set_option maxHeartbeats 1000000 in
theorem keyOf_any (w : World) (A : Option Addr) (n c : Nat) (l : List UInt8) (hn : l.length = n) (h4 : 4 ≤ n) (hr : Rd w A l) :
    Calls Try.prog 82 #[.slice A n c] w fun e w' => e = .returned (keyA (l.take 4)) ∧ Fr [] w w' := by
  obtain ⟨x0, x1, x2, x3, r, rfl⟩ : ∃ x0 x1 x2 x3 r, l = x0 :: x1 :: x2 :: x3 :: r := by
    match l, (by omega : 4 ≤ l.length) with
    | x0 :: x1 :: x2 :: x3 :: r, _ => exact ⟨x0, x1, x2, x3, r, rfl⟩
  have hf1 : Fr [] w (w.alloc (.cells #[.int .u8 0, .int .u8 0, .int .u8 0, .int .u8 0] 144)) := (Fr.refl [] w).alloc _
  have hb1 := Blk.fresh w 144 #[.int .u8 0, .int .u8 0, .int .u8 0, .int .u8 0]
  obtain ⟨b, o, rfl, hc⟩ := hr.later hf1 (by simp) (by simp)
  have k0 := hc 0 (by simp)
  have k1 := hc 1 (by simp)
  have k2 := hc 2 (by simp)
  have k3 := hc 3 (by simp)
  simp at k0 k1 k2 k3
  have n0 : 0 < n := by omega
  have n1 : 1 < n := by omega
  have n2 : 2 < n := by omega
  have n3 : 3 < n := by omega
  have m1 : (1 : Int) < n := by omega
  have m2 : (2 : Int) < n := by omega
  have m3 : (3 : Int) < n := by omega
  obtain ⟨s, hs⟩ : ∃ s, w.heap.size = s := ⟨_, rfl⟩
  rw [hs] at hb1
  have HB := Lib.hid hb1
  have HF := Lib.hid hf1
  clear hc hr h4 hn hb1 hf1
  go_enter Try.func82, Try.ntmps82
  go_wp2_with fail
  generalize w.alloc (.cells #[.int .u8 0, .int .u8 0, .int .u8 0, .int .u8 0] 144) = w1 at *
  go_still_tail 13, (by kernel_rfl)
  repeat still_step
  change wpList _ _ _ _ _ w1.drew
  have hb2 : Blk w1.drew s 144 #[.int .u8 0, .int .u8 0, .int .u8 0, .int .u8 0] := HB.out
  have HB2 := Lib.hid hb2
  have HF2 : Hid (Fr [] w w1.drew) := Lib.hid HF.out.drew
  have f0 := hb2.frozen 0
  have f1 := hb2.frozen 1
  have f2 := hb2.frozen 2
  have f3 := hb2.frozen 3
  obtain ⟨c0, c1, c2, c3⟩ := Bps.blk4 hb2
  clear hb2 k0 k1 k2 k3 HB HF
  generalize w1.drew = w2 at *
  go_wp2
  have hb := Bps.put4 HB2.out (.int .u8 (x0.toNat : Int)) (.int .u8 (x1.toNat : Int)) (.int .u8 (x2.toNat : Int)) (.int .u8 (x3.toNat : Int))
  have hst := Bps.put4_fr w2 s (.int .u8 (x0.toNat : Int)) (.int .u8 (x1.toNat : Int)) (.int .u8 (x2.toNat : Int)) (.int .u8 (x3.toNat : Int))
  obtain ⟨z0, z1, z2, z3⟩ := Bps.blk4 hb
  have HF3 := HF2.out.trans hst (by simp; omega)
  generalize (((w2.setCell ⟨s, 0, none⟩ (.int .u8 (x0.toNat : Int))).setCell ⟨s, 1, none⟩ (.int .u8 (x1.toNat : Int))).setCell ⟨s, 2, none⟩ (.int .u8 (x2.toNat : Int))).setCell ⟨s, 3, none⟩ (.int .u8 (x3.toNat : Int)) = w3 at *
  exact bodyPost_ret (v := keyA [x0, x1, x2, x3]) (by simp [results, Try.results82, go_sem, z0, z1, z2, z3, keyA, bv]) rfl ⟨rfl, HF3⟩

set_option maxRecDepth 100000 in
set_option maxHeartbeats 1000000 in
theorem alike_any (w : World) (A D : Option Addr) (n c m d k : Nat) (l r : List UInt8) (hn : l.length = n) (hm : r.length = m) (hl : Rd w A l) (hr : Rd w D r) (hN : n ≤ 1000000000) (hk : k ≤ n) (hk2 : k ≤ m) (hs : l.take k = r.take k) :
    Calls Try.prog 72 #[.slice A n c, .slice D m d, .int .i64 (k : Int)] w fun e w' => e = .returned (.int .i64 (alk l r : Int)) ∧ Fr [] w w' := by
  have HL := Lib.hid hl
  have HR := Lib.hid hr
  have Hn := Lib.hid hn
  have Hm := Lib.hid hm
  have Hs := Lib.hid hs
  clear hl hr hn hm hs
  go_enter Try.func72, Try.ntmps72
  go_wp2_with fail
  go_loopw [2] (fun s wr => ∃ j : Nat, s = .int .i64 (j : Int) ∧ j ≤ n ∧ j ≤ m ∧ l.take j = r.take j ∧ Fr [] w wr) (fun s _ => n - (intOf s).toNat)
  case atStart => exact ⟨k, rfl, hk, hk2, Hs.out, Fr.refl _ _⟩
  case round =>
    obtain ⟨j, rfl, hj1, hj2, hs, hf⟩ := hrel
    have HS := Lib.hid hs
    have HF := Lib.hid hf
    clear hs hf
    by_cases h1 : j < n ∧ j < m
    · obtain ⟨g1, g2⟩ := h1
      obtain ⟨b1, o1, x1, rfl, hx1, c1⟩ := (HL.out.later HF.out (by simp)).at j (by rw [Hn.out]; exact g1)
      obtain ⟨b2, o2, x2, rfl, hx2, c2⟩ := (HR.out.later HF.out (by simp)).at j (by rw [Hm.out]; exact g2)
      have i1 : (j : Int) < n := by omega
      have i2 : (j : Int) < m := by omega
      have i3 : (0 : Int) ≤ j := by omega
      have e1 : decide ((j : Int) < n) = true := by simp; omega
      by_cases hx : x1 = x2
      · subst hx
        go_wp2_with fail
        go_quiet (fail)
        go_wp2
        go_roundw
        case rel =>
          refine ⟨j + 1, by go_num, by omega, by omega, ?_, HF.out.drewN _⟩
          obtain ⟨y1, y2⟩ := List.getElem?_eq_some_iff.1 hx1
          obtain ⟨y3, y4⟩ := List.getElem?_eq_some_iff.1 hx2
          rw [List.take_succ_eq_append_getElem y1, List.take_succ_eq_append_getElem y3, y2, y4, HS.out]
        case measure => simp [intOf]; omega
      · have hx' : ((x1.toNat : Int) == (x2.toNat : Int)) = false := by
          simp only [beq_eq_false_iff_ne, ne_eq]
          intro h
          exact hx (UInt8.toNat_inj.1 (by omega))
        have HE : Hid (alk l r = j) := Lib.hid (alk_of l r j (by rw [Hn.out]; omega) (by rw [Hm.out]; omega) HS.out (.inr (.inr (by rw [hx1, hx2]; simpa using hx))))
        go_wp2_with fail
        go_quiet (fail)
        go_wp2
        go_ret
        exact ⟨by rw [HE.out]; rfl, HF.out.drewN _⟩
    · have HE : Hid (alk l r = j) := Lib.hid (alk_of l r j (by rw [Hn.out]; omega) (by rw [Hm.out]; omega) HS.out (by rw [Hn.out, Hm.out]; omega))
      by_cases g1 : j < n
      · have g2 : ¬ j < m := fun h => h1 ⟨g1, h⟩
        have i1 : (j : Int) < n := by omega
        have i2 : ¬ (j : Int) < m := by omega
        have e1 : decide ((j : Int) < n) = true := by simp; omega
        have e2 : decide ((j : Int) < m) = false := by simp; omega
        go_wp2_with fail
        go_quiet (fail)
        go_wp2
        go_ret
        exact ⟨by rw [HE.out]; rfl, HF.out.drewN _⟩
      · have i1 : ¬ (j : Int) < n := by omega
        have e1 : decide ((j : Int) < n) = false := by simp; omega
        go_wp2_with fail
        go_quiet (fail)
        go_wp2
        go_ret
        exact ⟨by rw [HE.out]; rfl, HF.out.drewN _⟩

end Bm
end Go.Proofs.Ytokfcknfkhlmfaa
