/-
  Where four bytes stood last: in mathematics, of no program.
-/
import Derived.Test.YtokfcknfkhlmfaaKeyMap
namespace Go.Proofs.Ytokfcknfkhlmfaa
open Go.RowKit
namespace Bm

/-- The four bytes from a place on. -/
def key4 (l : List UInt8) (i : Nat) : List UInt8 := (l.drop i).take 4
/-- The place behind the last one ahead of a place at which these four bytes stand; nought: there is none. -/
def prev (l k : List UInt8) : Nat → Nat
  | 0 => 0
  | u + 1 => if u + 4 ≤ l.length ∧ key4 l u = k then u + 1 else prev l k u
theorem prev_zero (l k : List UInt8) : prev l k 0 = 0 := rfl
theorem prev_hit (l k : List UInt8) (u : Nat) (h : u + 4 ≤ l.length) (hk : key4 l u = k) : prev l k (u + 1) = u + 1 := if_pos ⟨h, hk⟩
theorem prev_miss (l k : List UInt8) (u : Nat) (h : ¬ (u + 4 ≤ l.length ∧ key4 l u = k)) : prev l k (u + 1) = prev l k u := if_neg h
theorem prev_le (l k : List UInt8) (u : Nat) : prev l k u ≤ u := by
  induction u with
  | zero => exact Nat.le_refl _
  | succ u ih =>
    by_cases h : u + 4 ≤ l.length ∧ key4 l u = k
    · rw [prev_hit l k u h.1 h.2]; exact Nat.le_refl _
    · rw [prev_miss l k u h]; omega
theorem prev_spec (l k : List UInt8) (u p : Nat) (h : prev l k u = p + 1) : p < u ∧ p + 4 ≤ l.length ∧ key4 l p = k := by
  induction u with
  | zero => rw [prev_zero] at h; omega
  | succ u ih =>
    by_cases hc : u + 4 ≤ l.length ∧ key4 l u = k
    · rw [prev_hit l k u hc.1 hc.2] at h
      obtain rfl : u = p := by omega
      exact ⟨by omega, hc⟩
    · rw [prev_miss l k u hc] at h
      obtain ⟨h1, h2⟩ := ih h
      exact ⟨by omega, h2⟩
theorem prev_max (l k : List UInt8) (u q : Nat) (hq : q < u) (h4 : q + 4 ≤ l.length) (hk : key4 l q = k) : q + 1 ≤ prev l k u := by
  induction u with
  | zero => omega
  | succ u ih =>
    by_cases hc : u + 4 ≤ l.length ∧ key4 l u = k
    · rw [prev_hit l k u hc.1 hc.2]; omega
    · rw [prev_miss l k u hc]
      refine ih ?_
      rcases Nat.lt_or_eq_of_le (Nat.le_of_lt_succ hq) with h | rfl
      · exact h
      · exact absurd ⟨h4, hk⟩ hc
theorem prev_end (l k : List UInt8) (u m : Nat) (h : l.length < u + 4) : prev l k (u + m) = prev l k u := by
  induction m with
  | zero => rfl
  | succ m ih => rw [← Nat.add_assoc, prev_miss l k _ (by omega), ih]
theorem prev_all (l k : List UInt8) (u : Nat) (h : l.length < u + 4) (hu : u ≤ l.length) : prev l k l.length = prev l k u := by
  have := prev_end l k u (l.length - u) h
  rwa [show u + (l.length - u) = l.length by omega] at this

/-- The part of a key; the part of a place. -/
def kp (k : List UInt8) : Nat := (k.headD 0).toNat % 16
def pt (l : List UInt8) (i : Nat) : Nat := kp (key4 l i)
theorem pt_get (l : List UInt8) (i : Nat) (x : UInt8) (hx : l[i]? = some x) : pt l i = x.toNat % 16 := by
  obtain ⟨hi, e⟩ := List.getElem?_eq_some_iff.1 hx
  unfold pt kp key4
  rw [List.drop_eq_getElem_cons hi, e]
  rfl
theorem key4_length (l : List UInt8) (i : Nat) (h : i + 4 ≤ l.length) : (key4 l i).length = 4 := by simp [key4]; omega

/-- What the map tells within a part: of both texts, up to a place of each. -/
def seen (a b : List UInt8) (part i j : Nat) (k : List UInt8) : Nat × Nat := if kp k = part then (prev a k i, prev b k j) else (0, 0)
theorem seen_start (a b : List UInt8) (part : Nat) : seen a b part 0 0 = fun _ => (0, 0) := by
  funext k
  unfold seen
  simp [prev_zero]
theorem seen_part (a b : List UInt8) (part i j : Nat) (k : List UInt8) (h : kp k = part) : seen a b part i j k = (prev a k i, prev b k j) := if_pos h
theorem seen_skip1 (a b : List UInt8) (part i j : Nat) (h : pt a i ≠ part) : seen a b part (i + 1) j = seen a b part i j := by
  funext k
  unfold seen
  by_cases hk : kp k = part
  · rw [if_pos hk, if_pos hk, prev_miss]
    rintro ⟨_, rfl⟩
    exact h hk
  · rw [if_neg hk, if_neg hk]
theorem seen_skip2 (a b : List UInt8) (part i j : Nat) (h : pt b j ≠ part) : seen a b part i (j + 1) = seen a b part i j := by
  funext k
  unfold seen
  by_cases hk : kp k = part
  · rw [if_pos hk, if_pos hk, prev_miss]
    rintro ⟨_, rfl⟩
    exact h hk
  · rw [if_neg hk, if_neg hk]
theorem seen_hit1 (a b : List UInt8) (part i j : Nat) (h : pt a i = part) (h4 : i + 4 ≤ a.length) : upd (seen a b part i j) (key4 a i) (i + 1, prev b (key4 a i) j) = seen a b part (i + 1) j := by
  funext k
  by_cases hk : k = key4 a i
  · subst hk
    rw [upd_same, seen_part _ _ _ _ _ _ h, prev_hit _ _ _ h4 rfl]
  · rw [upd_other _ _ hk]
    unfold seen
    by_cases hp : kp k = part
    · rw [if_pos hp, if_pos hp, prev_miss]
      rintro ⟨_, h1⟩
      exact hk h1.symm
    · rw [if_neg hp, if_neg hp]
theorem seen_hit2 (a b : List UInt8) (part i j : Nat) (h : pt b j = part) (h4 : j + 4 ≤ b.length) : upd (seen a b part i j) (key4 b j) (prev a (key4 b j) i, j + 1) = seen a b part i (j + 1) := by
  funext k
  by_cases hk : k = key4 b j
  · subst hk
    rw [upd_same, seen_part _ _ _ _ _ _ h, prev_hit _ _ _ h4 rfl]
  · rw [upd_other _ _ hk]
    unfold seen
    by_cases hp : kp k = part
    · rw [if_pos hp, if_pos hp, prev_miss]
      rintro ⟨_, h1⟩
      exact hk h1.symm
    · rw [if_neg hp, if_neg hp]

/-- f, but within a part what g tells, up to a place. -/
def fill (l : List UInt8) (part u : Nat) (g f : Nat → Nat) (i : Nat) : Nat := if i + 4 ≤ l.length ∧ pt l i = part ∧ i < u then g i else f i
theorem fill_zero (l : List UInt8) (part : Nat) (g f : Nat → Nat) : fill l part 0 g f = f := by
  funext i
  unfold fill
  rw [if_neg (by omega)]
theorem fill_skip (l : List UInt8) (part u : Nat) (g f : Nat → Nat) (h : pt l u ≠ part) : fill l part (u + 1) g f = fill l part u g f := by
  funext i
  unfold fill
  by_cases hc : i + 4 ≤ l.length ∧ pt l i = part ∧ i < u
  · rw [if_pos hc, if_pos ⟨hc.1, hc.2.1, by omega⟩]
  · rw [if_neg hc, if_neg]
    rintro ⟨h1, h2, h3⟩
    rcases Nat.lt_or_eq_of_le (Nat.le_of_lt_succ h3) with h4 | rfl
    · exact hc ⟨h1, h2, h4⟩
    · exact h h2
def updN (f : Nat → Nat) (u v : Nat) : Nat → Nat := fun i => if i = u then v else f i
theorem fill_hit (l : List UInt8) (part u : Nat) (g f : Nat → Nat) (h : pt l u = part) (h4 : u + 4 ≤ l.length) : updN (fill l part u g f) u (g u) = fill l part (u + 1) g f := by
  funext i
  unfold updN fill
  by_cases hi : i = u
  · subst hi
    rw [if_pos rfl, if_pos ⟨h4, h, by omega⟩]
  · rw [if_neg hi]
    by_cases hc : i + 4 ≤ l.length ∧ pt l i = part ∧ i < u
    · rw [if_pos hc, if_pos ⟨hc.1, hc.2.1, by omega⟩]
    · rw [if_neg hc, if_neg]
      rintro ⟨h1, h2, h3⟩
      exact hc ⟨h1, h2, by omega⟩
/-- All of a part. -/
def fills (l : List UInt8) (part : Nat) (g f : Nat → Nat) (i : Nat) : Nat := if i + 4 ≤ l.length ∧ pt l i = part then g i else f i
theorem fill_all (l : List UInt8) (part u : Nat) (g f : Nat → Nat) (h : l.length < u + 4) : fill l part u g f = fills l part g f := by
  funext i
  unfold fill fills
  by_cases hc : i + 4 ≤ l.length ∧ pt l i = part
  · rw [if_pos hc, if_pos ⟨hc.1, hc.2, by omega⟩]
  · rw [if_neg hc, if_neg]
    rintro ⟨h1, h2, _⟩
    exact hc ⟨h1, h2⟩
/-- All parts ahead of one. -/
def upto (l : List UInt8) (n : Nat) (g : Nat → Nat) (i : Nat) : Nat := if i + 4 ≤ l.length ∧ pt l i < n then g i else 0
theorem upto_zero (l : List UInt8) (g : Nat → Nat) : upto l 0 g = fun _ => 0 := by
  funext i
  unfold upto
  rw [if_neg (by omega)]
theorem upto_step (l : List UInt8) (n : Nat) (g : Nat → Nat) : fills l n g (upto l n g) = upto l (n + 1) g := by
  funext i
  unfold fills upto
  by_cases h1 : i + 4 ≤ l.length ∧ pt l i = n
  · rw [if_pos h1, if_pos ⟨h1.1, by omega⟩]
  · rw [if_neg h1]
    by_cases h2 : i + 4 ≤ l.length ∧ pt l i < n
    · rw [if_pos h2, if_pos ⟨h2.1, by omega⟩]
    · rw [if_neg h2, if_neg]
      rintro ⟨h3, h4⟩
      rcases Nat.lt_or_eq_of_le (Nat.le_of_lt_succ h4) with h5 | h5
      · exact h2 ⟨h3, h5⟩
      · exact h1 ⟨h3, h5⟩
/-- All places. -/
def full (l : List UInt8) (g : Nat → Nat) (i : Nat) : Nat := if i + 4 ≤ l.length then g i else 0
theorem upto_full (l : List UInt8) (g : Nat → Nat) : upto l 16 g = full l g := by
  funext i
  unfold upto full
  by_cases h : i + 4 ≤ l.length
  · rw [if_pos ⟨h, by unfold pt kp; omega⟩, if_pos h]
  · rw [if_neg (fun h1 => h h1.1), if_neg h]

/-- What the index tells: in a text itself; of b in a. -/
def within (l : List UInt8) (i : Nat) : Nat := prev l (key4 l i) i
def across (a b : List UInt8) (i : Nat) : Nat := prev a (key4 b i) a.length

/-- A row of int32. -/
def rowV (n : Nat) (f : Nat → Nat) : Array Value := ((List.range n).map fun i => Value.int .i32 (f i : Int)).toArray
theorem rowV_get (n : Nat) (f : Nat → Nat) (i : Nat) (h : i < n) : (rowV n f)[i]? = some (.int .i32 (f i : Int)) := by
  unfold rowV
  rw [List.getElem?_toArray, List.getElem?_map, List.getElem?_range h]
  rfl
theorem rowV_size (n : Nat) (f : Nat → Nat) : (rowV n f).size = n := by simp [rowV]
theorem rowV_set (n : Nat) (f : Nat → Nat) (u v : Nat) : (rowV n f).setIfInBounds u (.int .i32 (v : Int)) = rowV n (updN f u v) := by
  apply Array.ext_getElem?
  intro i
  by_cases hi : i < n
  · rw [rowV_get _ _ _ hi]
    unfold updN
    by_cases hu : i = u
    · subst hu
      rw [Array.getElem?_setIfInBounds_self_of_lt (by rw [rowV_size]; exact hi), if_pos rfl]
    · rw [Array.getElem?_setIfInBounds_ne (fun h => hu h.symm), rowV_get _ _ _ hi, if_neg hu]
  · rw [Array.getElem?_eq_none (by simp [rowV_size]; omega), Array.getElem?_eq_none (by simp [rowV_size]; omega)]
/-- Block g is such a row. -/
def IRow (w : World) (g n : Nat) (f : Nat → Nat) : Prop := Blk w g 21 (rowV n f)
theorem IRow.get {w : World} {g n : Nat} {f : Nat → Nat} (h : IRow w g n f) (i : Nat) (hi : i < n) : w.cell? ⟨g, i, none⟩ = some (.int .i32 (f i : Int)) := by
  rw [Blk.cell h, rowV_get _ _ _ hi]
theorem IRow.put {w : World} {g n : Nat} {f : Nat → Nat} (h : IRow w g n f) (u v : Nat) : IRow (w.setCell ⟨g, u, none⟩ (.int .i32 (v : Int))) g n (updN f u v) := by
  have := Blk.put h u (.int .i32 (v : Int))
  rw [rowV_set] at this
  exact this
theorem IRow.fr {S : List Nat} {w w' : World} {g n : Nat} {f : Nat → Nat} (h : IRow w g n f) (hf : Fr S w w') (hg : g ∉ S) : IRow w' g n f := Blk.fr h hf hg

end Bm
end Go.Proofs.Ytokfcknfkhlmfaa
