/-
  How a maker goes on, and what follows: in mathematics, of no program.
-/
import Derived.Test.YtokfcknfkhlmfaaBmBest
import Derived.Test.YtokfcknfkhlmfaaBpsRunMath
namespace Go.Proofs.Ytokfcknfkhlmfaa
namespace Bm
open Bps (Ok actB headN total acts act1 runs moved acts_append acts_snoc total_append)

/-- What was told, up to where, where the maker stands, and both places. -/
structure S8 where
  L : List Bps.Act
  told : Nat
  u : Nat
  s : Nat
  t : Nat
/-- The action that tells what is left. -/
def leftA (b : List UInt8) (told u : Nat) : Bps.Act := ⟨1, u - told, 0, (b.drop told).take (u - told)⟩
def leftL (b : List UInt8) (told u : Nat) : List Bps.Act := if told < u then [leftA b told u] else []
/-- Does an action pay? -/
def pay (told u : Nat) (z : Nat × Nat × Int) : Bool := if told = u then decide (0 ≤ gn z.1 z.2.1 z.2.2) else decide ((sz 1 (u - told) 0 : Int) ≤ gn z.1 z.2.1 z.2.2)
def actZ (z : Nat × Nat × Int) : Bps.Act := ⟨z.1, z.2.1, z.2.2, []⟩
/-- How a maker goes on. -/
inductive Step (a b : List UInt8) : S8 → S8 → Prop
  | take (σ : S8) (z : Nat × Nat × Int) (s' t' : Nat) (hu : σ.u < b.length) (hz : BestZ a b σ.u σ.s σ.t z) (hn : 0 < z.2.1) (hp : pay σ.told σ.u z = true)
      (hs : (s' : Int) = if z.1 = 2 then (σ.s : Int) + (z.2.2 + (z.2.1 : Int)) else (σ.s : Int)) (ht : (t' : Int) = if z.1 = 3 then (σ.t : Int) + (z.2.2 + (z.2.1 : Int)) else (σ.t : Int)) :
      Step a b σ ⟨σ.L ++ leftL b σ.told σ.u ++ [actZ z], σ.u + z.2.1, σ.u + z.2.1, s', t'⟩
  | skip (σ : S8) (z : Nat × Nat × Int) (hu : σ.u < b.length) (hz : BestZ a b σ.u σ.s σ.t z) (hp : z.2.1 = 0 ∨ pay σ.told σ.u z = false) : Step a b σ ⟨σ.L, σ.told, σ.u + 1, σ.s, σ.t⟩
inductive Runs (a b : List UInt8) : S8 → Prop
  | start : Runs a b ⟨[], 0, 0, 0, 0⟩
  | step (σ σ' : S8) (h : Runs a b σ) (h' : Step a b σ σ') : Runs a b σ'

/-- What best tells makes the bytes that follow. -/
theorem best_ok {a b : List UInt8} {u s t : Nat} {z : Nat × Nat × Int} (h : BestZ a b u s t z) (hn : 0 < z.2.1) :
    (z.1 = 0 ∧ z.2.2 = 0 ∧ z.2.1 = fsN a b u) ∨
    (∃ p : Nat, z.1 = 2 ∧ (s : Int) + z.2.2 = p ∧ p + z.2.1 ≤ a.length ∧ u + z.2.1 ≤ b.length ∧ (a.drop p).take z.2.1 = (b.drop u).take z.2.1) ∨
    (∃ p : Nat, z.1 = 3 ∧ (t : Int) + z.2.2 = p ∧ p < u ∧ u + z.2.1 ≤ b.length ∧ (b.drop p).take z.2.1 = (b.drop u).take z.2.1) := by
  rcases h with ⟨_, rfl⟩ | ⟨h4, p, n, p', n', hl, hl', rfl⟩
  · exact .inl ⟨rfl, rfl, rfl⟩
  · have key : ∀ x y : Nat × Nat × Int, bet x y = x ∨ bet x y = y := by
      intro x y
      unfold bet
      split
      · exact .inr rfl
      · exact .inl rfl
    rcases key (bet (0, fsN a b u, 0) (2, n, (p : Int) - (s : Int))) (3, n', (p' : Int) - (t : Int)) with e | e
    · rw [e] at hn ⊢
      rcases key (0, fsN a b u, 0) (2, n, (p : Int) - (s : Int)) with e | e
      · rw [e]; exact .inl ⟨rfl, rfl, rfl⟩
      · rw [e] at hn ⊢
        refine .inr (.inl ⟨p, rfl, by simp only; omega, ?_⟩)
        rcases hl.1 with ⟨h1, _⟩ | ⟨_, _, h2, h3, h5⟩
        · simp only at hn; omega
        · exact ⟨h2, h3, h5⟩
    · rw [e] at hn ⊢
      refine .inr (.inr ⟨p', rfl, by simp only; omega, ?_⟩)
      rcases hl'.1 with ⟨h1, _⟩ | ⟨_, h6, h2, h3, h5⟩
      · simp only at hn; omega
      · exact ⟨h6, h3, h5⟩

theorem fsN_spec (a b : List UInt8) (u : Nat) (h : 0 < fsN a b u) : u + fsN a b u ≤ a.length ∧ (a.drop u).take (fsN a b u) = (b.drop u).take (fsN a b u) := by
  unfold fsN at h ⊢
  by_cases hu : u < a.length
  · rw [if_pos hu] at h ⊢
    have := alk_le1 (a.drop u) (b.drop u)
    rw [List.length_drop] at this
    exact ⟨by omega, alk_take _ _ _ (Nat.le_refl _)⟩
  · rw [if_neg hu] at h; omega
/-- Behind them nothing is the same. -/
theorem fsN_end (a b : List UInt8) (u : Nat) (h : 0 < fsN a b u) : fsN a b (u + fsN a b u) = 0 := by
  obtain ⟨h1, h2⟩ := fsN_spec a b u h
  have h3 := fsN_le a b u
  have hu : u < a.length := by omega
  have e : fsN a b u = alk (a.drop u) (b.drop u) := by unfold fsN; rw [if_pos hu]
  obtain ⟨n, hn⟩ : ∃ n, fsN a b u = n := ⟨_, rfl⟩
  rw [hn] at h h1 h2 h3 e ⊢
  have g1 : (a.drop u).length = a.length - u := List.length_drop
  have g2 : (b.drop u).length = b.length - u := List.length_drop
  unfold fsN
  by_cases hl : u + n < a.length
  · rw [if_pos hl]
    by_cases hb : u + n < b.length
    · have := alk_next (a.drop u) (b.drop u) (by omega) (by omega)
      rw [← e, List.getElem?_drop, List.getElem?_drop] at this
      cases h6 : alk (a.drop (u + n)) (b.drop (u + n)) with
      | zero => rfl
      | succ m =>
        exfalso
        have h7 := congrArg (fun l => l[0]?) (alk_take (a.drop (u + n)) (b.drop (u + n)) 1 (by omega))
        simp only [List.getElem?_take_of_lt (show 0 < 1 by omega), List.getElem?_drop, Nat.add_zero] at h7
        exact absurd h7 this
    · have := alk_le2 (a.drop (u + n)) (b.drop (u + n))
      rw [List.length_drop] at this
      omega
  · rw [if_neg hl]

/-- A copy of what was made makes the bytes that follow. -/
theorem runs3_take (x d b : List UInt8) (u p : Nat) (s : Int) (n : Nat) (hp : p < u) (hn : u + n ≤ b.length) (h : (b.drop p).take n = (b.drop u).take n) : runs 3 x d ⟨b.take u, s, p⟩ n = some ⟨b.take (u + n), s, p + n⟩ := by
  have hg : ∀ i, i < n → b[p + i]? = b[u + i]? := by
    intro i hi
    have := congrArg (fun l => l[i]?) h
    simpa [List.getElem?_take_of_lt hi, List.getElem?_drop] using this
  clear h
  induction n with
  | zero => simp [runs]
  | succ n ih =>
    rw [Bps.runs_succ, ih (by omega) (fun i hi => hg i (by omega))]
    have hun : u + n < b.length := by omega
    simp only [Option.bind_some, Bps.byte1_3]
    rw [if_pos (by omega), show ((p : Int) + (n : Int)).toNat = p + n by omega, List.getElem?_take_of_lt (by omega), hg n (by omega), List.getElem?_eq_getElem hun]
    simp only [Option.map_some]
    rw [← Nat.add_assoc, List.take_succ_eq_append_getElem hun]
    congr 2

theorem take_more (b : List UInt8) (u n : Nat) : b.take u ++ (b.drop u).take n = b.take (u + n) := by
  rw [List.take_add]

/-- The action that best tells, done. -/
theorem act_best {a b : List UInt8} {u s t s' t' : Nat} {z : Nat × Nat × Int} (hu : u < b.length) (h : BestZ a b u s t z) (hn : 0 < z.2.1)
    (hs : (s' : Int) = if z.1 = 2 then (s : Int) + (z.2.2 + (z.2.1 : Int)) else (s : Int)) (ht : (t' : Int) = if z.1 = 3 then (t : Int) + (z.2.2 + (z.2.1 : Int)) else (t : Int)) :
    act1 a (actZ z) ⟨b.take u, s, t⟩ = some ⟨b.take (u + z.2.1), s', t'⟩ ∧ u + z.2.1 ≤ b.length ∧ (z.1 = 2 → s' ≤ a.length) ∧ (z.1 = 3 → t' ≤ b.length) := by
  obtain ⟨k, n, mv⟩ := z
  simp only at hn hs ht ⊢
  have hlen : (b.take u).length = u := by rw [List.length_take]; omega
  rcases best_ok h hn with ⟨h1, h2, h3⟩ | ⟨p, h1, h2, h3, h4, h5⟩ | ⟨p, h1, h2, h3, h4, h5⟩
  · simp only at h1 h2 h3
    subst h1 h2
    rw [if_neg (by decide)] at hs
    rw [if_neg (by decide)] at ht
    obtain ⟨q1, q2⟩ := fsN_spec a b u (by omega)
    have q3 := fsN_le a b u
    rw [← h3] at q1 q2 q3
    refine ⟨?_, by omega, by simp, by simp⟩
    show runs 0 a [] (moved ⟨0, n, 0, []⟩ ⟨b.take u, s, t⟩) n = _
    rw [show moved ⟨0, n, 0, []⟩ ⟨b.take u, (s : Int), (t : Int)⟩ = ⟨b.take u, s, t⟩ from rfl, Bps.runs0 _ _ _ _ (by simp only [hlen]; omega)]
    simp only [hlen, q2, take_more, hs, ht]
  · simp only at h1 h2 h3 h4 h5
    subst h1
    rw [if_pos rfl] at hs
    rw [if_neg (by decide)] at ht
    refine ⟨?_, h4, fun _ => by omega, by simp⟩
    show runs 2 a [] (moved ⟨2, n, mv, []⟩ ⟨b.take u, s, t⟩) n = _
    rw [show moved ⟨2, n, mv, []⟩ ⟨b.take u, (s : Int), (t : Int)⟩ = ⟨b.take u, (s : Int) + mv, t⟩ from rfl, h2, Bps.runs2 _ _ _ _ (by simp) (by simp only; omega)]
    simp only [Int.toNat_natCast, h5, take_more, ht]
    congr 2
    omega
  · simp only at h1 h2 h3 h4 h5
    subst h1
    rw [if_neg (by decide)] at hs
    rw [if_pos rfl] at ht
    refine ⟨?_, h4, by simp, fun _ => by omega⟩
    show runs 3 a [] (moved ⟨3, n, mv, []⟩ ⟨b.take u, s, t⟩) n = _
    rw [show moved ⟨3, n, mv, []⟩ ⟨b.take u, (s : Int), (t : Int)⟩ = ⟨b.take u, (s : Int), (t : Int) + mv⟩ from rfl, h2, runs3_take _ _ _ _ _ _ _ h3 h4 h5, hs]
    congr 2
    omega

end Bm
end Go.Proofs.Ytokfcknfkhlmfaa
