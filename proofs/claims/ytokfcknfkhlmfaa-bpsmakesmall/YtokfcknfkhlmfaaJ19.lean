/-
  What an action makes, some bytes at a time: in mathematics, of no program.
  How a maker goes on, and what follows: in mathematics, of no program.
-/
import Derived.Test.YtokfcknfkhlmfaaJ05
import Derived.Test.YtokfcknfkhlmfaaJ17
namespace Go.Proofs.Ytokfcknfkhlmfaa
namespace Bps

/-- The bytes that an action of this kind takes from. -/
def src (k : Nat) (x d out : List UInt8) : List UInt8 := if k = 1 then d else if k = 3 then out else x
/-- The place of the byte number j. -/
def at_ (k : Nat) (st : St) (j : Nat) : Int := if k = 0 then (st.out.length : Int) else if k = 1 then (j : Int) else if k = 2 then st.s else st.t
/-- The place of the first byte. -/
def at0_ (k : Nat) (st : St) : Int := at_ k st 0

theorem byte1_src (k : Nat) (hk : k < 4) (x d : List UInt8) (st : St) (j : Nat) : byte1 k x d st j = if 0 ≤ at_ k st j then ((src k x d st.out)[(at_ k st j).toNat]?).map fun b => ⟨st.out ++ [b], if k = 2 then st.s + 1 else st.s, if k = 3 then st.t + 1 else st.t⟩ else none := by
  rcases (by omega : k = 0 ∨ k = 1 ∨ k = 2 ∨ k = 3) with rfl | rfl | rfl | rfl
  · have h : (0 : Int) ≤ at_ 0 st j := by simp [at_]
    rw [if_pos h]
    simp [byte1, at_, src]
  · have h : (0 : Int) ≤ at_ 1 st j := by simp [at_]
    rw [if_pos h]
    simp [byte1, at_, src]
  · simp [byte1, at_, src]
  · simp [byte1, at_, src]

theorem runs_places {k : Nat} {x d : List UInt8} {st st' : St} {j : Nat} (hk : k < 4) (h : runs k x d st j = some st') : st'.out.length = st.out.length + j ∧ st'.s = (if k = 2 then st.s + j else st.s) ∧ st'.t = (if k = 3 then st.t + j else st.t) := by
  induction j generalizing st' with
  | zero =>
    simp only [runs, Option.some.injEq] at h
    subst h
    simp
  | succ j ih =>
    rw [runs_succ] at h
    obtain ⟨st1, h1, h2⟩ := Option.bind_eq_some_iff.1 h
    obtain ⟨i1, i2, i3⟩ := ih h1
    rw [byte1_src k hk] at h2
    split at h2
    · obtain ⟨b, _, rfl⟩ := Option.map_eq_some_iff.1 h2
      refine ⟨by simp [i1]; omega, ?_, ?_⟩
      · simp only [i2]; split <;> omega
      · simp only [i3]; split <;> omega
    · cases h2
theorem runs_at {k : Nat} {x d : List UInt8} {st st' : St} {j : Nat} (hk : k < 4) (h : runs k x d st j = some st') : at_ k st' j = at0_ k st + j := by
  obtain ⟨h1, h2, h3⟩ := runs_places hk h
  rcases (by omega : k = 0 ∨ k = 1 ∨ k = 2 ∨ k = 3) with rfl | rfl | rfl | rfl
  · simp [at_, at0_, h1]
  · simp [at_, at0_]
  · simp [at_, at0_, h2]
  · simp [at_, at0_, h3]

theorem src_grow (k : Nat) (x d out more : List UInt8) (p : Nat) (h : p < (src k x d out).length) : (src k x d (out ++ more))[p]? = (src k x d out)[p]? := by
  unfold src at *
  split
  · rfl
  · rename_i h1
    rw [if_neg h1] at h
    split
    · rename_i h2
      rw [if_pos h2] at h
      rw [List.getElem?_append_left h]
    · rfl

/-- Some bytes more. -/
theorem runs_more (k : Nat) (hk : k < 4) (x d : List UInt8) (st st' : St) (j p m : Nat) (h : runs k x d st j = some st') (hp : at0_ k st + j = p) (hm : p + m ≤ (src k x d st'.out).length) :
    ∃ st2, runs k x d st (j + m) = some st2 ∧ st2.out = st'.out ++ ((src k x d st'.out).drop p).take m := by
  induction m with
  | zero => exact ⟨st', h, by simp⟩
  | succ m ih =>
    obtain ⟨st2, h2, e2⟩ := ih (by omega)
    have ha := runs_at hk h2
    have hq : at_ k st2 (j + m) = ((p + m : Nat) : Int) := by rw [ha]; omega
    have hlt : p + m < (src k x d st'.out).length := by omega
    have hg : (src k x d st2.out)[p + m]? = some ((src k x d st'.out)[p + m]) := by
      rw [e2, src_grow _ _ _ _ _ _ hlt, List.getElem?_eq_getElem hlt]
    refine ⟨⟨st2.out ++ [(src k x d st'.out)[p + m]], if k = 2 then st2.s + 1 else st2.s, if k = 3 then st2.t + 1 else st2.t⟩, ?_, ?_⟩
    · rw [← Nat.add_assoc, runs_succ, h2, Option.bind_some, byte1_src k hk, hq, if_pos (by omega), Int.toNat_natCast, hg]
      rfl
    · simp only
      rw [List.take_succ_eq_append_getElem (by rw [List.length_drop]; omega), List.getElem_drop, e2, List.append_assoc]

/-- A byte that is not there. -/
theorem runs_stuck (k : Nat) (hk : k < 4) (x d : List UInt8) (st st' : St) (j n : Nat) (q : Int) (h : runs k x d st j = some st') (hq : at0_ k st + j = q) (hb : q < 0 ∨ ((src k x d st'.out).length : Int) ≤ q) (hn : j < n) : runs k x d st n = none := by
  have ha := runs_at hk h
  rw [hq] at ha
  have h1 : runs k x d st (j + 1) = none := by
    rw [runs_succ, h, Option.bind_some, byte1_src k hk, ha]
    by_cases h0 : 0 ≤ q
    · rw [if_pos h0, List.getElem?_eq_none (by omega)]
      rfl
    · rw [if_neg h0]
  have h2 := runs_none k x d st (j + 1) (n - (j + 1)) h1
  rwa [show j + 1 + (n - (j + 1)) = n by omega] at h2

/-- What Apply answers. -/
def applyR (i : Nat) (s1 s2 : BitVec 32) (L : List Act) (x : List UInt8) : Int × List UInt8 :=
  if x.length = i ∧ Ups.sum x = s1 then
    match makeA L x with
    | none => (5, [])
    | some out => if Ups.sum out = s2 then (0, out) else (5, [])
  else (4, [])

theorem acts_snoc (x : List UInt8) (l : List Act) (a : Act) (st : St) : acts x (l ++ [a]) st = (acts x l st).bind (act1 x a) := by
  rw [acts_append]
  congr 1
  funext s
  simp only [acts]
  cases act1 x a s <;> rfl
theorem acts_none_take (x : List UInt8) (L : List Act) (st : St) (j : Nat) (h : acts x (L.take j) st = none) : acts x L st = none := by
  have := acts_append x (L.take j) (L.drop j) st
  rw [List.take_append_drop, h] at this
  exact this

/-- Places do not run far. -/
theorem act1_bound {x : List UInt8} {a : Act} (ha : Ok a) {st st' : St} (h : act1 x a st = some st') (N : Nat) (h0 : -(N : Int) ≤ st.s) (h1 : st.s ≤ N) (h2 : -(N : Int) ≤ st.t) (h3 : st.t ≤ N) :
    -((N + 2000000000 : Nat) : Int) ≤ st'.s ∧ st'.s ≤ ((N + 2000000000 : Nat) : Int) ∧ -((N + 2000000000 : Nat) : Int) ≤ st'.t ∧ st'.t ≤ ((N + 2000000000 : Nat) : Int) := by
  obtain ⟨p1, p2, p3⟩ := runs_places ha.kind h
  have q0 := ha.kind
  have q1 := ha.low
  have q2 := ha.high
  have q3 := ha.len
  rcases (by omega : a.kind = 0 ∨ a.kind = 1 ∨ a.kind = 2 ∨ a.kind = 3) with e | e | e | e <;> simp [moved, e] at p2 p3 <;> omega
theorem acts_bound {x : List UInt8} {l : List Act} (hl : ∀ a ∈ l, Ok a) {st st' : St} (h : acts x l st = some st') (N : Nat) (h0 : -(N : Int) ≤ st.s) (h1 : st.s ≤ N) (h2 : -(N : Int) ≤ st.t) (h3 : st.t ≤ N) :
    -((N + l.length * 2000000000 : Nat) : Int) ≤ st'.s ∧ st'.s ≤ ((N + l.length * 2000000000 : Nat) : Int) ∧ -((N + l.length * 2000000000 : Nat) : Int) ≤ st'.t ∧ st'.t ≤ ((N + l.length * 2000000000 : Nat) : Int) := by
  induction l generalizing st N with
  | nil =>
    simp only [acts, Option.some.injEq] at h
    subst h
    simp
    omega
  | cons a l ih =>
    have ha := hl a (List.mem_cons_self ..)
    obtain ⟨st1, e1, e2⟩ := Option.bind_eq_some_iff.1 h
    obtain ⟨b0, b1, b2, b3⟩ := act1_bound ha e1 N h0 h1 h2 h3
    have key := ih (fun b hb => hl b (List.mem_cons_of_mem _ hb)) e2 (N + 2000000000) b0 b1 b2 b3
    rw [List.length_cons]
    rw [show N + (l.length + 1) * 2000000000 = N + 2000000000 + l.length * 2000000000 by omega]
    exact key
theorem total_take (L : List Act) (j : Nat) : total (L.take j) ≤ total L := by
  have := total_append (L.take j) (L.drop j)
  rw [List.take_append_drop] at this
  omega
/-- An action more. -/
theorem acts_step (x : List UInt8) (L : List Act) (j : Nat) (hj : j < L.length) (st0 st : St) (h : acts x (L.take j) st0 = some st) : acts x (L.take (j + 1)) st0 = act1 x L[j] st := by
  rw [List.take_succ_eq_append_getElem hj, acts_snoc, h]
  rfl

end Bps
end Go.Proofs.Ytokfcknfkhlmfaa

namespace Go.Proofs.Ytokfcknfkhlmfaa
namespace Bm
open Bps (Ok actB headN total acts act1 runs moved acts_append acts_snoc total_append)

/-- What was told, up to where, where the maker stands, and both places. -/
structure S8 where
  L : List Bps.Act
  told : Nat
  u : Nat
  s : Nat
  t : Nat
/-- The action that tells what is left. -/
def leftA (b : List UInt8) (told u : Nat) : Bps.Act := ⟨1, u - told, 0, (b.drop told).take (u - told)⟩
def leftL (b : List UInt8) (told u : Nat) : List Bps.Act := if told < u then [leftA b told u] else []
/-- Does an action pay? -/
def pay (told u : Nat) (z : Nat × Nat × Int) : Bool := if told = u then decide (0 ≤ gn z.1 z.2.1 z.2.2) else decide ((sz 1 (u - told) 0 : Int) ≤ gn z.1 z.2.1 z.2.2)
def actZ (z : Nat × Nat × Int) : Bps.Act := ⟨z.1, z.2.1, z.2.2, []⟩
/-- How a maker goes on. -/
inductive Step (a b : List UInt8) : S8 → S8 → Prop
  | take (σ : S8) (z : Nat × Nat × Int) (s' t' : Nat) (hu : σ.u < b.length) (hz : BestZ a b σ.u σ.s σ.t z) (hn : 0 < z.2.1) (hp : pay σ.told σ.u z = true)
      (hs : (s' : Int) = if z.1 = 2 then (σ.s : Int) + (z.2.2 + (z.2.1 : Int)) else (σ.s : Int)) (ht : (t' : Int) = if z.1 = 3 then (σ.t : Int) + (z.2.2 + (z.2.1 : Int)) else (σ.t : Int)) :
      Step a b σ ⟨σ.L ++ leftL b σ.told σ.u ++ [actZ z], σ.u + z.2.1, σ.u + z.2.1, s', t'⟩
  | skip (σ : S8) (z : Nat × Nat × Int) (hu : σ.u < b.length) (hz : BestZ a b σ.u σ.s σ.t z) (hp : z.2.1 = 0 ∨ pay σ.told σ.u z = false) : Step a b σ ⟨σ.L, σ.told, σ.u + 1, σ.s, σ.t⟩
inductive Runs (a b : List UInt8) : S8 → Prop
  | start : Runs a b ⟨[], 0, 0, 0, 0⟩
  | step (σ σ' : S8) (h : Runs a b σ) (h' : Step a b σ σ') : Runs a b σ'

/-- What best tells makes the bytes that follow. -/
theorem best_ok {a b : List UInt8} {u s t : Nat} {z : Nat × Nat × Int} (h : BestZ a b u s t z) (hn : 0 < z.2.1) :
    (z.1 = 0 ∧ z.2.2 = 0 ∧ z.2.1 = fsN a b u) ∨
    (∃ p : Nat, z.1 = 2 ∧ (s : Int) + z.2.2 = p ∧ p + z.2.1 ≤ a.length ∧ u + z.2.1 ≤ b.length ∧ (a.drop p).take z.2.1 = (b.drop u).take z.2.1) ∨
    (∃ p : Nat, z.1 = 3 ∧ (t : Int) + z.2.2 = p ∧ p < u ∧ u + z.2.1 ≤ b.length ∧ (b.drop p).take z.2.1 = (b.drop u).take z.2.1) := by
  rcases h with ⟨_, rfl⟩ | ⟨h4, p, n, p', n', hl, hl', rfl⟩
  · exact .inl ⟨rfl, rfl, rfl⟩
  · have key : ∀ x y : Nat × Nat × Int, bet x y = x ∨ bet x y = y := by
      intro x y
      unfold bet
      split
      · exact .inr rfl
      · exact .inl rfl
    rcases key (bet (0, fsN a b u, 0) (2, n, (p : Int) - (s : Int))) (3, n', (p' : Int) - (t : Int)) with e | e
    · rw [e] at hn ⊢
      rcases key (0, fsN a b u, 0) (2, n, (p : Int) - (s : Int)) with e | e
      · rw [e]; exact .inl ⟨rfl, rfl, rfl⟩
      · rw [e] at hn ⊢
        refine .inr (.inl ⟨p, rfl, by simp only; omega, ?_⟩)
        rcases hl.1 with ⟨h1, _⟩ | ⟨_, _, h2, h3, h5⟩
        · simp only at hn; omega
        · exact ⟨h2, h3, h5⟩
    · rw [e] at hn ⊢
      refine .inr (.inr ⟨p', rfl, by simp only; omega, ?_⟩)
      rcases hl'.1 with ⟨h1, _⟩ | ⟨_, h6, h2, h3, h5⟩
      · simp only at hn; omega
      · exact ⟨h6, h3, h5⟩

theorem fsN_spec (a b : List UInt8) (u : Nat) (h : 0 < fsN a b u) : u + fsN a b u ≤ a.length ∧ (a.drop u).take (fsN a b u) = (b.drop u).take (fsN a b u) := by
  unfold fsN at h ⊢
  by_cases hu : u < a.length
  · rw [if_pos hu] at h ⊢
    have := alk_le1 (a.drop u) (b.drop u)
    rw [List.length_drop] at this
    exact ⟨by omega, alk_take _ _ _ (Nat.le_refl _)⟩
  · rw [if_neg hu] at h; omega
/-- Behind them nothing is the same. -/
theorem fsN_end (a b : List UInt8) (u : Nat) (h : 0 < fsN a b u) : fsN a b (u + fsN a b u) = 0 := by
  obtain ⟨h1, h2⟩ := fsN_spec a b u h
  have h3 := fsN_le a b u
  have hu : u < a.length := by omega
  have e : fsN a b u = alk (a.drop u) (b.drop u) := by unfold fsN; rw [if_pos hu]
  obtain ⟨n, hn⟩ : ∃ n, fsN a b u = n := ⟨_, rfl⟩
  rw [hn] at h h1 h2 h3 e ⊢
  have g1 : (a.drop u).length = a.length - u := List.length_drop
  have g2 : (b.drop u).length = b.length - u := List.length_drop
  unfold fsN
  by_cases hl : u + n < a.length
  · rw [if_pos hl]
    by_cases hb : u + n < b.length
    · have := alk_next (a.drop u) (b.drop u) (by omega) (by omega)
      rw [← e, List.getElem?_drop, List.getElem?_drop] at this
      cases h6 : alk (a.drop (u + n)) (b.drop (u + n)) with
      | zero => rfl
      | succ m =>
        exfalso
        have h7 := congrArg (fun l => l[0]?) (alk_take (a.drop (u + n)) (b.drop (u + n)) 1 (by omega))
        simp only [List.getElem?_take_of_lt (show 0 < 1 by omega), List.getElem?_drop, Nat.add_zero] at h7
        exact absurd h7 this
    · have := alk_le2 (a.drop (u + n)) (b.drop (u + n))
      rw [List.length_drop] at this
      omega
  · rw [if_neg hl]

/-- A copy of what was made makes the bytes that follow. -/
theorem runs3_take (x d b : List UInt8) (u p : Nat) (s : Int) (n : Nat) (hp : p < u) (hn : u + n ≤ b.length) (h : (b.drop p).take n = (b.drop u).take n) : runs 3 x d ⟨b.take u, s, p⟩ n = some ⟨b.take (u + n), s, p + n⟩ := by
  have hg : ∀ i, i < n → b[p + i]? = b[u + i]? := by
    intro i hi
    have := congrArg (fun l => l[i]?) h
    simpa [List.getElem?_take_of_lt hi, List.getElem?_drop] using this
  clear h
  induction n with
  | zero => simp [runs]
  | succ n ih =>
    rw [Bps.runs_succ, ih (by omega) (fun i hi => hg i (by omega))]
    have hun : u + n < b.length := by omega
    simp only [Option.bind_some, Bps.byte1_3]
    rw [if_pos (by omega), show ((p : Int) + (n : Int)).toNat = p + n by omega, List.getElem?_take_of_lt (by omega), hg n (by omega), List.getElem?_eq_getElem hun]
    simp only [Option.map_some]
    rw [← Nat.add_assoc, List.take_succ_eq_append_getElem hun]
    congr 2

theorem take_more (b : List UInt8) (u n : Nat) : b.take u ++ (b.drop u).take n = b.take (u + n) := by
  rw [List.take_add]

/-- The action that best tells, done. -/
theorem act_best {a b : List UInt8} {u s t s' t' : Nat} {z : Nat × Nat × Int} (hu : u < b.length) (h : BestZ a b u s t z) (hn : 0 < z.2.1)
    (hs : (s' : Int) = if z.1 = 2 then (s : Int) + (z.2.2 + (z.2.1 : Int)) else (s : Int)) (ht : (t' : Int) = if z.1 = 3 then (t : Int) + (z.2.2 + (z.2.1 : Int)) else (t : Int)) :
    act1 a (actZ z) ⟨b.take u, s, t⟩ = some ⟨b.take (u + z.2.1), s', t'⟩ ∧ u + z.2.1 ≤ b.length ∧ (z.1 = 2 → s' ≤ a.length) ∧ (z.1 = 3 → t' ≤ b.length) := by
  obtain ⟨k, n, mv⟩ := z
  simp only at hn hs ht ⊢
  have hlen : (b.take u).length = u := by rw [List.length_take]; omega
  rcases best_ok h hn with ⟨h1, h2, h3⟩ | ⟨p, h1, h2, h3, h4, h5⟩ | ⟨p, h1, h2, h3, h4, h5⟩
  · simp only at h1 h2 h3
    subst h1 h2
    rw [if_neg (by decide)] at hs
    rw [if_neg (by decide)] at ht
    obtain ⟨q1, q2⟩ := fsN_spec a b u (by omega)
    have q3 := fsN_le a b u
    rw [← h3] at q1 q2 q3
    refine ⟨?_, by omega, by simp, by simp⟩
    show runs 0 a [] (moved ⟨0, n, 0, []⟩ ⟨b.take u, s, t⟩) n = _
    rw [show moved ⟨0, n, 0, []⟩ ⟨b.take u, (s : Int), (t : Int)⟩ = ⟨b.take u, s, t⟩ from rfl, Bps.runs0 _ _ _ _ (by simp only [hlen]; omega)]
    simp only [hlen, q2, take_more, hs, ht]
  · simp only at h1 h2 h3 h4 h5
    subst h1
    rw [if_pos rfl] at hs
    rw [if_neg (by decide)] at ht
    refine ⟨?_, h4, fun _ => by omega, by simp⟩
    show runs 2 a [] (moved ⟨2, n, mv, []⟩ ⟨b.take u, s, t⟩) n = _
    rw [show moved ⟨2, n, mv, []⟩ ⟨b.take u, (s : Int), (t : Int)⟩ = ⟨b.take u, (s : Int) + mv, t⟩ from rfl, h2, Bps.runs2 _ _ _ _ (by simp) (by simp only; omega)]
    simp only [Int.toNat_natCast, h5, take_more, ht]
    congr 2
    omega
  · simp only at h1 h2 h3 h4 h5
    subst h1
    rw [if_neg (by decide)] at hs
    rw [if_pos rfl] at ht
    refine ⟨?_, h4, by simp, fun _ => by omega⟩
    show runs 3 a [] (moved ⟨3, n, mv, []⟩ ⟨b.take u, s, t⟩) n = _
    rw [show moved ⟨3, n, mv, []⟩ ⟨b.take u, (s : Int), (t : Int)⟩ = ⟨b.take u, (s : Int), (t : Int) + mv⟩ from rfl, h2, runs3_take _ _ _ _ _ _ _ h3 h4 h5, hs]
    congr 2
    omega

end Bm
end Go.Proofs.Ytokfcknfkhlmfaa
