/-
  What an action makes, some bytes at a time: in mathematics, of no program.
-/
import Derived.Test.YtokfcknfkhlmfaaBpsMath
namespace Go.Proofs.Ytokfcknfkhlmfaa
namespace Bps

/-- The bytes that an action of this kind takes from. -/
def src (k : Nat) (x d out : List UInt8) : List UInt8 := if k = 1 then d else if k = 3 then out else x
/-- The place of the byte number j. -/
def at_ (k : Nat) (st : St) (j : Nat) : Int := if k = 0 then (st.out.length : Int) else if k = 1 then (j : Int) else if k = 2 then st.s else st.t
/-- The place of the first byte. -/
def at0_ (k : Nat) (st : St) : Int := at_ k st 0

theorem byte1_src (k : Nat) (hk : k < 4) (x d : List UInt8) (st : St) (j : Nat) : byte1 k x d st j = if 0 ≤ at_ k st j then ((src k x d st.out)[(at_ k st j).toNat]?).map fun b => ⟨st.out ++ [b], if k = 2 then st.s + 1 else st.s, if k = 3 then st.t + 1 else st.t⟩ else none := by
  rcases (by omega : k = 0 ∨ k = 1 ∨ k = 2 ∨ k = 3) with rfl | rfl | rfl | rfl
  · have h : (0 : Int) ≤ at_ 0 st j := by simp [at_]
    rw [if_pos h]
    simp [byte1, at_, src]
  · have h : (0 : Int) ≤ at_ 1 st j := by simp [at_]
    rw [if_pos h]
    simp [byte1, at_, src]
  · simp [byte1, at_, src]
  · simp [byte1, at_, src]

theorem runs_places {k : Nat} {x d : List UInt8} {st st' : St} {j : Nat} (hk : k < 4) (h : runs k x d st j = some st') : st'.out.length = st.out.length + j ∧ st'.s = (if k = 2 then st.s + j else st.s) ∧ st'.t = (if k = 3 then st.t + j else st.t) := by
  induction j generalizing st' with
  | zero =>
    simp only [runs, Option.some.injEq] at h
    subst h
    simp
  | succ j ih =>
    rw [runs_succ] at h
    obtain ⟨st1, h1, h2⟩ := Option.bind_eq_some_iff.1 h
    obtain ⟨i1, i2, i3⟩ := ih h1
    rw [byte1_src k hk] at h2
    split at h2
    · obtain ⟨b, _, rfl⟩ := Option.map_eq_some_iff.1 h2
      refine ⟨by simp [i1]; omega, ?_, ?_⟩
      · simp only [i2]; split <;> omega
      · simp only [i3]; split <;> omega
    · cases h2
theorem runs_at {k : Nat} {x d : List UInt8} {st st' : St} {j : Nat} (hk : k < 4) (h : runs k x d st j = some st') : at_ k st' j = at0_ k st + j := by
  obtain ⟨h1, h2, h3⟩ := runs_places hk h
  rcases (by omega : k = 0 ∨ k = 1 ∨ k = 2 ∨ k = 3) with rfl | rfl | rfl | rfl
  · simp [at_, at0_, h1]
  · simp [at_, at0_]
  · simp [at_, at0_, h2]
  · simp [at_, at0_, h3]

theorem src_grow (k : Nat) (x d out more : List UInt8) (p : Nat) (h : p < (src k x d out).length) : (src k x d (out ++ more))[p]? = (src k x d out)[p]? := by
  unfold src at *
  split
  · rfl
  · rename_i h1
    rw [if_neg h1] at h
    split
    · rename_i h2
      rw [if_pos h2] at h
      rw [List.getElem?_append_left h]
    · rfl

/-- Some bytes more. -/
theorem runs_more (k : Nat) (hk : k < 4) (x d : List UInt8) (st st' : St) (j p m : Nat) (h : runs k x d st j = some st') (hp : at0_ k st + j = p) (hm : p + m ≤ (src k x d st'.out).length) :
    ∃ st2, runs k x d st (j + m) = some st2 ∧ st2.out = st'.out ++ ((src k x d st'.out).drop p).take m := by
  induction m with
  | zero => exact ⟨st', h, by simp⟩
  | succ m ih =>
    obtain ⟨st2, h2, e2⟩ := ih (by omega)
    have ha := runs_at hk h2
    have hq : at_ k st2 (j + m) = ((p + m : Nat) : Int) := by rw [ha]; omega
    have hlt : p + m < (src k x d st'.out).length := by omega
    have hg : (src k x d st2.out)[p + m]? = some ((src k x d st'.out)[p + m]) := by
      rw [e2, src_grow _ _ _ _ _ _ hlt, List.getElem?_eq_getElem hlt]
    refine ⟨⟨st2.out ++ [(src k x d st'.out)[p + m]], if k = 2 then st2.s + 1 else st2.s, if k = 3 then st2.t + 1 else st2.t⟩, ?_, ?_⟩
    · rw [← Nat.add_assoc, runs_succ, h2, Option.bind_some, byte1_src k hk, hq, if_pos (by omega), Int.toNat_natCast, hg]
      rfl
    · simp only
      rw [List.take_succ_eq_append_getElem (by rw [List.length_drop]; omega), List.getElem_drop, e2, List.append_assoc]

/-- A byte that is not there. -/
theorem runs_stuck (k : Nat) (hk : k < 4) (x d : List UInt8) (st st' : St) (j n : Nat) (q : Int) (h : runs k x d st j = some st') (hq : at0_ k st + j = q) (hb : q < 0 ∨ ((src k x d st'.out).length : Int) ≤ q) (hn : j < n) : runs k x d st n = none := by
  have ha := runs_at hk h
  rw [hq] at ha
  have h1 : runs k x d st (j + 1) = none := by
    rw [runs_succ, h, Option.bind_some, byte1_src k hk, ha]
    by_cases h0 : 0 ≤ q
    · rw [if_pos h0, List.getElem?_eq_none (by omega)]
      rfl
    · rw [if_neg h0]
  have h2 := runs_none k x d st (j + 1) (n - (j + 1)) h1
  rwa [show j + 1 + (n - (j + 1)) = n by omega] at h2

/-- What Apply answers. -/
def applyR (i : Nat) (s1 s2 : BitVec 32) (L : List Act) (x : List UInt8) : Int × List UInt8 :=
  if x.length = i ∧ Ups.sum x = s1 then
    match makeA L x with
    | none => (5, [])
    | some out => if Ups.sum out = s2 then (0, out) else (5, [])
  else (4, [])

theorem acts_snoc (x : List UInt8) (l : List Act) (a : Act) (st : St) : acts x (l ++ [a]) st = (acts x l st).bind (act1 x a) := by
  rw [acts_append]
  congr 1
  funext s
  simp only [acts]
  cases act1 x a s <;> rfl
theorem acts_none_take (x : List UInt8) (L : List Act) (st : St) (j : Nat) (h : acts x (L.take j) st = none) : acts x L st = none := by
  have := acts_append x (L.take j) (L.drop j) st
  rw [List.take_append_drop, h] at this
  exact this

/-- Places do not run far. -/
theorem act1_bound {x : List UInt8} {a : Act} (ha : Ok a) {st st' : St} (h : act1 x a st = some st') (N : Nat) (h0 : -(N : Int) ≤ st.s) (h1 : st.s ≤ N) (h2 : -(N : Int) ≤ st.t) (h3 : st.t ≤ N) :
    -((N + 2000000000 : Nat) : Int) ≤ st'.s ∧ st'.s ≤ ((N + 2000000000 : Nat) : Int) ∧ -((N + 2000000000 : Nat) : Int) ≤ st'.t ∧ st'.t ≤ ((N + 2000000000 : Nat) : Int) := by
  obtain ⟨p1, p2, p3⟩ := runs_places ha.kind h
  have q0 := ha.kind
  have q1 := ha.low
  have q2 := ha.high
  have q3 := ha.len
  rcases (by omega : a.kind = 0 ∨ a.kind = 1 ∨ a.kind = 2 ∨ a.kind = 3) with e | e | e | e <;> simp [moved, e] at p2 p3 <;> omega
theorem acts_bound {x : List UInt8} {l : List Act} (hl : ∀ a ∈ l, Ok a) {st st' : St} (h : acts x l st = some st') (N : Nat) (h0 : -(N : Int) ≤ st.s) (h1 : st.s ≤ N) (h2 : -(N : Int) ≤ st.t) (h3 : st.t ≤ N) :
    -((N + l.length * 2000000000 : Nat) : Int) ≤ st'.s ∧ st'.s ≤ ((N + l.length * 2000000000 : Nat) : Int) ∧ -((N + l.length * 2000000000 : Nat) : Int) ≤ st'.t ∧ st'.t ≤ ((N + l.length * 2000000000 : Nat) : Int) := by
  induction l generalizing st N with
  | nil =>
    simp only [acts, Option.some.injEq] at h
    subst h
    simp
    omega
  | cons a l ih =>
    have ha := hl a (List.mem_cons_self ..)
    obtain ⟨st1, e1, e2⟩ := Option.bind_eq_some_iff.1 h
    obtain ⟨b0, b1, b2, b3⟩ := act1_bound ha e1 N h0 h1 h2 h3
    have key := ih (fun b hb => hl b (List.mem_cons_of_mem _ hb)) e2 (N + 2000000000) b0 b1 b2 b3
    rw [List.length_cons]
    rw [show N + (l.length + 1) * 2000000000 = N + 2000000000 + l.length * 2000000000 by omega]
    exact key
theorem total_take (L : List Act) (j : Nat) : total (L.take j) ≤ total L := by
  have := total_append (L.take j) (L.drop j)
  rw [List.take_append_drop] at this
  omega
/-- An action more. -/
theorem acts_step (x : List UInt8) (L : List Act) (j : Nat) (hj : j < L.length) (st0 st : St) (h : acts x (L.take j) st0 = some st) : acts x (L.take (j + 1)) st0 = act1 x L[j] st := by
  rw [List.take_succ_eq_append_getElem hj, acts_snoc, h]
  rfl

end Bps
end Go.Proofs.Ytokfcknfkhlmfaa
