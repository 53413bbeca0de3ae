/-
  How many cycles an instruction takes, and that it does not halt: of no program. No condition.
-/
import Derived.Test.YtlnpadekgakghaaDoorMosOk
namespace Go.Proofs.YtlnpadekgakghaaDoor
open Go.RowKit
namespace Ms
set_option linter.unusedVariables false
open Al (byte of_byte)

def rdOf (m : Int) : Int := if m = 2 then 2 else if m = 3 ∨ m = 6 ∨ m = 7 ∨ m = 5 ∨ m = 8 then 4 else if m = 1 then 3 else if m = 4 then 5 else 6
def putOf (m : Int) : Int := if m = 2 then 0 else if m = 3 ∨ m = 5 ∨ m = 8 then 4 else if m = 6 ∨ m = 7 then 5 else if m = 1 then 3 else 6
def chgOf (m : Int) : Int := if m = 3 ∨ m = 5 ∨ m = 8 then 6 else if m = 6 ∨ m = 7 then 7 else if m = 1 then 5 else 0
def hiRd (m : Int) : Int := rdOf m + (if m = 4 ∨ m = 6 ∨ m = 7 then 1 else 0)
def loadsLo (m : Int) (store : Bool) : Int := if store then putOf m else rdOf m
def loadsHi (m : Int) (store : Bool) : Int := if store then putOf m else hiRd m
def loN (op : Int) : Int :=
  let what := op / 32
  let mode := op / 4 % 8
  if op % 4 = 0 then
    if mode = 4 then 2 else if mode = 2 then stackN what else if mode = 6 then 2 else if mode = 0 ∧ what < 4 then jumpN what else if what = 2 ∧ mode = 3 then 3 else if what = 3 ∧ mode = 3 then 5
    else if what = 1 then rdOf mode else if what = 4 then loadsLo mode true else if what = 5 then loadsLo (if mode = 0 then 2 else mode) false else rdOf (if mode = 0 then 2 else mode)
  else if op % 4 = 1 then (if what = 4 then putOf mode else rdOf mode)
  else if mode = 0 then 2 else if mode = 2 ∨ mode = 6 then 2 else if what = 4 ∨ what = 5 then loadsLo (if mode = 5 then 8 else if mode = 7 then 6 else mode) (what == 4) else chgOf mode
def hiN (op : Int) : Int :=
  let what := op / 32
  let mode := op / 4 % 8
  if op % 4 = 0 then
    if mode = 4 then 4 else if mode = 2 then stackN what else if mode = 6 then 2 else if mode = 0 ∧ what < 4 then jumpN what else if what = 2 ∧ mode = 3 then 3 else if what = 3 ∧ mode = 3 then 5
    else if what = 1 then rdOf mode else if what = 4 then loadsHi mode true else if what = 5 then loadsHi (if mode = 0 then 2 else mode) false else rdOf (if mode = 0 then 2 else mode)
  else if op % 4 = 1 then (if what = 4 then putOf mode else hiRd mode)
  else if mode = 0 then 2 else if mode = 2 ∨ mode = 6 then 2 else if what = 4 ∨ what = 5 then loadsHi (if mode = 5 then 8 else if mode = 7 then 6 else mode) (what == 4) else chgOf mode

section
variable {β : Type} [Io β] {n : Nat} {S : St β}
theorem adr_nums (m : Int) (S : St β) : (adr m S).rd = rdOf m ∧ (adr m S).put = putOf m ∧ (adr m S).chg = chgOf m ∧ 0 ≤ cr1 (adr m S).cr ∧ rdOf m + cr1 (adr m S).cr ≤ hiRd m := by
  have hc : ∀ b, 0 ≤ cr1 b ∧ cr1 b ≤ 1 := by intro b; cases b <;> decide
  unfold hiRd
  by_cases h2 : m = 2
  · subst h2; exact ⟨rfl, rfl, rfl, by show (0:Int) ≤ 0; omega, by show (2 + 0 : Int) ≤ 2 + 0; omega⟩
  by_cases h3 : m = 3
  · subst h3; exact ⟨rfl, rfl, rfl, by show (0:Int) ≤ 0; omega, by show (4 + 0 : Int) ≤ 4 + 0; omega⟩
  by_cases h6 : m = 6
  · subst h6; exact ⟨rfl, rfl, rfl, (hc _).1, by have := (hc (adr 6 S).cr).2; show (4 : Int) + _ ≤ 4 + 1; omega⟩
  by_cases h7 : m = 7
  · subst h7; exact ⟨rfl, rfl, rfl, (hc _).1, by have := (hc (adr 7 S).cr).2; show (4 : Int) + _ ≤ 4 + 1; omega⟩
  by_cases h1 : m = 1
  · subst h1; exact ⟨rfl, rfl, rfl, by show (0:Int) ≤ 0; omega, by show (3 + 0 : Int) ≤ 3 + 0; omega⟩
  by_cases h5 : m = 5
  · subst h5; exact ⟨rfl, rfl, rfl, by show (0:Int) ≤ 0; omega, by show (4 + 0 : Int) ≤ 4 + 0; omega⟩
  by_cases h8 : m = 8
  · subst h8; exact ⟨rfl, rfl, rfl, by show (0:Int) ≤ 0; omega, by show (4 + 0 : Int) ≤ 4 + 0; omega⟩
  by_cases h4 : m = 4
  · subst h4; exact ⟨rfl, rfl, rfl, (hc _).1, by have := (hc (adr 4 S).cr).2; show (5 : Int) + _ ≤ 5 + 1; omega⟩
  have e : adr m S = ⟨pairV (next S).b ((nextV S + S.x) % 256) (((nextV S + S.x) % 256 + 1) % 256), false, 6, 6, 0⟩ := by
    unfold adr
    rw [if_neg h2, if_neg h3, if_neg h6, if_neg h7, if_neg h1, if_neg h5, if_neg h8, if_neg h4]
  rw [e]
  refine ⟨?_, ?_, ?_, by show (0:Int) ≤ 0; omega, ?_⟩
  · unfold rdOf; rw [if_neg h2, if_neg (by omega), if_neg h1, if_neg h4]
  · unfold putOf; rw [if_neg h2, if_neg (by omega), if_neg (by omega), if_neg h1]
  · unfold chgOf; rw [if_neg (by omega), if_neg (by omega), if_neg h1]
  · rw [if_neg (by omega)]; show rdOf m + 0 ≤ rdOf m + 0; omega
theorem loads_bd (m : Int) (st : Bool) (S : St β) : loadsLo m st ≤ loadsN m st S ∧ loadsN m st S ≤ loadsHi m st := by
  obtain ⟨h1, h2, h3, h4, h5⟩ := adr_nums m S
  cases st
  · show rdOf m ≤ (adr m S).rd + cr1 (adr m S).cr ∧ (adr m S).rd + cr1 (adr m S).cr ≤ hiRd m
    rw [h1]; omega
  · show putOf m ≤ (adr m S).put ∧ (adr m S).put ≤ putOf m
    rw [h2]; omega
theorem done_bd (op : Int) (S : St β) : loN op ≤ doneN op S ∧ doneN op S ≤ hiN op := by
  unfold loN hiN doneN
  simp only
  by_cases c0 : op % 4 = 0
  · simp only [if_pos c0]
    unfold thirdN
    generalize op / 32 = what
    generalize op / 4 % 8 = mode
    by_cases m4 : mode = 4
    · simp only [if_pos m4]
      unfold branchN
      split
      · split <;> omega
      · omega
    simp only [if_neg m4]
    by_cases m2 : mode = 2
    · simp only [if_pos m2]; omega
    simp only [if_neg m2]
    by_cases m6 : mode = 6
    · simp only [if_pos m6]; omega
    simp only [if_neg m6]
    by_cases j : mode = 0 ∧ what < 4
    · simp only [if_pos j]; omega
    simp only [if_neg j]
    by_cases j2 : what = 2 ∧ mode = 3
    · simp only [if_pos j2]; omega
    simp only [if_neg j2]
    by_cases j3 : what = 3 ∧ mode = 3
    · simp only [if_pos j3]; omega
    simp only [if_neg j3]
    by_cases w1 : what = 1
    · simp only [if_pos w1]; rw [(adr_nums mode S).1]; omega
    simp only [if_neg w1]
    by_cases w4 : what = 4
    · simp only [if_pos w4]; exact loads_bd _ _ _
    simp only [if_neg w4]
    by_cases w5 : what = 5
    · simp only [if_pos w5]; exact loads_bd _ _ _
    simp only [if_neg w5]
    rw [(adr_nums _ S).1]; omega
  simp only [if_neg c0]
  by_cases c1 : op % 4 = 1
  · simp only [if_pos c1]
    unfold mainN
    obtain ⟨h1, h2, h3, h4, h5⟩ := adr_nums (op / 4 % 8) S
    by_cases w4 : op / 32 = 4
    · simp only [if_pos w4]; rw [h2]; omega
    · simp only [if_neg w4]; rw [h1]; omega
  simp only [if_neg c1]
  unfold secondN
  by_cases m0 : op / 4 % 8 = 0
  · simp only [if_pos m0]; omega
  simp only [if_neg m0]
  by_cases m2 : op / 4 % 8 = 2 ∨ op / 4 % 8 = 6
  · simp only [if_pos m2]; omega
  simp only [if_neg m2]
  by_cases w4 : op / 32 = 4 ∨ op / 32 = 5
  · simp only [if_pos w4]; exact loads_bd _ _ _
  simp only [if_neg w4]
  rw [(adr_nums _ S).2.2.1]; omega
theorem known_bd : ∀ op, byte op → (known op = true → 2 ≤ loN op ∧ hiN op ≤ 7) := of_byte _ (by decide +kernel)
theorem done_cyc (op : Int) (S : St β) (hb : byte op) (hk : known op = true) : 2 ≤ doneN op S ∧ doneN op S ≤ 7 := by
  have h1 := done_bd op S
  have h2 := known_bd op hb hk
  omega
theorem loads_h (m : Int) (isX st : Bool) (S : St β) : (loads m isX st S).h = S.h := by cases isX <;> cases st <;> rfl
theorem main_h (what mode : Int) (S : St β) : (main what mode S).h = S.h := by unfold main; split <;> rfl
omit [Io β] in
theorem single_h (what : Int) (stk : Bool) (S : St β) : (single what stk S).h = S.h := by unfold single; repeat' (split <;> try rfl)
theorem stack_h (k : Int) (S : St β) : (stack k S).h = S.h := by unfold stack; repeat' (split <;> try rfl)
omit [Io β] in
theorem flags_h (k : Int) (S : St β) : (flags k S).h = S.h := by unfold flags; split <;> rfl
theorem jump_h (k : Int) (S : St β) : (jump k S).h = S.h := by unfold jump; repeat' (split <;> try rfl)
theorem second_h (what mode : Int) (S : St β) : (second what mode S).h = S.h := by
  unfold second
  split
  · exact loads_h _ _ _ _
  split
  · rfl
  split
  · exact single_h _ _ _
  split
  · exact loads_h _ _ _ _
  · rfl
theorem third_h (what mode : Int) (S : St β) : (third what mode S).h = S.h := by
  unfold third
  split
  · rfl
  split
  · exact stack_h _ _
  split
  · exact flags_h _ _
  split
  · exact jump_h _ _
  split
  · rfl
  split
  · rfl
  split
  · rfl
  split
  · exact loads_h _ _ _ _
  split
  · exact loads_h _ _ _ _
  · rfl
theorem done_h (op : Int) (S : St β) : (done op S).h = S.h := by
  unfold done
  split
  · exact third_h _ _ _
  split
  · exact main_h _ _ _
  · exact second_h _ _ _
theorem step_cyc (hO : Ok n S) : 0 ≤ stepN S ∧ stepN S ≤ 7 ∧ (stepN S = 0 → (step S).h = true) ∧ (S.h = false → known (nextV S) = true → 2 ≤ stepN S ∧ (step S).h = false) := by
  unfold stepN step
  by_cases hh : S.h
  · simp only [if_pos hh]
    exact ⟨by omega, by omega, fun _ => hh, fun h => by rw [hh] at h; cases h⟩
  simp only [if_neg hh]
  by_cases hk : known (nextV S) = true
  · simp only [if_pos hk]
    have h1 := done_cyc (nextV S) (next S) (nextV_byte hO) hk
    refine ⟨by omega, by omega, fun h => by omega, fun h _ => ⟨h1.1, ?_⟩⟩
    rw [done_h]
    exact h
  · simp only [if_neg hk]
    exact ⟨by omega, by omega, fun _ => rfl, fun _ h => absurd h hk⟩
end

end Ms
end Go.Proofs.YtlnpadekgakghaaDoor
