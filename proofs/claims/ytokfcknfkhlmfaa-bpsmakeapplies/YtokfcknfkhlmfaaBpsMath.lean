/-
  Patches of actions (bps): their bytes, what is taken of them, and what actions make of bytes: in mathematics, of no program.
-/
import Derived.Test.YtokfcknfkhlmfaaSumWord
namespace Go.Proofs.Ytokfcknfkhlmfaa
namespace Bps
open Ups (le4 le4_length sum signed signed_length word4 word4_le4 drop_of)

/-- An action. -/
structure Act where
  kind : Nat
  len : Nat
  move : Int
  data : List UInt8

/-- An action as a patch has it. -/
structure Ok (a : Act) : Prop where
  kind : a.kind < 4
  pos : 1 ≤ a.len
  len : a.len ≤ 16777216
  data : a.kind = 1 → a.data.length = a.len
  none_ : a.kind ≠ 1 → a.data = []
  still : a.kind < 2 → a.move = 0
  low : -1073741824 ≤ a.move
  high : a.move ≤ 1073741824

/-- Move as a number that is not below 0. -/
def turnN (n : Int) : Nat := (Var.turnV n).toNat
theorem turnN_cast (n : Int) (h0 : -1073741824 ≤ n) (h1 : n ≤ 1073741824) : ((turnN n : Nat) : Int) = Var.turnV n := by
  have := Var.turnV_range (n := n) (by omega) (by omega)
  unfold turnN
  omega
theorem turnN_le (n : Int) (h0 : -1073741824 ≤ n) (h1 : n ≤ 1073741824) : turnN n ≤ Var.most := by
  unfold turnN Var.turnV Var.most
  split <;> omega
theorem back_turn (n : Int) (h0 : -1073741824 ≤ n) (h1 : n ≤ 1073741824) : Var.backV (turnN n : Nat) = n := by
  rw [turnN_cast n h0 h1]
  exact Var.backV_turnV (by omega) (by omega)

/-- The number that an action begins with. -/
def headN (a : Act) : Nat := (a.len - 1) * 4 + a.kind
/-- What follows it. -/
def tailB (a : Act) : List UInt8 := if a.kind = 1 then a.data else if 2 ≤ a.kind then Var.putV (turnN a.move) else []
/-- The bytes of an action. -/
def actB (a : Act) : List UInt8 := Var.putV (headN a) ++ tailB a
theorem headN_le (a : Act) (h : Ok a) : headN a ≤ Var.most := by
  have h1 := h.kind
  have h2 := h.len
  unfold headN Var.most
  omega
theorem headN_kind (a : Act) (h : Ok a) : headN a % 4 = a.kind := by
  have h1 := h.kind
  unfold headN
  omega
theorem headN_len (a : Act) (h : Ok a) : headN a / 4 + 1 = a.len := by
  have h1 := h.kind
  have h2 := h.pos
  unfold headN
  omega
theorem act_take (a : Act) (h : Ok a) (r : List UInt8) : Var.takeV (actB a ++ r) = (headN a, (Var.putV (headN a)).length, 0) := by
  unfold actB
  rw [List.append_assoc]
  exact Var.takeV_put _ _ (headN_le a h)
theorem act_move (a : Act) (h : Ok a) (hk : 2 ≤ a.kind) (r : List UInt8) : Var.takeV (tailB a ++ r) = (turnN a.move, (Var.putV (turnN a.move)).length, 0) := by
  unfold tailB
  rw [if_neg (by omega), if_pos hk]
  exact Var.takeV_put _ _ (turnN_le _ h.low h.high)
theorem tail1 (a : Act) (hk : a.kind = 1) : tailB a = a.data := by unfold tailB; rw [if_pos hk]
theorem tail0 (a : Act) (hk : a.kind = 0) : tailB a = [] := by unfold tailB; rw [if_neg (by omega), if_neg (by omega)]
theorem tail2 (a : Act) (hk : 2 ≤ a.kind) : tailB a = Var.putV (turnN a.move) := by unfold tailB; rw [if_neg (by omega), if_pos hk]
theorem actB_length (a : Act) (h : Ok a) : (actB a).length ≤ 10 + a.data.length := by
  have h1 := Var.putV_le5 (headN_le a h)
  have h2 := Var.putV_le5 (turnN_le _ h.low h.high)
  unfold actB tailB
  rw [List.length_append]
  split
  · omega
  · split
    · omega
    · simp; omega

/-- How many bytes actions make. -/
def total : List Act → Nat
  | [] => 0
  | a :: l => a.len + total l
theorem total_append (l m : List Act) : total (l ++ m) = total l + total m := by
  induction l with
  | nil => simp [total]
  | cons a l ih => simp [total, ih]; omega

/-- What stands between the beginning and the sums. -/
def inner (i o : Nat) (mt : List UInt8) (L : List Act) : List UInt8 := Var.putV i ++ (Var.putV o ++ (Var.putV mt.length ++ (mt ++ L.flatMap actB)))
/-- What stands ahead of the last sum. -/
def body (i o : Nat) (s1 s2 : BitVec 32) (mt : List UInt8) (L : List Act) : List UInt8 := [66, 80, 83, 49] ++ (inner i o mt L ++ (le4 s1 ++ le4 s2))
/-- The bytes of a patch. -/
def whole (i o : Nat) (s1 s2 : BitVec 32) (mt : List UInt8) (L : List Act) : List UInt8 := signed (body i o s1 s2 mt L)

section
variable (i o : Nat) (s1 s2 : BitVec 32) (mt : List UInt8) (L : List Act)
theorem whole_parts : whole i o s1 s2 mt L = [66, 80, 83, 49] ++ (inner i o mt L ++ (le4 s1 ++ (le4 s2 ++ le4 (sum (body i o s1 s2 mt L))))) := by
  unfold whole signed body
  simp [List.append_assoc]
theorem whole_len : (whole i o s1 s2 mt L).length = (inner i o mt L).length + 16 := by
  rw [whole_parts]
  simp [le4_length]
theorem whole_long : 19 ≤ (whole i o s1 s2 mt L).length := by
  have h1 := Var.putV_pos i
  have h2 := Var.putV_pos o
  have h3 := Var.putV_pos mt.length
  rw [whole_len]
  unfold inner
  simp only [List.length_append]
  omega
theorem whole_take4 : (whole i o s1 s2 mt L).take 4 = [66, 80, 83, 49] := by
  rw [whole_parts]
  rfl
theorem whole_inner (z : Nat) (hz : (inner i o mt L).length = z) : ((whole i o s1 s2 mt L).drop 4).take z = inner i o mt L := by
  rw [drop_of (whole_parts i o s1 s2 mt L) 4 rfl, ← hz, List.take_left]
theorem whole_sum1 (t : Nat) (ht : (inner i o mt L).length + 4 = t) : word4 ((whole i o s1 s2 mt L).drop t) = s1 := by
  rw [drop_of (pre := [66, 80, 83, 49] ++ inner i o mt L) (post := le4 s1 ++ (le4 s2 ++ le4 (sum (body i o s1 s2 mt L)))) (by rw [whole_parts]; simp) t (by simp; omega), word4_le4]
theorem whole_sum2 (t : Nat) (ht : (inner i o mt L).length + 4 = t) : word4 ((whole i o s1 s2 mt L).drop (t + 4)) = s2 := by
  rw [drop_of (pre := [66, 80, 83, 49] ++ inner i o mt L ++ le4 s1) (post := le4 s2 ++ le4 (sum (body i o s1 s2 mt L))) (by rw [whole_parts]; simp [List.append_assoc]) (t + 4) (by simp [le4_length]; omega), word4_le4]
theorem whole_sum3 (f : Nat) (hf : (inner i o mt L).length + 12 = f) : word4 ((whole i o s1 s2 mt L).drop f) = sum ((whole i o s1 s2 mt L).take f) := by
  have h1 : whole i o s1 s2 mt L = body i o s1 s2 mt L ++ le4 (sum (body i o s1 s2 mt L)) := rfl
  have h2 : (body i o s1 s2 mt L).length = f := by
    have := whole_len i o s1 s2 mt L
    rw [h1, List.length_append, le4_length] at this
    omega
  have h3 : (whole i o s1 s2 mt L).take f = body i o s1 s2 mt L := by rw [h1, ← h2, List.take_left]
  rw [h3, drop_of h1 f h2]
  have := word4_le4 (sum (body i o s1 s2 mt L)) []
  rwa [List.append_nil] at this
end

/-- What was made, and both places. -/
structure St where
  out : List UInt8
  s : Int
  t : Int
/-- One more byte: the byte number j of an action of this kind. -/
def byte1 (k : Nat) (x d : List UInt8) (st : St) (j : Nat) : Option St :=
  if k = 0 then (x[st.out.length]?).map fun b => ⟨st.out ++ [b], st.s, st.t⟩
  else if k = 1 then (d[j]?).map fun b => ⟨st.out ++ [b], st.s, st.t⟩
  else if k = 2 then (if 0 ≤ st.s then (x[st.s.toNat]?).map fun b => ⟨st.out ++ [b], st.s + 1, st.t⟩ else none)
  else (if 0 ≤ st.t then (st.out[st.t.toNat]?).map fun b => ⟨st.out ++ [b], st.s, st.t + 1⟩ else none)
theorem byte1_0 (x d : List UInt8) (st : St) (j : Nat) : byte1 0 x d st j = (x[st.out.length]?).map fun b => ⟨st.out ++ [b], st.s, st.t⟩ := rfl
theorem byte1_1 (x d : List UInt8) (st : St) (j : Nat) : byte1 1 x d st j = (d[j]?).map fun b => ⟨st.out ++ [b], st.s, st.t⟩ := rfl
theorem byte1_2 (x d : List UInt8) (st : St) (j : Nat) : byte1 2 x d st j = if 0 ≤ st.s then (x[st.s.toNat]?).map fun b => ⟨st.out ++ [b], st.s + 1, st.t⟩ else none := rfl
theorem byte1_3 (x d : List UInt8) (st : St) (j : Nat) : byte1 3 x d st j = if 0 ≤ st.t then (st.out[st.t.toNat]?).map fun b => ⟨st.out ++ [b], st.s, st.t + 1⟩ else none := rfl
/-- So many bytes. -/
def runs (k : Nat) (x d : List UInt8) (st : St) : Nat → Option St
  | 0 => some st
  | n + 1 => (runs k x d st n).bind fun st' => byte1 k x d st' n
theorem runs_succ (k : Nat) (x d : List UInt8) (st : St) (n : Nat) : runs k x d st (n + 1) = (runs k x d st n).bind fun st' => byte1 k x d st' n := rfl
theorem runs_none (k : Nat) (x d : List UInt8) (st : St) (n m : Nat) (h : runs k x d st n = none) : runs k x d st (n + m) = none := by
  induction m with
  | zero => exact h
  | succ m ih => rw [← Nat.add_assoc, runs_succ, ih]; rfl
/-- Move is added. -/
def moved (a : Act) (st : St) : St := if a.kind = 2 then ⟨st.out, st.s + a.move, st.t⟩ else if a.kind = 3 then ⟨st.out, st.s, st.t + a.move⟩ else st
/-- An action. -/
def act1 (x : List UInt8) (a : Act) (st : St) : Option St := runs a.kind x a.data (moved a st) a.len
/-- Actions, one behind the other. -/
def acts (x : List UInt8) : List Act → St → Option St
  | [], st => some st
  | a :: l, st => (act1 x a st).bind (acts x l)
theorem acts_append (x : List UInt8) (l m : List Act) (st : St) : acts x (l ++ m) st = (acts x l st).bind (acts x m) := by
  induction l generalizing st with
  | nil => rfl
  | cons a l ih =>
    simp only [List.cons_append, acts]
    cases act1 x a st with
    | none => rfl
    | some st' => exact ih st'
/-- What actions make of x; none: a byte is taken that is not there. -/
def makeA (L : List Act) (x : List UInt8) : Option (List UInt8) := (acts x L ⟨[], 0, 0⟩).map (·.out)

/-- FromSource, all at once. -/
theorem runs0 (x d : List UInt8) (st : St) (n : Nat) (h : st.out.length + n ≤ x.length) : runs 0 x d st n = some ⟨st.out ++ (x.drop st.out.length).take n, st.s, st.t⟩ := by
  induction n with
  | zero => simp [runs]
  | succ n ih =>
    rw [runs_succ, ih (by omega)]
    have h1 : ((x.drop st.out.length).take n).length = n := by rw [List.length_take, List.length_drop]; omega
    have h2 : st.out.length + n < x.length := by omega
    simp only [Option.bind_some, byte1_0, List.length_append, h1]
    rw [List.getElem?_eq_getElem h2, List.take_succ_eq_append_getElem (by rw [List.length_drop]; omega), List.getElem_drop]
    simp
theorem runs0_bad (x d : List UInt8) (st : St) (n : Nat) (hn : 0 < n) (h : x.length < st.out.length + n) : runs 0 x d st n = none := by
  by_cases h0 : st.out.length ≤ x.length
  · have h1 := runs0 x d st (x.length - st.out.length) (by omega)
    have h2 : runs 0 x d st (x.length - st.out.length + 1) = none := by
      rw [runs_succ, h1]
      have h3 : ((x.drop st.out.length).take (x.length - st.out.length)).length = x.length - st.out.length := by rw [List.length_take, List.length_drop]; omega
      simp only [Option.bind_some, byte1_0, List.length_append, h3]
      rw [List.getElem?_eq_none (by omega)]
      rfl
    have h3 := runs_none 0 x d st _ (n - (x.length - st.out.length + 1)) h2
    rwa [show x.length - st.out.length + 1 + (n - (x.length - st.out.length + 1)) = n by omega] at h3
  · have h2 : runs 0 x d st 1 = none := by
      rw [runs_succ]
      simp only [runs, Option.bind_some, byte1_0]
      rw [List.getElem?_eq_none (by omega)]
      rfl
    have h3 := runs_none 0 x d st _ (n - 1) h2
    rwa [show 1 + (n - 1) = n by omega] at h3
/-- FromPatch, all at once. -/
theorem runs1 (x d : List UInt8) (st : St) (n : Nat) (h : n ≤ d.length) : runs 1 x d st n = some ⟨st.out ++ d.take n, st.s, st.t⟩ := by
  induction n with
  | zero => simp [runs]
  | succ n ih =>
    rw [runs_succ, ih (by omega)]
    simp only [Option.bind_some, byte1_1]
    rw [List.getElem?_eq_getElem (by omega), List.take_succ_eq_append_getElem (by omega)]
    simp
/-- CopySource, all at once. -/
theorem runs2 (x d : List UInt8) (st : St) (n : Nat) (h0 : 0 ≤ st.s) (h : st.s + n ≤ x.length) : runs 2 x d st n = some ⟨st.out ++ (x.drop st.s.toNat).take n, st.s + n, st.t⟩ := by
  induction n with
  | zero => simp [runs]
  | succ n ih =>
    rw [runs_succ, ih (by omega)]
    simp only [Option.bind_some, byte1_2]
    have e : (st.s + (n : Int)).toNat = st.s.toNat + n := by omega
    rw [if_pos (by omega), e, List.getElem?_eq_getElem (by omega), List.take_succ_eq_append_getElem (by rw [List.length_drop]; omega), List.getElem_drop]
    simp only [Option.map_some, List.append_assoc]
    congr 2
    omega
theorem runs2_bad (x d : List UInt8) (st : St) (n : Nat) (hn : 0 < n) (h : st.s < 0 ∨ (x.length : Int) < st.s + n) : runs 2 x d st n = none := by
  by_cases h0 : 0 ≤ st.s ∧ st.s ≤ x.length
  · obtain ⟨h1, h2⟩ := h0
    obtain ⟨q, hq⟩ : ∃ q : Nat, st.s = q := ⟨st.s.toNat, by omega⟩
    have h3 := runs2 x d st (x.length - q) h1 (by omega)
    have h4 : runs 2 x d st (x.length - q + 1) = none := by
      rw [runs_succ, h3]
      simp only [Option.bind_some, byte1_2]
      rw [if_pos (by omega), List.getElem?_eq_none (by omega)]
      rfl
    have h5 := runs_none 2 x d st _ (n - (x.length - q + 1)) h4
    rwa [show x.length - q + 1 + (n - (x.length - q + 1)) = n by omega] at h5
  · have h2 : runs 2 x d st 1 = none := by
      rw [runs_succ]
      simp only [runs, Option.bind_some, byte1_2]
      by_cases h3 : 0 ≤ st.s
      · rw [if_pos h3, List.getElem?_eq_none (by omega)]
        rfl
      · rw [if_neg h3]
    have h3 := runs_none 2 x d st _ (n - 1) h2
    rwa [show 1 + (n - 1) = n by omega] at h3
/-- Bytes again and again. -/
def again (p : List UInt8) (n : Nat) : List UInt8 := (List.range n).map fun i => p.getD (i % p.length) 0
theorem again_length (p : List UInt8) (n : Nat) : (again p n).length = n := by simp [again]
theorem again_get (p : List UInt8) (n i : Nat) (h : i < n) : (again p n)[i]? = some (p.getD (i % p.length) 0) := by
  unfold again
  rw [List.getElem?_map, List.getElem?_range h]
  rfl
theorem again_succ (p : List UInt8) (n : Nat) : again p (n + 1) = again p n ++ [p.getD (n % p.length) 0] := by
  unfold again
  rw [List.range_succ, List.map_append]
  rfl
/-- CopyTarget, all at once: what stands from the target place on, again and again. -/
theorem runs3 (x d : List UInt8) (st : St) (n : Nat) (h0 : 0 ≤ st.t) (h : st.t < st.out.length) : runs 3 x d st n = some ⟨st.out ++ again (st.out.drop st.t.toNat) n, st.s, st.t + n⟩ := by
  obtain ⟨q, hq⟩ : ∃ q : Nat, st.t = q := ⟨st.t.toNat, by omega⟩
  have hq' : st.t.toNat = q := by omega
  rw [hq']
  have hl : (st.out.drop q).length = st.out.length - q := List.length_drop
  have hp : 0 < st.out.length - q := by omega
  induction n with
  | zero => simp [runs, again]
  | succ n ih =>
    rw [runs_succ, ih]
    simp only [Option.bind_some, byte1_3]
    have e : (st.t + (n : Int)).toNat = q + n := by omega
    rw [if_pos (by omega), e]
    have key : (st.out ++ again (st.out.drop q) n)[q + n]? = some ((st.out.drop q).getD (n % (st.out.drop q).length) 0) := by
      by_cases hn : q + n < st.out.length
      · rw [List.getElem?_append_left hn, Nat.mod_eq_of_lt (by omega)]
        simp [List.getD, hn]
      · rw [List.getElem?_append_right (by omega), again_get _ _ _ (by omega), hl]
        have e2 : n % (st.out.length - q) = (q + n - st.out.length) % (st.out.length - q) := by
          rw [Nat.mod_eq_sub_mod (by omega)]
          congr 1
          omega
        rw [e2]
    rw [key, again_succ]
    simp only [Option.map_some, List.append_assoc]
    congr 2
    omega
theorem runs3_bad (x d : List UInt8) (st : St) (n : Nat) (hn : 0 < n) (h : st.t < 0 ∨ (st.out.length : Int) ≤ st.t) : runs 3 x d st n = none := by
  have h2 : runs 3 x d st 1 = none := by
    rw [runs_succ]
    simp only [runs, Option.bind_some, byte1_3]
    by_cases h3 : 0 ≤ st.t
    · rw [if_pos h3, List.getElem?_eq_none (by omega)]
      rfl
    · rw [if_neg h3]
  have h3 := runs_none 3 x d st _ (n - 1) h2
  rwa [show 1 + (n - 1) = n by omega] at h3

/-- What is made has as many bytes as all actions say. -/
theorem byte1_length {k : Nat} {x d : List UInt8} {st st' : St} {j : Nat} (h : byte1 k x d st j = some st') : st'.out.length = st.out.length + 1 := by
  unfold byte1 at h
  split at h
  · obtain ⟨b, _, rfl⟩ := Option.map_eq_some_iff.1 h; simp
  · split at h
    · obtain ⟨b, _, rfl⟩ := Option.map_eq_some_iff.1 h; simp
    · split at h
      · split at h
        · obtain ⟨b, _, rfl⟩ := Option.map_eq_some_iff.1 h; simp
        · cases h
      · split at h
        · obtain ⟨b, _, rfl⟩ := Option.map_eq_some_iff.1 h; simp
        · cases h
theorem runs_length {k : Nat} {x d : List UInt8} {st st' : St} {n : Nat} (h : runs k x d st n = some st') : st'.out.length = st.out.length + n := by
  induction n generalizing st' with
  | zero => simp only [runs, Option.some.injEq] at h; rw [h]; rfl
  | succ n ih =>
    rw [runs_succ] at h
    obtain ⟨st1, h1, h2⟩ := Option.bind_eq_some_iff.1 h
    rw [byte1_length h2, ih h1]
    omega
theorem moved_out (a : Act) (st : St) : (moved a st).out = st.out := by
  unfold moved
  split
  · rfl
  · split <;> rfl
theorem acts_length {x : List UInt8} {L : List Act} {st st' : St} (h : acts x L st = some st') : st'.out.length = st.out.length + total L := by
  induction L generalizing st with
  | nil => simp only [acts, Option.some.injEq] at h; rw [h]; rfl
  | cons a l ih =>
    obtain ⟨st1, h1, h2⟩ := Option.bind_eq_some_iff.1 h
    rw [ih h2, runs_length h1, moved_out, total]
    omega
theorem makeA_length {L : List Act} {x out : List UInt8} (h : makeA L x = some out) : out.length = total L := by
  obtain ⟨st, h1, rfl⟩ := Option.map_eq_some_iff.1 h
  rw [acts_length h1]
  simp

/-- Some bytes, and a copy that runs into itself: they come again and again. -/
theorem make_again (x : List UInt8) (n : Nat) (hx : 0 < x.length) : makeA [⟨1, x.length, 0, x⟩, ⟨3, n, 0, []⟩] [] = some (again x (x.length + n)) := by
  have h1 : act1 [] ⟨1, x.length, 0, x⟩ ⟨[], 0, 0⟩ = some ⟨x, 0, 0⟩ := by
    show runs 1 [] x ⟨[], 0, 0⟩ x.length = _
    rw [runs1 _ _ _ _ (Nat.le_refl _)]
    simp
  have h2 : act1 [] ⟨3, n, 0, []⟩ ⟨x, 0, 0⟩ = some ⟨x ++ again x n, 0, n⟩ := by
    show runs 3 [] [] ⟨x, 0, 0⟩ n = _
    rw [runs3 _ _ _ _ (by simp) (by simp; omega)]
    simp
  unfold makeA
  simp only [acts, h1, h2, Option.bind_some, Option.map_some]
  congr 1
  apply List.ext_getElem?
  intro i
  by_cases hi : i < x.length + n
  · rw [again_get _ _ _ hi]
    by_cases h3 : i < x.length
    · rw [List.getElem?_append_left h3, Nat.mod_eq_of_lt h3]
      simp [List.getD, h3]
    · rw [List.getElem?_append_right (by omega), again_get _ _ _ (by omega)]
      have e2 : i % x.length = (i - x.length) % x.length := Nat.mod_eq_sub_mod (by omega)
      rw [e2]
  · rw [List.getElem?_eq_none (by rw [List.length_append, again_length]; omega), List.getElem?_eq_none (by rw [again_length]; omega)]

end Bps
end Go.Proofs.Ytokfcknfkhlmfaa
