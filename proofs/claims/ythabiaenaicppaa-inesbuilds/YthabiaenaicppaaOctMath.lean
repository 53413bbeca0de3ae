/-
  Numbers and their bytes: plain mathematics, without the program.
-/
import Derived.Test.YthabiaenaicppaaApp
import Derived.Laws.BitsAllLaws
import Derived.Laws.Bits64
namespace Go.Proofs.Ythabiaenaicppaa

/-- The number that bytes are, the highest byte first. -/
def be (l : List UInt8) : Nat := l.foldl (fun u x => u * 256 + x.toNat) 0
/-- The number that bytes are, the lowest byte first. -/
def le : List UInt8 → Nat
  | [] => 0
  | x :: t => x.toNat + 256 * le t

theorem be_snoc (l : List UInt8) (x : UInt8) : be (l ++ [x]) = be l * 256 + x.toNat := by simp [be]
theorem le_snoc (l : List UInt8) (x : UInt8) : le (l ++ [x]) = le l + 256 ^ l.length * x.toNat := by
  induction l with
  | nil => simp [le]
  | cons y t ih => simp only [List.cons_append, le, ih, List.length_cons, Nat.pow_succ, Nat.mul_add, Nat.add_assoc, Nat.mul_comm (256 ^ t.length) 256, Nat.mul_assoc]
theorem le_rev (l : List UInt8) : le l = be l.reverse := by
  induction l with
  | nil => rfl
  | cons x t ih => rw [List.reverse_cons, be_snoc, ← ih, le]; omega
theorem le_lt (l : List UInt8) : le l < 256 ^ l.length := by
  induction l with
  | nil => simp [le]
  | cons x t ih =>
    have := x.toNat_lt
    simp only [le, List.length_cons, Nat.pow_succ]
    omega
theorem be_lt (l : List UInt8) : be l < 256 ^ l.length := by
  have := le_lt l.reverse
  rwa [le_rev, List.reverse_reverse, List.length_reverse] at this

theorem pow_mono {a b : Nat} (h : a ≤ b) : 2 ^ a ≤ 2 ^ b := Nat.pow_le_pow_right (by omega) h
theorem pow256 (k : Nat) : 256 ^ k = 2 ^ (8 * k) := by rw [Nat.pow_mul]

/-- '|' of a number whose low bits are 0 and a shifted byte. -/
theorem or_join (a x s t : Nat) (hx : x < 256) (hs : s + 8 ≤ 64) (ht : t ≤ 64) (ha : a % 2 ^ (s + 8) = 0) (hlt : a < 2 ^ t) :
    bits .or .u64 (a : Int) (IntKind.u64.wrap ((x : Int) * 2 ^ s)) = ((a + x * 2 ^ s : Nat) : Int) := by
  have h1 : x * 2 ^ s < 2 ^ (s + 8) := by
    rw [Nat.pow_add, Nat.mul_comm]; exact Nat.mul_lt_mul_of_pos_left (by omega) (Nat.two_pow_pos s)
  have h2 := pow_mono hs
  have h3 := pow_mono ht
  have e : (x : Int) * 2 ^ s = ((x * 2 ^ s : Nat) : Int) := by simp
  have hw : IntKind.u64.wrap ((x * 2 ^ s : Nat) : Int) = ((x * 2 ^ s : Nat) : Int) := by
    rw [IntKind.wrap_u64]
    refine Int.emod_eq_of_lt (by omega) ?_
    have h4 : (2 : Nat) ^ 64 = 18446744073709551616 := by decide
    omega
  rw [e, hw, u64_or_nat _ _ (Nat.lt_of_lt_of_le hlt (by simpa using h3)) (Nat.lt_of_lt_of_le h1 (by simpa using h2)), nat_join (s + 8) a _ ha h1]

/-- '|' of a number below a shifted byte, and that byte. -/
theorem or_above (a x s : Nat) (hx : x < 256) (hs : s + 8 ≤ 64) (ha : a < 2 ^ s) :
    bits .or .u64 (a : Int) (IntKind.u64.wrap ((x : Int) * 2 ^ s)) = ((a + x * 2 ^ s : Nat) : Int) := by
  have h1 : x * 2 ^ s < 2 ^ (s + 8) := by
    rw [Nat.pow_add, Nat.mul_comm]; exact Nat.mul_lt_mul_of_pos_left (by omega) (Nat.two_pow_pos s)
  have h2 := pow_mono hs
  have h3 : 2 ^ s ≤ 2 ^ 64 := pow_mono (by omega)
  have e : (x : Int) * 2 ^ s = ((x * 2 ^ s : Nat) : Int) := by simp
  have hw : IntKind.u64.wrap ((x * 2 ^ s : Nat) : Int) = ((x * 2 ^ s : Nat) : Int) := by
    rw [IntKind.wrap_u64]
    refine Int.emod_eq_of_lt (by omega) ?_
    have h4 : (2 : Nat) ^ 64 = 18446744073709551616 := by decide
    omega
  rw [e, hw, u64_or_nat _ _ (Nat.lt_of_lt_of_le ha (by simpa using h3)) (Nat.lt_of_lt_of_le h1 (by simpa using h2)), Nat.or_comm, nat_join s _ a (by simp) ha, Nat.add_comm]

def accB (l : List UInt8) (n k : Nat) : Nat := be (l.take k) * 2 ^ (8 * (n - k))
def accL (l : List UInt8) (k : Nat) : Nat := le (l.take k)

theorem accB_step (l : List UInt8) (n k : Nat) (x : UInt8) (hl : l.length = n) (hk : k < n) (hn : n ≤ 8) (hx : l[k]? = some x) :
    bits .or .u64 (accB l n k : Int) (IntKind.u64.wrap ((x.toNat : Int) * 2 ^ (8 * (n - 1 - k)))) = (accB l n (k + 1) : Int) := by
  have hx8 := x.toNat_lt
  have hb := be_lt (l.take k)
  rw [List.length_take, Nat.min_eq_left (by omega), pow256] at hb
  have e1 : 8 * (n - k) = 8 * (n - 1 - k) + 8 := by omega
  have hlt : accB l n k < 2 ^ 64 := by
    unfold accB
    have h1 : be (l.take k) * 2 ^ (8 * (n - k)) < 2 ^ (8 * k) * 2 ^ (8 * (n - k)) := Nat.mul_lt_mul_of_pos_right hb (Nat.two_pow_pos _)
    rw [← Nat.pow_add] at h1
    exact Nat.lt_of_lt_of_le h1 (pow_mono (by omega))
  rw [or_join _ _ _ 64 (by omega) (by omega) (Nat.le_refl _) (by unfold accB; rw [e1]; simp) hlt]
  have hk' : k < l.length := by omega
  have ex : l[k] = x := by rw [List.getElem?_eq_getElem hk'] at hx; simpa using hx
  unfold accB
  rw [take_snoc l k hk', be_snoc, ex, e1, show n - (k + 1) = n - 1 - k from by omega, Nat.pow_add, Nat.add_mul, Nat.mul_assoc (be _) 256, Nat.mul_comm 256]

theorem accL_step (l : List UInt8) (n k : Nat) (x : UInt8) (hl : l.length = n) (hk : k < n) (hn : n ≤ 8) (hx : l[k]? = some x) :
    bits .or .u64 (accL l k : Int) (IntKind.u64.wrap ((x.toNat : Int) * 2 ^ (8 * k))) = (accL l (k + 1) : Int) := by
  have hx8 := x.toNat_lt
  have hb := le_lt (l.take k)
  have hm : (l.take k).length = k := by rw [List.length_take, Nat.min_eq_left (by omega)]
  rw [hm, pow256] at hb
  have hb' : accL l k < 2 ^ (8 * k) := hb
  rw [or_above _ _ _ (by omega) (by omega) hb']
  have hk' : k < l.length := by omega
  have ex : l[k] = x := by rw [List.getElem?_eq_getElem hk'] at hx; simpa using hx
  unfold accL
  rw [take_snoc l k hk', le_snoc, ex, hm, pow256, Nat.mul_comm x.toNat]

theorem accB_zero (l : List UInt8) (n : Nat) : accB l n 0 = 0 := by simp [accB, be]
theorem accB_all (l : List UInt8) (n : Nat) (h : l.length = n) : accB l n n = be l := by simp [accB, ← h]
theorem accL_zero (l : List UInt8) : accL l 0 = 0 := by simp [accL, le]
theorem accL_all (l : List UInt8) (n : Nat) (h : l.length = n) : accL l n = le l := by simp [accL, ← h]

/-- The lowest n bytes of a number, the lowest first. -/
def putL : Nat → Nat → List UInt8
  | _, 0 => []
  | u, n + 1 => UInt8.ofNat (u % 256) :: putL (u / 256) n
/-- .. the highest first. -/
def putB (u n : Nat) : List UInt8 := (putL u n).reverse
theorem putL_length (u n : Nat) : (putL u n).length = n := by
  induction n generalizing u with
  | zero => rfl
  | succ n ih => simp [putL, ih]
theorem putB_length (u n : Nat) : (putB u n).length = n := by simp [putB, putL_length]
theorem putL_get (u n i : Nat) (h : i < n) : (putL u n)[i]? = some (UInt8.ofNat (u / 256 ^ i % 256)) := by
  induction n generalizing u i with
  | zero => omega
  | succ n ih =>
    cases i with
    | zero => simp [putL]
    | succ i => simp only [putL, List.getElem?_cons_succ]; rw [ih (u / 256) i (by omega), Nat.div_div_eq_div_mul, Nat.pow_succ, Nat.mul_comm 256]
theorem putB_get (u n i : Nat) (h : i < n) : (putB u n)[i]? = some (UInt8.ofNat (u / 256 ^ (n - 1 - i) % 256)) := by
  unfold putB
  rw [List.getElem?_reverse (by rw [putL_length]; exact h), putL_length, putL_get u n _ (by omega)]
theorem le_putL (u n : Nat) : le (putL u n) = u % 256 ^ n := by
  induction n generalizing u with
  | zero => simp [putL, le, Nat.mod_one]
  | succ n ih =>
    rw [putL, le, ih, Nat.pow_succ, Nat.mul_comm (256 ^ n), Nat.mod_mul]
    simp
theorem be_putB (u n : Nat) : be (putB u n) = u % 256 ^ n := by
  rw [putB, ← le_rev, le_putL]

/-- The byte of a number that is written: as the walk spells it. -/
theorem byte_at (u s : Nat) : ((u : Int) / 2 ^ (8 * s) % 256) = ((UInt8.ofNat (u / 256 ^ s % 256)).toNat : Int) := by
  rw [pow256]
  simp
theorem put_snoc (l p : List UInt8) (k : Nat) (x : UInt8) (h : p[k]? = some x) : l ++ p.take (k + 1) = (l ++ p.take k) ++ [x] := by
  obtain ⟨hk, e⟩ := List.getElem?_eq_some_iff.1 h
  rw [take_snoc p k hk, e, List.append_assoc]

end Go.Proofs.Ythabiaenaicppaa
