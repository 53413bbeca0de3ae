/-
  Patches of records, parsed: in mathematics, of no program.
-/
import Derived.Test.YtchakjknndpmpaaOctMath
namespace Go.Proofs.Ytchakjknndpmpaa
namespace Ips

/-- A record: its place, how many times a byte comes (0: its bytes as they are), its bytes. -/
structure Rec where
  pos : Nat
  run : Nat
  data : List UInt8

/-- The number that n bytes are, from the place k on. -/
def num (l : List UInt8) (k n : Nat) : Nat := be ((l.drop k).take n)

/-- What stands behind a record's place: an error's number, or the record and the place behind it. -/
def recAt (l : List UInt8) (k pos : Nat) : Int ⊕ (Rec × Nat) :=
  if l.length < k + 2 then .inl 2
  else if 0 < num l k 2 then (if l.length < k + 2 + num l k 2 then .inl 2 else .inr (⟨pos, 0, (l.drop (k + 2)).take (num l k 2)⟩, k + 2 + num l k 2))
  else if l.length < k + 4 then .inl 2
  else if num l (k + 2) 2 = 0 then .inl 3
  else if l.length < k + 5 then .inl 2
  else .inr (⟨pos, num l (k + 2) 2, (l.drop (k + 4)).take 1⟩, k + 5)

theorem recAt_s (l : List UInt8) (k pos : Nat) (h : l.length < k + 2) : recAt l k pos = .inl 2 := by simp [recAt, h]
theorem recAt_ds (l : List UInt8) (k pos S : Nat) (h : k + 2 ≤ l.length) (hS : num l k 2 = S) (h0 : 0 < S) (h1 : l.length < k + 2 + S) : recAt l k pos = .inl 2 := by
  subst hS; simp [recAt, Nat.not_lt.2 h, h0, h1]
theorem recAt_d (l : List UInt8) (k pos S : Nat) (h : k + 2 ≤ l.length) (hS : num l k 2 = S) (h0 : 0 < S) (h1 : k + 2 + S ≤ l.length) : recAt l k pos = .inr (⟨pos, 0, (l.drop (k + 2)).take S⟩, k + 2 + S) := by
  subst hS; simp [recAt, Nat.not_lt.2 h, h0, Nat.not_lt.2 h1]
theorem recAt_rs (l : List UInt8) (k pos : Nat) (h : k + 2 ≤ l.length) (hS : num l k 2 = 0) (h1 : l.length < k + 4) : recAt l k pos = .inl 2 := by
  simp [recAt, Nat.not_lt.2 h, hS, h1]
theorem recAt_r0 (l : List UInt8) (k pos : Nat) (h : k + 4 ≤ l.length) (hS : num l k 2 = 0) (hR : num l (k + 2) 2 = 0) : recAt l k pos = .inl 3 := by
  simp [recAt, show ¬ l.length < k + 2 by omega, hS, Nat.not_lt.2 h, hR]
theorem recAt_r1 (l : List UInt8) (k pos R : Nat) (h : k + 4 ≤ l.length) (hS : num l k 2 = 0) (hR : num l (k + 2) 2 = R) (h0 : 0 < R) (h1 : l.length < k + 5) : recAt l k pos = .inl 2 := by
  subst hR; simp [recAt, show ¬ l.length < k + 2 by omega, hS, Nat.not_lt.2 h, h1]; omega
theorem recAt_r (l : List UInt8) (k pos R : Nat) (h : k + 5 ≤ l.length) (hS : num l k 2 = 0) (hR : num l (k + 2) 2 = R) (h0 : 0 < R) : recAt l k pos = .inr (⟨pos, R, (l.drop (k + 4)).take 1⟩, k + 5) := by
  subst hR; simp [recAt, show ¬ l.length < k + 2 by omega, hS, show ¬ l.length < k + 4 by omega, Nat.not_lt.2 h]; omega

/-- Records ahead of an answer. -/
def pre (acc : List Rec) : Int ⊕ (List Rec × Nat) → Int ⊕ (List Rec × Nat)
  | .inl e => .inl e
  | .inr (rs, k) => .inr (acc ++ rs, k)

theorem pre_nil (o : Int ⊕ (List Rec × Nat)) : pre [] o = o := by rcases o with e | ⟨rs, k⟩ <;> rfl
theorem pre_pre (a b : List Rec) (o : Int ⊕ (List Rec × Nat)) : pre a (pre b o) = pre (a ++ b) o := by rcases o with e | ⟨rs, k⟩ <;> simp [pre]

/-- All records from the place k on, and the place behind the end. -/
def recs (l : List UInt8) : Nat → Nat → Int ⊕ (List Rec × Nat)
  | 0, _ => .inl 2
  | f + 1, k =>
    if l.length < k + 3 then .inl 2
    else if num l k 3 = 4542278 then .inr ([], k + 3)
    else match recAt l (k + 3) (num l k 3) with
      | .inl e => .inl e
      | .inr (r, k') => pre [r] (recs l f k')

theorem recs_short (l : List UInt8) (f k : Nat) (hf : l.length < f + k) (h : l.length < k + 3) : recs l f k = .inl 2 := by
  cases f with
  | zero => rfl
  | succ f => simp [recs, h]
theorem recs_end (l : List UInt8) (f k : Nat) (hf : l.length < f + k) (h : k + 3 ≤ l.length) (he : num l k 3 = 4542278) : recs l f k = .inr ([], k + 3) := by
  cases f with
  | zero => omega
  | succ f => simp [recs, he, Nat.not_lt.2 h]
theorem recs_fail (l : List UInt8) (f k : Nat) (e : Int) (hf : l.length < f + k) (h : k + 3 ≤ l.length) (he : num l k 3 ≠ 4542278) (hr : recAt l (k + 3) (num l k 3) = .inl e) : recs l f k = .inl e := by
  cases f with
  | zero => omega
  | succ f => simp [recs, he, Nat.not_lt.2 h, hr]
theorem recAt_lt (l : List UInt8) (k pos k' : Nat) (r : Rec) (h : recAt l k pos = .inr (r, k')) : k < k' ∧ k' ≤ l.length ∧ r.pos = pos := by
  unfold recAt at h
  split at h
  · cases h
  · split at h
    · split at h
      · cases h
      · cases h; exact ⟨by omega, by omega, rfl⟩
    · split at h
      · cases h
      · split at h
        · cases h
        · split at h
          · cases h
          · cases h; exact ⟨by omega, by omega, rfl⟩
theorem recs_next (l : List UInt8) (f k k' : Nat) (r : Rec) (hf : l.length < f + k) (h : k + 3 ≤ l.length) (he : num l k 3 ≠ 4542278) (hr : recAt l (k + 3) (num l k 3) = .inr (r, k')) :
    ∃ f', l.length < f' + k' ∧ recs l f k = pre [r] (recs l f' k') := by
  have hk := recAt_lt l _ _ _ _ hr
  cases f with
  | zero => omega
  | succ f => exact ⟨f, by omega, by simp [recs, he, Nat.not_lt.2 h, hr]⟩

theorem rest_fail {O : Int ⊕ (List Rec × Nat)} {acc : List Rec} {l : List UInt8} {f k : Nat} {e : Int} (h : O = pre acc (recs l f k)) (h' : recs l f k = .inl e) : O = .inl e := by
  rw [h, h']; rfl
theorem rest_next {O : Int ⊕ (List Rec × Nat)} {acc : List Rec} {l : List UInt8} {f k k' : Nat} {r : Rec} (h : O = pre acc (recs l f k)) (hf : l.length < f + k) (h3 : k + 3 ≤ l.length) (he : num l k 3 ≠ 4542278) (hr : recAt l (k + 3) (num l k 3) = .inr (r, k')) :
    ∃ f', l.length < f' + k' ∧ O = pre (acc ++ [r]) (recs l f' k') := by
  obtain ⟨f', h1, h2⟩ := recs_next l f k k' r hf h3 he hr
  exact ⟨f', h1, by rw [h, h2, pre_pre]⟩

/-- What a patch is that has its records: an error's number, the records, the length to which is cut. -/
def tailOf (l : List UInt8) (rs : List Rec) (k : Nat) : Int × List Rec × Int :=
  if l.length = k then (0, rs, -1)
  else if k + 3 < l.length then (3, [], 0)
  else if l.length < k + 3 then (2, [], 0)
  else (0, rs, (num l k 3 : Nat))

theorem tail_fail (l : List UInt8) (rs : List Rec) (k : Nat) (h : (tailOf l rs k).1 ≠ 0) : tailOf l rs k = ((tailOf l rs k).1, [], 0) := by
  unfold tailOf at h ⊢
  split
  · simp_all
  · split
    · rfl
    · split
      · rfl
      · simp_all
theorem tail_ok (l : List UInt8) (rs : List Rec) (k : Nat) (h : (tailOf l rs k).1 = 0) : tailOf l rs k = (0, rs, (tailOf l rs k).2.2) := by
  unfold tailOf at h ⊢
  split
  · rfl
  · split
    · simp_all
    · split
      · simp_all
      · rfl

def patch : List UInt8 := [80, 65, 84, 67, 72]

/-- A patch: an error's number, the records, the length to which is cut. -/
def parse (l : List UInt8) : Int × List Rec × Int :=
  if 16777216 < l.length then (6, [], 0)
  else if l.take 5 ≠ patch then (3, [], 0)
  else match recs l (l.length + 1) 5 with
    | .inl e => (e, [], 0)
    | .inr (rs, k) => tailOf l rs k

theorem parse_large (l : List UInt8) (h : 16777216 < l.length) : parse l = (6, [], 0) := by simp [parse, h]
theorem parse_head (l : List UInt8) (h : ¬ 16777216 < l.length) (hp : l.take 5 ≠ patch) : parse l = (3, [], 0) := by simp [parse, h, hp]
theorem parse_fail (l : List UInt8) (e : Int) (h : ¬ 16777216 < l.length) (hp : l.take 5 = patch) (hr : recs l (l.length + 1) 5 = .inl e) : parse l = (e, [], 0) := by simp [parse, h, hp, hr]
theorem parse_tail (l : List UInt8) (rs : List Rec) (k : Nat) (h : ¬ 16777216 < l.length) (hp : l.take 5 = patch) (hr : recs l (l.length + 1) 5 = .inr (rs, k)) : parse l = tailOf l rs k := by simp [parse, h, hp, hr]

theorem recs_le (l : List UInt8) : ∀ (f k : Nat) (rs : List Rec) (k' : Nat), recs l f k = .inr (rs, k') → k + 3 ≤ k' ∧ k' ≤ l.length ∧ rs.length + k ≤ l.length := by
  intro f
  induction f with
  | zero => intro k rs k' h; cases h
  | succ f ih =>
    intro k rs k' h
    unfold recs at h
    split at h
    · cases h
    · split at h
      · cases h; exact ⟨by omega, by omega, by simp; omega⟩
      · split at h
        · cases h
        · rename_i r k1 hr
          have hk := recAt_lt l _ _ _ _ hr
          cases hx : recs l f k1 with
          | inl e => rw [hx] at h; cases h
          | inr o =>
            obtain ⟨rs1, k2⟩ := o
            rw [hx] at h
            have := ih k1 rs1 k2 hx
            cases h
            simp only [List.cons_append, List.nil_append, List.length_cons]
            omega

theorem take_get (l : List UInt8) (k : Nat) (x : UInt8) (hx : l[k]? = some x) : l.drop k = x :: l.drop (k + 1) := by
  obtain ⟨h, rfl⟩ := List.getElem?_eq_some_iff.1 hx
  exact List.drop_eq_getElem_cons h
theorem num2 (l : List UInt8) (k : Nat) (x y : UInt8) (hx : l[k]? = some x) (hy : l[k + 1]? = some y) : num l k 2 = x.toNat * 256 + y.toNat := by
  simp [num, take_get l k x hx, take_get l (k + 1) y hy, be]
theorem num3 (l : List UInt8) (k : Nat) (x y z : UInt8) (hx : l[k]? = some x) (hy : l[k + 1]? = some y) (hz : l[k + 2]? = some z) : num l k 3 = x.toNat * 65536 + y.toNat * 256 + z.toNat := by
  simp [num, take_get l k x hx, take_get l (k + 1) y hy, take_get l (k + 2) z hz, be]
  omega
theorem num_lt (l : List UInt8) (k n : Nat) : num l k n < 256 ^ n := by
  refine Nat.lt_of_lt_of_le (be_lt _) (Nat.pow_le_pow_right (by omega) ?_)
  simp
  omega

end Ips
end Go.Proofs.Ytchakjknndpmpaa
