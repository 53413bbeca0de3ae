/-
  Records that make b of a, and the patch that is made of them: in mathematics, of no program.
-/
import Derived.Test.YtchakjknndpmpaaIpsMakeMath
import Derived.Test.YtchakjknndpmpaaIpsMade
namespace Go.Proofs.Ytchakjknndpmpaa
namespace Ips

/-- How many places ahead of i are not the same. -/
def D (a b : List UInt8) : Nat → Nat
  | 0 => 0
  | i + 1 => D a b i + (if a[i]? = b[i]? then 0 else 1)
theorem D_same (a b : List UInt8) (i : Nat) (h : a[i]? = b[i]?) : D a b (i + 1) = D a b i := by simp [D, h]
theorem D_other (a b : List UInt8) (i : Nat) (h : ¬ a[i]? = b[i]?) : D a b (i + 1) = D a b i + 1 := by simp [D, h]
theorem D_step (a b : List UInt8) (i : Nat) : D a b i ≤ D a b (i + 1) ∧ D a b (i + 1) ≤ D a b i + 1 := by
  by_cases h : a[i]? = b[i]?
  · rw [D_same a b i h]; omega
  · rw [D_other a b i h]; omega
theorem D_mono (a b : List UInt8) {i j : Nat} (h : i ≤ j) : D a b i ≤ D a b j := by
  induction j with
  | zero => have : i = 0 := by omega
            subst this; exact Nat.le_refl _
  | succ j ih =>
    by_cases e : i = j + 1
    · subst e; exact Nat.le_refl _
    · exact Nat.le_trans (ih (by omega)) (D_step a b j).1
theorem D_le (a b : List UInt8) (i : Nat) : D a b i ≤ i := by
  induction i with
  | zero => exact Nat.le_refl _
  | succ i ih => have := (D_step a b i).2; omega

/-- Records that rise, from lo to hi. -/
def Rise : Nat → List Rec → Nat → Prop
  | lo, [], hi => lo ≤ hi
  | lo, r :: rs, hi => lo ≤ r.pos ∧ Rise (r.pos + span r) rs hi
theorem Rise.low {lo lo' : Nat} {rs : List Rec} {h : Nat} (hr : Rise lo rs h) (hl : lo' ≤ lo) : Rise lo' rs h := by
  cases rs with
  | nil => exact Nat.le_trans hl hr
  | cons r rs => exact ⟨Nat.le_trans hl hr.1, hr.2⟩
theorem Rise.append {lo m h : Nat} {rs rs' : List Rec} (h1 : Rise lo rs m) (h2 : Rise m rs' h) : Rise lo (rs ++ rs') h := by
  induction rs generalizing lo with
  | nil => exact h2.low h1
  | cons r rs ih => exact ⟨h1.1, ih h1.2⟩
theorem Rise.high {lo h h' : Nat} {rs : List Rec} (h1 : Rise lo rs h) (hh : h ≤ h') : Rise lo rs h' := by
  have := h1.append (rs' := []) (show Rise h [] h' from hh)
  simpa using this
theorem Rise.le {lo h : Nat} {rs : List Rec} (h1 : Rise lo rs h) : lo ≤ h := by
  induction rs generalizing lo with
  | nil => exact h1
  | cons r rs ih => have := ih h1.2; have := h1.1; omega

/-- A record that lays what b has, that a patch can have, and that does not spell the end. -/
def Ok (b : List UInt8) (r : Rec) : Prop := Lays b r ∧ Fits r ∧ r.pos ≠ 4542278

/-- Records that make b of a. -/
structure Makes (a b : List UInt8) (rs : List Rec) : Prop where
  ok : ∀ r ∈ rs, Ok b r
  rise : Rise 0 rs b.length
  cov : ∀ i, i < b.length → (∃ r ∈ rs, Covers r i) ∨ a[i]? = b[i]?
  few : (rs.flatMap recB).length ≤ 6 * D a b b.length + 3

/-- What stands behind EOF, and the length to which is cut. -/
def tl (a b : List UInt8) : List UInt8 := if b.length < a.length then [hi b.length, mid b.length, lo b.length] else []
def cutOf (a b : List UInt8) : Int := if b.length < a.length then (b.length : Int) else -1
/-- The patch. -/
def made (a b : List UInt8) (rs : List Rec) : List UInt8 := patch ++ (rs.flatMap recB ++ (eof ++ tl a b))

theorem made_length (a b : List UInt8) (rs : List Rec) (h : Makes a b rs) : (made a b rs).length ≤ 14 + 6 * D a b b.length := by
  have := h.few
  have h2 : (tl a b).length ≤ 3 := by unfold tl; split <;> simp
  simp only [made, List.length_append]
  have e1 : patch.length = 5 := rfl
  have e2 : eof.length = 3 := rfl
  omega
theorem made_parse (a b : List UInt8) (rs : List Rec) (h : Makes a b rs) (ha : a.length ≤ 16777216) (hl : (made a b rs).length ≤ 16777216) : parse (made a b rs) = (0, rs, cutOf a b) := by
  have hr : ∀ r ∈ rs, Fits r ∧ r.pos ≠ 4542278 := fun r hr => (h.ok r hr).2
  unfold made tl at *
  unfold cutOf
  split
  · rename_i hc
    rw [if_pos hc] at hl
    exact parse_made3 rs b.length (by omega) hr hl
  · rename_i hc
    rw [if_neg hc, List.append_nil] at hl
    rw [List.append_nil]
    exact parse_made0 rs hr hl
theorem made_reach (a b : List UInt8) (rs : List Rec) (h : Makes a b rs) (n : Nat) (ha : n ≤ 16777216) (hb : b.length ≤ 16777216) : reach n rs ≤ 16777216 :=
  reach_le n rs _ ha (fun r hr => by have := (h.ok r hr).1.2.1; omega)
theorem made_end (a b : List UInt8) (rs : List Rec) (h : Makes a b rs) : reach 0 rs ≤ b.length :=
  reach_le 0 rs _ (by omega) (fun r hr => (h.ok r hr).1.2.1)
theorem made_makes (a b : List UInt8) (rs : List Rec) (h : Makes a b rs) : cutTo (cutOf a b) (rs.foldl layD a) = b :=
  makes a b rs (fun r hr => (h.ok r hr).1) h.cov
theorem made_applied (a b : List UInt8) (rs : List Rec) (h : Makes a b rs) (ha : a.length ≤ 16777216) (hb : b.length ≤ 16777216) (hl : (made a b rs).length ≤ 16777216) : applied (made a b rs) a = (0, b) := by
  have hp := made_parse a b rs h ha hl
  have hw : ∀ r ∈ rs, Wf r := fun r hr => (h.ok r hr).1.1
  have hm := made_makes a b rs h
  rw [layD_all rs a hw] at hm
  have hr := made_reach a b rs h a.length ha hb
  simp only [applied, hp]
  simp [Nat.not_lt.2 hr, hm]
theorem rec_few (rs : List Rec) (h : ∀ r ∈ rs, Wf r) (hl : (rs.flatMap recB).length ≤ 3) : rs = [] := by
  cases rs with
  | nil => rfl
  | cons r rs =>
    have := recB_length r
    have h0 := (h r (by simp)).1
    simp only [List.flatMap_cons, List.length_append] at hl
    split at this <;> omega
theorem made_none (a b : List UInt8) (rs : List Rec) (h : Makes a b rs) (hd : D a b b.length = 0) : rs = [] :=
  rec_few rs (fun r hr => (h.ok r hr).1.1) (by have := h.few; omega)

end Ips
end Go.Proofs.Ytchakjknndpmpaa
