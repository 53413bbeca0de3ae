/-
  Records that lay what b has there, and that lay all of b that is not in a, make b of a: in mathematics, of no program (for stage 5).
-/
import Derived.Test.YtchakjknndpmpaaIpsApplyMath
namespace Go.Proofs.Ytchakjknndpmpaa
namespace Ips

/-- A record that lays what b has there. -/
def Lays (b : List UInt8) (r : Rec) : Prop := Wf r ∧ r.pos + span r ≤ b.length ∧ bytesOf r = (b.drop r.pos).take (span r)
/-- A record reaches over the place i. -/
def Covers (r : Rec) (i : Nat) : Prop := r.pos ≤ i ∧ i < r.pos + span r

theorem over_in (l : List UInt8) (p : Nat) (d : List UInt8) (i : Nat) (h : p ≤ l.length) (h1 : p ≤ i) (h2 : i < p + d.length) : (over l p d)[i]? = d[i - p]? := by
  have hp : (l.take p).length = p := by simp; omega
  unfold over
  rw [List.getElem?_append_right (by omega), hp, List.getElem?_append_left (by omega)]
theorem over_out (l : List UInt8) (p : Nat) (d : List UInt8) (i : Nat) (h : p + d.length ≤ l.length) (h1 : i < p ∨ p + d.length ≤ i) : (over l p d)[i]? = l[i]? := by
  have hp : (l.take p).length = p := by simp; omega
  unfold over
  rcases h1 with h1 | h1
  · rw [List.getElem?_append_left (by omega), List.getElem?_take_of_lt h1]
  · rw [List.getElem?_append_right (by omega), hp, List.getElem?_append_right (by omega), List.getElem?_drop]
    congr 1
    omega

theorem layD_in (a b : List UInt8) (r : Rec) (i : Nat) (h : Lays b r) (hc : Covers r i) : (layD a r)[i]? = b[i]? := by
  obtain ⟨hw, hl, hb⟩ := h
  obtain ⟨h1, h2⟩ := hc
  have hlen := bytesOf_length r hw
  unfold layD
  rw [over_in _ _ _ _ (by rw [pad_length]; omega) h1 (by omega), hb, List.getElem?_take_of_lt (by omega), List.getElem?_drop]
  congr 1
  omega
theorem layD_out (a : List UInt8) (r : Rec) (i : Nat) (hw : Wf r) (hc : ¬ Covers r i) (hi : i < a.length) : (layD a r)[i]? = a[i]? := by
  have hlen := bytesOf_length r hw
  unfold Covers at hc
  unfold layD
  rw [over_out _ _ _ _ (by rw [pad_length]; omega) (by omega)]
  unfold pad
  rw [List.getElem?_append_left hi]

theorem fold_get (b : List UInt8) : ∀ (rs : List Rec) (a : List UInt8), (∀ r ∈ rs, Lays b r) → ∀ i, i < b.length → ((∃ r ∈ rs, Covers r i) ∨ a[i]? = b[i]?) → (rs.foldl layD a)[i]? = b[i]? := by
  intro rs
  induction rs with
  | nil =>
    intro a _ i _ h
    rcases h with ⟨r, hr, _⟩ | h
    · simp at hr
    · exact h
  | cons r rs ih =>
    intro a hl i hi h
    rw [List.foldl_cons]
    refine ih _ (fun r' hr' => hl r' (by simp [hr'])) i hi ?_
    have h0 := hl r (by simp)
    by_cases hc : Covers r i
    · exact .inr (layD_in a b r i h0 hc)
    · rcases h with ⟨r', hr', hc'⟩ | h
      · rcases List.mem_cons.1 hr' with rfl | hr'
        · exact absurd hc' hc
        · exact .inl ⟨r', hr', hc'⟩
      · refine .inr ?_
        have hia : i < a.length := by
          rw [List.getElem?_eq_getElem hi] at h
          exact (List.getElem?_eq_some_iff.1 h).1
        rw [layD_out a r i h0.1 hc hia, h]

theorem fold_length (rs : List Rec) (x : List UInt8) (hw : ∀ r ∈ rs, Wf r) : (rs.foldl layD x).length = reach x.length rs := by
  have h := reach_ge x.length rs
  rw [layD_all rs x hw, layAll_length _ _ hw (fun r hr => by rw [pad_length]; have := reach_mem x.length rs r hr; omega), pad_length]
  omega

theorem cutTo_some' (o : List UInt8) (n : Nat) (h : n < o.length) : cutTo (n : Int) o = o.take n := by
  simp only [cutTo]
  rw [if_pos (by omega), Int.toNat_natCast]
theorem cutTo_none' (o : List UInt8) (cut : Int) (h : ¬ (0 ≤ cut ∧ cut < o.length)) : cutTo cut o = o := by
  simp only [cutTo]
  rw [if_neg h]

/-- Such records make b of a. -/
theorem makes (a b : List UInt8) (rs : List Rec) (hl : ∀ r ∈ rs, Lays b r) (hc : ∀ i, i < b.length → (∃ r ∈ rs, Covers r i) ∨ a[i]? = b[i]?) :
    cutTo (if b.length < a.length then (b.length : Int) else -1) (rs.foldl layD a) = b := by
  have hlen := fold_length rs a (fun r hr => (hl r hr).1)
  have h1 := reach_ge a.length rs
  have h2 := reach_le a.length rs (max a.length b.length) (by omega) (fun r hr => by have := (hl r hr).2.1; omega)
  have hg := fun i hi => fold_get b rs a hl i hi (hc i hi)
  generalize rs.foldl layD a = y at *
  have h3 : b.length ≤ y.length := by
    rcases Nat.eq_zero_or_pos b.length with h | h
    · omega
    · have := hg (b.length - 1) (by omega)
      rw [List.getElem?_eq_getElem (show b.length - 1 < b.length by omega)] at this
      have := (List.getElem?_eq_some_iff.1 this).1
      omega
  have ht : y.take b.length = b := by
    apply List.ext_getElem?
    intro i
    by_cases hi : i < b.length
    · rw [List.getElem?_take_of_lt hi, hg i hi]
    · rw [List.getElem?_eq_none (by simp; omega), List.getElem?_eq_none (by omega)]
  split
  · rw [cutTo_some' y b.length (by omega), ht]
  · rw [cutTo_none' y _ (by omega)]
    rw [← ht]
    exact (List.take_of_length_le (by omega)).symm

end Ips
end Go.Proofs.Ytchakjknndpmpaa
