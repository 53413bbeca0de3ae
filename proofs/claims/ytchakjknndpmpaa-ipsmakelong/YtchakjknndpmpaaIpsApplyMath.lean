/-
  What records make of bytes: in mathematics; all at once, and one by one as the document does it.
-/
import Derived.Test.YtchakjknndpmpaaIpsLay
namespace Go.Proofs.Ytchakjknndpmpaa
namespace Ips

/-- Noughts behind, up to the length m. -/
def pad (o : List UInt8) (m : Nat) : List UInt8 := o ++ List.replicate (m - o.length) 0
theorem pad_length (o : List UInt8) (m : Nat) : (pad o m).length = max o.length m := by simp [pad]; omega
theorem pad_pad (o : List UInt8) (m N : Nat) (h : m ≤ N) : pad (pad o m) N = pad o N := by
  simp only [pad, List.append_assoc, List.replicate_append_replicate, List.length_append, List.length_replicate]
  congr 2
  omega
theorem pad_self (o : List UInt8) (m : Nat) (h : m ≤ o.length) : pad o m = o := by
  simp [pad, show m - o.length = 0 by omega]
theorem pad_snoc (o : List UInt8) (m : Nat) (h : o.length ≤ m) : pad o m ++ [0] = pad o (m + 1) := by
  simp only [pad, List.append_assoc]
  congr 1
  rw [show m + 1 - o.length = (m - o.length) + 1 by omega, List.replicate_succ']
theorem over_pad (y : List UInt8) (N p : Nat) (b : List UInt8) (h : p + b.length ≤ y.length) : over (pad y N) p b = pad (over y p b) N := by
  unfold pad
  rw [over_length y p b h]
  unfold over
  rw [List.take_append_of_le_length (by omega), List.drop_append_of_le_length (by omega)]
  simp

/-- How far records reach, at least as far as m. -/
def reach (m : Nat) (rs : List Rec) : Nat := rs.foldl (fun m r => max m (r.pos + span r)) m
theorem reach_snoc (m : Nat) (rs : List Rec) (r : Rec) : reach m (rs ++ [r]) = max (reach m rs) (r.pos + span r) := by simp [reach]
theorem reach_ge (m : Nat) (rs : List Rec) : m ≤ reach m rs := by
  induction rs generalizing m with
  | nil => exact Nat.le_refl _
  | cons r rs ih => exact Nat.le_trans (Nat.le_max_left _ _) (ih (max m (r.pos + span r)))
theorem reach_mem (m : Nat) (rs : List Rec) : ∀ r ∈ rs, r.pos + span r ≤ reach m rs := by
  induction rs generalizing m with
  | nil => intro r hr; cases hr
  | cons r rs ih =>
    intro r' hr
    rcases List.mem_cons.1 hr with rfl | h
    · exact Nat.le_trans (Nat.le_max_right _ _) (reach_ge (max m (r'.pos + span r')) rs)
    · exact ih (max m (r.pos + span r)) r' h
theorem reach_le (m : Nat) (rs : List Rec) (M : Nat) (hm : m ≤ M) (h : ∀ r ∈ rs, r.pos + span r ≤ M) : reach m rs ≤ M := by
  induction rs generalizing m with
  | nil => exact hm
  | cons r rs ih =>
    have h1 := h r (by simp)
    exact ih (max m (r.pos + span r)) (by omega) (fun r' hr' => h r' (by simp [hr']))

/-- All records laid, one behind the other. -/
def layAll (rs : List Rec) (o : List UInt8) : List UInt8 := rs.foldl (fun o r => over o r.pos (bytesOf r)) o
theorem layAll_snoc (rs : List Rec) (r : Rec) (o : List UInt8) : layAll (rs ++ [r]) o = over (layAll rs o) r.pos (bytesOf r) := by simp [layAll]
theorem layAll_length (rs : List Rec) (o : List UInt8) (hw : ∀ r ∈ rs, Wf r) (h : ∀ r ∈ rs, r.pos + span r ≤ o.length) : (layAll rs o).length = o.length := by
  induction rs generalizing o with
  | nil => rfl
  | cons r rs ih =>
    have h1 : (over o r.pos (bytesOf r)).length = o.length := over_length _ _ _ (by rw [bytesOf_length r (hw r (by simp))]; exact h r (by simp))
    show (layAll rs (over o r.pos (bytesOf r))).length = o.length
    rw [ih _ (fun r' hr => hw r' (by simp [hr])) (fun r' hr => by rw [h1]; exact h r' (by simp [hr])), h1]

/-- One record, as the document lays it: noughts first, where it reaches behind the end. -/
def layD (o : List UInt8) (r : Rec) : List UInt8 := over (pad o (r.pos + span r)) r.pos (bytesOf r)
theorem layD_length (o : List UInt8) (r : Rec) (h : Wf r) : (layD o r).length = max o.length (r.pos + span r) := by
  unfold layD
  rw [over_length _ _ _ (by rw [bytesOf_length r h, pad_length]; omega), pad_length]
theorem layD_all (rs : List Rec) (x : List UInt8) (hw : ∀ r ∈ rs, Wf r) : rs.foldl layD x = layAll rs (pad x (reach x.length rs)) := by
  induction rs generalizing x with
  | nil => simp [layAll, reach, pad_self]
  | cons r rs ih =>
    have h0 := hw r (by simp)
    have hl := layD_length x r h0
    rw [List.foldl_cons, ih _ (fun r' hr => hw r' (by simp [hr])), hl]
    show _ = layAll rs (over (pad x (reach (max x.length (r.pos + span r)) rs)) r.pos (bytesOf r))
    have hN := reach_ge (max x.length (r.pos + span r)) rs
    generalize reach (max x.length (r.pos + span r)) rs = N at *
    congr 1
    unfold layD
    rw [← over_pad _ _ _ _ (by rw [bytesOf_length r h0, pad_length]; omega), pad_pad _ _ _ (by omega)]

/-- Cut to a length, if there is one. -/
def cutTo (cut : Int) (o : List UInt8) : List UInt8 := if 0 ≤ cut ∧ cut < o.length then o.take cut.toNat else o

/-- What a patch l makes of x: an error's number, and bytes. -/
def applied (l x : List UInt8) : Int × List UInt8 :=
  if (parse l).1 ≠ 0 then ((parse l).1, [])
  else if 16777216 < reach x.length (parse l).2.1 then (6, [])
  else (0, cutTo (parse l).2.2 (layAll (parse l).2.1 (pad x (reach x.length (parse l).2.1))))

/-- Records as a patch can have them. -/
def Fits (r : Rec) : Prop := Wf r ∧ r.pos < 16777216 ∧ r.run < 65536 ∧ r.data.length < 65536

theorem recAt_fits (l : List UInt8) (k pos k' : Nat) (r : Rec) (hp : pos < 16777216) (h : recAt l k pos = .inr (r, k')) : Fits r := by
  have h2 := num_lt l k 2
  have h3 := num_lt l (k + 2) 2
  unfold recAt at h
  split at h
  · cases h
  · split at h
    · split at h
      · cases h
      · cases h
        refine ⟨⟨?_, fun h => absurd h (by simp)⟩, hp, by simp, ?_⟩
        · simp; omega
        · simp; omega
    · split at h
      · cases h
      · split at h
        · cases h
        · split at h
          · cases h
          · cases h
            refine ⟨⟨?_, fun _ => ?_⟩, hp, by simpa using h3, ?_⟩
            · simp; omega
            · simp; omega
            · simp; omega
theorem recs_fits (l : List UInt8) : ∀ (f k : Nat) (rs : List Rec) (k' : Nat), recs l f k = .inr (rs, k') → ∀ r ∈ rs, Fits r := by
  intro f
  induction f with
  | zero => intro k rs k' h; cases h
  | succ f ih =>
    intro k rs k' h
    unfold recs at h
    split at h
    · cases h
    · split at h
      · cases h; intro r hr; cases hr
      · split at h
        · cases h
        · rename_i r k1 hr
          cases hx : recs l f k1 with
          | inl e => rw [hx] at h; cases h
          | inr o =>
            obtain ⟨rs1, k2⟩ := o
            rw [hx] at h
            cases h
            intro r' hr'
            rcases List.mem_cons.1 hr' with rfl | h'
            · exact recAt_fits l _ _ _ _ (num_lt l k 3) hr
            · exact ih k1 rs1 _ hx r' h'
theorem parse_fits (l : List UInt8) : ∀ r ∈ (parse l).2.1, Fits r := by
  unfold parse
  split
  · intro r hr; cases hr
  · split
    · intro r hr; cases hr
    · split
      · intro r hr; cases hr
      · rename_i rs k hx
        unfold tailOf
        split
        · exact recs_fits l _ _ _ _ hx
        · split
          · intro r hr; cases hr
          · split
            · intro r hr; cases hr
            · exact recs_fits l _ _ _ _ hx
theorem parse_few (l : List UInt8) : (parse l).2.1.length ≤ 16777216 := by
  unfold parse
  split
  · simp
  · rename_i h0
    split
    · simp
    · split
      · simp
      · rename_i rs k hx
        have := recs_le l _ _ _ _ hx
        unfold tailOf
        split
        · simp; omega
        · split
          · simp
          · split
            · simp
            · simp; omega
theorem parse_cut (l : List UInt8) : -1 ≤ (parse l).2.2 ∧ (parse l).2.2 < 16777216 := by
  unfold parse
  split
  · simp
  · split
    · simp
    · split
      · simp
      · rename_i rs k hx
        have := num_lt l k 3
        unfold tailOf
        split
        · simp
        · split
          · simp
          · split
            · simp
            · simp; omega

end Ips
end Go.Proofs.Ytchakjknndpmpaa
