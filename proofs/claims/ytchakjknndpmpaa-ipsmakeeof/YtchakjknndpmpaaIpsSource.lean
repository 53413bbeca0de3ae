/-
  Contracts of ips' source: number, bytes, head. Conditions: lengths up to 1000000000.
-/
import Derived.Test.YtchakjknndpmpaaIpsRecs
import Derived.Test.YtchakjknndpmpaaOctNum1
namespace Go.Proofs.Ytchakjknndpmpaa
open Go.RowKit
namespace Ips

/-- A source's value: its reader. -/
def srcV (p : Nat) : Value := .agg #[.pointer (some ⟨p, 0, none⟩)]
/-- A panic with an error's number. -/
def pan (e : Int) : List PanicEntry := [{ v := .iface 24 (.int .i64 e), recovered := false }]

set_option maxHeartbeats 400000 in
theorem number_short (w : World) (p g k n : Nat) (l : List UInt8) (h : Rdr w p g l k) (hk : k ≤ l.length) (hl : l.length ≤ 1000000000) (hn : l.length < k + n) (h8 : n ≤ 8) :
    Calls Try.prog 46 #[srcV p, .int .i64 (n : Int)] w fun e w' => e = .panicked (pan 2) ∧ Fr [] w w' := by
  have HR := Lib.hid h
  clear h
  unfold srcV pan
  go_enter Try.func46, Try.ntmps46
  go_wp2_with fail
  refine (rhigh_short _ p g k l n (HR.out.fr (Fr.alloc (Fr.refl [] w) _) (by simp) (by simp)) hk hl (by omega) (by omega)).mono ?_
  rintro e w1 ⟨rfl, hf⟩
  have HF := Lib.hid hf
  clear hf
  go_wp2
  exact ⟨rfl, rfl, ((Fr.refl [] w).alloc _).tr HF.out⟩

set_option maxHeartbeats 400000 in
theorem number_ok (w : World) (p g k n : Nat) (l : List UInt8) (h : Rdr w p g l k) (hl : l.length ≤ 1000000000) (hn : k + n ≤ l.length) (h8 : n ≤ 3) :
    Calls Try.prog 46 #[srcV p, .int .i64 (n : Int)] w fun e w' => e = .returned (.int .i64 (num l k n : Nat)) ∧ Rdr w' p g l (k + n) ∧ Fr [p] w w' := by
  have HR := Lib.hid h
  clear h
  have hb := num_lt l k n
  have hb' : num l k n < 16777216 := Nat.lt_of_lt_of_le hb (Nat.pow_le_pow_right (n := 256) (by omega) h8)
  clear hb
  have HU : Hid (be ((l.drop k).take n) = num l k n) := Lib.hid rfl
  generalize num l k n = u at *
  unfold srcV
  go_enter Try.func46, Try.ntmps46
  go_wp2_with fail
  refine (rhigh_ok _ p g k n l (HR.out.fr (Fr.alloc (Fr.refl [] w) _) (by simp) (by simp)) hl hn (by omega)).mono ?_
  rintro e w1 ⟨rfl, hr, hf⟩
  have HF := Lib.hid hf
  have H1 := Lib.hid hr
  clear hf hr
  rw [HU.out]
  go_wp2
  go_ret
  exact ⟨rfl, H1.out, ((Fr.refl [p] w).alloc _).tr HF.out⟩

set_option maxHeartbeats 400000 in
theorem bytes_short (w : World) (p g k n : Nat) (l : List UInt8) (h : Rdr w p g l k) (hk : k ≤ l.length) (hl : l.length ≤ 1000000000) (hn : l.length < k + n) :
    Calls Try.prog 51 #[srcV p, .int .i64 (n : Int)] w fun e w' => e = .panicked (pan 2) ∧ Fr [] w w' := by
  have HR := Lib.hid h
  clear h
  unfold srcV pan
  go_enter Try.func51, Try.ntmps51
  go_wp2_with fail
  refine (rbytes_short _ p g k l n (HR.out.fr (Fr.alloc (Fr.refl [] w) _) (by simp) (by simp)) hk hl (by omega)).mono ?_
  rintro e w1 ⟨rfl, m, rfl⟩
  go_wp2
  exact ⟨rfl, rfl, ((Fr.refl [] w).alloc _).drewN _⟩

set_option maxHeartbeats 400000 in
theorem bytes_ok (w : World) (p g k n : Nat) (l : List UInt8) (h : Rdr w p g l k) (hl : l.length ≤ 1000000000) (hn : k + n ≤ l.length) :
    Calls Try.prog 51 #[srcV p, .int .i64 (n : Int)] w fun e w' =>
      ∃ g', e = .returned (.slice (some ⟨g', 0, none⟩) n n) ∧ w.heap.size ≤ g' ∧ Blk w' g' 5 (bv ((l.drop k).take n)).toArray ∧ Rdr w' p g l (k + n) ∧ Fr [p] w w' := by
  have HR := Lib.hid h
  clear h
  unfold srcV
  go_enter Try.func51, Try.ntmps51
  go_wp2_with fail
  refine (rbytes_ok _ p g k n l (HR.out.fr (Fr.alloc (Fr.refl [] w) _) (by simp) (by simp)) hl hn).mono ?_
  rintro e w1 ⟨g', rfl, hg, hb, hr, hf⟩
  have HG := Lib.hid hg
  have HB := Lib.hid hb
  have HF := Lib.hid hf
  have H1 := Lib.hid hr
  clear hf hr hb hg
  go_wp2
  go_ret
  exact ⟨g', rfl, by have := HG.out; simp at this; omega, HB.out, H1.out, ((Fr.refl [p] w).alloc _).tr HF.out⟩

set_option maxHeartbeats 400000 in
theorem head_short (w : World) (p g : Nat) (l : List UInt8) (h : Rdr w p g l 0) (hl : l.length < 5) :
    Calls Try.prog 36 #[srcV p] w fun e w' => e = .panicked (pan 3) ∧ Fr [p] w w' := by
  have HR := Lib.hid h
  clear h
  unfold srcV pan
  go_enter Try.func36, Try.ntmps36
  go_wp2_with fail
  refine (rbytes_short _ p g 0 l 5 (HR.out.fr (Fr.alloc (Fr.refl [] w) _) (by simp) (by simp)) (by omega) (by omega) (by omega)).mono ?_
  rintro e w1 ⟨rfl, m, rfl⟩
  go_wp2
  exact ⟨rfl, rfl, ((Fr.refl [p] w).alloc _).drewN _⟩

set_option maxHeartbeats 400000 in
theorem head_bad (w : World) (p g : Nat) (l : List UInt8) (h : Rdr w p g l 0) (h5 : 5 ≤ l.length) (hl : l.length ≤ 1000000000) (hp : l.take 5 ≠ patch) :
    Calls Try.prog 36 #[srcV p] w fun e w' => e = .panicked (pan 3) ∧ Fr [p] w w' := by
  have HR := Lib.hid h
  clear h
  have hne : (l.take 5 == [80, 65, 84, 67, 72]) = false := by simpa [patch] using hp
  clear hp
  unfold srcV pan
  go_enter Try.func36, Try.ntmps36
  go_wp2_with fail
  refine (rbytes_ok _ p g 0 5 l (HR.out.fr (Fr.alloc (Fr.refl [] w) _) (by simp) (by simp)) hl (by omega)).mono ?_
  rintro e w1 ⟨g', rfl, hg, hb, hr, hf⟩
  have hc := run_str (P := Try.prog) (w := w1) 22 9 5 (cap := 5) Try.underlying22 Try.underlying5 Try.underlying9 (rd_blk hb)
  rw [List.drop_zero, show (l.take 5).length = 5 by simp; omega] at hc
  have HF := Lib.hid hf
  clear hf hr hb hg
  go_wp2
  exact ⟨rfl, rfl, ((Fr.refl [p] w).alloc _).tr HF.out⟩

set_option maxHeartbeats 400000 in
theorem head_ok (w : World) (p g : Nat) (l : List UInt8) (h : Rdr w p g l 0) (hl : l.length ≤ 1000000000) (hp : l.take 5 = patch) :
    Calls Try.prog 36 #[srcV p] w fun e w' => e = .returned (.tuple #[]) ∧ Rdr w' p g l 5 ∧ Fr [p] w w' := by
  have HR := Lib.hid h
  clear h
  have hne : (l.take 5 == [80, 65, 84, 67, 72]) = true := by simp [hp, patch]
  have h5 : 5 ≤ l.length := by have := congrArg List.length hp; simp [patch] at this; omega
  clear hp
  unfold srcV
  go_enter Try.func36, Try.ntmps36
  go_wp2_with fail
  refine (rbytes_ok _ p g 0 5 l (HR.out.fr (Fr.alloc (Fr.refl [] w) _) (by simp) (by simp)) hl (by omega)).mono ?_
  rintro e w1 ⟨g', rfl, hg, hb, hr, hf⟩
  have hc := run_str (P := Try.prog) (w := w1) 22 9 5 (cap := 5) Try.underlying22 Try.underlying5 Try.underlying9 (rd_blk hb)
  rw [List.drop_zero, show (l.take 5).length = 5 by simp; omega] at hc
  have HF := Lib.hid hf
  have H1 := Lib.hid hr
  clear hf hr hb hg
  go_wp2
  go_end0
  exact ⟨rfl, H1.out, ((Fr.refl [p] w).alloc _).tr HF.out⟩

/-- What record answers: a panic, or a record whose bytes are new. -/
def RecPost (w : World) (p g : Nat) (l : List UInt8) (o : Int ⊕ (Rec × Nat)) (e : Ending) (w' : World) : Prop :=
  (∀ x, o = .inl x → e = .panicked (pan x) ∧ Fr [p] w w') ∧
  ∀ r k', o = .inr (r, k') → ∃ g' c, e = .returned (.agg #[.int .i64 (r.pos : Int), .int .i64 (r.run : Int), .slice (some ⟨g', 0, none⟩) r.data.length c]) ∧ w.heap.size ≤ g' ∧ Blk w' g' 5 (bv r.data).toArray ∧ Rdr w' p g l k' ∧ Fr [p] w w'

theorem RecPost.fail {w : World} {p g : Nat} {l : List UInt8} {o : Int ⊕ (Rec × Nat)} {e : Ending} {w' : World} (x : Int) (ho : o = .inl x) (he : e = .panicked (pan x)) (hf : Fr [p] w w') : RecPost w p g l o e w' := by
  subst ho
  refine ⟨fun y hy => ?_, fun r k' h => by cases h⟩
  cases hy
  exact ⟨he, hf⟩
theorem RecPost.ok {w : World} {p g : Nat} {l : List UInt8} {o : Int ⊕ (Rec × Nat)} {e : Ending} {w' : World} (r : Rec) (k' : Nat) (ho : o = .inr (r, k')) (g' c : Nat)
    (he : e = .returned (.agg #[.int .i64 (r.pos : Int), .int .i64 (r.run : Int), .slice (some ⟨g', 0, none⟩) r.data.length c])) (hg : w.heap.size ≤ g') (hb : Blk w' g' 5 (bv r.data).toArray) (hr : Rdr w' p g l k') (hf : Fr [p] w w') : RecPost w p g l o e w' := by
  subst ho
  refine ⟨fun y hy => (nomatch hy), fun r k' h => ?_⟩
  cases h
  exact ⟨g', c, he, hg, hb, hr, hf⟩

/-- The world behind record's two variables. -/
def recW (w : World) (p : Nat) : World := (w.alloc (.cells #[.pointer (some ⟨p, 0, none⟩)] 80)).alloc (.cells #[.int .i64 0, .int .i64 0, .slice none 0 0] 55)
theorem recW_fr (w : World) (p : Nat) : Fr [] w (recW w p) := ((Fr.refl [] w).alloc _).alloc _
theorem recW_src (w : World) (p : Nat) : Blk (recW w p) w.heap.size 80 #[.pointer (some ⟨p, 0, none⟩)] := (Blk.fresh w _ _).fr ((Fr.refl [] _).alloc _) (by simp)
theorem recW_rec (w : World) (p : Nat) : Blk (recW w p) (w.heap.size + 1) 55 #[.int .i64 0, .int .i64 0, .slice none 0 0] := by
  have h := Blk.fresh (w.alloc (.cells #[.pointer (some ⟨p, 0, none⟩)] 80)) 55 #[.int .i64 0, .int .i64 0, .slice none 0 0]
  rw [World.size_alloc] at h
  exact h

theorem fr3 (w : World) (b : Nat) (x y z : Value) : Fr [b] w (((w.setCell ⟨b, 0, none⟩ x).setCell ⟨b, 1, none⟩ y).setCell ⟨b, 2, none⟩ z) :=
  (((Fr.refl [b] w).setCell (by simp) _).setCell (by simp) _).setCell (by simp) _

theorem src_cell {w : World} {b p : Nat} (h : Blk w b 80 #[.pointer (some ⟨p, 0, none⟩)]) : w.cell? ⟨b, 0, none⟩ = some (.pointer (some ⟨p, 0, none⟩)) := by
  have := h.cell 0; simpa using this

set_option maxHeartbeats 1000000 in
theorem record_short (w : World) (p g k pos : Nat) (l : List UInt8) (h : Rdr w p g l k) (hk : k ≤ l.length) (hl : l.length ≤ 1000000000) (h1 : l.length < k + 2) :
    Calls Try.prog 47 #[srcV p, .int .i64 (pos : Int)] w (RecPost w p g l (recAt l k pos)) := by
  have HR := Lib.hid (h.fr (recW_fr w p) (by simp) (by simp))
  clear h
  have HA : Hid (recAt l k pos = .inl 2) := Lib.hid (by simp [recAt, h1])
  generalize recAt l k pos = O at *
  unfold srcV
  go_enter Try.func47, Try.ntmps47
  go_wp2_with fail
  refine (number_short _ p g k 2 l HR.out hk hl h1 (by omega)).mono ?_
  rintro e w1 ⟨rfl, hf⟩
  have HF := Lib.hid hf
  clear hf
  go_wp2
  exact ⟨rfl, .fail 2 HA.out rfl ((recW_fr w p).tr HF.out).nil⟩

set_option maxHeartbeats 1000000 in
theorem record_data (w : World) (p g k pos : Nat) (l : List UInt8) (h : Rdr w p g l k) (hl : l.length ≤ 1000000000) (h1 : k + 2 ≤ l.length) (h2 : 0 < num l k 2) :
    Calls Try.prog 47 #[srcV p, .int .i64 (pos : Int)] w (RecPost w p g l (recAt l k pos)) := by
  have HR := Lib.hid (h.fr (recW_fr w p) (by simp) (by simp))
  have hplt := h.1.lt
  have hglt := h.2.lt
  clear h
  have h2' : (0 : Int) < (num l k 2 : Nat) := by omega
  by_cases h3 : l.length < k + 2 + num l k 2
  · have HA : Hid (recAt l k pos = .inl 2) := Lib.hid (by simp [recAt, Nat.not_lt.2 h1, h2, h3])
    have HN : Hid (∀ w' p g, Rdr w' p g l k → Calls Try.prog 46 #[srcV p, .int .i64 2] w' fun e w'' => e = .returned (.int .i64 (num l k 2 : Nat)) ∧ Rdr w'' p g l (k + 2) ∧ Fr [p] w' w'') := Lib.hid fun w' p g h => number_ok w' p g k 2 l h hl h1 (by omega)
    generalize recAt l k pos = O at *
    generalize num l k 2 = n at *
    unfold srcV
    go_enter Try.func47, Try.ntmps47
    go_wp2_with fail
    refine (HN.out _ p g HR.out).mono ?_
    rintro e w1 ⟨rfl, hr, hf⟩
    have hc := src_cell ((recW_src w p).fr hf (by simp; omega))
    have HF := Lib.hid ((recW_fr w p).nil.tr hf)
    have H1 := Lib.hid hr
    clear hr hf
    go_wp2_with fail
    refine (bytes_short _ p g (k + 2) n l H1.out h1 hl h3).mono ?_
    rintro e w2 ⟨rfl, hf⟩
    have HF2 := Lib.hid hf
    clear hf
    go_wp2
    exact ⟨rfl, .fail 2 HA.out rfl (HF.out.tr HF2.out.nil)⟩
  · have h3' : k + 2 + num l k 2 ≤ l.length := by omega
    have HA : Hid (recAt l k pos = .inr (⟨pos, 0, (l.drop (k + 2)).take (num l k 2)⟩, k + 2 + num l k 2)) := Lib.hid (by simp [recAt, Nat.not_lt.2 h1, h2, h3])
    have HN : Hid (∀ w' p g, Rdr w' p g l k → Calls Try.prog 46 #[srcV p, .int .i64 2] w' fun e w'' => e = .returned (.int .i64 (num l k 2 : Nat)) ∧ Rdr w'' p g l (k + 2) ∧ Fr [p] w' w'') := Lib.hid fun w' p g h => number_ok w' p g k 2 l h hl h1 (by omega)
    generalize recAt l k pos = O at *
    generalize num l k 2 = n at *
    have HL : Hid (((l.drop (k + 2)).take n).length = n) := Lib.hid (by simp; omega)
    unfold srcV
    go_enter Try.func47, Try.ntmps47
    go_wp2_with fail
    refine (HN.out _ p g HR.out).mono ?_
    rintro e w1 ⟨rfl, hr, hf⟩
    have hc := src_cell ((recW_src w p).fr hf (by simp; omega))
    have HC := Lib.hid ((recW_rec w p).fr hf (by simp; omega))
    have HF := Lib.hid ((recW_fr w p).nil.tr hf)
    have H1 := Lib.hid hr
    have HS := Lib.hid hf.size
    clear hr hf
    go_wp2_with fail
    refine (bytes_ok _ p g (k + 2) n l H1.out hl h3').mono ?_
    rintro e w2 ⟨g', rfl, hg, hb, hr, hf⟩
    have hb2 := HC.out.fr hf (by simp; omega)
    have c0 := hb2.cell 0
    have c1 := hb2.cell 1
    have c2 := hb2.cell 2
    have z0 := hb2.frozen 0
    have z1 := hb2.frozen 1
    have z2 := hb2.frozen 2
    simp at c0 c1 c2
    have HF2 := Lib.hid (HF.out.tr hf)
    have HG : Hid (w.heap.size + 2 ≤ g') := Lib.hid (by have h5 := HS.out; simp [recW] at h5; omega)
    have HB := Lib.hid hb
    have HB2 := Lib.hid hb2
    have H2 := Lib.hid hr
    clear hb hr hg hf hb2
    go_wp2
    refine bodyPost_ret (v := .agg #[.int .i64 (pos : Int), .int .i64 0, .slice (some ⟨g', 0, none⟩) n n]) (by simp [results, Try.results47, go_sem, c0, c1, c2]) rfl ?_
    have h3 := fr3 w2 (w.heap.size + 1) (.int .i64 (pos : Int)) (.int .i64 0) (.slice (some ⟨g', 0, none⟩) n n)
    refine .ok _ _ HA.out g' n ?_ (by have := HG.out; omega) (HB.out.fr h3 (by have := HG.out; simp; omega)) (H2.out.fr h3 (by simp; omega) (by simp; omega)) (HF2.out.trans h3 (by simp))
    rw [HL.out]
    rfl

set_option maxHeartbeats 1000000 in
theorem record_run (w : World) (p g k pos : Nat) (l : List UInt8) (h : Rdr w p g l k) (hl : l.length ≤ 1000000000) (h1 : k + 2 ≤ l.length) (h2 : num l k 2 = 0) :
    Calls Try.prog 47 #[srcV p, .int .i64 (pos : Int)] w (RecPost w p g l (recAt l k pos)) := by
  have HR := Lib.hid (h.fr (recW_fr w p) (by simp) (by simp))
  have hplt := h.1.lt
  have hglt := h.2.lt
  clear h
  have HN : Hid (∀ w' p g, Rdr w' p g l k → Calls Try.prog 46 #[srcV p, .int .i64 2] w' fun e w'' => e = .returned (.int .i64 0) ∧ Rdr w'' p g l (k + 2) ∧ Fr [p] w' w'') :=
    Lib.hid fun w' p g h => by have := number_ok w' p g k 2 l h hl h1 (by omega); rwa [h2] at this
  by_cases h3 : l.length < k + 4
  · have HA : Hid (recAt l k pos = .inl 2) := Lib.hid (by simp [recAt, Nat.not_lt.2 h1, h2, h3])
    generalize recAt l k pos = O at *
    clear h2
    unfold srcV
    go_enter Try.func47, Try.ntmps47
    go_wp2_with fail
    refine (HN.out _ p g HR.out).mono ?_
    rintro e w1 ⟨rfl, hr, hf⟩
    have hc := src_cell ((recW_src w p).fr hf (by simp; omega))
    have HF := Lib.hid ((recW_fr w p).nil.tr hf)
    have H1 := Lib.hid hr
    clear hr hf
    go_wp2_with fail
    refine (number_short _ p g (k + 2) 2 l H1.out h1 hl h3 (by omega)).mono ?_
    rintro e w2 ⟨rfl, hf⟩
    have HF2 := Lib.hid hf
    clear hf
    go_wp2
    exact ⟨rfl, .fail 2 HA.out rfl (HF.out.tr HF2.out.nil)⟩
  · have h3' : k + 2 + 2 ≤ l.length := by omega
    by_cases h4 : num l (k + 2) 2 = 0
    · have HN2 : Hid (∀ w' p g, Rdr w' p g l (k + 2) → Calls Try.prog 46 #[srcV p, .int .i64 2] w' fun e w'' => e = .returned (.int .i64 0) ∧ Rdr w'' p g l (k + 4) ∧ Fr [p] w' w'') :=
        Lib.hid fun w' p g h => by have := number_ok w' p g (k + 2) 2 l h hl h3' (by omega); rwa [h4] at this
      have HA : Hid (recAt l k pos = .inl 3) := Lib.hid (by simp [recAt, Nat.not_lt.2 h1, h2, h3, h4])
      generalize recAt l k pos = O at *
      clear h2 h4
      unfold srcV
      go_enter Try.func47, Try.ntmps47
      go_wp2_with fail
      refine (HN.out _ p g HR.out).mono ?_
      rintro e w1 ⟨rfl, hr, hf⟩
      have hc := src_cell ((recW_src w p).fr hf (by simp; omega))
      have HF := Lib.hid ((recW_fr w p).nil.tr hf)
      have H1 := Lib.hid hr
      clear hr hf
      go_wp2_with fail
      refine (HN2.out _ p g H1.out).mono ?_
      rintro e w2 ⟨rfl, hr, hf⟩
      have HF2 := Lib.hid hf
      clear hf hr
      go_wp2
      exact ⟨rfl, .fail 3 HA.out rfl (HF.out.tr HF2.out)⟩
    · have hn0 : ¬ ((num l (k + 2) 2 : Nat) : Int) = 0 := by omega
      have HN2 : Hid (∀ w' p g, Rdr w' p g l (k + 2) → Calls Try.prog 46 #[srcV p, .int .i64 2] w' fun e w'' => e = .returned (.int .i64 (num l (k + 2) 2 : Nat)) ∧ Rdr w'' p g l (k + 4) ∧ Fr [p] w' w'') :=
        Lib.hid fun w' p g h => number_ok w' p g (k + 2) 2 l h hl h3' (by omega)
      by_cases h5 : l.length < k + 5
      · have HA : Hid (recAt l k pos = .inl 2) := Lib.hid (by simp [recAt, Nat.not_lt.2 h1, h2, h3, h4, h5])
        generalize recAt l k pos = O at *
        clear h2 h4
        generalize num l (k + 2) 2 = n at *
        unfold srcV
        go_enter Try.func47, Try.ntmps47
        go_wp2_with fail
        refine (HN.out _ p g HR.out).mono ?_
        rintro e w1 ⟨rfl, hr, hf⟩
        have hc := src_cell ((recW_src w p).fr hf (by simp; omega))
        have HC := Lib.hid ((recW_src w p).fr hf (by simp; omega))
        have HF := Lib.hid ((recW_fr w p).nil.tr hf)
        have H1 := Lib.hid hr
        clear hr hf
        go_wp2_with fail
        refine (HN2.out _ p g H1.out).mono ?_
        rintro e w2 ⟨rfl, hr, hf⟩
        have hc2 := src_cell (HC.out.fr hf (by simp; omega))
        have HF2 := Lib.hid (HF.out.tr hf)
        have H2 := Lib.hid hr
        clear hf hr
        go_wp2_with fail
        refine (bytes_short _ p g (k + 4) 1 l H2.out h3' hl h5).mono ?_
        rintro e w3 ⟨rfl, hf⟩
        have HF3 := Lib.hid hf
        clear hf
        go_wp2
        exact ⟨rfl, .fail 2 HA.out rfl (HF2.out.tr HF3.out.nil)⟩
      · have h5' : k + 4 + 1 ≤ l.length := by omega
        have HA : Hid (recAt l k pos = .inr (⟨pos, num l (k + 2) 2, (l.drop (k + 4)).take 1⟩, k + 5)) := Lib.hid (by simp [recAt, Nat.not_lt.2 h1, h2, h3, h4, h5])
        have HL : Hid (((l.drop (k + 4)).take 1).length = 1) := Lib.hid (by simp; omega)
        generalize recAt l k pos = O at *
        clear h2 h4
        generalize num l (k + 2) 2 = n at *
        unfold srcV
        go_enter Try.func47, Try.ntmps47
        go_wp2_with fail
        refine (HN.out _ p g HR.out).mono ?_
        rintro e w1 ⟨rfl, hr, hf⟩
        have hc := src_cell ((recW_src w p).fr hf (by simp; omega))
        have HC := Lib.hid ((recW_src w p).fr hf (by simp; omega))
        have HD := Lib.hid ((recW_rec w p).fr hf (by simp; omega))
        have HF := Lib.hid ((recW_fr w p).nil.tr hf)
        have HS := Lib.hid hf.size
        have H1 := Lib.hid hr
        clear hr hf
        go_wp2_with fail
        refine (HN2.out _ p g H1.out).mono ?_
        rintro e w2 ⟨rfl, hr, hf⟩
        have hc2 := src_cell (HC.out.fr hf (by simp; omega))
        have HD2 := Lib.hid (HD.out.fr hf (by simp; omega))
        have HF2 := Lib.hid (HF.out.tr hf)
        have HS2 := Lib.hid hf.size
        have H2 := Lib.hid hr
        clear hf hr
        go_wp2_with fail
        refine (bytes_ok _ p g (k + 4) 1 l H2.out hl h5').mono ?_
        rintro e w3 ⟨g', rfl, hg, hb, hr, hf⟩
        have hb2 := HD2.out.fr hf (by simp; omega)
        have c0 := hb2.cell 0
        have c1 := hb2.cell 1
        have c2 := hb2.cell 2
        have z0 := hb2.frozen 0
        have z1 := hb2.frozen 1
        have z2 := hb2.frozen 2
        simp at c0 c1 c2
        have HF3 := Lib.hid (HF2.out.tr hf)
        have HG : Hid (w.heap.size + 2 ≤ g') := Lib.hid (by have h5 := HS.out; have h6 := HS2.out; simp [recW] at h5; omega)
        have HB := Lib.hid hb
        have H3 := Lib.hid hr
        clear hb hr hg hf hb2
        go_wp2
        refine bodyPost_ret (v := .agg #[.int .i64 (pos : Int), .int .i64 (n : Int), .slice (some ⟨g', 0, none⟩) 1 1]) (by simp [results, Try.results47, go_sem, c0, c1, c2]) rfl ?_
        have h3 := fr3 w3 (w.heap.size + 1) (.int .i64 (pos : Int)) (.int .i64 (n : Int)) (.slice (some ⟨g', 0, none⟩) 1 1)
        refine .ok _ _ HA.out g' 1 ?_ (by have := HG.out; omega) (HB.out.fr h3 (by have := HG.out; simp; omega)) (H3.out.fr h3 (by simp; omega) (by simp; omega)) (HF3.out.trans h3 (by simp))
        rw [HL.out]

theorem record_any (w : World) (p g k pos : Nat) (l : List UInt8) (h : Rdr w p g l k) (hk : k ≤ l.length) (hl : l.length ≤ 1000000000) :
    Calls Try.prog 47 #[srcV p, .int .i64 (pos : Int)] w (RecPost w p g l (recAt l k pos)) := by
  by_cases h1 : l.length < k + 2
  · exact record_short w p g k pos l h hk hl h1
  · by_cases h2 : num l k 2 = 0
    · exact record_run w p g k pos l h hl (by omega) h2
    · exact record_data w p g k pos l h hl (by omega) (by omega)

end Ips
end Go.Proofs.Ytchakjknndpmpaa
