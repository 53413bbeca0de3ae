/-
  Contracts of the document's map. Condition: the state is one that there is.
-/
import Derived.Test.YtglnpgdigdfjiaaGmObj
namespace Go.Proofs.Ytglnpgdigdfjiaa
open Go.RowKit
namespace Gm

section
variable {w : World} {q : Nat} {t : TypeId} {x0 x1 x2 x3 x4 x5 x6 : Value}
theorem blk7 (h : Blk w q t #[x0, x1, x2, x3, x4, x5, x6]) : w.cell? ⟨q, 0, none⟩ = some x0 ∧ w.cell? ⟨q, 1, none⟩ = some x1 ∧ w.cell? ⟨q, 2, none⟩ = some x2 ∧ w.cell? ⟨q, 3, none⟩ = some x3 ∧ w.cell? ⟨q, 4, none⟩ = some x4 ∧ w.cell? ⟨q, 5, none⟩ = some x5 ∧ w.cell? ⟨q, 6, none⟩ = some x6 :=
  ⟨h.cell 0, h.cell 1, h.cell 2, h.cell 3, h.cell 4, h.cell 5, h.cell 6⟩
end

set_option maxRecDepth 100000 in
set_option maxHeartbeats 4000000 in
theorem rwrite0 (w : World) (q : Nat) (S : St) (a v : Int) (h : RefAt w q S) (hO : Ok S) (hk : S.kd = 0) (ha0 : 0 ≤ a) (ha1 : a < 32768) (hv : byte v) :
    Calls Try.prog 11 #[.pointer (some ⟨q, 0, none⟩), .int .u16 a, .int .u8 v] w (RDone w q (wr S a v)) := by
  have _ := ha0
  have _ := ha1
  obtain ⟨hl0, hl1⟩ := hO.low
  obtain ⟨hv0, hv1⟩ := hv
  clear hO
  obtain ⟨kd, en, low, high, mode, banks, size⟩ := S
  simp only at hk
  subst hk
  have HB := Lib.hid h
  have hb : Blk w q 39 #[.int .i64 0, .int .i64 banks, .int .i64 size, .bool en, .int .i64 low, .int .i64 high, .int .i64 mode] := h
  obtain ⟨d0, d1, d2, d3, d4, d5, d6⟩ := blk7 hb
  simp only at hl0 hl1
  have f3 := hb.frozen 3
  have f4 := hb.frozen 4
  have f5 := hb.frozen 5
  have f6 := hb.frozen 6
  clear hb h
  have tm : ∀ x y : Int, 0 ≤ x → x.tmod y = x % y := fun x y hx => Int.tmod_eq_emod_of_nonneg hx
  have hw : wr ⟨0, en, low, high, mode, banks, size⟩ a v = ⟨0, en, low, high, mode, banks, size⟩ := by unfold wr; rw [if_pos (.inl rfl)]
  rw [hw]
  clear hw tm
  go_enter Try.func11, Try.ntmps11
  go_wp2
  (first | go_end0 | refine bodyPost_ret (results_none rfl _ _ _) rfl ?_)
  exact ⟨rfl, HB.out, Fr.refl _ _⟩

set_option maxRecDepth 100000 in
set_option maxHeartbeats 4000000 in
theorem rwrite1 (w : World) (q : Nat) (S : St) (a v : Int) (h : RefAt w q S) (hO : Ok S) (hk : S.kd = 1) (ha0 : 0 ≤ a) (ha1 : a < 32768) (hv : byte v) :
    Calls Try.prog 11 #[.pointer (some ⟨q, 0, none⟩), .int .u16 a, .int .u8 v] w (RDone w q (wr S a v)) := by
  have _ := ha0
  have _ := ha1
  obtain ⟨hl0, hl1⟩ := hO.low
  obtain ⟨hv0, hv1⟩ := hv
  clear hO
  obtain ⟨kd, en, low, high, mode, banks, size⟩ := S
  simp only at hk
  subst hk
  have HB := Lib.hid h
  have hb : Blk w q 39 #[.int .i64 1, .int .i64 banks, .int .i64 size, .bool en, .int .i64 low, .int .i64 high, .int .i64 mode] := h
  obtain ⟨d0, d1, d2, d3, d4, d5, d6⟩ := blk7 hb
  simp only at hl0 hl1
  have f3 := hb.frozen 3
  have f4 := hb.frozen 4
  have f5 := hb.frozen 5
  have f6 := hb.frozen 6
  clear hb h
  have tm : ∀ x y : Int, 0 ≤ x → x.tmod y = x % y := fun x y hx => Int.tmod_eq_emod_of_nonneg hx
  by_cases h1 : a < 8192
  · skip
    have hw : wr ⟨1, en, low, high, mode, banks, size⟩ a v = ⟨1, v % 16 == 10, low, high, mode, banks, size⟩ := by unfold wr; rw [if_neg (by simp only; omega), if_pos (by omega)]
    obtain ⟨r, hr⟩ : ∃ r, v % 16 = r := ⟨_, rfl⟩
    have hr' : v.tmod 16 = r := by rw [tm _ _ hv0]; exact hr
    have hr0 : 0 ≤ r := by omega
    have hr1 : r < 16 := by omega
    rw [hw, hr]
    clear hw hr tm
    go_enter Try.func11, Try.ntmps11
    go_wp2
    (first | go_end0 | refine bodyPost_ret (results_none rfl _ _ _) rfl ?_)
    exact rdone_put HB.out (Fr.refl _ _) 3 _ ⟨1, r == 10, low, high, mode, banks, size⟩ rfl
  by_cases h2 : a < 16384
  · skip
    have hw : wr ⟨1, en, low, high, mode, banks, size⟩ a v = ⟨1, en, least (v % 32), high, mode, banks, size⟩ := by unfold wr; rw [if_neg (by simp only; omega), if_neg (by omega), if_pos (by omega), if_pos rfl]
    obtain ⟨r, hr⟩ : ∃ r, v % 32 = r := ⟨_, rfl⟩
    have hr' : v.tmod 32 = r := by rw [tm _ _ hv0]; exact hr
    have hr0 : 0 ≤ r := by omega
    have hr1 : r < 32 := by omega
    rw [hw, hr]
    clear hw hr tm
    unfold least
    by_cases h0 : r = 0
    · subst h0
      rw [if_pos rfl]
      go_enter Try.func11, Try.ntmps11
      go_wp2
      (first | go_end0 | refine bodyPost_ret (results_none rfl _ _ _) rfl ?_)
      exact rdone_put (ref_put HB.out 4 _ ⟨1, en, 0, high, mode, banks, size⟩ rfl) ((Fr.refl [q] w).setCell (by simp) _) 4 _ ⟨1, en, 1, high, mode, banks, size⟩ rfl
    · rw [if_neg h0]
      have h0' : (r == 0) = false := by rw [beq_eq_false_iff_ne]; exact h0
      clear h0
      go_enter Try.func11, Try.ntmps11
      go_wp2
      (first | go_end0 | refine bodyPost_ret (results_none rfl _ _ _) rfl ?_)
      exact rdone_put HB.out (Fr.refl _ _) 4 _ ⟨1, en, r, high, mode, banks, size⟩ rfl
  by_cases h3 : a < 24576
  · skip
    have hw : wr ⟨1, en, low, high, mode, banks, size⟩ a v = ⟨1, en, low, v % 4, mode, banks, size⟩ := by unfold wr; rw [if_neg (by simp only; omega), if_neg (by omega), if_neg (by omega), if_pos (by omega), if_pos rfl]
    obtain ⟨r, hr⟩ : ∃ r, v % 4 = r := ⟨_, rfl⟩
    have hr' : v.tmod 4 = r := by rw [tm _ _ hv0]; exact hr
    have hr0 : 0 ≤ r := by omega
    have hr1 : r < 4 := by omega
    rw [hw, hr]
    clear hw hr tm
    go_enter Try.func11, Try.ntmps11
    go_wp2
    (first | go_end0 | refine bodyPost_ret (results_none rfl _ _ _) rfl ?_)
    exact rdone_put (ref_put HB.out 5 _ ⟨1, en, low, v, mode, banks, size⟩ rfl) ((Fr.refl [q] w).setCell (by simp) _) 5 _ ⟨1, en, low, r, mode, banks, size⟩ rfl
  · skip
    have hw : wr ⟨1, en, low, high, mode, banks, size⟩ a v = ⟨1, en, low, high, v % 2, banks, size⟩ := by unfold wr; rw [if_neg (by simp only; omega), if_neg (by omega), if_neg (by omega), if_neg (by omega), if_pos rfl]
    obtain ⟨r, hr⟩ : ∃ r, v % 2 = r := ⟨_, rfl⟩
    have hr' : v.tmod 2 = r := by rw [tm _ _ hv0]; exact hr
    have hr0 : 0 ≤ r := by omega
    have hr1 : r < 2 := by omega
    rw [hw, hr]
    clear hw hr tm
    go_enter Try.func11, Try.ntmps11
    go_wp2
    (first | go_end0 | refine bodyPost_ret (results_none rfl _ _ _) rfl ?_)
    exact rdone_put HB.out (Fr.refl _ _) 6 _ ⟨1, en, low, high, r, banks, size⟩ rfl

set_option maxRecDepth 100000 in
set_option maxHeartbeats 4000000 in
theorem rwrite3 (w : World) (q : Nat) (S : St) (a v : Int) (h : RefAt w q S) (hO : Ok S) (hk : S.kd = 3) (ha0 : 0 ≤ a) (ha1 : a < 32768) (hv : byte v) :
    Calls Try.prog 11 #[.pointer (some ⟨q, 0, none⟩), .int .u16 a, .int .u8 v] w (RDone w q (wr S a v)) := by
  have _ := ha0
  have _ := ha1
  obtain ⟨hl0, hl1⟩ := hO.low
  obtain ⟨hv0, hv1⟩ := hv
  clear hO
  obtain ⟨kd, en, low, high, mode, banks, size⟩ := S
  simp only at hk
  subst hk
  have HB := Lib.hid h
  have hb : Blk w q 39 #[.int .i64 3, .int .i64 banks, .int .i64 size, .bool en, .int .i64 low, .int .i64 high, .int .i64 mode] := h
  obtain ⟨d0, d1, d2, d3, d4, d5, d6⟩ := blk7 hb
  simp only at hl0 hl1
  have f3 := hb.frozen 3
  have f4 := hb.frozen 4
  have f5 := hb.frozen 5
  have f6 := hb.frozen 6
  clear hb h
  have tm : ∀ x y : Int, 0 ≤ x → x.tmod y = x % y := fun x y hx => Int.tmod_eq_emod_of_nonneg hx
  by_cases h1 : a < 8192
  · skip
    have hw : wr ⟨3, en, low, high, mode, banks, size⟩ a v = ⟨3, v % 16 == 10, low, high, mode, banks, size⟩ := by unfold wr; rw [if_neg (by simp only; omega), if_pos (by omega)]
    obtain ⟨r, hr⟩ : ∃ r, v % 16 = r := ⟨_, rfl⟩
    have hr' : v.tmod 16 = r := by rw [tm _ _ hv0]; exact hr
    have hr0 : 0 ≤ r := by omega
    have hr1 : r < 16 := by omega
    rw [hw, hr]
    clear hw hr tm
    go_enter Try.func11, Try.ntmps11
    go_wp2
    (first | go_end0 | refine bodyPost_ret (results_none rfl _ _ _) rfl ?_)
    exact rdone_put HB.out (Fr.refl _ _) 3 _ ⟨3, r == 10, low, high, mode, banks, size⟩ rfl
  by_cases h2 : a < 16384
  · skip
    have hw : wr ⟨3, en, low, high, mode, banks, size⟩ a v = ⟨3, en, least (v % 128), high, mode, banks, size⟩ := by unfold wr; rw [if_neg (by simp only; omega), if_neg (by omega), if_pos (by omega), if_neg (by simp only; omega), if_pos rfl]
    obtain ⟨r, hr⟩ : ∃ r, v % 128 = r := ⟨_, rfl⟩
    have hr' : v.tmod 128 = r := by rw [tm _ _ hv0]; exact hr
    have hr0 : 0 ≤ r := by omega
    have hr1 : r < 128 := by omega
    rw [hw, hr]
    clear hw hr tm
    unfold least
    by_cases h0 : r = 0
    · subst h0
      rw [if_pos rfl]
      go_enter Try.func11, Try.ntmps11
      go_wp2
      (first | go_end0 | refine bodyPost_ret (results_none rfl _ _ _) rfl ?_)
      exact rdone_put (ref_put HB.out 4 _ ⟨3, en, 0, high, mode, banks, size⟩ rfl) ((Fr.refl [q] w).setCell (by simp) _) 4 _ ⟨3, en, 1, high, mode, banks, size⟩ rfl
    · rw [if_neg h0]
      have h0' : (r == 0) = false := by rw [beq_eq_false_iff_ne]; exact h0
      clear h0
      go_enter Try.func11, Try.ntmps11
      go_wp2
      (first | go_end0 | refine bodyPost_ret (results_none rfl _ _ _) rfl ?_)
      exact rdone_put HB.out (Fr.refl _ _) 4 _ ⟨3, en, r, high, mode, banks, size⟩ rfl
  by_cases h3 : a < 24576
  · skip
    have hw : wr ⟨3, en, low, high, mode, banks, size⟩ a v = ⟨3, en, low, v, mode, banks, size⟩ := by unfold wr; rw [if_neg (by simp only; omega), if_neg (by omega), if_neg (by omega), if_pos (by omega), if_neg (by simp only; omega), if_neg (by simp only; omega)]
    rw [hw]
    clear hw tm
    go_enter Try.func11, Try.ntmps11
    go_wp2
    (first | go_end0 | refine bodyPost_ret (results_none rfl _ _ _) rfl ?_)
    exact rdone_put HB.out (Fr.refl _ _) 5 _ ⟨3, en, low, v, mode, banks, size⟩ rfl
  · skip
    have hw : wr ⟨3, en, low, high, mode, banks, size⟩ a v = ⟨3, en, low, high, mode, banks, size⟩ := by unfold wr; rw [if_neg (by simp only; omega), if_neg (by omega), if_neg (by omega), if_neg (by omega), if_neg (by simp only; omega)]
    rw [hw]
    clear hw tm
    go_enter Try.func11, Try.ntmps11
    go_wp2
    (first | go_end0 | refine bodyPost_ret (results_none rfl _ _ _) rfl ?_)
    exact ⟨rfl, HB.out, Fr.refl _ _⟩

set_option maxRecDepth 100000 in
set_option maxHeartbeats 4000000 in
theorem rwrite5 (w : World) (q : Nat) (S : St) (a v : Int) (h : RefAt w q S) (hO : Ok S) (hk : S.kd = 5) (ha0 : 0 ≤ a) (ha1 : a < 32768) (hv : byte v) :
    Calls Try.prog 11 #[.pointer (some ⟨q, 0, none⟩), .int .u16 a, .int .u8 v] w (RDone w q (wr S a v)) := by
  have _ := ha0
  have _ := ha1
  obtain ⟨hl0, hl1⟩ := hO.low
  obtain ⟨hv0, hv1⟩ := hv
  clear hO
  obtain ⟨kd, en, low, high, mode, banks, size⟩ := S
  simp only at hk
  subst hk
  have HB := Lib.hid h
  have hb : Blk w q 39 #[.int .i64 5, .int .i64 banks, .int .i64 size, .bool en, .int .i64 low, .int .i64 high, .int .i64 mode] := h
  obtain ⟨d0, d1, d2, d3, d4, d5, d6⟩ := blk7 hb
  simp only at hl0 hl1
  have f3 := hb.frozen 3
  have f4 := hb.frozen 4
  have f5 := hb.frozen 5
  have f6 := hb.frozen 6
  clear hb h
  have tm : ∀ x y : Int, 0 ≤ x → x.tmod y = x % y := fun x y hx => Int.tmod_eq_emod_of_nonneg hx
  by_cases h1 : a < 8192
  · skip
    have hw : wr ⟨5, en, low, high, mode, banks, size⟩ a v = ⟨5, v % 16 == 10, low, high, mode, banks, size⟩ := by unfold wr; rw [if_neg (by simp only; omega), if_pos (by omega)]
    obtain ⟨r, hr⟩ : ∃ r, v % 16 = r := ⟨_, rfl⟩
    have hr' : v.tmod 16 = r := by rw [tm _ _ hv0]; exact hr
    have hr0 : 0 ≤ r := by omega
    have hr1 : r < 16 := by omega
    rw [hw, hr]
    clear hw hr tm
    go_enter Try.func11, Try.ntmps11
    go_wp2
    (first | go_end0 | refine bodyPost_ret (results_none rfl _ _ _) rfl ?_)
    exact rdone_put HB.out (Fr.refl _ _) 3 _ ⟨5, r == 10, low, high, mode, banks, size⟩ rfl
  by_cases h2 : a < 16384
  · skip
    by_cases h3 : a < 12288
    · skip
      have hw : wr ⟨5, en, low, high, mode, banks, size⟩ a v = ⟨5, en, low / 256 * 256 + v, high, mode, banks, size⟩ := by unfold wr; rw [if_neg (by simp only; omega), if_neg (by omega), if_pos (by omega), if_neg (by simp only; omega), if_neg (by simp only; omega), if_pos (by omega)]
      obtain ⟨X, hX⟩ : ∃ y, low / 256 = y := ⟨_, rfl⟩
      have hX' : low.tdiv 256 = X := by rw [Int.tdiv_eq_ediv_of_nonneg hl0]; exact hX
      obtain ⟨Y, hY⟩ : ∃ y, X * 256 = y := ⟨_, rfl⟩
      obtain ⟨Z, hZ⟩ : ∃ y, Y + v = y := ⟨_, rfl⟩
      rw [hw, hX, hY, hZ]
      have hX0 : 0 ≤ X := by omega
      have hX1 : X < 2 := by omega
      have hY1 : Y < 512 := by omega
      clear hw hX tm
      go_enter Try.func11, Try.ntmps11
      go_wp2
      (first | go_end0 | refine bodyPost_ret (results_none rfl _ _ _) rfl ?_)
      exact rdone_put HB.out (Fr.refl _ _) 4 _ ⟨5, en, Z, high, mode, banks, size⟩ rfl
    · skip
      have hw : wr ⟨5, en, low, high, mode, banks, size⟩ a v = ⟨5, en, low % 256 + v % 2 * 256, high, mode, banks, size⟩ := by unfold wr; rw [if_neg (by simp only; omega), if_neg (by omega), if_pos (by omega), if_neg (by simp only; omega), if_neg (by simp only; omega), if_neg (by omega)]
      obtain ⟨r, hr⟩ : ∃ r, v % 2 = r := ⟨_, rfl⟩
      have hr' : v.tmod 2 = r := by rw [tm _ _ hv0]; exact hr
      have hr0 : 0 ≤ r := by omega
      have hr1 : r < 2 := by omega
      obtain ⟨X, hX⟩ : ∃ y, low % 256 = y := ⟨_, rfl⟩
      have hX' : low.tmod 256 = X := by rw [tm _ _ hl0]; exact hX
      obtain ⟨Y, hY⟩ : ∃ y, r * 256 = y := ⟨_, rfl⟩
      obtain ⟨Z, hZ⟩ : ∃ y, X + Y = y := ⟨_, rfl⟩
      rw [hw, hX, hr, hY, hZ]
      have hX0 : 0 ≤ X := by omega
      have hX1 : X < 256 := by omega
      have hY0 : 0 ≤ Y := by omega
      have hY1 : Y < 512 := by omega
      clear hw hX hr tm
      go_enter Try.func11, Try.ntmps11
      go_wp2
      (first | go_end0 | refine bodyPost_ret (results_none rfl _ _ _) rfl ?_)
      exact rdone_put HB.out (Fr.refl _ _) 4 _ ⟨5, en, Z, high, mode, banks, size⟩ rfl
  by_cases h3 : a < 24576
  · skip
    have hw : wr ⟨5, en, low, high, mode, banks, size⟩ a v = ⟨5, en, low, v % 16, mode, banks, size⟩ := by unfold wr; rw [if_neg (by simp only; omega), if_neg (by omega), if_neg (by omega), if_pos (by omega), if_neg (by simp only; omega), if_pos rfl]
    obtain ⟨r, hr⟩ : ∃ r, v % 16 = r := ⟨_, rfl⟩
    have hr' : v.tmod 16 = r := by rw [tm _ _ hv0]; exact hr
    have hr0 : 0 ≤ r := by omega
    have hr1 : r < 16 := by omega
    rw [hw, hr]
    clear hw hr tm
    go_enter Try.func11, Try.ntmps11
    go_wp2
    (first | go_end0 | refine bodyPost_ret (results_none rfl _ _ _) rfl ?_)
    exact rdone_put (ref_put HB.out 5 _ ⟨5, en, low, v, mode, banks, size⟩ rfl) ((Fr.refl [q] w).setCell (by simp) _) 5 _ ⟨5, en, low, r, mode, banks, size⟩ rfl
  · skip
    have hw : wr ⟨5, en, low, high, mode, banks, size⟩ a v = ⟨5, en, low, high, mode, banks, size⟩ := by unfold wr; rw [if_neg (by simp only; omega), if_neg (by omega), if_neg (by omega), if_neg (by omega), if_neg (by simp only; omega)]
    rw [hw]
    clear hw tm
    go_enter Try.func11, Try.ntmps11
    go_wp2
    (first | go_end0 | refine bodyPost_ret (results_none rfl _ _ _) rfl ?_)
    exact ⟨rfl, HB.out, Fr.refl _ _⟩

set_option maxRecDepth 100000 in
set_option maxHeartbeats 4000000 in
theorem rwrite_any (w : World) (q : Nat) (S : St) (a v : Int) (h : RefAt w q S) (hO : Ok S) (ha0 : 0 ≤ a) (ha1 : a < 65536) (hv : byte v) :
    Calls Try.prog 11 #[.pointer (some ⟨q, 0, none⟩), .int .u16 a, .int .u8 v] w (RDone w q (wr S a v)) := by
  by_cases hh : 32768 ≤ a
  · have hw : wr S a v = S := by unfold wr; rw [if_pos (.inr hh)]
    rw [hw]
    have d0 : w.cell? ⟨q, 0, none⟩ = some (.int .i64 S.kd) := Blk.cell h 0
    have HH := Lib.hid h
    have hkd := hO.kd
    clear hw h hO
    generalize hg : S.kd = k at *
    clear hg
    obtain rfl | rfl | rfl | rfl := hkd
    all_goals
      go_enter Try.func11, Try.ntmps11
      go_wp2
      (first | go_end0 | refine bodyPost_ret (results_none rfl _ _ _) rfl ?_)
      exact ⟨rfl, HH.out, Fr.refl _ _⟩
  · have hlt : a < 32768 := by omega
    rcases hO.kd with hk | hk | hk | hk
    · exact rwrite0 w q S a v h hO hk ha0 hlt hv
    · exact rwrite1 w q S a v h hO hk ha0 hlt hv
    · exact rwrite3 w q S a v h hO hk ha0 hlt hv
    · exact rwrite5 w q S a v h hO hk ha0 hlt hv

end Gm
end Go.Proofs.Ytglnpgdigdfjiaa
