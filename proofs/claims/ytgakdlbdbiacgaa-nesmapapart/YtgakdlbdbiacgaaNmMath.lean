/-
  The mappers' state and what it tells, in plain whole numbers: of no program. No condition.
-/
namespace Go.Proofs.Ytgakdlbdbiacgaa
namespace Nm

/-- All registers of all mappers. -/
structure St where
  pg : Int
  un : Int
  mp : Int
  mir : Int
  c : Int
  l : Int
  h : Int
  p : Int
  bits : Int
  cnt : Int
  n : Int
  sel : Int
  lat : Int
  ctr : Int
  r0 : Int
  r1 : Int
  r2 : Int
  r3 : Int
  r4 : Int
  r5 : Int
  r6 : Int
  r7 : Int
  ld : Bool
  al : Bool
  ask : Bool

def byte (x : Int) : Prop := 0 ≤ x ∧ x < 256
def five (x : Int) : Prop := 0 ≤ x ∧ x < 32

/-- 2 to the number of bits that are there. -/
def two (k : Int) : Int := if k = 0 then 1 else if k = 1 then 2 else if k = 2 then 4 else if k = 3 then 8 else 16

structure Ok (S : St) : Prop where
  mp : 0 ≤ S.mp ∧ S.mp ≤ 4
  pg : 2 ≤ S.pg ∧ S.pg ≤ 32
  un : 8 ≤ S.un ∧ S.un ≤ 128
  mir : 0 ≤ S.mir ∧ S.mir ≤ 1
  c : five S.c
  l : five S.l
  h : five S.h
  p : five S.p
  cnt : 0 ≤ S.cnt ∧ S.cnt < 5
  bits : 0 ≤ S.bits ∧ S.bits < two S.cnt
  n : byte S.n
  sel : byte S.sel
  lat : byte S.lat
  ctr : byte S.ctr
  r0 : byte S.r0
  r1 : byte S.r1
  r2 : byte S.r2
  r3 : byte S.r3
  r4 : byte S.r4
  r5 : byte S.r5
  r6 : byte S.r6
  r7 : byte S.r7
  ld : S.ld = true → S.ctr = 0
  ask : S.mp ≠ 4 → S.ask = false

def orC (c : Int) : Int := c + (if c / 4 % 2 = 0 then 4 else 0) + (if c / 8 % 2 = 0 then 8 else 0)

def serW (S : St) (a v : Int) : St :=
  if 128 ≤ v then { S with bits := 0, cnt := 0, c := orC S.c }
  else if S.cnt < 4 then { S with bits := S.bits + v % 2 * two S.cnt, cnt := S.cnt + 1 }
  else if a < 40960 then { S with c := S.bits + v % 2 * 16, bits := 0, cnt := 0 }
  else if a < 49152 then { S with l := S.bits + v % 2 * 16, bits := 0, cnt := 0 }
  else if a < 57344 then { S with h := S.bits + v % 2 * 16, bits := 0, cnt := 0 }
  else { S with p := S.bits + v % 2 * 16, bits := 0, cnt := 0 }

def setR (S : St) (i v : Int) : St :=
  if i = 0 then { S with r0 := v } else if i = 1 then { S with r1 := v } else if i = 2 then { S with r2 := v } else if i = 3 then { S with r3 := v }
  else if i = 4 then { S with r4 := v } else if i = 5 then { S with r5 := v } else if i = 6 then { S with r6 := v } else { S with r7 := v }
def getR (S : St) (i : Int) : Int :=
  if i = 0 then S.r0 else if i = 1 then S.r1 else if i = 2 then S.r2 else if i = 3 then S.r3 else if i = 4 then S.r4 else if i = 5 then S.r5 else if i = 6 then S.r6 else S.r7

def cntW (S : St) (a v : Int) : St :=
  if a < 40960 then (if a % 2 = 0 then { S with sel := v } else setR S (S.sel % 8) v)
  else if a < 49152 then (if a % 2 = 0 then { S with mir := 1 - v % 2 } else S)
  else if a < 57344 then (if a % 2 = 0 then { S with lat := v } else { S with ctr := 0, ld := true })
  else if a % 2 = 0 then { S with al := false, ask := false } else { S with al := true }

def wr (S : St) (a v : Int) : St :=
  if a < 32768 then S
  else if S.mp = 1 then serW S a v
  else if S.mp = 2 ∨ S.mp = 3 then { S with n := v }
  else if S.mp = 4 then cntW S a v
  else S

def nextC (S : St) : Int := if S.ctr = 0 then S.lat else S.ctr - 1
def clk (S : St) : St :=
  if S.mp = 4 then { S with ctr := nextC S, ld := false, ask := S.ask || (decide (nextC S = 0) && S.al) } else S

/-- Which page a span has, before it is counted round. -/
def raw (S : St) (s : Int) : Int :=
  if S.mp = 1 then
    (if S.c / 4 % 4 < 2 then S.p % 16 / 2 * 4 + s
     else if S.c / 4 % 4 = 2 then (if s < 2 then s else S.p % 16 * 2 + s - 2)
     else if s < 2 then S.p % 16 * 2 + s else S.pg - 4 + s)
  else if S.mp = 2 then (if s < 2 then S.n * 2 + s else S.pg - 4 + s)
  else if S.mp = 4 then
    (if s = 3 then S.pg - 1 else if s = 1 then S.r7 else if (s = 0 ∧ S.sel / 64 % 2 = 0) ∨ (s = 2 ∧ S.sel / 64 % 2 = 1) then S.r6 else S.pg - 2)
  else s

def unit (S : St) (s : Int) : Int :=
  if S.mp = 1 then (if S.c / 16 % 2 = 0 then S.l / 2 * 8 + s else if s < 4 then S.l * 4 + s else S.h * 4 + s - 4)
  else if S.mp = 3 then S.n * 8 + s
  else if S.mp = 4 then
    (if (if S.sel / 128 % 2 = 1 then (s + 4) % 8 else s) < 4 then getR S ((if S.sel / 128 % 2 = 1 then (s + 4) % 8 else s) / 2) / 2 * 2 + (if S.sel / 128 % 2 = 1 then (s + 4) % 8 else s) % 2
     else getR S ((if S.sel / 128 % 2 = 1 then (s + 4) % 8 else s) - 2))
  else s

def pageOf (S : St) (a : Int) : Int := if a < 32768 then -1 else raw S (a / 8192 - 4) % S.pg
def prgOf (S : St) (a : Int) : Int := if a < 32768 then -1 else pageOf S a * 8192 + a % 8192
def chrOf (S : St) (a : Int) : Int := unit S (a / 1024 % 8) % S.un * 1024 + a % 1024
def mirOf (S : St) : Int := if S.mp = 1 then (if S.c % 4 < 2 then 2 + S.c % 4 else 3 - S.c % 4) else S.mir

/-- The same as the program counts it: the last pages from below 0. -/
def rawP (S : St) (s : Int) : Int :=
  if S.mp = 1 then
    (if S.c / 4 % 4 < 2 then S.p % 16 / 2 * 4 + s
     else if S.c / 4 % 4 = 2 then (if s < 2 then s else S.p % 16 * 2 + s - 2)
     else if s < 2 then S.p % 16 * 2 + s else s - 4)
  else if S.mp = 2 then (if s < 2 then S.n * 2 + s else s - 4)
  else if S.mp = 4 then
    (if s = 3 then -1 else if s = 1 then S.r7 else if (s = 0 ∧ S.sel / 64 % 2 = 0) ∨ (s = 2 ∧ S.sel / 64 % 2 = 1) then S.r6 else -2)
  else s
theorem off_page (S : St) (x y : Int) (h : y = x + S.pg) : x % S.pg = y % S.pg := by rw [h, Int.add_emod_right]
theorem rawP_raw (S : St) (s : Int) : rawP S s % S.pg = raw S s % S.pg := by
  unfold rawP raw
  by_cases h1 : S.mp = 1
  · simp only [if_pos h1]
    split
    · rfl
    split
    · rfl
    split
    · rfl
    exact off_page S _ _ (by omega)
  simp only [if_neg h1]
  by_cases h2 : S.mp = 2
  · simp only [if_pos h2]
    split
    · rfl
    exact off_page S _ _ (by omega)
  simp only [if_neg h2]
  by_cases h4 : S.mp = 4
  · simp only [if_pos h4]
    split
    · exact off_page S _ _ (by omega)
    split
    · rfl
    split
    · rfl
    exact off_page S _ _ (by omega)
  simp only [if_neg h4]
theorem rawP4_3 (S : St) (hm : S.mp = 4) : rawP S 3 = -1 := by unfold rawP; simp [hm]
theorem rawP4_1 (S : St) (hm : S.mp = 4) : rawP S 1 = S.r7 := by unfold rawP; simp [hm]
theorem rawP4_00 (S : St) (hm : S.mp = 4) (h : S.sel / 64 % 2 = 0) : rawP S 0 = S.r6 := by unfold rawP; simp [hm, h]
theorem rawP4_01 (S : St) (hm : S.mp = 4) (h : S.sel / 64 % 2 = 1) : rawP S 0 = -2 := by unfold rawP; simp [hm, h]
theorem rawP4_20 (S : St) (hm : S.mp = 4) (h : S.sel / 64 % 2 = 0) : rawP S 2 = -2 := by unfold rawP; simp [hm, h]
theorem rawP4_21 (S : St) (hm : S.mp = 4) (h : S.sel / 64 % 2 = 1) : rawP S 2 = S.r6 := by unfold rawP; simp [hm, h]
theorem raw4_3 (S : St) (hm : S.mp = 4) : raw S 3 = S.pg - 1 := by unfold raw; simp [hm]
theorem raw4_1 (S : St) (hm : S.mp = 4) : raw S 1 = S.r7 := by unfold raw; simp [hm]
theorem raw4_00 (S : St) (hm : S.mp = 4) (h : S.sel / 64 % 2 = 0) : raw S 0 = S.r6 := by unfold raw; simp [hm, h]
theorem raw4_01 (S : St) (hm : S.mp = 4) (h : S.sel / 64 % 2 = 1) : raw S 0 = S.pg - 2 := by unfold raw; simp [hm, h]
theorem raw4_20 (S : St) (hm : S.mp = 4) (h : S.sel / 64 % 2 = 0) : raw S 2 = S.pg - 2 := by unfold raw; simp [hm, h]
theorem raw4_21 (S : St) (hm : S.mp = 4) (h : S.sel / 64 % 2 = 1) : raw S 2 = S.r6 := by unfold raw; simp [hm, h]

theorem two_pos (k : Int) : 1 ≤ two k ∧ two k ≤ 16 := by
  unfold two
  repeat' split
  all_goals omega
theorem two_next (k : Int) (h0 : 0 ≤ k) (h1 : k < 4) : two (k + 1) = 2 * two k := by
  obtain rfl | rfl | rfl | rfl : k = 0 ∨ k = 1 ∨ k = 2 ∨ k = 3 := by omega
  all_goals rfl
theorem two_four : two 4 = 16 := rfl

theorem orC_five (c : Int) (h : five c) : five (orC c) := by
  unfold five orC at *
  repeat' split
  all_goals omega

theorem ok_serW (S : St) (a v : Int) (h : Ok S) : Ok (serW S a v) := by
  obtain ⟨mp, pg, un, mir, c, l, hh, p, cnt, bits, n, sel, lat, ctr, r0, r1, r2, r3, r4, r5, r6, r7, ld, ask⟩ := h
  have ht := two_pos S.cnt
  unfold serW
  split
  · exact ⟨mp, pg, un, mir, orC_five _ c, l, hh, p, by simp, by simp [two], n, sel, lat, ctr, r0, r1, r2, r3, r4, r5, r6, r7, ld, ask⟩
  split
  · rename_i h4
    refine ⟨mp, pg, un, mir, c, l, hh, p, by simp; omega, ?_, n, sel, lat, ctr, r0, r1, r2, r3, r4, r5, r6, r7, ld, ask⟩
    simp only
    rw [two_next _ cnt.1 h4]
    have hb : v % 2 = 0 ∨ v % 2 = 1 := by omega
    rcases hb with hb | hb <;> rw [hb] <;> omega
  have hb : S.bits < 16 := by have := bits.2; omega
  have h5 : five (S.bits + v % 2 * 16) := by unfold five; omega
  repeat' split
  · exact ⟨mp, pg, un, mir, h5, l, hh, p, by simp, by simp [two], n, sel, lat, ctr, r0, r1, r2, r3, r4, r5, r6, r7, ld, ask⟩
  · exact ⟨mp, pg, un, mir, c, h5, hh, p, by simp, by simp [two], n, sel, lat, ctr, r0, r1, r2, r3, r4, r5, r6, r7, ld, ask⟩
  · exact ⟨mp, pg, un, mir, c, l, h5, p, by simp, by simp [two], n, sel, lat, ctr, r0, r1, r2, r3, r4, r5, r6, r7, ld, ask⟩
  · exact ⟨mp, pg, un, mir, c, l, hh, h5, by simp, by simp [two], n, sel, lat, ctr, r0, r1, r2, r3, r4, r5, r6, r7, ld, ask⟩

theorem ok_setR (S : St) (i v : Int) (h : Ok S) (hv : byte v) : Ok (setR S i v) := by
  obtain ⟨mp, pg, un, mir, c, l, hh, p, cnt, bits, n, sel, lat, ctr, r0, r1, r2, r3, r4, r5, r6, r7, ld, ask⟩ := h
  unfold setR
  repeat' split
  · exact ⟨mp, pg, un, mir, c, l, hh, p, cnt, bits, n, sel, lat, ctr, hv, r1, r2, r3, r4, r5, r6, r7, ld, ask⟩
  · exact ⟨mp, pg, un, mir, c, l, hh, p, cnt, bits, n, sel, lat, ctr, r0, hv, r2, r3, r4, r5, r6, r7, ld, ask⟩
  · exact ⟨mp, pg, un, mir, c, l, hh, p, cnt, bits, n, sel, lat, ctr, r0, r1, hv, r3, r4, r5, r6, r7, ld, ask⟩
  · exact ⟨mp, pg, un, mir, c, l, hh, p, cnt, bits, n, sel, lat, ctr, r0, r1, r2, hv, r4, r5, r6, r7, ld, ask⟩
  · exact ⟨mp, pg, un, mir, c, l, hh, p, cnt, bits, n, sel, lat, ctr, r0, r1, r2, r3, hv, r5, r6, r7, ld, ask⟩
  · exact ⟨mp, pg, un, mir, c, l, hh, p, cnt, bits, n, sel, lat, ctr, r0, r1, r2, r3, r4, hv, r6, r7, ld, ask⟩
  · exact ⟨mp, pg, un, mir, c, l, hh, p, cnt, bits, n, sel, lat, ctr, r0, r1, r2, r3, r4, r5, hv, r7, ld, ask⟩
  · exact ⟨mp, pg, un, mir, c, l, hh, p, cnt, bits, n, sel, lat, ctr, r0, r1, r2, r3, r4, r5, r6, hv, ld, ask⟩

theorem ok_cntW (S : St) (a v : Int) (h : Ok S) (hv : byte v) : Ok (cntW S a v) := by
  have h' := h
  obtain ⟨mp, pg, un, mir, c, l, hh, p, cnt, bits, n, sel, lat, ctr, r0, r1, r2, r3, r4, r5, r6, r7, ld, ask⟩ := h
  unfold cntW
  repeat' split
  · exact ⟨mp, pg, un, mir, c, l, hh, p, cnt, bits, n, hv, lat, ctr, r0, r1, r2, r3, r4, r5, r6, r7, ld, ask⟩
  · exact ok_setR S _ v h' hv
  · exact ⟨mp, pg, un, by simp only; omega, c, l, hh, p, cnt, bits, n, sel, lat, ctr, r0, r1, r2, r3, r4, r5, r6, r7, ld, ask⟩
  · exact h'
  · exact ⟨mp, pg, un, mir, c, l, hh, p, cnt, bits, n, sel, hv, ctr, r0, r1, r2, r3, r4, r5, r6, r7, ld, ask⟩
  · exact ⟨mp, pg, un, mir, c, l, hh, p, cnt, bits, n, sel, lat, by simp [byte], r0, r1, r2, r3, r4, r5, r6, r7, fun _ => rfl, ask⟩
  · exact ⟨mp, pg, un, mir, c, l, hh, p, cnt, bits, n, sel, lat, ctr, r0, r1, r2, r3, r4, r5, r6, r7, ld, fun _ => rfl⟩
  · exact ⟨mp, pg, un, mir, c, l, hh, p, cnt, bits, n, sel, lat, ctr, r0, r1, r2, r3, r4, r5, r6, r7, ld, ask⟩

theorem ok_wr (S : St) (a v : Int) (h : Ok S) (hv : byte v) : Ok (wr S a v) := by
  have h' := h
  obtain ⟨mp, pg, un, mir, c, l, hh, p, cnt, bits, n, sel, lat, ctr, r0, r1, r2, r3, r4, r5, r6, r7, ld, ask⟩ := h
  unfold wr
  split
  · exact h'
  split
  · exact ok_serW S a v h'
  split
  · exact ⟨mp, pg, un, mir, c, l, hh, p, cnt, bits, hv, sel, lat, ctr, r0, r1, r2, r3, r4, r5, r6, r7, ld, ask⟩
  split
  · exact ok_cntW S a v h' hv
  · exact h'

theorem ok_clk (S : St) (h : Ok S) : Ok (clk S) := by
  have h' := h
  obtain ⟨mp, pg, un, mir, c, l, hh, p, cnt, bits, n, sel, lat, ctr, r0, r1, r2, r3, r4, r5, r6, r7, ld, ask⟩ := h
  unfold clk
  split
  · rename_i h4
    refine ⟨mp, pg, un, mir, c, l, hh, p, cnt, bits, n, sel, lat, ?_, r0, r1, r2, r3, r4, r5, r6, r7, by simp, fun hne => absurd h4 hne⟩
    simp only [nextC]
    unfold byte at *
    split <;> omega
  · exact h'

/-- The state of a map that was just made. -/
def new (mp mir pg un : Int) : St := ⟨pg, un, mp, mir, 12, 0, 0, 0, 0, 0, 0, 0, 0, 0, 0, 0, 0, 0, 0, 0, 0, 0, false, false, false⟩
theorem ok_new (mp mir pg un : Int) (h1 : 0 ≤ mp ∧ mp ≤ 4) (h2 : 0 ≤ mir ∧ mir ≤ 1) (h3 : 2 ≤ pg ∧ pg ≤ 32) (h4 : 8 ≤ un ∧ un ≤ 128) : Ok (new mp mir pg un) :=
  ⟨h1, h3, h4, h2, by simp [new, five], by simp [new, five], by simp [new, five], by simp [new, five], by simp [new], by simp [new, two], by simp [new, byte], by simp [new, byte], by simp [new, byte], by simp [new, byte],
    by simp [new, byte], by simp [new, byte], by simp [new, byte], by simp [new, byte], by simp [new, byte], by simp [new, byte], by simp [new, byte], by simp [new, byte], by simp [new], by simp [new]⟩

theorem pg_pos (S : St) (h : Ok S) : 0 < S.pg := by have := h.pg; omega
theorem un_pos (S : St) (h : Ok S) : 0 < S.un := by have := h.un; omega

/-- What a write, a Clock leaves of what tells how much there is. -/
def Like (S T : St) : Prop := T.pg = S.pg ∧ T.un = S.un ∧ T.mp = S.mp
theorem Like.refl (S : St) : Like S S := ⟨rfl, rfl, rfl⟩
theorem Like.trans {S T U : St} (h : Like S T) (k : Like T U) : Like S U := ⟨k.1.trans h.1, k.2.1.trans h.2.1, k.2.2.trans h.2.2⟩
theorem like_serW (S : St) (a v : Int) : Like S (serW S a v) := by
  unfold serW
  repeat' (first | exact ⟨rfl, rfl, rfl⟩ | split)
theorem like_setR (S : St) (i v : Int) : Like S (setR S i v) := by
  unfold setR
  repeat' (first | exact ⟨rfl, rfl, rfl⟩ | split)
theorem like_cntW (S : St) (a v : Int) : Like S (cntW S a v) := by
  unfold cntW
  repeat' (first | exact ⟨rfl, rfl, rfl⟩ | exact like_setR _ _ _ | split)
theorem like_wr (S : St) (a v : Int) : Like S (wr S a v) := by
  unfold wr
  repeat' (first | exact ⟨rfl, rfl, rfl⟩ | exact like_serW _ _ _ | exact like_cntW _ _ _ | split)
theorem like_clk (S : St) : Like S (clk S) := by
  unfold clk
  split
  all_goals exact ⟨rfl, rfl, rfl⟩

end Nm
end Go.Proofs.Ytgakdlbdbiacgaa
