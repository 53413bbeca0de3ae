/-
  Five writes make a number: of no program. No condition.
-/
import Derived.Test.YtgakdlbdbiacgaaNmMath
namespace Go.Proofs.Ytgakdlbdbiacgaa
namespace Nm

/-- Mapper 1, i bits of n gathered, in the mode that a beginning anew sets. -/
structure Ks (S : St) (n i : Int) : Prop where
  ok : Ok S
  mp : S.mp = 1
  c : S.c / 4 % 4 = 3
  cnt : S.cnt = i
  bits : S.bits = n % two i
/-- The number is laid. -/
structure Kl (S : St) (n : Int) : Prop where
  ok : Ok S
  mp : S.mp = 1
  c : S.c / 4 % 4 = 3
  p : S.p = n % 32

theorem orC_mode (c : Int) (h : five c) : orC c / 4 % 4 = 3 := by
  unfold orC five at *
  repeat' split
  all_goals omega
theorem wr1 (S : St) (a v : Int) (hm : S.mp = 1) (ha : ¬ a < 32768) : wr S a v = serW S a v := by
  unfold wr
  rw [if_neg ha, if_pos hm]

theorem Ks.begin {S : St} {n a v : Int} (hO : Ok S) (hm : S.mp = 1) (ha : ¬ a < 32768) (hv : 128 ≤ v) (hvb : byte v) : Ks (wr S a v) n 0 := by
  have e : wr S a v = { S with bits := 0, cnt := 0, c := orC S.c } := by rw [wr1 S a v hm ha]; unfold serW; rw [if_pos hv]
  refine ⟨ok_wr S a v hO hvb, (like_wr S a v).2.2.trans hm, ?_, ?_, ?_⟩
  · rw [e]; exact orC_mode _ hO.c
  · rw [e]
  · rw [e]
    change 0 = n % 1
    omega

theorem Ks.step {S : St} {n i a v : Int} (h : Ks S n i) (h0 : 0 ≤ i) (h1 : i < 4) (ha : ¬ a < 32768) (hv : v < 128) (hvb : byte v) (hb : v % 2 = n / two i % 2) (hn : 0 ≤ n) : Ks (wr S a v) n (i + 1) := by
  obtain ⟨hO, hm, hc, hcnt, hbits⟩ := h
  have e : wr S a v = { S with bits := S.bits + v % 2 * two S.cnt, cnt := S.cnt + 1 } := by rw [wr1 S a v hm ha]; unfold serW; rw [if_neg (by omega), if_pos (by omega)]
  refine ⟨ok_wr S a v hO hvb, (like_wr S a v).2.2.trans hm, ?_, ?_, ?_⟩
  · rw [e]; exact hc
  · rw [e]; simp only; rw [hcnt]
  · rw [e]
    simp only
    rw [hcnt, hbits, hb]
    obtain rfl | rfl | rfl | rfl : i = 0 ∨ i = 1 ∨ i = 2 ∨ i = 3 := by omega
    · change n % 1 + n / 1 % 2 * 1 = n % 2; omega
    · change n % 2 + n / 2 % 2 * 2 = n % 4; omega
    · change n % 4 + n / 4 % 2 * 4 = n % 8; omega
    · change n % 8 + n / 8 % 2 * 8 = n % 16; omega

theorem Ks.last {S : St} {n v : Int} (h : Ks S n 4) (hv : v < 128) (hvb : byte v) (hb : v % 2 = n / 16 % 2) (hn : 0 ≤ n) : Kl (wr S 57344 v) n := by
  obtain ⟨hO, hm, hc, hcnt, hbits⟩ := h
  have e : wr S 57344 v = { S with p := S.bits + v % 2 * 16, bits := 0, cnt := 0 } := by
    rw [wr1 S _ v hm (by decide)]
    unfold serW
    rw [if_neg (by omega), if_neg (by omega), if_neg (by decide), if_neg (by decide), if_neg (by decide)]
  refine ⟨ok_wr S _ v hO hvb, (like_wr S _ v).2.2.trans hm, ?_, ?_⟩
  · rw [e]; exact hc
  · rw [e]
    simp only
    rw [hbits, hb]
    change n % 16 + n / 16 % 2 * 16 = n % 32
    omega

theorem Kl.pages {S : St} {n : Int} (h : Kl S n) (hn : 0 ≤ n) : pageOf S 32768 = (n % 16 * 2) % S.pg ∧ pageOf S 40960 = (n % 16 * 2 + 1) % S.pg ∧ pageOf S 49152 = S.pg - 2 ∧ pageOf S 57344 = S.pg - 1 := by
  obtain ⟨hO, hm, hc, hp⟩ := h
  have hg := hO.pg
  have key : ∀ s : Int, raw S s = if s < 2 then n % 16 * 2 + s else S.pg - 4 + s := by
    intro s
    unfold raw
    rw [if_pos hm, if_neg (by omega), if_neg (by omega), hp, show n % 32 % 16 = n % 16 from by omega]
  refine ⟨?_, ?_, ?_, ?_⟩
  · unfold pageOf
    rw [if_neg (by decide), show (32768 : Int) / 8192 - 4 = 0 from by decide, key, if_pos (by decide), Int.add_zero]
  · unfold pageOf
    rw [if_neg (by decide), show (40960 : Int) / 8192 - 4 = 1 from by decide, key, if_pos (by decide)]
  · unfold pageOf
    rw [if_neg (by decide), show (49152 : Int) / 8192 - 4 = 2 from by decide, key, if_neg (by decide), Int.emod_eq_of_lt (by omega) (by omega)]
    omega
  · unfold pageOf
    rw [if_neg (by decide), show (57344 : Int) / 8192 - 4 = 3 from by decide, key, if_neg (by decide), Int.emod_eq_of_lt (by omega) (by omega)]
    omega

end Nm
end Go.Proofs.Ytgakdlbdbiacgaa
