/-
  A latch that is counted down: of no program. No condition.
-/
import Derived.Test.YtgakdlbdbiacgaaNmMath
namespace Go.Proofs.Ytgakdlbdbiacgaa
namespace Nm

/-- Mapper 4 with LATCH n, i Clocks behind a counter that was 0. -/
structure Kn (S : St) (n i : Int) (al : Bool) : Prop where
  ok : Ok S
  mp : S.mp = 4
  lat : S.lat = n
  al : S.al = al
  ask : S.ask = false
  ctr : S.ctr = if i = 0 then 0 else n - i + 1

theorem Kn.clock {S : St} {n i : Int} {al : Bool} (h : Kn S n i al) (h0 : 0 ≤ i) (h1 : i < n) : Kn (clk S) n (i + 1) al := by
  obtain ⟨ok, mp, lat, al', ask, ctr⟩ := h
  have hn : nextC S = n - i := by
    unfold nextC
    rw [ctr, lat]
    by_cases hi : i = 0
    · subst hi
      simp
    · rw [if_neg hi, if_neg (by omega)]
      omega
  refine ⟨ok_clk _ ok, (like_clk S).2.2.trans mp, ?_, ?_, ?_, ?_⟩
  · unfold clk; rw [if_pos mp]; exact lat
  · unfold clk; rw [if_pos mp]; exact al'
  · unfold clk
    rw [if_pos mp]
    simp only [hn, ask, Bool.false_or]
    rw [decide_eq_false (by omega)]
    rfl
  · unfold clk
    rw [if_pos mp]
    simp only [hn]
    rw [if_neg (by omega)]
    omega

/-- The last Clock. -/
theorem Kn.last {S : St} {n : Int} {al : Bool} (h : Kn S n n al) (h0 : 0 ≤ n) : Ok (clk S) ∧ (clk S).mp = 4 ∧ (clk S).lat = n ∧ (clk S).al = al ∧ (clk S).ask = al ∧ (clk S).ctr = 0 := by
  obtain ⟨ok, mp, lat, al', ask, ctr⟩ := h
  have hn : nextC S = 0 := by
    unfold nextC
    rw [ctr, lat]
    by_cases hi : n = 0
    · subst hi
      simp
    · rw [if_neg hi, if_neg (by omega)]
      omega
  refine ⟨ok_clk _ ok, (like_clk S).2.2.trans mp, ?_, ?_, ?_, ?_⟩
  · unfold clk; rw [if_pos mp]; exact lat
  · unfold clk; rw [if_pos mp]; exact al'
  · unfold clk
    rw [if_pos mp]
    simp only [hn, ask, al', Bool.false_or, decide_true, Bool.true_and]
  · unfold clk
    rw [if_pos mp]
    exact hn

theorem Kn.quiet {S : St} {n : Int} (h : Kn S n n false) (h0 : 0 ≤ n) : Kn (clk S) n 0 false := by
  obtain ⟨h1, h2, h3, h4, h5, h6⟩ := h.last h0
  exact ⟨h1, h2, h3, h4, h5, by rw [if_pos rfl]; exact h6⟩

theorem wr4 (S : St) (a v : Int) (hm : S.mp = 4) (ha : ¬ a < 32768) : wr S a v = cntW S a v := by
  unfold wr
  rw [if_neg ha, if_neg (by omega), if_neg (by omega), if_pos hm]
theorem wr_e000 (S : St) (hm : S.mp = 4) : wr S 57344 0 = { S with al := false, ask := false } := by
  rw [wr4 S _ _ hm (by decide)]
  rfl
theorem wr_e001 (S : St) (hm : S.mp = 4) : wr S 57345 0 = { S with al := true } := by
  rw [wr4 S _ _ hm (by decide)]
  rfl
theorem wr_c000 (S : St) (v : Int) (hm : S.mp = 4) : wr S 49152 v = { S with lat := v } := by
  rw [wr4 S _ _ hm (by decide)]
  rfl
theorem wr_c001 (S : St) (hm : S.mp = 4) : wr S 49153 0 = { S with ctr := 0, ld := true } := by
  rw [wr4 S _ _ hm (by decide)]
  rfl
theorem byte0 : byte 0 := ⟨by decide, by decide⟩

/-- Taken away, and allowed anew. -/
theorem Kn.again {S : St} {n : Int} (h : Kn S n n true) (h0 : 0 ≤ n) : (wr (clk S) 57344 0).ask = false ∧ Kn (wr (wr (clk S) 57344 0) 57345 0) n 0 true := by
  obtain ⟨h1, h2, h3, h4, h5, h6⟩ := h.last h0
  have k1 := ok_wr (clk S) 57344 0 h1 byte0
  have k2 := ok_wr _ 57345 0 k1 byte0
  have e1 := wr_e000 (clk S) h2
  have hm1 : (wr (clk S) 57344 0).mp = 4 := (like_wr _ _ _).2.2.trans h2
  have e2 := wr_e001 _ hm1
  refine ⟨by rw [e1], k2, (like_wr _ _ _).2.2.trans hm1, ?_, ?_, ?_, ?_⟩
  · rw [e2, e1]; exact h3
  · rw [e2]
  · rw [e2, e1]
  · rw [e2, e1, if_pos rfl]; exact h6

/-- What both maps are at first: LATCH n, the counter 0. -/
def set0 (S : St) (n : Int) : St := wr (wr S 49152 n) 49153 0
theorem set0_kn (S : St) (n : Int) (hO : Ok S) (hm : S.mp = 4) (hn : byte n) (ha : S.al = false) (hk : S.ask = false) : Kn (set0 S n) n 0 false ∧ Kn (wr (set0 S n) 57345 0) n 0 true := by
  have k1 := ok_wr S 49152 n hO hn
  have k2 := ok_wr _ 49153 0 k1 byte0
  have k3 := ok_wr _ 57345 0 k2 byte0
  have hm1 : (wr S 49152 n).mp = 4 := (like_wr _ _ _).2.2.trans hm
  have hm2 : (set0 S n).mp = 4 := (like_wr _ _ _).2.2.trans hm1
  have e1 := wr_c000 S n hm
  have e2 := wr_c001 _ hm1
  have e3 := wr_e001 _ hm2
  have f : set0 S n = { S with lat := n, ctr := 0, ld := true } := by unfold set0; rw [e2, e1]
  refine ⟨⟨k2, hm2, ?_, ?_, ?_, ?_⟩, ⟨k3, (like_wr _ _ _).2.2.trans hm2, ?_, ?_, ?_, ?_⟩⟩
  · rw [f]
  · rw [f]; exact ha
  · rw [f]; exact hk
  · rw [f, if_pos rfl]
  · rw [e3, f]
  · rw [e3]
  · rw [e3, f]; exact hk
  · rw [e3, f, if_pos rfl]

end Nm
end Go.Proofs.Ytgakdlbdbiacgaa
