/-
  What a maker has told makes the bytes, is small, and has no two alike next to each other: in mathematics, of no program.
-/
import Derived.Test.YtokfcknfkhlmfaaBmMath
namespace Go.Proofs.Ytokfcknfkhlmfaa
namespace Bm
open Bps (Ok actB headN tailB total acts act1 runs moved acts_append acts_snoc total_append turnN)

/-- No two FromSource, nor two FromPatch, stand next to each other. -/
def NT : List Bps.Act → Prop
  | x :: y :: l => ¬ (y.kind < 2 ∧ x.kind = y.kind) ∧ NT (y :: l)
  | _ => True
theorem NT_snoc (l : List Bps.Act) (y : Bps.Act) (h : NT l) (hl : ∀ x, l.getLast? = some x → ¬ (y.kind < 2 ∧ x.kind = y.kind)) : NT (l ++ [y]) := by
  induction l with
  | nil => trivial
  | cons x l ih =>
    cases l with
    | nil => exact ⟨hl x rfl, trivial⟩
    | cons z l => exact ⟨h.1, ih h.2 (fun w hw => hl w (by simpa [List.getLast?_cons_cons] using hw))⟩
theorem NT_get {l : List Bps.Act} (h : NT l) (i : Nat) (x y : Bps.Act) (hx : l[i]? = some x) (hy : l[i + 1]? = some y) : ¬ (y.kind < 2 ∧ x.kind = y.kind) := by
  induction l generalizing i with
  | nil => simp at hx
  | cons z l ih =>
    cases l with
    | nil => simp at hy
    | cons w l =>
      cases i with
      | zero =>
        simp at hx hy
        subst hx hy
        exact h.1
      | succ i => exact ih h.2 i (by simpa using hx) (by simpa using hy)

theorem put_small (n k : Nat) (hn : 1 ≤ n) (hk : k < 4) (hn2 : n ≤ 16777216) : (Var.putV ((n - 1) * 4 + k)).length ≤ n := by
  by_cases h : n ≤ 32
  · rw [Var.putV_last (by omega)]
    simpa using hn
  · have := Var.putV_le5 (u := (n - 1) * 4 + k) (by unfold Var.most; omega)
    omega

/-- What holds as long as a maker goes on. -/
structure Inv (a b : List UInt8) (σ : S8) : Prop where
  le1 : σ.told ≤ σ.u
  le2 : σ.u ≤ b.length
  hs : σ.s ≤ a.length
  ht : σ.t ≤ b.length
  acts : acts a σ.L ⟨[], 0, 0⟩ = some ⟨b.take σ.told, σ.s, σ.t⟩
  ok : ∀ x ∈ σ.L, Ok x
  tot : total σ.L = σ.told
  size : (σ.L.flatMap actB).length ≤ 2 * σ.told
  cnt : σ.L.length ≤ σ.told
  nt : NT σ.L
  last : ∀ x, σ.L.getLast? = some x → x.kind ≠ 1 ∧ (x.kind = 0 → fsN a b σ.told = 0)

theorem left_ok (b : List UInt8) (told u : Nat) (h : told < u) (hu : u ≤ b.length) (hb : b.length ≤ 16777216) : Ok (leftA b told u) ∧ (actB (leftA b told u)).length ≤ 2 * (u - told) := by
  have hd : ((b.drop told).take (u - told)).length = u - told := by rw [List.length_take, List.length_drop]; omega
  refine ⟨⟨by simp [leftA], by simp only [leftA]; omega, by simp only [leftA]; omega, fun _ => hd, fun h => absurd rfl h, fun _ => rfl, by simp [leftA], by simp [leftA]⟩, ?_⟩
  unfold actB
  rw [List.length_append, Bps.tail1 _ rfl]
  show (Var.putV ((u - told - 1) * 4 + 1)).length + ((b.drop told).take (u - told)).length ≤ _
  have := put_small (u - told) 1 (by omega) (by omega) (by omega)
  omega
theorem left_act (a b : List UInt8) (told u s t : Nat) (h : told ≤ u) (hu : u ≤ b.length) : acts a (leftL b told u) ⟨b.take told, s, t⟩ = some ⟨b.take u, s, t⟩ := by
  unfold leftL
  by_cases hlt : told < u
  · rw [if_pos hlt]
    have hd : ((b.drop told).take (u - told)).length = u - told := by rw [List.length_take, List.length_drop]; omega
    show (act1 a (leftA b told u) ⟨b.take told, s, t⟩).bind _ = _
    have : act1 a (leftA b told u) ⟨b.take told, s, t⟩ = some ⟨b.take u, s, t⟩ := by
      show runs 1 a ((b.drop told).take (u - told)) ⟨b.take told, s, t⟩ (u - told) = _
      rw [Bps.runs1 _ _ _ _ (by omega)]
      simp only [List.take_take, Nat.min_self, take_more]
      rw [show told + (u - told) = u by omega]
    rw [this]
    rfl
  · rw [if_neg hlt, show told = u by omega]
    rfl

/-- All of it, and what is left. -/
structure Fin (a b : List UInt8) (u s t : Nat) (L : List Bps.Act) : Prop where
  acts : acts a L ⟨[], 0, 0⟩ = some ⟨b.take u, s, t⟩
  ok : ∀ x ∈ L, Ok x
  tot : total L = u
  size : (L.flatMap actB).length ≤ 2 * u
  cnt : L.length ≤ u
  nt : NT L

theorem Inv.left {a b : List UInt8} {σ : S8} (h : Inv a b σ) (hb : b.length ≤ 16777216) : Fin a b σ.u σ.s σ.t (σ.L ++ leftL b σ.told σ.u) := by
  have h1 := h.le1
  have h2 := h.le2
  refine ⟨by rw [acts_append, h.acts]; exact left_act a b _ _ _ _ h1 h2, ?_, ?_, ?_, ?_, ?_⟩
  · intro x hx
    rcases List.mem_append.1 hx with hx | hx
    · exact h.ok x hx
    · unfold leftL at hx
      split at hx
      · rename_i hlt
        simp at hx
        subst hx
        exact (left_ok b _ _ hlt h2 hb).1
      · simp at hx
  · rw [total_append, h.tot]
    unfold leftL
    split
    · simp only [total, leftA]; omega
    · simp only [total]; omega
  · rw [List.flatMap_append, List.length_append]
    have := h.size
    unfold leftL
    split
    · rename_i hlt
      have := (left_ok b _ _ hlt h2 hb).2
      simp only [List.flatMap_cons, List.flatMap_nil, List.append_nil]
      omega
    · simp only [List.flatMap_nil, List.length_nil]; omega
  · rw [List.length_append]
    have := h.cnt
    unfold leftL
    split
    · simp; omega
    · simp; omega
  · unfold leftL
    split
    · refine NT_snoc _ _ h.nt fun x hx => ?_
      rintro ⟨_, e⟩
      exact (h.last x hx).1 e
    · rw [List.append_nil]; exact h.nt

theorem actZ_size (z : Nat × Nat × Int) (h1 : z.1 ≠ 1) : (actB (actZ z)).length = sz z.1 z.2.1 z.2.2 := by
  unfold actB sz
  rw [List.length_append]
  show (Var.putV ((z.2.1 - 1) * 4 + z.1)).length + _ = _
  congr 1
  unfold tailB
  show (if z.1 = 1 then _ else if 2 ≤ z.1 then Var.putV (turnN z.2.2) else []).length = _
  rw [if_neg h1]
  split <;> rfl

theorem step_inv {a b : List UInt8} {σ σ' : S8} (ha : a.length ≤ 16777216) (hb : b.length ≤ 16777216) (h : Inv a b σ) (hst : Step a b σ σ') : Inv a b σ' := by
  cases hst with
  | skip z hu hz hp => exact ⟨by have := h.le1; simp only; omega, by simp only; omega, h.hs, h.ht, h.acts, h.ok, h.tot, h.size, h.cnt, h.nt, h.last⟩
  | take z s' t' hu hz hn hp hs ht =>
    have hf := h.left hb
    obtain ⟨e1, e2, e3, e4⟩ := act_best hu hz hn hs ht
    have hk := best_ok hz hn
    have hk1 : z.1 ≠ 1 ∧ z.1 < 4 := by
      rcases hk with ⟨h1, _⟩ | ⟨p, h1, _⟩ | ⟨p, h1, _⟩ <;> omega
    have hbs := h.hs
    have hbt := h.ht
    have hmv : -1073741824 ≤ z.2.2 ∧ z.2.2 ≤ 1073741824 ∧ (z.1 < 2 → z.2.2 = 0) := by
      rcases hk with ⟨h1, h2, _⟩ | ⟨p, h1, h2, h3, _⟩ | ⟨p, h1, h2, h3, h4, _⟩ <;> refine ⟨?_, ?_, ?_⟩ <;> omega
    have hgn : (sz z.1 z.2.1 z.2.2 : Int) ≤ z.2.1 := by
      unfold pay at hp
      have hg : gn z.1 z.2.1 z.2.2 = (z.2.1 : Int) - (sz z.1 z.2.1 z.2.2 : Int) := by unfold gn; rw [if_neg (by omega)]
      split at hp
      · have := of_decide_eq_true hp; omega
      · have := of_decide_eq_true hp; omega
    have hokz : Ok (actZ z) := ⟨hk1.2, hn, by simp only [actZ]; omega, fun e => absurd e hk1.1, fun _ => rfl, hmv.2.2, hmv.1, hmv.2.1⟩
    refine ⟨Nat.le_refl _, e2, ?_, ?_, ?_, ?_, ?_, ?_, ?_, ?_, ?_⟩
    · simp only
      by_cases hk2 : z.1 = 2
      · exact e3 hk2
      · rw [if_neg hk2] at hs; omega
    · simp only
      by_cases hk2 : z.1 = 3
      · exact e4 hk2
      · rw [if_neg hk2] at ht; omega
    · simp only
      rw [acts_snoc, hf.acts]
      exact e1
    · intro x hx
      rcases List.mem_append.1 hx with hx | hx
      · exact hf.ok x hx
      · simp at hx; subst hx; exact hokz
    · simp only
      rw [total_append, hf.tot]
      simp [total, actZ]
    · simp only
      rw [List.flatMap_append, List.length_append]
      have := hf.size
      have := actZ_size z hk1.1
      simp only [List.flatMap_cons, List.flatMap_nil, List.append_nil]
      omega
    · simp only
      rw [List.length_append]
      have := hf.cnt
      simp only [List.length_cons, List.length_nil]
      omega
    · simp only
      refine NT_snoc _ _ hf.nt fun x hx => ?_
      rintro ⟨h1, h2⟩
      have hz0 : z.1 = 0 := by simp only [actZ] at h1; omega
      have hx0 : x.kind = 0 := h2.trans hz0
      by_cases hlt : σ.told < σ.u
      · unfold leftL at hx
        rw [if_pos hlt] at hx
        simp at hx
        rw [← hx] at hx0
        simp [leftA] at hx0
      · unfold leftL at hx
        rw [if_neg hlt, List.append_nil] at hx
        have h3 := (h.last x hx).2 hx0
        have h4 := h.le1
        have h5 : σ.told = σ.u := by omega
        rw [h5] at h3
        rcases hk with ⟨_, _, h6⟩ | ⟨p, h6, _⟩ | ⟨p, h6, _⟩ <;> omega
    · intro x hx
      simp at hx
      subst hx
      refine ⟨hk1.1, fun h0 => ?_⟩
      rcases hk with ⟨_, _, h6⟩ | ⟨p, h6, _⟩ | ⟨p, h6, _⟩
      · simp only
        rw [h6]
        exact fsN_end a b σ.u (by omega)
      · simp only [actZ] at h0; omega
      · simp only [actZ] at h0; omega

theorem runs_inv {a b : List UInt8} {σ : S8} (ha : a.length ≤ 16777216) (hb : b.length ≤ 16777216) (h : Runs a b σ) : Inv a b σ := by
  induction h with
  | start => exact ⟨Nat.le_refl _, Nat.zero_le _, Nat.zero_le _, Nat.zero_le _, by simp [acts], by simp, rfl, by simp, Nat.le_refl _, trivial, by simp⟩
  | step σ σ' _ h' ih => exact step_inv ha hb ih h'

end Bm
end Go.Proofs.Ytokfcknfkhlmfaa
