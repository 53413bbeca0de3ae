/-
  Of some bytes of the input that follow each other, and of one byte again and again, little is told: in mathematics, of no program.
  What the law's alone tells: true just where no four bytes that follow each other stand at two places (that way round is all that is wanted). Condition: a text of up to 1000000000 bytes.
-/
import Derived.Test.YtokfcknfkhlmfaaBmInv
namespace Go.Proofs.Ytokfcknfkhlmfaa
namespace Bm
open Bps (Ok actB headN tailB total turnN)

theorem putV_le2 {u : Nat} (h : u ≤ 16511) : (Var.putV u).length ≤ 2 := by
  refine Nat.le_trans (Var.putV_mono u 16511 h) ?_
  rw [Var.putV_more (by decide), Var.putV_last (by decide)]
  simp
theorem putV_le3 {u : Nat} (h : u ≤ 2113663) : (Var.putV u).length ≤ 3 := by
  refine Nat.le_trans (Var.putV_mono u 2113663 h) ?_
  rw [Var.putV_more (by decide), Var.putV_more (by decide), Var.putV_last (by decide)]
  simp
theorem turnN_small (m : Int) (h0 : -8000 ≤ m) (h1 : m ≤ 8000) : turnN m ≤ 16511 := by
  unfold turnN Var.turnV
  split <;> omega
theorem sz_pos (k n : Nat) (mv : Int) : 1 ≤ sz k n mv := by
  have := Var.putV_pos ((n - 1) * 4 + k)
  unfold sz
  omega
theorem sz_le5 (k n : Nat) (mv : Int) (hk : k < 4) (hn : n ≤ 6000) (h0 : -8000 ≤ mv) (h1 : mv ≤ 8000) : sz k n mv ≤ 5 := by
  have e1 := putV_le3 (u := (n - 1) * 4 + k) (by omega)
  have e2 := putV_le2 (turnN_small mv h0 h1)
  unfold sz
  split <;> omega
theorem sz_le4 (k n : Nat) (mv : Int) (hk : k < 4) (hn : n ≤ 4000) (h0 : -8000 ≤ mv) (h1 : mv ≤ 8000) : sz k n mv ≤ 4 := by
  have e1 := putV_le2 (u := (n - 1) * 4 + k) (by omega)
  have e2 := putV_le2 (turnN_small mv h0 h1)
  unfold sz
  split <;> omega
theorem sz_le2 (k n : Nat) (mv : Int) (hk : k < 2) (hn : n ≤ 4000) : sz k n mv ≤ 2 := by
  have e1 := putV_le2 (u := (n - 1) * 4 + k) (by omega)
  unfold sz
  rw [if_neg (by omega)]
  omega
theorem sz_leN (k n : Nat) (mv : Int) (hk : k < 2) (hn1 : 1 ≤ n) (hn : n ≤ 4000) : sz k n mv ≤ n := by
  have e1 := put_small n k hn1 (by omega) (by omega)
  unfold sz
  rw [if_neg (by omega)]
  omega

/-- What an action gains. -/
def G (z : Nat × Nat × Int) : Int := gn z.1 z.2.1 z.2.2
theorem G_of (z : Nat × Nat × Int) (h : 0 < z.2.1) : G z = (z.2.1 : Int) - (sz z.1 z.2.1 z.2.2 : Int) := by
  unfold G gn
  rw [if_neg (by omega)]
theorem G_pos (z : Nat × Nat × Int) (h : 0 ≤ G z) : 0 < z.2.1 := by
  apply Nat.pos_of_ne_zero
  intro h0
  unfold G gn at h
  rw [if_pos h0] at h
  omega
theorem G_bet (x y : Nat × Nat × Int) : G x ≤ G (bet x y) ∧ G y ≤ G (bet x y) := by
  unfold bet
  split
  · rename_i h
    exact ⟨Int.le_of_lt h, Int.le_refl _⟩
  · rename_i h
    exact ⟨Int.le_refl _, Int.not_lt.1 h⟩

/-- How many bytes the actions have. -/
def SZ (L : List Bps.Act) : Nat := (L.flatMap actB).length
theorem SZ_append (L M : List Bps.Act) : SZ (L ++ M) = SZ L + SZ M := by simp [SZ]
theorem SZ_left (b : List UInt8) (told u : Nat) (hu : u ≤ b.length) (hb : b.length ≤ 16777216) : SZ (leftL b told u) ≤ 2 * (u - told) := by
  unfold leftL
  split
  · rename_i h
    have := (left_ok b told u h hu hb).2
    simpa [SZ] using this
  · simp [SZ]
theorem SZ_one (z : Nat × Nat × Int) (h : z.1 ≠ 1) : SZ [actZ z] = sz z.1 z.2.1 z.2.2 := by
  have := actZ_size z h
  simpa [SZ] using this

theorem best_kind {a b : List UInt8} {u s t : Nat} {z : Nat × Nat × Int} (hz : BestZ a b u s t z) (hn : 0 < z.2.1) : z.1 ≠ 1 ∧ z.1 < 4 := by
  rcases best_ok hz hn with ⟨h1, _⟩ | ⟨p, h1, _⟩ | ⟨p, h1, _⟩ <;> omega
theorem best_sz {a b : List UInt8} {u s t : Nat} {z : Nat × Nat × Int} (hz : BestZ a b u s t z) (hn : 0 < z.2.1) (ha : a.length ≤ 5200) (hb : b.length ≤ 5200) (hs : s ≤ a.length) (ht : t ≤ b.length) (hu : u ≤ b.length) : sz z.1 z.2.1 z.2.2 ≤ 5 := by
  have hk := best_kind hz hn
  rcases best_ok hz hn with ⟨h1, h2, h3⟩ | ⟨p, h1, h2, h3, h4, _⟩ | ⟨p, h1, h2, h3, h4, _⟩
  · have := fsN_le a b u
    exact sz_le5 _ _ _ hk.2 (by omega) (by omega) (by omega)
  · exact sz_le5 _ _ _ hk.2 (by omega) (by omega) (by omega)
  · exact sz_le5 _ _ _ hk.2 (by omega) (by omega) (by omega)

/-- A step tells not more than two bytes for each byte. -/
theorem step_size {a b : List UInt8} {σ σ' : S8} (hb : b.length ≤ 16777216) (h : Inv a b σ) (hst : Step a b σ σ') : σ.told ≤ σ'.told ∧ SZ σ'.L ≤ SZ σ.L + 2 * (σ'.told - σ.told) := by
  have h1 := h.le1
  cases hst with
  | skip z hu hz hp => exact ⟨Nat.le_refl _, by simp only; omega⟩
  | take z s' t' hu hz hn hp hs ht =>
    have hk := best_kind hz hn
    have hgn : (sz z.1 z.2.1 z.2.2 : Int) ≤ z.2.1 := by
      unfold pay at hp
      have hg : gn z.1 z.2.1 z.2.2 = (z.2.1 : Int) - (sz z.1 z.2.1 z.2.2 : Int) := by unfold gn; rw [if_neg (by omega)]
      split at hp
      · have := of_decide_eq_true hp; omega
      · have := of_decide_eq_true hp; omega
    have h2 := SZ_left b σ.told σ.u (by omega) hb
    have h3 := SZ_one z hk.1
    simp only [SZ_append]
    omega
/-- What is told by a step that takes. -/
theorem take_size {b : List UInt8} {L : List Bps.Act} {told u : Nat} {z : Nat × Nat × Int} (hb : b.length ≤ 16777216) (hu : u ≤ b.length) (hk : z.1 ≠ 1) : SZ (L ++ leftL b told u ++ [actZ z]) ≤ SZ L + 2 * (u - told) + sz z.1 z.2.1 z.2.2 := by
  have h2 := SZ_left b told u hu hb
  have h3 := SZ_one z hk
  simp only [SZ_append]
  omega

/-- What best tells gains as much as what is at the same place of a. -/
theorem best_fs {a b : List UInt8} {u s t : Nat} {z : Nat × Nat × Int} (hz : BestZ a b u s t z) : G (0, fsN a b u, 0) ≤ G z := by
  rcases hz with ⟨_, rfl⟩ | ⟨_, p, n, p', n', _, _, rfl⟩
  · exact Int.le_refl _
  · have h1 := (G_bet (0, fsN a b u, 0) (2, n, (p : Int) - (s : Int))).1
    have h2 := (G_bet (bet (0, fsN a b u, 0) (2, n, (p : Int) - (s : Int))) (3, n', (p' : Int) - (t : Int))).1
    omega

/-- If the first action gains nearly all, few bytes are told. -/
def Big (a b : List UInt8) : Prop := ∀ z, BestZ a b 0 0 0 z → 0 < z.2.1 ∧ 0 ≤ G z ∧ b.length ≤ z.2.1 + 4 ∧ sz z.1 z.2.1 z.2.2 ≤ 5
theorem big_runs {a b : List UInt8} {σ : S8} (ha : a.length ≤ 16777216) (hb : b.length ≤ 16777216) (hB : Big a b) (h : Runs a b σ) : (σ.u = 0 ∧ σ.told = 0 ∧ σ.s = 0 ∧ σ.t = 0 ∧ σ.L = []) ∨ SZ σ.L + 2 * (b.length - σ.told) ≤ 13 := by
  induction h with
  | start => exact .inl ⟨rfl, rfl, rfl, rfl, rfl⟩
  | step σ σ' hr h' ih =>
    have hI := runs_inv ha hb hr
    have hI' := runs_inv ha hb (Runs.step σ σ' hr h')
    right
    rcases ih with ⟨e1, e2, e3, e4, e5⟩ | ih
    · cases h' with
      | skip z hu hz hp =>
        rw [e1, e3, e4] at hz
        obtain ⟨b1, b2, b3, b4⟩ := hB z hz
        exfalso
        rcases hp with hp | hp
        · omega
        · rw [e1, e2] at hp
          unfold pay at hp
          rw [if_pos rfl] at hp
          exact absurd b2 (of_decide_eq_false hp)
      | take z s' t' hu hz hn hp hs ht =>
        rw [e1, e3, e4] at hz
        obtain ⟨b1, b2, b3, b4⟩ := hB z hz
        have h1 := take_size (L := σ.L) (told := σ.told) hb (Nat.le_of_lt hu) (best_kind hz hn).1
        have h2 : SZ σ.L = 0 := by rw [e5]; rfl
        simp only
        omega
    · obtain ⟨h1, h2⟩ := step_size hb hI h'
      have h3 := hI'.le1
      have h4 := hI'.le2
      omega

/-- All of b is at the same places of a. -/
theorem big_fs {a b : List UInt8} (hb : b.length ≤ 4000) (ha : a.length ≤ 4000) (hpos : 0 < b.length) (h : b.length ≤ fsN a b 0) : Big a b := by
  intro z hz
  have hle := fsN_le a b 0
  have h1 := best_fs hz
  have h2 := G_of (0, fsN a b 0, 0) (by simp only; omega)
  have h3 := sz_le2 0 (fsN a b 0) 0 (by omega) (by omega)
  have h4 := sz_leN 0 (fsN a b 0) 0 (by omega) (by omega) (by omega)
  simp only at h2
  have h5 : 0 ≤ G z := by omega
  have h6 := G_pos z h5
  have h7 := G_of z h6
  have h8 := sz_pos z.1 z.2.1 z.2.2
  exact ⟨h6, h5, by omega, best_sz hz h6 (by omega) (by omega) (Nat.zero_le _) (Nat.zero_le _) (Nat.zero_le _)⟩

/-- No four bytes that follow each other stand at two places. -/
def Lone (a : List UInt8) : Prop := ∀ i k : Nat, i < k → k + 4 ≤ a.length → key4 a i ≠ key4 a k

theorem fsN_self (a : List UInt8) (f L : Nat) (h : f + L ≤ a.length) : L ≤ alk (a.drop f) ((a.drop f).take L) := by
  refine alk_ge _ _ L (by rw [List.length_drop]; omega) (by rw [List.length_take, List.length_drop]; omega) ?_
  rw [List.take_take, Nat.min_self]

theorem big_same (a : List UInt8) (ha : a.length ≤ 4000) (h : 0 < a.length) : Big a a := by
  refine big_fs ha ha h ?_
  unfold fsN
  rw [if_pos h]
  exact alk_ge _ _ _ (by simp) (by simp) rfl

theorem big_part (a : List UInt8) (f L : Nat) (ha : a.length ≤ 4000) (hf : f + L ≤ a.length) (hL : 64 ≤ L) (hA : Lone a) : Big a ((a.drop f).take L) := by
  have hlen : ((a.drop f).take L).length = L := by rw [List.length_take, List.length_drop]; omega
  have hself := fsN_self a f L hf
  have hkey : key4 ((a.drop f).take L) 0 = key4 a f := by
    unfold key4
    rw [List.drop_zero, List.take_take, Nat.min_eq_left (by omega)]
  generalize hb : (a.drop f).take L = b at *
  by_cases h0 : f = 0
  · subst h0
    refine big_fs (by omega) ha (by omega) ?_
    unfold fsN
    rw [if_pos (by omega), hlen]
    exact hself
  · intro z hz
    have hfs : fsN a b 0 < 4 := by
      apply Nat.lt_of_not_le
      intro h4
      have hk := alk_take (a.drop 0) (b.drop 0) 4 (by unfold fsN at h4; rwa [if_pos (by omega)] at h4)
      exact hA 0 f (by omega) (by omega) (hk.trans hkey)
    rcases hz with ⟨h1, _⟩ | ⟨_, p, n, p', n', hl, _, rfl⟩
    · omega
    · have hac : across a b 0 = f + 1 := by
        unfold across
        rw [hkey]
        have h1 := prev_max a (key4 a f) a.length f (by omega) (by omega) rfl
        cases hp : prev a (key4 a f) a.length with
        | zero => omega
        | succ q =>
          obtain ⟨q1, q2, q3⟩ := prev_spec a _ _ _ hp
          rcases Nat.lt_trichotomy q f with h | h | h
          · exact absurd q3 (hA q f h (by omega))
          · omega
          · exact absurd q3.symm (hA f q h q2)
      have hm := hl.2 f hac
      rw [List.drop_zero] at hm
      rcases hl.1 with ⟨h1, _⟩ | ⟨h1, h2, h3, h4, h5⟩
      · omega
      · have hz' : BestZ a b 0 0 0 (bet (bet (0, fsN a b 0, 0) (2, n, (p : Int) - ((0 : Nat) : Int))) (3, n', (p' : Int) - ((0 : Nat) : Int))) := .inr ⟨by omega, p, n, p', n', hl, by assumption, rfl⟩
        have g1 := (G_bet (0, fsN a b 0, 0) (2, n, (p : Int) - ((0 : Nat) : Int))).2
        have g2 := (G_bet (bet (0, fsN a b 0, 0) (2, n, (p : Int) - ((0 : Nat) : Int))) (3, n', (p' : Int) - ((0 : Nat) : Int))).1
        generalize bet (bet (0, fsN a b 0, 0) (2, n, (p : Int) - ((0 : Nat) : Int))) (3, n', (p' : Int) - ((0 : Nat) : Int)) = z at *
        have g3 := G_of (2, n, (p : Int) - ((0 : Nat) : Int)) (by simp only; omega)
        have g4 := sz_le4 2 n ((p : Int) - ((0 : Nat) : Int)) (by omega) (by omega) (by omega) (by omega)
        simp only at g3
        have g5 : 0 ≤ G z := by omega
        have g6 := G_pos z g5
        have g7 := G_of z g6
        have g8 := sz_pos z.1 z.2.1 z.2.2
        exact ⟨g6, g5, by omega, best_sz hz' g6 (by omega) (by omega) (Nat.zero_le _) (Nat.zero_le _) (Nat.zero_le _)⟩

/-! One byte again and again. -/
theorem rep_key (X : UInt8) (N i : Nat) (h : i + 4 ≤ N) : key4 (List.replicate N X) i = List.replicate 4 X := by
  unfold key4
  rw [List.drop_replicate, List.take_replicate, Nat.min_eq_left (by omega)]
theorem rep_within (X : UInt8) (N u : Nat) (h1 : 1 ≤ u) (h : u + 4 ≤ N) : within (List.replicate N X) u = u := by
  obtain ⟨v, rfl⟩ : ∃ v, u = v + 1 := ⟨u - 1, by omega⟩
  unfold within
  exact prev_hit _ _ v (by rw [List.length_replicate]; omega) (by rw [rep_key X N v (by omega), rep_key X N (v + 1) h])
theorem rep_alk (X : UInt8) (N u : Nat) (h1 : 1 ≤ u) : N - u ≤ alk ((List.replicate N X).drop (u - 1)) ((List.replicate N X).drop u) := by
  rw [List.drop_replicate, List.drop_replicate]
  refine alk_ge _ _ _ (by simp; omega) (by simp) ?_
  rw [List.take_replicate, List.take_replicate, Nat.min_eq_left (by omega), Nat.min_self]

theorem rep_best {a : List UInt8} {X : UInt8} {N u s t : Nat} {z : Nat × Nat × Int} (ha : a.length ≤ 5200) (hN : N ≤ 5200) (h1 : 1 ≤ u) (h6 : u + 6 ≤ N) (hs : s ≤ a.length) (ht : t ≤ N) (hz : BestZ a (List.replicate N X) u s t z) :
    0 < z.2.1 ∧ sz z.1 z.2.1 z.2.2 ≤ 5 ∧ 1 ≤ G z ∧ ((z.2.1 = fsN a (List.replicate N X) u ∧ 64 ≤ fsN a (List.replicate N X) u) ∨ N ≤ u + z.2.1 + 4) := by
  have hlen : (List.replicate N X).length = N := List.length_replicate
  have hw := rep_within X N u h1 (by omega)
  have hal := rep_alk X N u h1
  generalize List.replicate N X = b at *
  have key : 1 ≤ G z ∧ ((z.2.1 = fsN a b u ∧ 64 ≤ fsN a b u) ∨ (N : Int) - u - 5 ≤ G z) := by
    rcases hz with ⟨hc, rfl⟩ | ⟨_, p, n, p', n', _, hl, rfl⟩
    · have hle := fsN_le a b u
      have g1 := G_of (0, fsN a b u, 0) (by simp only; omega)
      have g2 := sz_le5 0 (fsN a b u) 0 (by omega) (by omega) (by omega) (by omega)
      simp only at g1 ⊢
      exact ⟨by omega, .inl ⟨trivial, by omega⟩⟩
    · have hm := hl.2 (u - 1) (by omega)
      rcases hl.1 with ⟨e1, _⟩ | ⟨e1, e2, e3, e4, e5⟩
      · omega
      · have g1 := (G_bet (bet (0, fsN a b u, 0) (2, n, (p : Int) - (s : Int))) (3, n', (p' : Int) - (t : Int))).2
        have g3 := G_of (3, n', (p' : Int) - (t : Int)) (by simp only; omega)
        have g4 := sz_le5 3 n' ((p' : Int) - (t : Int)) (by omega) (by omega) (by omega) (by omega)
        simp only at g3
        exact ⟨by omega, .inr (by omega)⟩
  obtain ⟨k1, k2⟩ := key
  have h5 := G_pos z (by omega)
  have h7 := G_of z h5
  have h8 := sz_pos z.1 z.2.1 z.2.2
  refine ⟨h5, best_sz hz h5 (by omega) (by omega) (by omega) (by omega) (by omega), k1, ?_⟩
  rcases k2 with k2 | k2
  · exact .inl k2
  · exact .inr (by omega)

theorem rep_pay {told u : Nat} {z : Nat × Nat × Int} (h1 : told ≤ u) (h2 : u ≤ told + 1) (hG : 1 ≤ G z) : pay told u z = true := by
  unfold pay
  split
  · exact decide_eq_true (show 0 ≤ G z by omega)
  · have e : u - told = 1 := by omega
    have e1 : sz 1 1 0 = 1 := by
      unfold sz
      rw [Var.putV_last (by decide)]
      rfl
    rw [e, e1]
    exact decide_eq_true (show ((1 : Nat) : Int) ≤ G z by omega)

theorem rep_runs {a : List UInt8} {X : UInt8} {N : Nat} {σ : S8} (ha : a.length ≤ 5200) (hN : N ≤ 5200) (h : Runs a (List.replicate N X) σ) :
    (σ.u = 0 ∧ σ.told = 0 ∧ σ.L = []) ∨ (1 ≤ σ.u ∧ σ.told ≤ σ.u ∧ σ.u ≤ σ.told + 1 ∧ SZ σ.L + 2 * (σ.u - σ.told) ≤ 5) ∨
    (1 ≤ σ.u ∧ σ.told = σ.u ∧ fsN a (List.replicate N X) σ.u = 0 ∧ SZ σ.L ≤ 10) ∨ SZ σ.L + 2 * (N - σ.told) ≤ 39 := by
  have hlen : (List.replicate N X).length = N := List.length_replicate
  induction h with
  | start => exact .inl ⟨rfl, rfl, rfl⟩
  | step σ σ' hr h' ih =>
    have hI := runs_inv (by omega) (by omega) hr
    have hI' := runs_inv (by omega) (by omega) (Runs.step σ σ' hr h')
    have tail : SZ σ.L + 2 * (N - σ.told) ≤ 39 → SZ σ'.L + 2 * (N - σ'.told) ≤ 39 := by
      intro hq
      obtain ⟨h1, h2⟩ := step_size (by omega) hI h'
      have h3 := hI'.le1
      have h4 := hI'.le2
      omega
    have hs := hI.hs
    have ht := hI.ht
    rcases ih with ⟨e1, e2, e3⟩ | ⟨e1, e2, e3, e4⟩ | ⟨e1, e2, e3, e4⟩ | ih
    · right; left
      cases h' with
      | skip z hu hz hp =>
        have : SZ σ.L = 0 := by rw [e3]; rfl
        simp only
        omega
      | take z s' t' hu hz hn hp hs' ht' =>
        have h1 := take_size (L := σ.L) (told := σ.told) (by omega) (Nat.le_of_lt hu) (best_kind hz hn).1
        have h2 : SZ σ.L = 0 := by rw [e3]; rfl
        have h3 := best_sz hz hn (by omega) (by omega) hs ht (by omega)
        simp only
        omega
    · by_cases h6 : σ.u + 6 ≤ N
      · right; right
        cases h' with
        | skip z hu hz hp =>
          obtain ⟨b1, b2, b3, b4⟩ := rep_best ha hN e1 h6 hs (by omega) hz
          have := rep_pay e2 e3 b3
          rcases hp with hp | hp
          · omega
          · rw [this] at hp; cases hp
        | take z s' t' hu hz hn hp hs' ht' =>
          obtain ⟨b1, b2, b3, b4⟩ := rep_best ha hN e1 h6 hs (by omega) hz
          have h1 := take_size (L := σ.L) (told := σ.told) (by omega) (Nat.le_of_lt hu) (best_kind hz hn).1
          rcases b4 with ⟨b4, b5⟩ | b4
          · left
            refine ⟨by simp only; omega, rfl, ?_, by simp only; omega⟩
            simp only
            rw [b4]
            exact fsN_end a _ σ.u (by omega)
          · right
            simp only
            omega
      · exact .inr (.inr (.inr (tail (by omega))))
    · by_cases h6 : σ.u + 6 ≤ N
      · right; right; right
        cases h' with
        | skip z hu hz hp =>
          obtain ⟨b1, b2, b3, b4⟩ := rep_best ha hN e1 h6 hs (by omega) hz
          have := rep_pay (Nat.le_of_eq e2) (by omega) b3
          rcases hp with hp | hp
          · omega
          · rw [this] at hp; cases hp
        | take z s' t' hu hz hn hp hs' ht' =>
          obtain ⟨b1, b2, b3, b4⟩ := rep_best ha hN e1 h6 hs (by omega) hz
          have h1 := take_size (L := σ.L) (told := σ.told) (by omega) (Nat.le_of_lt hu) (best_kind hz hn).1
          rcases b4 with ⟨b4, b5⟩ | b4
          · omega
          · simp only
            omega
      · exact .inr (.inr (.inr (tail (by omega))))
    · exact .inr (.inr (.inr (tail ih)))

/-- What is told in all. -/
theorem same_SZ {a b : List UInt8} {σ : S8} (ha : a.length ≤ 16777216) (hb : b.length ≤ 16777216) (hB : 0 < b.length → Big a b) (h : Runs a b σ) (hu : σ.u = b.length) : SZ (σ.L ++ leftL b σ.told b.length) ≤ 13 := by
  have hI := runs_inv ha hb h
  have h1 := SZ_left b σ.told b.length (Nat.le_refl _) hb
  rw [SZ_append]
  by_cases hp : 0 < b.length
  · rcases big_runs ha hb (hB hp) h with ⟨e, _⟩ | h2
    · omega
    · omega
  · have h2 := hI.size
    have h3 := hI.le1
    change SZ σ.L ≤ 2 * σ.told at h2
    omega
theorem rep_SZ {a : List UInt8} {X : UInt8} {N : Nat} {σ : S8} (ha : a.length ≤ 5200) (hN : N ≤ 5200) (hpos : 0 < N) (h : Runs a (List.replicate N X) σ) (hu : σ.u = (List.replicate N X).length) : SZ (σ.L ++ leftL (List.replicate N X) σ.told (List.replicate N X).length) ≤ 39 := by
  have hlen : (List.replicate N X).length = N := List.length_replicate
  have h1 := SZ_left (List.replicate N X) σ.told (List.replicate N X).length (Nat.le_refl _) (by omega)
  rw [SZ_append]
  rcases rep_runs ha hN h with ⟨e, _⟩ | ⟨e1, e2, e3, e4⟩ | ⟨e1, e2, e3, e4⟩ | h2 <;> omega

end Bm
end Go.Proofs.Ytokfcknfkhlmfaa

namespace Go.Proofs.Ytokfcknfkhlmfaa
open Go.RowKit
namespace Bm

theorem key4_of {l : List UInt8} {i : Nat} {x0 x1 x2 x3 : UInt8} (h0 : l[i]? = some x0) (h1 : l[i + 1]? = some x1) (h2 : l[i + 2]? = some x2) (h3 : l[i + 3]? = some x3) : key4 l i = [x0, x1, x2, x3] := by
  apply List.ext_getElem?
  intro j
  unfold key4
  rcases j with _ | _ | _ | _ | j
  · simpa [List.getElem?_take, List.getElem?_drop] using h0
  · simpa [List.getElem?_take, List.getElem?_drop] using h1
  · simpa [List.getElem?_take, List.getElem?_drop] using h2
  · simpa [List.getElem?_take, List.getElem?_drop] using h3
  · simp [List.getElem?_take, List.getElem?_drop]
    omega

/-- Up to a place. -/
def LoneTo (l : List UInt8) (i : Nat) : Prop := ∀ p q : Nat, p < i → p < q → q + 4 ≤ l.length → key4 l p ≠ key4 l q
def LoneAt (l : List UInt8) (i k : Nat) : Prop := ∀ q : Nat, i < q → q < k → key4 l i ≠ key4 l q
/-- What alone tells. -/
def Alone (w : World) (l : List UInt8) (e : Ending) (w' : World) : Prop := (∃ r, e = .returned (.bool r) ∧ (r = true → Lone l)) ∧ Fr [] w w'

theorem ne_int {x y : UInt8} (h : x ≠ y) : ((x.toNat : Int) == (y.toNat : Int)) = false := by
  simp only [beq_eq_false_iff_ne, ne_eq]
  intro h1
  exact h (UInt8.toNat_inj.1 (by omega))

set_option maxRecDepth 100000 in
set_option maxHeartbeats 2000000 in
theorem alone_any (w : World) (A : Option Addr) (n c : Nat) (l : List UInt8) (hn : l.length = n) (hr : Rd w A l) (hN : n ≤ 1000000000) :
    Calls Try.prog 14 #[.slice A n c] w (Alone w l) := by
  have HR := Lib.hid hr
  have Hn := Lib.hid hn
  generalize hQ : Alone w l = Q
  have HT : Hid (∀ W, Fr [] w W → Lone l → Q (.returned (.bool true)) W) := Lib.hid fun W h1 h2 => by rw [← hQ]; exact ⟨⟨true, rfl, fun _ => h2⟩, h1⟩
  have HFa : Hid (∀ W, Fr [] w W → Q (.returned (.bool false)) W) := Lib.hid fun W h1 => by rw [← hQ]; exact ⟨⟨false, rfl, fun h => by cases h⟩, h1⟩
  clear hr hn hQ
  go_enter Try.func14, Try.ntmps14
  go_wp2_with fail
  go_loopw [3] (fun s wr => ∃ i : Nat, s = .int .i64 (i : Int) ∧ i ≤ n ∧ LoneTo l i ∧ Fr [] w wr) (fun s _ => n - (intOf s).toNat)
  case atStart => exact ⟨0, rfl, Nat.zero_le _, fun p q h => by omega, Fr.refl _ _⟩
  case round =>
    obtain ⟨i, rfl, hi, hL, hF⟩ := hrel
    have HL := Lib.hid hL
    have HF := Lib.hid hF
    clear hL hF
    obtain ⟨i4, hi4⟩ : ∃ i4, i + 4 = i4 := ⟨_, rfl⟩
    have a4 : (i : Int) + 4 = (i4 : Int) := by omega
    have w4 : IntKind.i64.wrap (i4 : Int) = (i4 : Int) := by rw [IntKind.wrap_i64]; omega
    by_cases hc : i4 ≤ n
    · have c4 : (i4 : Int) ≤ n := by omega
      obtain ⟨i1, hi1⟩ : ∃ i1, i + 1 = i1 := ⟨_, rfl⟩
      have a1 : (i : Int) + 1 = (i1 : Int) := by omega
      have w1 : IntKind.i64.wrap (i1 : Int) = (i1 : Int) := by rw [IntKind.wrap_i64]; omega
      go_wp2_with fail
      go_loopw [4] (fun s wr => ∃ k : Nat, s = .int .i64 (k : Int) ∧ i1 ≤ k ∧ k ≤ n ∧ LoneAt l i k ∧ Fr [] w wr) (fun s _ => n - (intOf s).toNat)
      case atStart => exact ⟨i1, rfl, Nat.le_refl _, by omega, fun q h1 h2 => by omega, HF.out⟩
      case round =>
        obtain ⟨k, rfl, hk1, hk, hL2, hF2⟩ := hrel
        have HL2 := Lib.hid hL2
        have HF2 := Lib.hid hF2
        clear hL2 hF2 HF
        obtain ⟨k4, hk4⟩ : ∃ k4, k + 4 = k4 := ⟨_, rfl⟩
        have b4 : (k : Int) + 4 = (k4 : Int) := by omega
        have v4 : IntKind.i64.wrap (k4 : Int) = (k4 : Int) := by rw [IntKind.wrap_i64]; omega
        by_cases hkc : k4 ≤ n
        · have d4 : (k4 : Int) ≤ n := by omega
          obtain ⟨i2, hi2⟩ : ∃ i2, i + 2 = i2 := ⟨_, rfl⟩
          obtain ⟨i3, hi3⟩ : ∃ i3, i + 3 = i3 := ⟨_, rfl⟩
          obtain ⟨k1, hk1'⟩ : ∃ k1, k + 1 = k1 := ⟨_, rfl⟩
          obtain ⟨k2, hk2⟩ : ∃ k2, k + 2 = k2 := ⟨_, rfl⟩
          obtain ⟨k3, hk3⟩ : ∃ k3, k + 3 = k3 := ⟨_, rfl⟩
          have a2 : (i : Int) + 2 = (i2 : Int) := by omega
          have a3 : (i : Int) + 3 = (i3 : Int) := by omega
          have b1 : (k : Int) + 1 = (k1 : Int) := by omega
          have b2 : (k : Int) + 2 = (k2 : Int) := by omega
          have b3 : (k : Int) + 3 = (k3 : Int) := by omega
          have w2 : IntKind.i64.wrap (i2 : Int) = (i2 : Int) := by rw [IntKind.wrap_i64]; omega
          have w3 : IntKind.i64.wrap (i3 : Int) = (i3 : Int) := by rw [IntKind.wrap_i64]; omega
          have v1 : IntKind.i64.wrap (k1 : Int) = (k1 : Int) := by rw [IntKind.wrap_i64]; omega
          have v2 : IntKind.i64.wrap (k2 : Int) = (k2 : Int) := by rw [IntKind.wrap_i64]; omega
          have v3 : IntKind.i64.wrap (k3 : Int) = (k3 : Int) := by rw [IntKind.wrap_i64]; omega
          have m0 : (i : Int) < n := by omega
          have m1 : (i1 : Int) < n := by omega
          have m2 : (i2 : Int) < n := by omega
          have m3 : (i3 : Int) < n := by omega
          have q0 : (k : Int) < n := by omega
          have q1 : (k1 : Int) < n := by omega
          have q2 : (k2 : Int) < n := by omega
          have q3 : (k3 : Int) < n := by omega
          have hrd := HR.out.later HF2.out (by simp)
          obtain ⟨B, O, x0, hA, gx0, cx0⟩ := hrd.at i (by rw [Hn.out]; omega)
          obtain ⟨B1, O1, x1, hA1, gx1, cx1⟩ := hrd.at i1 (by rw [Hn.out]; omega)
          obtain ⟨B2, O2, x2, hA2, gx2, cx2⟩ := hrd.at i2 (by rw [Hn.out]; omega)
          obtain ⟨B3, O3, x3, hA3, gx3, cx3⟩ := hrd.at i3 (by rw [Hn.out]; omega)
          obtain ⟨B4, O4, y0, hA4, gy0, cy0⟩ := hrd.at k (by rw [Hn.out]; omega)
          obtain ⟨B5, O5, y1, hA5, gy1, cy1⟩ := hrd.at k1 (by rw [Hn.out]; omega)
          obtain ⟨B6, O6, y2, hA6, gy2, cy2⟩ := hrd.at k2 (by rw [Hn.out]; omega)
          obtain ⟨B7, O7, y3, hA7, gy3, cy3⟩ := hrd.at k3 (by rw [Hn.out]; omega)
          subst hA
          cases hA1; cases hA2; cases hA3; cases hA4; cases hA5; cases hA6; cases hA7
          have HK1 : Hid (key4 l i = [x0, x1, x2, x3]) := Lib.hid (key4_of gx0 (by rw [hi1]; exact gx1) (by rw [hi2]; exact gx2) (by rw [hi3]; exact gx3))
          have HK2 : Hid (key4 l k = [y0, y1, y2, y3]) := Lib.hid (key4_of gy0 (by rw [hk1']; exact gy1) (by rw [hk2]; exact gy2) (by rw [hk3]; exact gy3))
          obtain ⟨r, hr⟩ : ∃ r, decide (key4 l i = key4 l k) = r := ⟨_, rfl⟩
          have Hr := Lib.hid hr
          have Hi1 := Lib.hid hi1
          have Hk1 := Lib.hid hk1
          have Hk2 := Lib.hid hk1'
          have Hkc := Lib.hid hkc
          have Hk4 := Lib.hid hk4
          have Hi4 := Lib.hid hi4
          clear gx0 gx1 gx2 gx3 gy0 gy1 gy2 gy3 hrd hr hi1 hi2 hi3 hk1' hk2 hk3 hi4 hk4 hk1
          go_wp2_with fail
          go_cut [68] (fun s68 wx => s68 = .bool r ∧ Fr [] w wx)
          case first =>
            by_cases h0 : x0 = y0
            · subst h0
              by_cases h1 : x1 = y1
              · subst h1
                by_cases h2 : x2 = y2
                · subst h2
                  by_cases h3 : x3 = y3
                  · subst h3
                    have hr : Hid (true = r) := Lib.hid (by rw [← Hr.out, HK1.out, HK2.out]; simp)
                    go_quiet (fail)
                    go_wp2_with fail
                    go_meet
                    exact ⟨by rw [← hr.out], HF2.out.drewN _⟩
                  · have e3 := ne_int h3
                    have hr : Hid (false = r) := Lib.hid (by rw [← Hr.out, HK1.out, HK2.out]; simp [h3])
                    go_quiet (fail)
                    go_wp2_with fail
                    go_meet
                    exact ⟨by rw [← hr.out], HF2.out.drewN _⟩
                · have e2 := ne_int h2
                  have hr : Hid (false = r) := Lib.hid (by rw [← Hr.out, HK1.out, HK2.out]; simp [h2])
                  go_quiet (fail)
                  go_wp2_with fail
                  go_meet
                  exact ⟨by rw [← hr.out], HF2.out.drewN _⟩
              · have e1 := ne_int h1
                have hr : Hid (false = r) := Lib.hid (by rw [← Hr.out, HK1.out, HK2.out]; simp [h1])
                go_quiet (fail)
                go_wp2_with fail
                go_meet
                exact ⟨by rw [← hr.out], HF2.out.drewN _⟩
            · have e0 := ne_int h0
              have hr : Hid (false = r) := Lib.hid (by rw [← Hr.out, HK1.out, HK2.out]; simp [h0])
              go_quiet (fail)
              go_wp2_with fail
              go_meet
              exact ⟨by rw [← hr.out], HF2.out.drewN _⟩
          case rest =>
            obtain ⟨rfl, hF3⟩ := hcut
            have HF3 := Lib.hid hF3
            clear hF3 cx0 cx1 cx2 cx3 cy0 cy1 cy2 cy3
            cases r with
            | true =>
              go_wp2
              exact HFa.out _ HF3.out
            | false =>
              go_wp2
              go_roundw
              case rel =>
                have h5 := Hk2.out
                have h6 := Hkc.out
                have h7 := Hk4.out
                have h8 := Hk1.out
                refine ⟨k1, by go_num, by omega, by omega, fun q g1 g2 => ?_, HF3.out⟩
                by_cases hq : q < k
                · exact HL2.out q g1 hq
                · obtain rfl : q = k := by omega
                  exact of_decide_eq_false Hr.out
              case measure =>
                have h5 := Hk2.out
                have h6 := Hkc.out
                have h7 := Hk4.out
                simp [intOf]; omega
        · have d4 : ¬ (k4 : Int) ≤ n := by omega
          go_wp2
          go_roundw
          case rel =>
            refine ⟨i1, by go_num, by omega, fun p q g1 g2 g3 => ?_, HF2.out⟩
            by_cases hp : p < i
            · exact HL.out p q hp g2 g3
            · obtain rfl : p = i := by omega
              rw [Hn.out] at g3
              exact HL2.out q g2 (by omega)
          case measure => simp [intOf]; omega
    · have c4 : ¬ (i4 : Int) ≤ n := by omega
      go_wp2
      refine HT.out _ HF.out fun p q g1 g2 => ?_
      rw [Hn.out] at g2
      exact HL.out p q (by omega) g1 (by rw [Hn.out]; exact g2)

end Bm
end Go.Proofs.Ytokfcknfkhlmfaa
