/-
  Rows (of two numbers) in memory, and the contract of the closure that gathers places into rows (ipsmake). Conditions: places and counts up to 16777216.
-/
import Derived.Test.YtchakjknndpmpaaMkBits
import Derived.Deep.RegionLaw
namespace Go.Proofs.Ytchakjknndpmpaa
open Go.RowKit
namespace Ips

def rowV (x : Nat × Nat) : List Value := [.int .i64 (x.1 : Int), .int .i64 (x.2 : Int)]
def rflat (R : List (Nat × Nat)) : List Value := R.flatMap rowV
theorem rflat_snoc (R : List (Nat × Nat)) (x : Nat × Nat) : rflat (R ++ [x]) = rflat R ++ rowV x := by simp [rflat]
theorem rflat_length (R : List (Nat × Nat)) : (rflat R).length = R.length * 2 := by
  induction R with
  | nil => rfl
  | cons m ms ih =>
    have : rflat (m :: ms) = rowV m ++ rflat ms := by simp [rflat]
    rw [this, List.length_append, ih]; simp [rowV]; omega
theorem rflat_get (R : List (Nat × Nat)) (j : Nat) (hj : j < R.length) (i : Nat) (hi : i < 2) : (rflat R)[j * 2 + i]? = (rowV R[j])[i]? := by
  induction R generalizing j with
  | nil => simp at hj
  | cons m ms ih =>
    have e : rflat (m :: ms) = rowV m ++ rflat ms := by simp [rflat]
    rw [e]
    cases j with
    | zero =>
      rw [List.getElem?_append_left (by simp [rowV]; omega)]
      simp
    | succ j =>
      have hl : (rowV m).length = 2 := rfl
      rw [List.getElem?_append_right (by rw [hl]; omega), hl, show (j + 1) * 2 + i - 2 = j * 2 + i by omega, ih j (by simpa using hj)]
      simp
theorem rflat_last (P : List (Nat × Nat)) (f t u : Nat) : (rflat (P ++ [(f, t)])).set (P.length * 2 + 1) (.int .i64 (u : Int)) = rflat (P ++ [(f, u)]) := by
  rw [rflat_snoc, rflat_snoc, List.set_append_right _ _ (by rw [rflat_length]; omega), rflat_length]
  rw [show P.length * 2 + 1 - P.length * 2 = 1 by omega]
  rfl

/-- The slice value v owns a row of rows. -/
def RowsOwn (w : World) (B : Nat) (v : Value) (R : List (Nat × Nat)) : Prop := w.ownsRow B 47 2 v R.length (rflat R)
theorem RowsOwn.none_ (w : World) (B : Nat) : RowsOwn w B (.slice none 0 0) [] := World.ownsRow_nil w B _ 2
theorem RowsOwn.fr {S : List Nat} {w w' : World} {B : Nat} {v : Value} {R : List (Nat × Nat)} (h : RowsOwn w B v R) (hf : Fr S w w') (hv : ∀ k, v.ownBlock = some k → k ∉ S) : RowsOwn w' B v R := by
  obtain ⟨h1, h2⟩ := h
  refine ⟨h1, ?_⟩
  rcases h2 with h2 | ⟨g, cap, cur, rfl, hg, hh, r⟩
  · exact .inl h2
  · exact .inr ⟨g, cap, cur, rfl, hg, (hf.block g (Blk.lt hh) (hv g rfl)).trans hh, r⟩
theorem RowsOwn.lt {w : World} {B : Nat} {v : Value} {R : List (Nat × Nat)} (h : RowsOwn w B v R) : ∀ k, v.ownBlock = some k → B ≤ k ∧ k < w.heap.size := World.ownsRow.lt h
theorem RowsOwn.slice {w : World} {B : Nat} {v : Value} {R : List (Nat × Nat)} (h : RowsOwn w B v R) : ∃ A cap, v = .slice A R.length cap ∧ R.length ≤ cap ∧ cap ≤ maxLen ∧ (A = none → cap = 0) ∧
    (0 < R.length → ∃ g, A = some ⟨g, 0, none⟩ ∧ ∀ j (hj : j < R.length), w.cell? ⟨g, j * 2, none⟩ = some (.int .i64 (R[j].1 : Int)) ∧ w.cell? ⟨g, j * 2 + 1, none⟩ = some (.int .i64 (R[j].2 : Int)) ∧ w.frozen? ⟨g, j * 2 + 1, none⟩ = false) := by
  have hown := h
  rcases h.2 with ⟨rfl, h0⟩ | ⟨g, cap, cur, rfl, _, hh, hc, hm, hs, ht⟩
  · refine ⟨none, 0, by rw [h0], by omega, by simp [maxLen], fun _ => rfl, fun hp => by omega⟩
  · refine ⟨_, cap, rfl, hc, hm, by simp, fun _ => ⟨g, rfl, fun j hj => ?_⟩⟩
    have hx : ∀ i, i < 2 → w.cell? ⟨g, j * 2 + i, none⟩ = (rowV R[j])[i]? := fun i hi => by
      rw [World.ownsRow.cellAt hown (j * 2 + i) (by omega), rflat_get R j hj i hi]
    refine ⟨?_, ?_, World.ownsRow.frozenAt hown _⟩
    · have := hx 0 (by omega); simpa [rowV] using this
    · have := hx 1 (by omega); simpa [rowV] using this
theorem RowsOwn.other {w : World} {B g : Nat} {v : Value} {R : List (Nat × Nat)} {t : TypeId} {cs : Array Value} (h : RowsOwn w B v R) (hg : Blk w g t cs) (hne : 47 ≠ t) : v.ownBlock ≠ some g := by
  rcases h.2 with ⟨rfl, _⟩ | ⟨g', cap, cur, rfl, _, hh, _⟩
  · simp [Value.ownBlock]
  · intro he
    have e : g' = g := by simpa [Value.ownBlock] using he
    subst e
    exact Blk.other (t := 47) hh hg hne rfl

theorem infoRow : (Try.prog.info? 47).map (fun i => (i.zero, i.size, i.bytes)) = some (some (.agg #[.int .i64 0, .int .i64 0]), 2, 16) := by kernel_rfl

/-- append of one row. -/
theorem run_rows (w : World) (B : Nat) (t ty : TypeId) (ht : Try.prog.underlying t = some (.slice 47))
    (v : Value) (R : List (Nat × Nat)) (h : RowsOwn w B v R) (g c : Nat) (x : Nat × Nat) (hg : ∀ j u, (rowV x)[j]? = some u → w.cell? ((⟨g, 0, none⟩ : Addr).add j) = some u) (hlen : R.length ≤ 1000000000) (hB : B ≤ w.heap.size) :
    ∃ v' w', (Builtin.append_ #[t, t] ty #[v, .slice (some ⟨g, 0, none⟩) 1 c]).run Try.prog w = .ok v' w' ∧ RowsOwn w' B v' (R ++ [x]) ∧ Fr v.ownBlock.toList w w' ∧ Lies w v v' := by
  obtain ⟨i, hi, hz, hz1, hz2⟩ := info_parts infoRow
  obtain ⟨v', w', hrun, h4, h5, _, h6⟩ := run_append_own_at (P := Try.prog) w B t ty 47 i _ 2 16 ht hi hz hz1 hz2 rfl (by decide) v R.length (rflat R) h ⟨g, 0, none⟩ 1 c (rowV x) rfl hg
    (by intro u hu; simp [rowV] at hu; rcases hu with rfl | rfl <;> rfl) (by unfold maxLen; omega) (by omega) hB
  refine ⟨v', w', hrun, by unfold RowsOwn; rw [rflat_snoc, List.length_append]; exact h4, (Fr.refl _ w).grown h5 (fun k hk => .inl (by simp [hk])), ?_⟩
  rcases h6 with h6 | h6
  · exact .inl h6
  · exact .inr ⟨_, h6, Nat.le_refl _⟩

theorem step_rows (w : World) {ops : Array Oper} {o : Oper} {a : Act} {K : Act → World → Prop} {Q : Exit → Act → World → Prop} {E : Prop} (hgd : o.guard = none) (s x : Operand) (t : TypeId)
    (ho : o.op = .call { callee := .builtin .append, args := #[s, x], argTypes := #[t, t] }) (B : Nat) (ht : Try.prog.underlying t = some (.slice 47))
    (v : Value) (R : List (Nat × Nat)) (hs : a.eval s = v) (h : RowsOwn w B v R) (g c : Nat) (y : Nat × Nat) (hx : a.eval x = .slice (some ⟨g, 0, none⟩) 1 c) (hg : ∀ j u, (rowV y)[j]? = some u → w.cell? ((⟨g, 0, none⟩ : Addr).add j) = some u)
    (hlen : R.length ≤ 1000000000) (hB : B ≤ w.heap.size)
    (hK : ∀ v' w', RowsOwn w' B v' (R ++ [y]) → Fr v.ownBlock.toList w w' → Lies w v v' → K (a.put o.dst v') w') :
    if Region.wanted o (yielded ops a.tmps) = true then Oper.wp Try.prog o a w K Q else E := by
  have hw : Region.wanted o (yielded ops a.tmps) = true := by simp [Region.wanted, hgd]
  rw [if_pos hw]
  obtain ⟨v', w', hrun, h2, h3, h4⟩ := run_rows w B t o.type ht v R h g c y hg hlen hB
  unfold Oper.wp execOp
  simp only [ho, resolve, invoke, builtin, Sem.run_bind, Sem.run_pure, Result.andThen_ok, List.map_toArray, List.map_cons, List.map_nil, hs, hx, hrun]
  exact hK v' w' h2 h3 h4

theorem row_laid (w : World) (x : Nat × Nat) (g : Nat) (hg : w.heap.size = g) (T : TypeId) : ∀ j u, (rowV x)[j]? = some u → (w.alloc (.cells #[.int .i64 (x.1 : Int), .int .i64 (x.2 : Int)] T)).cell? ((⟨g, 0, none⟩ : Addr).add j) = some u := by
  subst hg
  intro j u hj
  have h := (Blk.fresh w T #[.int .i64 (x.1 : Int), .int .i64 (x.2 : Int)]).cell j
  rw [Addr.add_lit, Nat.zero_add, h]
  simpa [rowV] using hj

/-- What the closure leaves. -/
def Gathered (w : World) (B q : Nat) (v : Value) (R : List (Nat × Nat)) (e : Ending) (w' : World) : Prop :=
  e = .returned (.tuple #[]) ∧ ∃ v', Blk w' q 44 #[v'] ∧ RowsOwn w' B v' R ∧ Fr (q :: v.ownBlock.toList) w w' ∧ Lies w v v'

theorem gathered_of {w w1 : World} {B q : Nat} {v v' : Value} {R R' : List (Nat × Nat)} (hb : Blk w q 44 #[v]) (ho : RowsOwn w B v R) (h1 : Fr v.ownBlock.toList w w1) (hown : RowsOwn w1 B v' R') (hat : Lies w v v') :
    ∃ u, Blk (w1.setCell ⟨q, 0, none⟩ v') q 44 #[u] ∧ RowsOwn (w1.setCell ⟨q, 0, none⟩ v') B u R' ∧ Fr (q :: v.ownBlock.toList) w (w1.setCell ⟨q, 0, none⟩ v') ∧ Lies w v u := by
  have hne := ho.other hb (by decide)
  have hp : q ∉ v.ownBlock.toList := by simpa using hne
  have hb1 := hb.fr h1 hp
  refine ⟨v', by simpa using hb1.put 0 v', hown.fr ((Fr.refl [q] w1).setCell (by simp) _) ?_, ?_, hat⟩
  · intro k hk e
    simp at e
    subst e
    exact hat.other hne hb.lt hk
  · exact (h1.sub (T := q :: v.ownBlock.toList) (fun k hk => .inl (by simp; right; simpa using hk))).setCell (by simp) _

set_option maxRecDepth 100000 in
set_option maxHeartbeats 2000000 in
theorem gather_none (w : World) (B q i : Nat) (v : Value) (hb : Blk w q 44 #[v]) (ho : RowsOwn w B v []) (hB : B ≤ w.heap.size) (hi : i ≤ 16777216) :
    Calls Try.prog 24 #[.int .i64 (i : Int), .pointer (some ⟨q, 0, none⟩)] w (Gathered w B q v [(beg i, i + 1)]) := by
  obtain ⟨A, cap, rfl, -⟩ := ho.slice
  have HB := Lib.hid hb
  have HO := Lib.hid ho
  have hq := hb.lt
  have o0 : ∀ w', Fr [] w w' → w'.cell? ⟨q, 0, none⟩ = some (.slice A 0 cap) := fun w' hf => by simpa using (hb.fr hf (by simp)).cell 0
  have HC : Hid (∀ w', Fr [] w w' → Calls Try.prog 26 #[.int .i64 (i : Int)] w' fun e w'' => e = .returned (.agg #[.int .i64 (beg i : Nat), .int .i64 ((i + 1 : Nat) : Int)]) ∧ Fr [] w' w'') := Lib.hid fun w' _ => rowAt5 w' i (by omega)
  have c0 := hb.cell 0
  simp at c0
  clear hb ho
  generalize beg i = bg at *
  go_enter Try.func24, Try.ntmps24
  go_wp2_with fail
  go_region_law (first
    | (go_simp; go_at_call 26; refine (HC.out _ (Fr.refl [] w).drew).mono ?_; rintro e w1 ⟨rfl, hf1⟩; have HF1 : Hid (Fr [] w w1) := Lib.hid ((Fr.refl [] w).drew.tr hf1); have c1 := o0 _ HF1.out; have c2 := o0 _ (HF1.out.alloc (.cells #[.int .i64 (bg : Int), .int .i64 ((i : Int) + 1)] 47)); clear hf1)
    | (refine step_rows _ rfl (.tmp 24) (.tmp 27) 44 rfl B Try.underlying44 (.slice A 0 cap) [] rfl (HO.out.fr (HF1.out.alloc _) (by simp)) w1.heap.size 1 (bg, i + 1) rfl (row_laid w1 (bg, i + 1) _ rfl _) (by simp) (by have := HF1.out.size; simp; omega) ?_; intro v2 w2 ho2 hf2 hl2; have HO2 := Lib.hid ho2; have HL2 : Hid (Lies w (.slice A 0 cap) v2) := Lib.hid ((Lies.refl w _).trans hl2 (by have := HF1.out.size; simp; omega)); have HF2 : Hid (Fr (Value.slice A 0 cap).ownBlock.toList w w2) := Lib.hid ((HF1.out.alloc _).nil.tr hf2); obtain ⟨A2, cap2, rfl, -⟩ := ho2.slice; clear ho2 hf2 hl2; have hbk := HB.out.fr HF2.out (by simpa using HO.out.other HB.out (by decide)); have h1 := hbk.cell 0; simp at h1; have h2 := hbk.frozen 0; clear hbk))
  all_goals
    go_wp2
    go_end0
    exact ⟨rfl, gathered_of HB.out HO.out HF2.out HO2.out HL2.out⟩

set_option maxRecDepth 100000 in
set_option maxHeartbeats 4000000 in
theorem gather_new (w : World) (B q i : Nat) (v : Value) (P : List (Nat × Nat)) (f t : Nat) (hb : Blk w q 44 #[v]) (ho : RowsOwn w B v (P ++ [(f, t)])) (hB : B ≤ w.heap.size) (hi : i ≤ 16777216) (hf : f ≤ 16777216) (hP : P.length ≤ 16777216) (hno : ¬ i < lim f) :
    Calls Try.prog 24 #[.int .i64 (i : Int), .pointer (some ⟨q, 0, none⟩)] w (Gathered w B q v (P ++ [(f, t)] ++ [(beg i, i + 1)])) := by
  have hR : (P ++ [(f, t)]).length = P.length + 1 := by simp
  obtain ⟨A, cap, rfl, -, -, -, hx⟩ := ho.slice
  obtain ⟨g, rfl, hc⟩ := hx (by omega)
  obtain ⟨d0, d1, -⟩ := hc P.length (by omega)
  simp only [List.getElem_concat_length] at d0 d1
  have HB := Lib.hid hb
  have HO := Lib.hid ho
  have hq := hb.lt
  have HH : Hid (Calls Try.prog 25 #[.agg #[.int .i64 (f : Int), .int .i64 (t : Int)], .int .i64 (i : Int)] w fun e w' => e = .returned (.bool false) ∧ Fr [] w w') := Lib.hid (by
    have h := holds5 w f t i (by omega)
    rwa [decide_eq_false hno] at h)
  rw [hR] at hb ho HB HO ⊢
  generalize hRR : P ++ [(f, t)] = R at *
  have HR := Lib.hid hR
  clear hR hRR hx hc hno
  generalize P.length = k at *
  have o0 : ∀ w', Fr [] w w' → w'.cell? ⟨q, 0, none⟩ = some (.slice (some ⟨g, 0, none⟩) (k + 1) cap) := fun w' hf => by simpa using (hb.fr hf (by simp)).cell 0
  have HC : Hid (∀ w', Calls Try.prog 26 #[.int .i64 (i : Int)] w' fun e w'' => e = .returned (.agg #[.int .i64 (beg i : Nat), .int .i64 ((i + 1 : Nat) : Int)]) ∧ Fr [] w' w'') := Lib.hid fun w' => rowAt5 w' i (by omega)
  have c0 := hb.cell 0
  simp at c0
  have hk0 : (0 : Int) < (k : Int) + 1 := by omega
  clear hb ho
  generalize beg i = bg at *
  go_enter Try.func24, Try.ntmps24
  go_wp2_with fail
  refine HH.out.mono ?_
  rintro e w0 ⟨rfl, hf0⟩
  have HF0 := Lib.hid hf0
  have c3 := o0 _ hf0
  clear hf0
  go_wp2_with fail
  go_region_law (first
    | (go_simp; go_at_call 26; refine (HC.out _).mono ?_; rintro e w1 ⟨rfl, hf1⟩; have HF1 : Hid (Fr [] w w1) := Lib.hid (HF0.out.drew.tr hf1); have c1 := o0 _ HF1.out; have c2 := o0 _ (HF1.out.alloc (.cells #[.int .i64 (bg : Int), .int .i64 ((i : Int) + 1)] 47)); clear hf1)
    | (refine step_rows _ rfl (.tmp 24) (.tmp 27) 44 rfl B Try.underlying44 (.slice (some ⟨g, 0, none⟩) (k + 1) cap) R rfl (HO.out.fr (HF1.out.alloc _) (by simp)) w1.heap.size 1 (bg, i + 1) rfl (row_laid w1 (bg, i + 1) _ rfl _) (by have := HR.out; omega) (by have := HF1.out.size; simp; omega) ?_; intro v2 w2 ho2 hf2 hl2; have HO2 := Lib.hid ho2; have HL2 : Hid (Lies w (.slice (some ⟨g, 0, none⟩) (k + 1) cap) v2) := Lib.hid ((Lies.refl w _).trans hl2 (by have := HF1.out.size; simp; omega)); have HF2 : Hid (Fr (Value.slice (some ⟨g, 0, none⟩) (k + 1) cap).ownBlock.toList w w2) := Lib.hid ((HF1.out.alloc _).nil.tr hf2); obtain ⟨A2, cap2, rfl, -⟩ := ho2.slice; clear ho2 hf2 hl2; have hbk := HB.out.fr HF2.out (by simpa using HO.out.other HB.out (by decide)); have h1 := hbk.cell 0; simp at h1; have h2 := hbk.frozen 0; clear hbk; generalize (R ++ [(bg, i + 1)]).length = rl at *))
  all_goals
    go_wp2
    go_end0
    exact ⟨rfl, gathered_of HB.out HO.out HF2.out HO2.out HL2.out⟩

set_option maxRecDepth 100000 in
set_option maxHeartbeats 2000000 in
theorem gather_old (w : World) (B q i : Nat) (v : Value) (P : List (Nat × Nat)) (f t : Nat) (hb : Blk w q 44 #[v]) (ho : RowsOwn w B v (P ++ [(f, t)])) (hi : i ≤ 16777216) (hf : f ≤ 16777216) (hP : P.length ≤ 16777216) (hno : i < lim f) :
    Calls Try.prog 24 #[.int .i64 (i : Int), .pointer (some ⟨q, 0, none⟩)] w (Gathered w B q v (P ++ [(f, i + 1)])) := by
  have hR : (P ++ [(f, t)]).length = P.length + 1 := by simp
  obtain ⟨A, cap, rfl, -, -, -, hx⟩ := ho.slice
  obtain ⟨g, rfl, hc⟩ := hx (by omega)
  obtain ⟨d0, d1, d2⟩ := hc P.length (by omega)
  simp only [List.getElem_concat_length] at d0 d1
  have hq := hb.lt
  have HH : Hid (Calls Try.prog 25 #[.agg #[.int .i64 (f : Int), .int .i64 (t : Int)], .int .i64 (i : Int)] w fun e w' => e = .returned (.bool true) ∧ Fr [] w w') := Lib.hid (by
    have h := holds5 w f t i (by omega)
    rwa [decide_eq_true hno] at h)
  have hgq : (Value.slice (some ⟨g, 0, none⟩) (P ++ [(f, t)]).length cap).ownBlock ≠ some q := ho.other hb (by decide)
  have HE : Hid (∀ W, Fr [] w W → Gathered w B q (.slice (some ⟨g, 0, none⟩) (P.length + 1) cap) (P ++ [(f, i + 1)]) (.returned (.tuple #[])) (W.setCell ⟨g, P.length * 2 + 1, none⟩ (.int .i64 ((i : Int) + 1)))) := Lib.hid (by
    intro W hf
    have hb1 := hb.fr hf (by simp)
    have ho1 := ho.fr hf (by simp)
    have h1 := (World.ownsRow.stored ho1 (P.length * 2 + 1) (.int .i64 ((i + 1 : Nat) : Int))).1
    rw [rflat_last P f t (i + 1), hR] at h1
    rw [hR] at hb1
    have hne : ¬ g = q := by simpa [Value.ownBlock] using hgq
    refine ⟨rfl, _, hb1.fr ((Fr.refl [g] W).setCell (by simp) _) (by simp; omega), ?_, ?_, Lies.refl _ _⟩
    · unfold RowsOwn
      rw [show (P ++ [(f, i + 1)]).length = P.length + 1 by simp]
      exact h1
    · exact (hf.nil).setCell (by simp [Value.ownBlock]) _)
  rw [hR] at hb ⊢
  clear hx hc hno hgq ho hR
  generalize Gathered w B q (.slice (some ⟨g, 0, none⟩) (P.length + 1) cap) (P ++ [(f, i + 1)]) = G at *
  generalize P.length = k at *
  have o0 : ∀ w', Fr [] w w' → w'.cell? ⟨q, 0, none⟩ = some (.slice (some ⟨g, 0, none⟩) (k + 1) cap) := fun w' hf => by simpa using (hb.fr hf (by simp)).cell 0
  have c0 := hb.cell 0
  simp at c0
  have hk0 : (0 : Int) < (k : Int) + 1 := by omega
  have o1 : ∀ w', Fr [] w w' → w'.cell? ⟨g, k * 2 + 1, none⟩ = some (.int .i64 (t : Int)) := fun w' hf => hf.cell d1 (by simp)
  have o2 : ∀ w', Fr [] w w' → w'.frozen? ⟨g, k * 2 + 1, none⟩ = false := fun w' hf => by
    have hlt : g < w.heap.size := World.block_lt_of_cell? w _ d1
    have e := hf.block g hlt (by simp)
    rw [← d2]
    simp [World.frozen?, e]
  clear hb
  go_enter Try.func24, Try.ntmps24
  go_wp2_with fail
  refine HH.out.mono ?_
  rintro e w0 ⟨rfl, hf0⟩
  have HF0 := Lib.hid hf0
  have c3 := o0 _ hf0
  have c4 := o1 _ hf0
  have c5 := o2 _ hf0
  clear hf0
  go_wp2
  go_end0
  exact HE.out _ HF0.out

end Ips
end Go.Proofs.Ytchakjknndpmpaa
