/-
  Contract of ipsmake's plan. Conditions: places up to 16777216.
-/
import Derived.Test.YtchakjknndpmpaaMkCost
import Derived.Deep.DeepCutAuto
import Derived.StillTailTactics
namespace Go.Proofs.Ytchakjknndpmpaa
open Go.RowKit
namespace Ips

theorem infoCh : (Try.prog.info? 68).map (fun i => (i.zero, i.size, i.bytes)) = some (some (.agg #[.int .i64 0, .int .i64 0, .int .i64 0]), 3, 24) := by kernel_rfl

/-- What lies in memory in the midst of plan; s is the size of the heap at the call, z the block of the slice. -/
structure PlW (w : World) (s r g z : Nat) (A B : Option Addr) (n c m d f t N : Nat) (T : List Ch) (W : World) : Prop where
  pbox : Blk W s 39 #[.slice A n c, .slice B m d]
  rbox : Blk W r 47 #[.int .i64 (f : Int), .int .i64 (t : Int)]
  tab : Blk W g 68 (tflat T).toArray
  obox : Blk W z 64 #[.slice (some ⟨g, 0, none⟩) N N]
  above : s < r ∧ r < g ∧ g < z
  fr : Fr [] w W

theorem PlW.later {w W W' : World} {s r g z n c m d f t N : Nat} {A B : Option Addr} {T : List Ch} {S : List Nat} (h : PlW w s r g z A B n c m d f t N T W) (hs : w.heap.size = s) (hf : Fr S W W') (hS : ∀ k ∈ S, z < k) : PlW w s r g z A B n c m d f t N T W' := by
  have hz := h.above
  have no : ∀ k, k ≤ z → k ∉ S := fun k h1 hm => by have := hS k hm; omega
  exact ⟨h.pbox.fr hf (no _ (by omega)), h.rbox.fr hf (no _ (by omega)), h.tab.fr hf (no _ (by omega)), h.obox.fr hf (no _ (by omega)), hz, h.fr.trans hf (fun k hk => .inr (by have := hS k hk; omega))⟩

theorem made_tab' (n : Nat) : (madeCells #[.int .i64 0, .int .i64 0, .int .i64 0] (n * 3)).toList = tflat (List.replicate n ch0) := made_tab n

theorem blk_made {w : World} {B g n : Nat} {xs : List Value} {T : TypeId} (h : w.ownsRow B T 3 (.slice (some ⟨g, 0, none⟩) n n) n xs) : Blk w g T xs.toArray := by
  obtain ⟨h1, h2⟩ := h
  rcases h2 with ⟨h2, _⟩ | ⟨g', cap, cur, hv, _, hh, _, _, hs, ht⟩
  · cases h2
  · cases hv
    have e : cur.toList = xs := by rw [← ht, List.take_of_length_le (by simp; omega)]
    subst e
    simpa [Blk] using hh

theorem laid3 {w : World} {q : Nat} {T : TypeId} {x y z a b c : Value} (h : Blk w q T #[a, b, c]) : Blk (((w.setCell ⟨q, 0, none⟩ x).setCell ⟨q, 1, none⟩ y).setCell ⟨q, 2, none⟩ z) q T #[x, y, z] := by
  have h1 := ((h.put 0 x).put 1 y).put 2 z
  simpa using h1

theorem cheaperK (w : World) (x y : Ch) (k : Int) (u v : Nat) (hk : (y.kind : Int) = k) (hu : y.stop = u) (hv : y.cost = v) :
    Calls Try.prog 42 #[.agg #[.int .i64 (x.kind : Int), .int .i64 (x.stop : Int), .int .i64 (x.cost : Int)], .agg #[.int .i64 k, .int .i64 (u : Int), .int .i64 (v : Int)]] w fun e w' =>
      e = .returned (.agg #[.int .i64 ((cheap x y).kind : Int), .int .i64 ((cheap x y).stop : Int), .int .i64 ((cheap x y).cost : Int)]) ∧ Fr [] w w' := by
  subst hk hu hv
  exact cheaper5 w x y

theorem tab_put {w : World} {g : Nat} {T : List Ch} (h : Blk w g 68 (tflat T).toArray) (k : Nat) (hk : k < T.length) (c : Ch) :
    Blk (((w.setCell ⟨g, k * 3, none⟩ (.int .i64 (c.kind : Int))).setCell ⟨g, k * 3 + 1, none⟩ (.int .i64 (c.stop : Int))).setCell ⟨g, k * 3 + 2, none⟩ (.int .i64 (c.cost : Int))) g 68 (tflat (T.set k c)).toArray := by
  have h1 := ((h.put (k * 3) (.int .i64 (c.kind : Int))).put (k * 3 + 1) (.int .i64 (c.stop : Int))).put (k * 3 + 2) (.int .i64 (c.cost : Int))
  rw [List.setIfInBounds_toArray, List.setIfInBounds_toArray, List.setIfInBounds_toArray, tflat_set T k hk c] at h1
  exact h1
theorem fr3at (w : World) (g k : Nat) (x y z : Value) : Fr [g] w (((w.setCell ⟨g, k, none⟩ x).setCell ⟨g, k + 1, none⟩ y).setCell ⟨g, k + 2, none⟩ z) :=
  (((Fr.refl [g] w).setCell (by simp) _).setCell (by simp) _).setCell (by simp) _

theorem PlanInv.cost_le {a b : List UInt8} {f t p : Nat} {T : List Ch} {al re : Nat} (h : PlanInv a b f t p T al re) (j : Nat) (h1 : p ≤ j) (h2 : j ≤ t) : cst T f j ≤ 1073741824 := by
  by_cases hj : j = t
  · subst hj; rw [h.last]; omega
  · rcases h.ent j h1 (by omega) with ⟨h3, _⟩ | ⟨h3, _⟩ <;> omega

/-- What plan answers: a slice of choices, one for each place, and one more. -/
def Planned (w : World) (a b : List UInt8) (f t : Nat) (e : Ending) (w' : World) : Prop :=
  ∃ g T al re, e = .returned (.slice (some ⟨g, 0, none⟩) (t - f + 1) (t - f + 1)) ∧ PlanInv a b f t f T al re ∧ Blk w' g 68 (tflat T).toArray ∧ w.heap.size ≤ g ∧ Fr [] w w'

set_option maxRecDepth 100000 in
set_option maxHeartbeats 8000000 in
theorem plan5 (w : World) (A B : Option Addr) (n c m d : Nat) (a b : List UInt8) (f t : Nat) (hn : a.length = n) (hm : b.length = m) (hA : Rd w A a) (hB : Rd w B b) (hft : f ≤ t) (ht : t ≤ m) (hm2 : m ≤ 16777216) (hw : t ≤ f + 65535) :
    Calls Try.prog 28 #[pairV A B n c m d, .agg #[.int .i64 (f : Int), .int .i64 (t : Int)]] w (Planned w a b f t) := by
  obtain ⟨i0, hi0, hz0, hz1, hz2⟩ := info_parts infoCh
  obtain ⟨N, hN⟩ : ∃ N, t - f + 1 = N := ⟨_, rfl⟩
  have hN1 : (t : Int) - (f : Int) + 1 = (N : Int) := by omega
  have hN2 : N ≤ 65536 := by omega
  have HP0 := Lib.hid (plan_start a b f t hft hw)
  rw [hN] at HP0
  have HA := Lib.hid hA
  have HB := Lib.hid hB
  clear hA hB
  obtain ⟨s, hs⟩ : ∃ s, w.heap.size = s := ⟨_, rfl⟩
  obtain ⟨r, hr⟩ : ∃ r, s + 1 = r := ⟨_, rfl⟩
  obtain ⟨g, hg⟩ : ∃ g, r + 1 = g := ⟨_, rfl⟩
  unfold pairV
  have HQ : Hid (∀ W g T al re, PlanInv a b f t f T al re → Blk W g 68 (tflat T).toArray → w.heap.size ≤ g → Fr [] w W → Planned w a b f t (.returned (.slice (some ⟨g, 0, none⟩) N N)) W) := Lib.hid fun W g T al re h1 h2 h3 h4 => ⟨g, T, al, re, by rw [hN], h1, h2, h3, h4⟩
  generalize Planned w a b f t = Q at *
  go_enter Try.func28, Try.ntmps28
  go_wp2_with (at_make; refine wpList_make_full _ rfl _ _ 64 rfl 0 68 i0 _ 3 Try.underlying64 hi0 hz0 hz1 _ _ _ _ N rfl rfl rfl rfl ?b1 ?b2 ?b3 ?_)
  case b1 => rw [hz2]; omega
  case b2 => unfold maxLen; omega
  case b3 => omega
  intro w2 hown hgrow
  obtain ⟨z, hz⟩ : ∃ z, w2.heap.size = z := ⟨_, rfl⟩
  have HW2 : Hid (PlW w s r g z A B n c m d f t N (List.replicate N ch0) (w2.alloc (.cells #[.slice (some ⟨g, 0, none⟩) N N] 64))) := Lib.hid (by
    have f0 : Fr [] w ((w.alloc (.cells #[.slice A n c, .slice B m d] 39)).alloc (.cells #[.int .i64 (f : Int), .int .i64 (t : Int)] 47)) := ((Fr.refl [] w).alloc _).alloc _
    have b0 : Blk ((w.alloc (.cells #[.slice A n c, .slice B m d] 39)).alloc (.cells #[.int .i64 (f : Int), .int .i64 (t : Int)] 47)) w.heap.size 39 #[.slice A n c, .slice B m d] := (Blk.fresh w _ _).fr ((Fr.refl [] _).alloc _) (by simp)
    have b1 := Blk.fresh (w.alloc (.cells #[.slice A n c, .slice B m d] 39)) 47 #[.int .i64 (f : Int), .int .i64 (t : Int)]
    rw [World.size_alloc, hs, hr] at b1
    rw [hs] at b0
    have b2 := blk_made hown
    rw [made_tab'] at b2
    have f1 := Fr.grown (Fr.refl [] _) hgrow (by simp)
    have sz : ((w.alloc (.cells #[.slice A n c, .slice B m d] 39)).alloc (.cells #[.int .i64 (f : Int), .int .i64 (t : Int)] 47)).heap.size = g := by simp [hs, hr, hg]
    have sz2 : s < r ∧ r < g ∧ g < z := by have := b2.lt; omega
    have b3 := Blk.fresh w2 64 #[.slice (some ⟨g, 0, none⟩) N N]
    rw [hz] at b3
    have f2 : Fr [] w2 (w2.alloc (.cells #[.slice (some ⟨g, 0, none⟩) N N] 64)) := (Fr.refl [] w2).alloc _
    exact ⟨(b0.fr f1 (by simp)).fr f2 (by simp), (b1.fr f1 (by simp)).fr f2 (by simp), b2.fr f2 (by simp), b3, sz2, (f0.tr f1).tr f2⟩)
  have r0 : (w2.alloc (.cells #[.slice (some ⟨g, 0, none⟩) N N] 64)).cell? ⟨r, 1, none⟩ = some (.int .i64 (t : Int)) := by simpa using HW2.out.rbox.cell 1
  clear hown hgrow
  go_wp2_with fail
  go_quiet (fail)
  have HW3 : Hid (PlW w s r g z A B n c m d f t N (List.replicate N ch0) ((w2.alloc (.cells #[.slice (some ⟨g, 0, none⟩) N N] 64)).drewN nq)) := Lib.hid (HW2.out.later hs ((Fr.refl [] _).drewN _) (by simp))
  clear HW2 r0
  generalize (w2.alloc (.cells #[.slice (some ⟨g, 0, none⟩) N N] 64)).drewN nq = w3 at *
  have r0 : w3.cell? ⟨r, 1, none⟩ = some (.int .i64 (t : Int)) := by simpa using HW3.out.rbox.cell 1
  go_wp2_with fail
  clear r0
  go_loopw [7, 8, 9] (fun s7 s8 s9 wr => ∃ (p : Nat) (T : List Ch) (al re : Nat), s9 = .int .i64 ((p : Int) - 1) ∧ s7 = .int .i64 (al : Int) ∧ s8 = .int .i64 (re : Int) ∧ PlanInv a b f t p T al re ∧ PlW w s r g z A B n c m d f t N T wr) (fun _ _ s9 _ => ((intOf s9) + 1).toNat)
  case atStart => exact ⟨t, _, t, t, rfl, rfl, rfl, HP0.out, HW3.out⟩
  case round =>
    obtain ⟨p, T, al, re, rfl, rfl, rfl, hI, hW⟩ := hrel
    have r0 : wr.cell? ⟨r, 0, none⟩ = some (.int .i64 (f : Int)) := by simpa using hW.rbox.cell 0
    have r1 : wr.cell? ⟨r, 1, none⟩ = some (.int .i64 (t : Int)) := by simpa using hW.rbox.cell 1
    have hlow := hI.low
    have hhigh := hI.high
    have HI := Lib.hid hI
    have HW := Lib.hid hW
    clear hI hW HP0 HW3
    by_cases hp : f < p
    · obtain ⟨i, rfl⟩ : ∃ i, p = i + 1 := ⟨p - 1, by omega⟩
      rw [show (((i + 1 : Nat) : Int) - 1) = (i : Int) by omega]
      have hge : (f : Int) ≤ i := by omega
      have hit : (i : Int) < t := by omega
      obtain ⟨i1, hi1⟩ : ∃ i1 : Nat, (i : Int) + 1 = (i1 : Int) := ⟨i + 1, by omega⟩
      have hi1b : (i1 : Int) ≤ 16777216 := by omega
      have hal1 := HI.out.al1
      have hal2 := HI.out.al2
      have hre1 := HI.out.re1
      have hre2 := HI.out.re2
      have HCL : Hid (∀ j, i + 1 ≤ j → j ≤ t → ∀ W, Fr [] wr W → Calls Try.prog 41 #[.int .i64 (j : Int), .pointer (some ⟨z, 0, none⟩), .pointer (some ⟨r, 0, none⟩)] W fun e w' => e = .returned (.int .i64 (cst T f j : Nat)) ∧ w' = W) := Lib.hid (by
        intro j h1 h2 W hf
        have h := HW.out.later hs hf (by simp)
        exact cost5 W z r g N f t j T h.obox h.rbox h.tab (by rw [HI.out.len, hN]) (by omega) (by omega) (by omega))
      have HCB : Hid (∀ j, i + 1 ≤ j → j ≤ t → cst T f j ≤ 1073741824) := Lib.hid fun j h1 h2 => HI.out.cost_le j h1 h2
      obtain ⟨cb, hcb⟩ : ∃ cb, cb = decide (i + 1 < t ∧ (b[i]? ≠ b[i + 1]? ∨ cst T f al = 1073741824)) := ⟨_, rfl⟩
      have HCBd := Lib.hid hcb
      clear hcb
      have p0 : wr.cell? ⟨s, 1, none⟩ = some (.slice B m d) := by simpa using HW.out.pbox.cell 1
      go_upto_region 7 with fail
      go_cut [56] (fun s56 wx => s56 = .bool cb ∧ Fr [] wr wx)
      case first =>
        by_cases hlt : i + 1 < t
        · have hlt' : (i1 : Int) < t := by omega
          obtain ⟨bb, bo, x, rfl, hx, cx⟩ := (HB.out.later HW.out.fr (by simp)).at i (by omega)
          obtain ⟨bb', bo', y, e, hy, cy⟩ := (HB.out.later HW.out.fr (by simp)).at i1 (by omega)
          cases e
          have hbm : (i : Int) < m := by omega
          have hbm1 : (i1 : Int) < m := by omega
          have hxy : b[i]? = b[i + 1]? ↔ x = y := by rw [hx, show i + 1 = i1 by omega, hy]; simp
          by_cases hne : x = y
          · subst hne
            have HCa := Lib.hid (HCL.out al hal1 hal2)
            by_cases hC : cst T f al = 1073741824
            · have HT : Hid (cb = true) := Lib.hid (by rw [HCBd.out]; exact decide_eq_true ⟨hlt, .inr hC⟩)
              rw [hC] at HCa
              clear hC hxy hx hy
              go_quiet (first | (go_at_call 41; exact Calls.quiet_of_same (HCa.out _ ((Fr.refl [] wr).drewN _))))
              go_wp2
              go_meet
              exact ⟨by rw [HT.out], (Fr.refl [] wr).drewN _⟩
            · have HT : Hid (cb = false) := Lib.hid (by rw [HCBd.out]; exact decide_eq_false fun h => by rcases h.2 with h | h; exact h (hxy.2 rfl); exact hC h)
              have hC' : (((cst T f al : Nat) : Int) == 1073741824) = false := by simp; omega
              clear hC hxy hx hy
              generalize cst T f al = C at *
              go_quiet (first | (go_at_call 41; exact Calls.quiet_of_same (HCa.out _ ((Fr.refl [] wr).drewN _))))
              go_wp2
              go_meet
              exact ⟨by rw [HT.out], (Fr.refl [] wr).drewN _⟩
          · have HT : Hid (cb = true) := Lib.hid (by rw [HCBd.out]; exact decide_eq_true ⟨hlt, .inl (fun h => hne (hxy.1 h))⟩)
            have hne2 : ((x.toNat : Int) != (y.toNat : Int)) = true := by
              have : ¬ x.toNat = y.toNat := fun h => hne (UInt8.toNat_inj.1 h)
              simp; omega
            clear hxy hx hy hne
            go_quiet (fail)
            go_wp2
            go_meet
            exact ⟨by rw [HT.out], (Fr.refl [] wr).drewN _⟩
        · have hlt' : decide ((i1 : Int) < t) = false := by simp; omega
          have hlt2 : decide (i1 < t) = false := by simp; omega
          have hwr : IntKind.i64.wrap (i1 : Int) = (i1 : Int) := by rw [IntKind.wrap_i64]; omega
          have HT : Hid (cb = false) := Lib.hid (by rw [HCBd.out]; exact decide_eq_false fun h => hlt h.1)
          go_quiet (fail)
          go_wp2
          go_meet
          exact ⟨by rw [HT.out], (Fr.refl [] wr).drewN _⟩
      case rest =>
        obtain ⟨rfl, hfc⟩ := hcut
        obtain ⟨A', hA'⟩ : ∃ A', A' = al' b t i al (cst T f al) := ⟨_, rfl⟩
        have HA' := Lib.hid hA'
        have hA'1 : i + 1 ≤ A' ∧ A' ≤ t := by rw [hA']; unfold al'; split <;> omega
        have HAif : Hid (A' = if cb = true then i1 else al) := Lib.hid (by
          rw [hA', HCBd.out]; unfold al'; simp only [decide_eq_true_eq]; rw [show i + 1 = i1 by omega])
        have HFc := Lib.hid hfc
        clear hA' hfc
        go_upto_if 56 with fail
        go_cut [7] (fun s7 wx => s7 = .int .i64 (A' : Int) ∧ wc = wx)
        case first =>
          cases cb with
          | true =>
            have e : A' = i1 := by rw [HAif.out]; rfl
            go_wp2
            go_meet
            exact ⟨by rw [e], rfl⟩
          | false =>
            have e : A' = al := by rw [HAif.out]; rfl
            go_wp2
            go_meet
            exact ⟨by rw [e], rfl⟩
        case rest =>
          obtain ⟨rfl, rfl⟩ := hcut
          have HW1 : Hid (PlW w s r g z A B n c m d f t N T wc) := Lib.hid (HW.out.later hs HFc.out (by simp))
          obtain ⟨W1, rfl⟩ : ∃ W1, W1 = wc := ⟨_, rfl⟩
          obtain ⟨q, hq⟩ : ∃ q, W1.heap.size = q := ⟨_, rfl⟩
          have hqz : z < q := by rw [← hq]; exact HW1.out.obox.lt
          obtain ⟨X1, hX1⟩ : ∃ X1, X1 = best1 (sm a b i) i (cst T f (i + 1)) := ⟨_, rfl⟩
          have HX1 := Lib.hid hX1
          have HSm : Hid (Calls Try.prog 40 #[.agg #[.slice A n c, .slice B m d], .int .i64 (i : Int)] (W1.alloc (.cells #[.int .i64 0, .int .i64 0, .int .i64 1073741824] 68)) fun e w' => e = .returned (.bool (sm a b i)) ∧ Fr [] (W1.alloc (.cells #[.int .i64 0, .int .i64 0, .int .i64 1073741824] 68)) w') := Lib.hid (by
            have hw : Fr [] w (W1.alloc (.cells #[.int .i64 0, .int .i64 0, .int .i64 1073741824] 68)) := HW1.out.fr.alloc _
            exact same5 _ A B n c m d i a b hn hm (HA.out.later hw (by simp)) (HB.out.later hw (by simp)) (by omega))
          have HBq : Hid (Blk (W1.alloc (.cells #[.int .i64 0, .int .i64 0, .int .i64 1073741824] 68)) q 68 #[.int .i64 0, .int .i64 0, .int .i64 1073741824]) := Lib.hid (by have h := Blk.fresh W1 68 #[.int .i64 0, .int .i64 0, .int .i64 1073741824]; rwa [hq] at h)
          have HPa : Hid (PlW w s r g z A B n c m d f t N T (W1.alloc (.cells #[.int .i64 0, .int .i64 0, .int .i64 1073741824] 68))) := Lib.hid (HW1.out.later hs ((Fr.refl [] _).alloc _) (by simp))
          have p2 : (W1.alloc (.cells #[.int .i64 0, .int .i64 0, .int .i64 1073741824] 68)).cell? ⟨s, 0, none⟩ = some (.slice A n c) := by simpa using HPa.out.pbox.cell 0
          have p3 : (W1.alloc (.cells #[.int .i64 0, .int .i64 0, .int .i64 1073741824] 68)).cell? ⟨s, 1, none⟩ = some (.slice B m d) := by simpa using HPa.out.pbox.cell 1
          clear hX1 r0 r1 p0
          go_wp2_with fail
          refine HSm.out.mono ?_
          rintro e w4 ⟨rfl, hf4⟩
          have HF4 : Hid (Fr [] W1 w4) := Lib.hid (((Fr.refl [] W1).alloc _).tr hf4)
          have HB4 := Lib.hid (HBq.out.fr hf4 (by simp))
          clear hf4 HSm HBq HPa p2 p3
          have hi1n : i + 1 = i1 := by omega
          rw [hi1n] at HX1
          have HC1 := Lib.hid (HCL.out i1 (by omega) (by omega) w4 (HFc.out.tr HF4.out))
          have hC1 := HCB.out i1 (by omega) (by omega)
          obtain ⟨C1, hC1e⟩ : ∃ C1, cst T f i1 = C1 := ⟨_, rfl⟩
          rw [hC1e] at HX1 HC1 hC1
          have HC1e : Hid (cst T f (i + 1) = C1) := Lib.hid (by rw [hi1n]; exact hC1e)
          clear hC1e
          go_upto_if 62 with fail
          go_cut [10] (fun s10 wx => s10 = .pointer (some ⟨q, 0, none⟩) ∧ Blk wx q 68 #[.int .i64 (X1.kind : Int), .int .i64 (X1.stop : Int), .int .i64 (X1.cost : Int)] ∧ Fr [] W1 wx)
          case first =>
            cases hsm : sm a b i with
            | true =>
              rw [hsm] at HX1
              have hX1 : X1 = ⟨0, i1, C1⟩ := by rw [HX1.out]; unfold best1; rw [if_pos rfl, hi1n]
              have z0 := HB4.out.cell 0
              have z1 := HB4.out.cell 1
              have z2 := HB4.out.cell 2
              have y0 := HB4.out.frozen 0
              have y1 := HB4.out.frozen 1
              have y2 := HB4.out.frozen 2
              simp at z0 z1 z2
              have HXX := Lib.hid hX1
              clear hX1
              go_wp2_with fail
              refine HC1.out.mono ?_
              rintro e w5 ⟨rfl, rfl⟩
              go_wp2
              go_meet
              rw [HXX.out]
              exact ⟨rfl, laid3 HB4.out, HF4.out.trans (fr3 _ _ _ _ _) (by simp; omega)⟩
            | false =>
              rw [hsm] at HX1
              have hX1 : X1 = ⟨0, 0, 1073741824⟩ := by rw [HX1.out]; rfl
              have HXX := Lib.hid hX1
              clear hX1
              go_wp2
              go_meet
              rw [HXX.out]
              exact ⟨rfl, HB4.out, HF4.out⟩
          case rest =>
            obtain ⟨rfl, hb5, hf5⟩ := hcut
            obtain ⟨w5, rfl⟩ : ∃ w5, w5 = wc := ⟨_, rfl⟩
            have HB5 := Lib.hid hb5
            have HF5 := Lib.hid hf5
            have hX1c : X1.cost ≤ 1073741824 := by rw [HX1.out]; unfold best1; split <;> simp; omega
            clear hb5 hf5 HB4 HF4 HC1
            obtain ⟨CR, hCR⟩ : ∃ CR, cst T f re = CR := ⟨_, rfl⟩
            obtain ⟨CA, hCA⟩ : ∃ CA, cst T f A' = CA := ⟨_, rfl⟩
            have hCRb := HCB.out re hre1 hre2
            have hCAb := HCB.out A' hA'1.1 hA'1.2
            have HCR : Hid (∀ W, Fr [] W1 W → Calls Try.prog 41 #[.int .i64 (re : Int), .pointer (some ⟨z, 0, none⟩), .pointer (some ⟨r, 0, none⟩)] W fun e w' => e = .returned (.int .i64 (CR : Int)) ∧ w' = W) := Lib.hid fun W hf => by
              have h := HCL.out re hre1 hre2 W (HFc.out.tr hf)
              rwa [hCR] at h
            have HCA : Hid (∀ W, Fr [] W1 W → Calls Try.prog 41 #[.int .i64 (A' : Int), .pointer (some ⟨z, 0, none⟩), .pointer (some ⟨r, 0, none⟩)] W fun e w' => e = .returned (.int .i64 (CA : Int)) ∧ w' = W) := Lib.hid fun W hf => by
              have h := HCL.out A' hA'1.1 hA'1.2 W (HFc.out.tr hf)
              rwa [hCA] at h
            rw [hCR] at hCRb
            rw [hCA] at hCAb
            obtain ⟨X3, hX3⟩ : ∃ X3, X3 = best3 i X1 (dataC i re CR) (runC A' CA) := ⟨_, rfl⟩
            have HX3 := Lib.hid hX3
            have HCRe := Lib.hid hCR
            have HCAe := Lib.hid hCA
            clear hX3 hCR hCA
            go_upto_if 71 with fail
            go_cut [10] (fun s10 wx => s10 = .pointer (some ⟨q, 0, none⟩) ∧ Blk wx q 68 #[.int .i64 (X3.kind : Int), .int .i64 (X3.stop : Int), .int .i64 (X3.cost : Int)] ∧ Fr [] W1 wx)
            case first =>
              by_cases hb : i = 4542278
              · have hb1 : ((i : Int) != 4542278) = false := by rw [hb]; rfl
                have HE : Hid (X3 = X1) := Lib.hid (by rw [HX3.out]; unfold best3; rw [if_pos hb])
                clear hb
                go_wp2
                go_meet
                rw [HE.out]
                exact ⟨rfl, HB5.out, HF5.out⟩
              · have hb1 : ((i : Int) != 4542278) = true := by simp; omega
                have HE : Hid (X3 = cheap (cheap X1 (dataC i re CR)) (runC A' CA)) := Lib.hid (by rw [HX3.out]; unfold best3; rw [if_neg hb])
                clear hb
                obtain ⟨V1, hV1, eV1⟩ : ∃ V1 : Nat, IntKind.i64.wrap (5 + (re : Int)) = (V1 : Int) ∧ V1 = 5 + re := ⟨5 + re, by rw [IntKind.wrap_i64]; omega, rfl⟩
                obtain ⟨V2, hV2, eV2⟩ : ∃ V2 : Nat, IntKind.i64.wrap ((V1 : Int) - (i : Int)) = (V2 : Int) ∧ V2 = 5 + re - i := ⟨5 + re - i, by rw [IntKind.wrap_i64]; omega, rfl⟩
                obtain ⟨Z, hZ, eZ⟩ : ∃ Z : Nat, IntKind.i64.wrap ((V2 : Int) + (CR : Int)) = (Z : Int) ∧ Z = 5 + re - i + CR := ⟨5 + re - i + CR, by rw [IntKind.wrap_i64]; omega, rfl⟩
                obtain ⟨Y, hY, eY⟩ : ∃ Y : Nat, IntKind.i64.wrap (8 + (CA : Int)) = (Y : Int) ∧ Y = 8 + CA := ⟨8 + CA, by rw [IntKind.wrap_i64]; omega, rfl⟩
                have HeZ : Hid ((dataC i re CR).cost = Z) := Lib.hid (by rw [eZ]; rfl)
                have HeY : Hid ((runC A' CA).cost = Y) := Lib.hid (by rw [eY]; rfl)
                clear eV1 eV2 eZ eY
                have z0 := HB5.out.cell 0
                have z1 := HB5.out.cell 1
                have z2 := HB5.out.cell 2
                simp at z0 z1 z2
                go_wp2_with fail
                go_still_tail 11, (by kernel_rfl)
                still_call (HCR.out _ HF5.out.drew)
                repeat still_step
                refine wpStill_nil ?_
                change wpList _ _ _ _ _ w5.drew
                clear hV1 hV2 hZ
                go_wp2_with fail
                refine (cheaperK w5.drew X1 (dataC i re CR) 1 re Z rfl rfl HeZ.out).mono ?_
                rintro e w6 ⟨rfl, hf6⟩
                have HF6 : Hid (Fr [] W1 w6) := Lib.hid (HF5.out.drew.tr hf6)
                have HB6 := Lib.hid (HB5.out.fr ((Fr.refl [] w5).drew.tr hf6) (by simp))
                have HE2 := HE
                have hX2c : (cheap X1 (dataC i re CR)).cost ≤ 1073741824 := by have := (cheap_le X1 (dataC i re CR)).1; omega
                generalize cheap X1 (dataC i re CR) = X2 at *
                clear hf6 z0 z1 z2 HE HCR HeZ
                have z0 := HB6.out.cell 0
                have z1 := HB6.out.cell 1
                have z2 := HB6.out.cell 2
                have y0 := HB6.out.frozen 0
                have y1 := HB6.out.frozen 1
                have y2 := HB6.out.frozen 2
                simp at z0 z1 z2
                go_wp2_with fail
                have HB7 : Hid (Blk (((w6.setCell ⟨q, 0, none⟩ (.int .i64 (X2.kind : Int))).setCell ⟨q, 1, none⟩ (.int .i64 (X2.stop : Int))).setCell ⟨q, 2, none⟩ (.int .i64 (X2.cost : Int))) q 68 #[.int .i64 (X2.kind : Int), .int .i64 (X2.stop : Int), .int .i64 (X2.cost : Int)]) := Lib.hid (laid3 HB6.out)
                have HF7 : Hid (Fr [] W1 (((w6.setCell ⟨q, 0, none⟩ (.int .i64 (X2.kind : Int))).setCell ⟨q, 1, none⟩ (.int .i64 (X2.stop : Int))).setCell ⟨q, 2, none⟩ (.int .i64 (X2.cost : Int)))) := Lib.hid (HF6.out.trans (fr3 _ _ _ _ _) (by simp; omega))
                clear z0 z1 z2 y0 y1 y2 HB6 HF6
                generalize ((w6.setCell ⟨q, 0, none⟩ (.int .i64 (X2.kind : Int))).setCell ⟨q, 1, none⟩ (.int .i64 (X2.stop : Int))).setCell ⟨q, 2, none⟩ (.int .i64 (X2.cost : Int)) = w7 at *
                have z0 := HB7.out.cell 0
                have z1 := HB7.out.cell 1
                have z2 := HB7.out.cell 2
                simp at z0 z1 z2
                go_still_tail 7, (by kernel_rfl)
                still_call (HCA.out _ HF7.out.drew)
                repeat still_step
                refine wpStill_nil ?_
                change wpList _ _ _ _ _ w7.drew
                clear hY
                go_wp2_with fail
                refine (cheaperK w7.drew X2 (runC A' CA) 2 A' Y rfl rfl HeY.out).mono ?_
                rintro e w8 ⟨rfl, hf8⟩
                have HF8 : Hid (Fr [] W1 w8) := Lib.hid (HF7.out.drew.tr hf8)
                have HB8 := Lib.hid (HB7.out.fr ((Fr.refl [] w7).drew.tr hf8) (by simp))
                rw [← HE2.out]
                clear hf8 z0 z1 z2 HCA HeY
                have z0 := HB8.out.cell 0
                have z1 := HB8.out.cell 1
                have z2 := HB8.out.cell 2
                have y0 := HB8.out.frozen 0
                have y1 := HB8.out.frozen 1
                have y2 := HB8.out.frozen 2
                simp at z0 z1 z2
                go_wp2
                go_meet
                exact ⟨rfl, laid3 HB8.out, HF8.out.trans (fr3 _ _ _ _ _) (by simp; omega)⟩
            case rest =>
              obtain ⟨rfl, hb9, hf9⟩ := hcut
              obtain ⟨w9, rfl⟩ : ∃ w9, w9 = wc := ⟨_, rfl⟩
              have HW9 : Hid (PlW w s r g z A B n c m d f t N T w9) := Lib.hid (HW1.out.later hs hf9 (by simp))
              have hab := HW1.out.above
              have hlenT := HI.out.len
              obtain ⟨k, hk⟩ : ∃ k, i - f = k := ⟨_, rfl⟩
              have hk' : (i : Int) - (f : Int) = (k : Int) := by omega
              have hkN : (k : Int) < N := by omega
              have hk0 : (0 : Int) ≤ k := by omega
              have hk4 : (k : Int) ≤ 1000000000 := by omega
              have hX3c : X3.cost ≤ 1073741824 := by
                rw [HX3.out]
                unfold best3
                split
                · exact hX1c
                · have h1 := (cheap_le (cheap X1 (dataC i re CR)) (runC A' CA)).1
                  have h2 := (cheap_le X1 (dataC i re CR)).1
                  omega
              have HWX : Hid (PlW w s r g z A B n c m d f t N (T.set k X3) (((w9.setCell ⟨g, k * 3, none⟩ (.int .i64 (X3.kind : Int))).setCell ⟨g, k * 3 + 1, none⟩ (.int .i64 (X3.stop : Int))).setCell ⟨g, k * 3 + 2, none⟩ (.int .i64 (X3.cost : Int)))) := Lib.hid (by
                have hfr := fr3at w9 g (k * 3) (.int .i64 (X3.kind : Int)) (.int .i64 (X3.stop : Int)) (.int .i64 (X3.cost : Int))
                exact ⟨HW9.out.pbox.fr hfr (by simp; omega), HW9.out.rbox.fr hfr (by simp; omega), tab_put HW9.out.tab k (by omega) X3, HW9.out.obox.fr hfr (by simp; omega), HW9.out.above, HW9.out.fr.trans hfr (by simp; omega)⟩)
              have HBX : Hid (Blk (((w9.setCell ⟨g, k * 3, none⟩ (.int .i64 (X3.kind : Int))).setCell ⟨g, k * 3 + 1, none⟩ (.int .i64 (X3.stop : Int))).setCell ⟨g, k * 3 + 2, none⟩ (.int .i64 (X3.cost : Int))) q 68 #[.int .i64 (X3.kind : Int), .int .i64 (X3.stop : Int), .int .i64 (X3.cost : Int)]) := Lib.hid (hb9.fr (fr3at w9 g (k * 3) _ _ _) (by simp; omega))
              have e0 := hb9.cell 0
              have e1 := hb9.cell 1
              have e2 := hb9.cell 2
              simp at e0 e1 e2
              have d0 : w9.cell? ⟨z, 0, none⟩ = some (.slice (some ⟨g, 0, none⟩) N N) := by simpa using HW9.out.obox.cell 0
              have d1 : w9.cell? ⟨r, 0, none⟩ = some (.int .i64 (f : Int)) := by simpa using HW9.out.rbox.cell 0
              obtain ⟨t0, t1, t2⟩ := tab_cells HW9.out.tab f i (by omega)
              rw [hk] at t0 t1 t2
              have v0 := HW9.out.tab.frozen (k * 3)
              have v1 := HW9.out.tab.frozen (k * 3 + 1)
              have v2 := HW9.out.tab.frozen (k * 3 + 2)
              have hgq : ¬ g = q := by omega
              have hqg : ¬ q = g := by omega
              clear hb9 hf9 HB5 HF5
              go_wp2_with fail
              have HLT : Hid (T.length = N) := Lib.hid (by omega)
              have HHK := Lib.hid hk
              clear t0 t1 t2 v0 v1 v2 e0 e1 e2 d0 d1 HW9 hk' hkN hk0 hk4 hlenT hk
              generalize ((w9.setCell ⟨g, k * 3, none⟩ (.int .i64 (X3.kind : Int))).setCell ⟨g, k * 3 + 1, none⟩ (.int .i64 (X3.stop : Int))).setCell ⟨g, k * 3 + 2, none⟩ (.int .i64 (X3.cost : Int)) = w10 at *
              have HCN : Hid (∀ W, Fr [] w10 W → Calls Try.prog 41 #[.int .i64 (re : Int), .pointer (some ⟨z, 0, none⟩), .pointer (some ⟨r, 0, none⟩)] W fun e w' => e = .returned (.int .i64 (CR : Int)) ∧ w' = W) := Lib.hid (by
                intro W hf
                have h := HWX.out.later hs hf (by simp)
                have hl := HLT.out
                have h2 := cost5 W z r g N f t re (T.set k X3) h.obox h.rbox h.tab (by simpa using hl) (by omega) (by omega) (by omega)
                have e : cst (T.set k X3) f re = CR := by
                  unfold cst
                  rw [← HHK.out, chAt_old T f i re X3 (by omega) (by omega)]
                  exact HCRe.out
                rwa [e] at h2)
              obtain ⟨S1, hS1, eS1⟩ : ∃ S1 : Nat, IntKind.i64.wrap ((i : Int) + (X3.cost : Int)) = (S1 : Int) ∧ S1 = i + X3.cost := ⟨i + X3.cost, by rw [IntKind.wrap_i64]; omega, rfl⟩
              obtain ⟨S2, hS2, eS2⟩ : ∃ S2 : Nat, IntKind.i64.wrap ((re : Int) + (CR : Int)) = (S2 : Int) ∧ S2 = re + CR := ⟨re + CR, by rw [IntKind.wrap_i64]; omega, rfl⟩
              have HST : Hid (∀ R, R = re' i re X3.cost CR → PlanInv a b f t i (T.set k X3) A' R) := Lib.hid (by
                intro R hR
                have h := plan_step a b f t i T al re HI.out (by omega) A' R X3 HA'.out (by rw [HC1e.out, HCRe.out, HCAe.out, ← HX1.out]; exact HX3.out) (by rw [HCRe.out]; exact hR)
                rwa [HHK.out] at h)
              have b2 : w10.cell? ⟨q, 2, none⟩ = some (.int .i64 (X3.cost : Int)) := by simpa using HBX.out.cell 2
              have hi0' : (i : Int) ≤ 16777216 := by omega
              have hre0 : (re : Int) ≤ 16777216 := by omega
              clear HCL HCB HCBd HCR HCA HX1 HX3 HA' HAif HC1e HCAe HBX hX1c hCAb hC1
              by_cases hc : S1 < S2
              · have hc' : (S1 : Int) < S2 := by omega
                have HR : Hid (PlanInv a b f t i (T.set k X3) A' i) := Lib.hid (HST.out i (by unfold re'; rw [if_pos (by omega)]))
                clear eS1 eS2 HST hc
                go_quiet (first | (go_at_call 41; exact Calls.quiet_of_same (HCN.out _ ((Fr.refl [] w10).drewN _))))
                go_wp2
                go_roundw
                case rel => exact ⟨i, T.set k X3, A', i, rfl, rfl, rfl, HR.out, HWX.out.later hs ((Fr.refl [] _).drewN _) (by simp)⟩
                case measure => simp [intOf]
              · have hc' : ¬ (S1 : Int) < S2 := by omega
                have hc2 : decide ((S1 : Int) < S2) = false := by simp; omega
                have HR : Hid (PlanInv a b f t i (T.set k X3) A' re) := Lib.hid (HST.out re (by unfold re'; rw [if_neg (by omega)]))
                clear eS1 eS2 HST hc
                go_quiet (first | (go_at_call 41; exact Calls.quiet_of_same (HCN.out _ ((Fr.refl [] w10).drewN _))))
                go_wp2
                go_roundw
                case rel => exact ⟨i, T.set k X3, A', re, rfl, rfl, rfl, HR.out, HWX.out.later hs ((Fr.refl [] _).drewN _) (by simp)⟩
                case measure => simp [intOf]
    · obtain rfl : p = f := by omega
      have o0 : wr.cell? ⟨z, 0, none⟩ = some (.slice (some ⟨g, 0, none⟩) N N) := by simpa using HW.out.obox.cell 0
      have hge : ¬ (p : Int) ≤ (p : Int) - 1 := by omega
      have hge2 : decide ((p : Int) ≤ (p : Int) - 1) = false := by simp; omega
      go_wp2
      exact HQ.out _ g T al re HI.out HW.out.tab (by have := HW.out.above; omega) HW.out.fr

end Ips
end Go.Proofs.Ytchakjknndpmpaa
