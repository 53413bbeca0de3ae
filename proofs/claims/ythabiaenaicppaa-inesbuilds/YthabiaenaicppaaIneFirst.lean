/-
  Contract of ines' firstOf: of a table of function values the first one that tells true counts.
-/
import Derived.Test.YthabiaenaicppaaOctRead2
namespace Go.Proofs.Ythabiaenaicppaa
open Go.RowKit
namespace Ine

theorem enters_own {f : FuncId} {fn : Func} (hf : Try.prog.funcs[f]? = some fn) (hn : (fn.name == "runtime.NumGoroutine") = false) (hb : fn.body.isNone = false) (args : Array Value) (W : World) : (callFunc f args).run Try.prog W = .ok (.enter f args) W := by
  have h1 : fn.name ≠ "runtime.NumGoroutine" := by simpa using hn
  obtain ⟨b, h2⟩ : ∃ b, fn.body = some b := by
    cases h : fn.body with
    | none => rw [h] at hb; cases hb
    | some b => exact ⟨b, rfl⟩
  simp [callFunc, hf, h1, h2]

/-- A row of the table: a method of a value, and the error that is told. -/
structure Flt where
  fn : Nat
  rc : Value
  told : Nat
/-- What is told by the first one that is found; 0, if none is. -/
def toldOf : List Flt → List Bool → Nat
  | f :: fs, b :: bs => if b then f.told else toldOf fs bs
  | _, _ => 0
theorem toldOf_skip (fs : List Flt) (bs : List Bool) (i : Nat) (h : ∀ j, j < i → bs.getD j false = false) : toldOf fs bs = toldOf (fs.drop i) (bs.drop i) := by
  induction i generalizing fs bs with
  | zero => simp
  | succ i ih =>
    cases fs with
    | nil => simp [toldOf]
    | cons f fs =>
      cases bs with
      | nil => cases (f :: fs).drop (i + 1) <;> simp [toldOf]
      | cons b bs =>
        have h0 : b = false := by simpa [List.getD] using h 0 (by omega)
        rw [toldOf, h0]
        simp only [Bool.false_eq_true, if_false, List.drop_succ_cons]
        exact ih fs bs fun j hj => by simpa [List.getD] using h (j + 1) (by omega)
theorem toldOf_at (fs : List Flt) (bs : List Bool) (i : Nat) (hi : i < fs.length) (hl : fs.length = bs.length) (h : ∀ j, j < i → bs.getD j false = false) (hb : bs.getD i false = true) : toldOf fs bs = fs[i].told := by
  rw [toldOf_skip fs bs i h, List.drop_eq_getElem_cons hi, List.drop_eq_getElem_cons (show i < bs.length by omega), toldOf]
  have : bs[i]'(by omega) = true := by rw [← hb]; simp [List.getD, show i < bs.length by omega]
  rw [this]
  simp
theorem toldOf_none (fs : List Flt) (bs : List Bool) (h : ∀ j, j < fs.length → bs.getD j false = false) : toldOf fs bs = 0 := by
  rw [toldOf_skip fs bs fs.length h, List.drop_length]
  cases bs.drop fs.length <;> rfl

/-- The table in memory. -/
def Tab (w : World) (g : Nat) (fs : List Flt) : Prop :=
  ∀ j (hj : j < fs.length), w.cell? ⟨g, j * 2, none⟩ = some (.func (.func fs[j].fn) #[fs[j].rc] #[]) ∧ w.cell? ⟨g, j * 2 + 1, none⟩ = some (.int .i64 (fs[j].told : Int))
theorem Tab.fr {w w' : World} {g : Nat} {fs : List Flt} (h : Tab w g fs) (hf : Fr [] w w') : Tab w' g fs :=
  fun j hj => ⟨hf.cell (h j hj).1 (by simp), hf.cell (h j hj).2 (by simp)⟩

/-- A row of the table does what it shall, once none ahead of it is found. -/
def Does (w : World) (fs : List Flt) (bs : List Bool) : Prop :=
  ∀ i (hi : i < fs.length), (∀ j, j < i → bs.getD j false = false) → (∀ args W, (callFunc fs[i].fn args).run Try.prog W = .ok (.enter fs[i].fn args) W) ∧
    ∀ W, Fr [] w W → Calls Try.prog fs[i].fn #[fs[i].rc] W fun e w' => e = .returned (.bool (bs.getD i false)) ∧ Fr [] W w'

set_option maxRecDepth 100000 in
set_option maxHeartbeats 1000000 in
theorem firstOf_any (w : World) (g n : Nat) (fs : List Flt) (bs : List Bool) (hn : fs.length = n) (hn2 : n ≤ 100) (hl : fs.length = bs.length) (hT : Tab w g fs) (hD : Does w fs bs) :
    Calls Try.prog 15 #[.slice (some ⟨g, 0, none⟩) n n] w fun e w' => e = .returned (.int .i64 (toldOf fs bs : Int)) ∧ Fr [] w w' := by
  have HN := Lib.hid hn
  have HL := Lib.hid hl
  have HT := Lib.hid hT
  have HD := Lib.hid hD
  clear hn hl hT hD
  go_enter Try.func15, Try.ntmps15
  go_wp2
  go_loopw [7] (fun s7 wr => ∃ i : Nat, s7 = .int .i64 (i : Int) ∧ i ≤ n ∧ (∀ j, j < i → bs.getD j false = false) ∧ Fr [] w wr) (fun s7 _ => n - (intOf s7).toNat)
  case atStart => exact ⟨0, rfl, Nat.zero_le _, fun j hj => absurd hj (Nat.not_lt_zero _), Fr.refl _ _⟩
  case round =>
    obtain ⟨i, rfl, hi, hnone, hf⟩ := hrel
    have HNo := Lib.hid hnone
    have HF := Lib.hid hf
    clear hnone hf
    by_cases hlt : i < n
    · have hlt' : i < fs.length := by rw [HN.out]; exact hlt
      obtain ⟨hc0, hc1⟩ := HT.out.fr HF.out i hlt'
      obtain ⟨hcf, hC⟩ := HD.out i hlt' HNo.out
      have HTo := Lib.hid (toldOf_at fs bs i hlt' HL.out HNo.out)
      generalize fs[i] = f at *
      obtain ⟨fn, rc, td⟩ := f
      simp only at hc0 hc1 hcf hC HTo
      have HC := Lib.hid hC
      have hi2 : (i : Int) < n := by omega
      have hi3 : (0 : Int) ≤ i := by omega
      obtain ⟨s, hs⟩ : ∃ s, wr.heap.size = s := ⟨_, rfl⟩
      have HF1 : Hid (Fr [] w (wr.alloc (.cells #[.func (.func fn) #[rc] #[], .int .i64 (td : Int)] 67))) := Lib.hid (HF.out.alloc _)
      have hb := Blk.fresh wr 67 #[.func (.func fn) #[rc] #[], .int .i64 (td : Int)]
      rw [hs] at hb
      have HB := Lib.hid hb
      obtain ⟨b, hb'⟩ : ∃ b, bs.getD i false = b := ⟨_, rfl⟩
      have HBv := Lib.hid hb'
      rw [hb'] at HC
      clear hC hlt' hb hb'
      go_wp2_with fail
      generalize wr.alloc _ = w1 at *
      refine (HC.out w1 HF1.out).mono ?_
      rintro e w2 ⟨rfl, hf2⟩
      have hb2 := HB.out.fr hf2 (by simp)
      have y1 := hb2.cell 1
      simp at y1
      have HF2 := Lib.hid (HF1.out.tr hf2)
      clear hf2 hb2 HB HC HF1 hcf hc0 hc1
      cases b
      · go_wp2
        go_roundw
        case rel =>
          refine ⟨i + 1, by go_num, by omega, fun j hj => ?_, HF2.out⟩
          by_cases h : j = i
          · subst h; exact HBv.out
          · exact HNo.out j (by omega)
        case measure => simp [intOf]; omega
      · go_wp2
        go_ret
        exact ⟨by rw [HTo.out HBv.out]; rfl, HF2.out⟩
    · obtain rfl : i = n := by omega
      go_wp2
      go_ret
      exact ⟨by rw [toldOf_none fs bs (by rw [HN.out]; exact HNo.out)]; rfl, HF.out⟩

end Ine
end Go.Proofs.Ythabiaenaicppaa
