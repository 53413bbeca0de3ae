/-
  Contracts of the program's New. Condition: lengths as of slices.
-/
import Derived.Test.YtgakdlbdbiacgaaNmObP
namespace Go.Proofs.Ytgakdlbdbiacgaa
open Go.RowKit
namespace Nm

section
variable {w : World} {q : Nat} {t : TypeId} {x0 x1 x2 x3 x4 : Value}
theorem blk5 (h : Blk w q t #[x0, x1, x2, x3, x4]) : w.cell? ⟨q, 0, none⟩ = some x0 ∧ w.cell? ⟨q, 1, none⟩ = some x1 ∧ w.cell? ⟨q, 2, none⟩ = some x2 ∧ w.cell? ⟨q, 3, none⟩ = some x3 ∧ w.cell? ⟨q, 4, none⟩ = some x4 :=
  ⟨h.cell 0, h.cell 1, h.cell 2, h.cell 3, h.cell 4⟩
end

/-- Is a length some whole units? -/
def whole (n : Nat) (u : Int) : Bool := decide (0 < n) && decide ((n : Int) % u = 0)

set_option maxRecDepth 100000 in
set_option maxHeartbeats 4000000 in
theorem isWhole_any (w : World) (A : Option Addr) (n c : Nat) (u : Int) (hu : 0 < u) : Calls Try.prog 32 #[.slice A n c, .int .i64 u] w fun e w' => e = .returned (.bool (whole n u)) ∧ w = w' := by
  have hz : ¬ u = 0 := by omega
  have hz' : (u == 0) = false := by rw [beq_eq_false_iff_ne]; exact hz
  unfold whole
  by_cases h0 : n = 0
  · subst h0
    simp only [Nat.lt_irrefl, decide_false, Bool.false_and]
    go_enter Try.func32, Try.ntmps32
    go_wp2
    go_ret
    exact ⟨rfl, rfl⟩
  have h1 : decide (0 < n) = true := by simp; omega
  rw [h1, Bool.true_and]
  have h2 : (0 : Int) < n := by omega
  obtain ⟨k, hk⟩ : ∃ k, (n : Int) % u = k := ⟨_, rfl⟩
  have hk' : (n : Int).tmod u = k := by rw [Int.tmod_eq_emod_of_nonneg (by omega)]; exact hk
  rw [hk]
  clear hk h1
  by_cases h3 : k = 0
  · subst h3
    simp only [decide_true]
    go_enter Try.func32, Try.ntmps32
    go_wp2
    go_ret
    exact ⟨rfl, rfl⟩
  · have h3' : (k == 0) = false := by rw [beq_eq_false_iff_ne]; exact h3
    rw [decide_eq_false h3]
    clear h3
    go_enter Try.func32, Try.ntmps32
    go_wp2
    go_ret
    exact ⟨rfl, rfl⟩

set_option maxRecDepth 100000 in
set_option maxHeartbeats 4000000 in
theorem newSerial_any (w : World) (S : St) (h : S = new S.mp S.mir S.pg S.un) : Calls Try.prog 33 #[] w fun e w' => e = .returned (.pointer (some ⟨w.heap.size, 0, none⟩)) ∧ Ob1 w' w.heap.size S ∧ Fr [] w w' := by
  have hb := Blk.fresh w 85 #[.int .i64 0, .int .u8 0, .int .u8 0, .int .u8 0, .int .u8 0, .int .u8 0, .int .i64 0]
  have hf : Fr [] w (w.alloc (.cells #[.int .i64 0, .int .u8 0, .int .u8 0, .int .u8 0, .int .u8 0, .int .u8 0, .int .i64 0] 85)) := (Fr.refl [] w).alloc _
  have HO : Hid (∀ W, Blk W w.heap.size 85 #[.int .i64 0, .int .u8 12, .int .u8 0, .int .u8 0, .int .u8 0, .int .u8 0, .int .i64 0] → Ob1 W w.heap.size S) := Lib.hid (by
    intro W hW
    rw [h]
    exact hW)
  obtain ⟨z, hz⟩ : ∃ z, w.heap.size = z := ⟨_, rfl⟩
  rw [hz] at hb HO ⊢
  have HB := Lib.hid hb
  have HF := Lib.hid hf
  have HZ := Lib.hid hz
  have HZl := Lib.hid (Nat.le_of_eq hz)
  clear hb hf h hz
  go_enter Try.func33, Try.ntmps33
  go_upto_region 2 with fail
  rw [HZ.out]
  generalize w.alloc _ = w1 at *
  have d1 := HB.out.cell 1
  have f1 := HB.out.frozen 1
  have hp : Blk (w1.setCell ⟨z, 1, none⟩ (.int .u8 12)) z 85 #[.int .i64 0, .int .u8 12, .int .u8 0, .int .u8 0, .int .u8 0, .int .u8 0, .int .i64 0] := HB.out.put 1 _
  have HP := Lib.hid hp
  have HFp : Hid (Fr [] w (w1.setCell ⟨z, 1, none⟩ (.int .u8 12))) := Lib.hid (HF.out.setCell (.inr HZl.out) _)
  clear hp
  go_wp2
  go_ret
  exact ⟨rfl, HO.out _ HP.out, HFp.out⟩

/-- Which type a mapper's object has, and what it holds. -/
def Obj (w : World) (g : Nat) (t : TypeId) (S : St) : Prop := (S.mp = 0 ∧ t = 69 ∧ Ob0 w g S) ∨ (S.mp = 1 ∧ t = 72 ∧ Ob1 w g S) ∨ (S.mp = 2 ∧ t = 74 ∧ Ob2 w g S) ∨ (S.mp = 3 ∧ t = 77 ∧ Ob3 w g S) ∨ (S.mp = 4 ∧ t = 79 ∧ Ob4 w g S)
theorem Obj.prog {w : World} {p g : Nat} {t : TypeId} {S : St} (h : Obj w g t S) (hd : Hd w p g t S) : ProgAt w p g S := by
  rcases h with ⟨h0, rfl, h2⟩ | ⟨h0, rfl, h2⟩ | ⟨h0, rfl, h2⟩ | ⟨h0, rfl, h2⟩ | ⟨h0, rfl, h2⟩
  · exact .inl ⟨h0, hd, h2⟩
  · exact .inr (.inl ⟨h0, hd, h2⟩)
  · exact .inr (.inr (.inl ⟨h0, hd, h2⟩))
  · exact .inr (.inr (.inr (.inl ⟨h0, hd, h2⟩)))
  · exact .inr (.inr (.inr (.inr ⟨h0, hd, h2⟩)))
theorem Obj.fr {F : List Nat} {w w' : World} {g : Nat} {t : TypeId} {S : St} (h : Obj w g t S) (hf : Fr F w w') (hg : g ∉ F) : Obj w' g t S := by
  rcases h with ⟨h0, rfl, h2⟩ | ⟨h0, rfl, h2⟩ | ⟨h0, rfl, h2⟩ | ⟨h0, rfl, h2⟩ | ⟨h0, rfl, h2⟩
  · exact .inl ⟨h0, rfl, Blk.fr h2 hf hg⟩
  · exact .inr (.inl ⟨h0, rfl, Blk.fr h2 hf hg⟩)
  · exact .inr (.inr (.inl ⟨h0, rfl, Blk.fr h2 hf hg⟩))
  · exact .inr (.inr (.inr (.inl ⟨h0, rfl, Blk.fr h2 hf hg⟩)))
  · exact .inr (.inr (.inr (.inr ⟨h0, rfl, Blk.fr h2 hf hg⟩)))
/-- A mapper that was made. -/
def Made1 (w : World) (S : St) (e : Ending) (w' : World) : Prop := ∃ g t, e = .returned (.tuple #[.iface t (.pointer (some ⟨g, 0, none⟩)), .bool true]) ∧ Obj w' g t S ∧ Fr [] w w' ∧ w.heap.size ≤ g

set_option maxRecDepth 100000 in
set_option maxHeartbeats 4000000 in
theorem mapperOf_bad (w : World) (mp mir : Int) (A A' : Option Addr) (n c n' c' : Nat) (ram : Bool) (h : ¬ (0 ≤ mp ∧ mp ≤ 4)) :
    Calls Try.prog 31 #[.agg #[.int .i64 mp, .int .i64 mir, .slice A n c, .slice A' n' c', .bool ram]] w fun e w' => e = .returned (.tuple #[.nilIface, .bool false]) ∧ Fr [] w w' := by
  have g0 : (mp == 0) = false := by rw [beq_eq_false_iff_ne]; omega
  have g1 : (mp == 1) = false := by rw [beq_eq_false_iff_ne]; omega
  have g2 : (mp == 2) = false := by rw [beq_eq_false_iff_ne]; omega
  have g3 : (mp == 3) = false := by rw [beq_eq_false_iff_ne]; omega
  have g4 : (mp == 4) = false := by rw [beq_eq_false_iff_ne]; omega
  have HF : Hid (∀ o o', Fr [] w ((w.alloc o).alloc o')) := Lib.hid fun o o' => ((Fr.refl [] w).alloc _).alloc _
  have HF2 : Hid (∀ o u v, Fr [] w (((w.alloc o).alloc u).setCell ⟨w.heap.size + 1, 0, none⟩ v)) := Lib.hid fun o u v => (((Fr.refl [] w).alloc _).alloc _).setCell (by simp) _
  clear h
  go_enter Try.func31, Try.ntmps31
  go_wp2
  go_ret2
  exact ⟨rfl, (by first | exact HF.out _ _ | exact HF2.out _ _ _)⟩

set_option maxRecDepth 100000 in
set_option maxHeartbeats 4000000 in
theorem mapperOf_0 (w : World) (mir pg un : Int) (A A' : Option Addr) (n c n' c' : Nat) (ram : Bool) : Calls Try.prog 31 #[.agg #[.int .i64 0, .int .i64 mir, .slice A n c, .slice A' n' c', .bool ram]] w (Made1 w (new 0 mir pg un)) := by
  have HQ : Hid (∀ W z, W.heap.size = z → Fr [] w W → Made1 w (new 0 mir pg un) (.returned (.tuple #[.iface 69 (.pointer (some ⟨z, 0, none⟩)), .bool true])) (W.alloc (.cells #[.int .i64 mir] 71))) := Lib.hid fun W z hz h2 => by
    subst hz
    exact
      have h1 : Ob0 (W.alloc (.cells #[.int .i64 mir] 71)) W.heap.size (new 0 mir pg un) := Blk.fresh W _ _
      ⟨_, _, rfl, .inl ⟨rfl, rfl, h1⟩, h2.alloc _, h2.size⟩
  have HF2 : Hid (∀ o u v, Fr [] w (((w.alloc o).alloc u).setCell ⟨w.heap.size + 1, 0, none⟩ v)) := Lib.hid fun o u v => (((Fr.refl [] w).alloc _).alloc _).setCell (by simp) _
  have HF : Hid (∀ o o', Fr [] w ((w.alloc o).alloc o')) := Lib.hid fun o o' => ((Fr.refl [] w).alloc _).alloc _
  go_enter Try.func31, Try.ntmps31
  go_wp2
  go_ret2
  exact HQ.out _ _ (by simp) (HF.out _ _)

set_option maxRecDepth 100000 in
set_option maxHeartbeats 4000000 in
theorem mapperOf_1 (w : World) (mir pg un : Int) (A A' : Option Addr) (n c n' c' : Nat) (ram : Bool) : Calls Try.prog 31 #[.agg #[.int .i64 1, .int .i64 mir, .slice A n c, .slice A' n' c', .bool ram]] w (Made1 w (new 1 mir pg un)) := by
  have HS : Hid (∀ W, Fr [] w W → Calls Try.prog 33 #[] W (fun e w' => ∃ g, e = .returned (.pointer (some ⟨g, 0, none⟩)) ∧ Ob1 w' g (new 1 mir pg un) ∧ Fr [] w w' ∧ w.heap.size ≤ g)) := Lib.hid fun W hW => (newSerial_any W (new 1 mir pg un) rfl).mono fun e w' ⟨h1, h2, h3⟩ => ⟨_, h1, h2, hW.tr h3, hW.size⟩
  have HQ : Hid (∀ g W, Ob1 W g (new 1 mir pg un) → Fr [] w W → w.heap.size ≤ g → Made1 w (new 1 mir pg un) (.returned (.tuple #[.iface 72 (.pointer (some ⟨g, 0, none⟩)), .bool true])) W) := Lib.hid fun g W h1 h2 h3 => ⟨g, _, rfl, .inr (.inl ⟨rfl, rfl, h1⟩), h2, h3⟩
  have HF2 : Hid (∀ o u v, Fr [] w (((w.alloc o).alloc u).setCell ⟨w.heap.size + 1, 0, none⟩ v)) := Lib.hid fun o u v => (((Fr.refl [] w).alloc _).alloc _).setCell (by simp) _
  have HF : Hid (∀ o o', Fr [] w ((w.alloc o).alloc o')) := Lib.hid fun o o' => ((Fr.refl [] w).alloc _).alloc _
  go_enter Try.func31, Try.ntmps31
  go_wp2_with fail
  (with_reducible refine (HS.out _ (by first | exact HF.out _ _ | exact HF2.out _ _ _)).mono ?_)
  rintro e w1 ⟨g, rfl, ho, hf, hg⟩
  have HO := Lib.hid ho
  have HFz := Lib.hid hf
  clear ho hf
  go_wp2
  go_ret2
  exact HQ.out _ _ HO.out HFz.out hg

set_option maxRecDepth 100000 in
set_option maxHeartbeats 4000000 in
theorem mapperOf_2 (w : World) (mir pg un : Int) (A A' : Option Addr) (n c n' c' : Nat) (ram : Bool) : Calls Try.prog 31 #[.agg #[.int .i64 2, .int .i64 mir, .slice A n c, .slice A' n' c', .bool ram]] w (Made1 w (new 2 mir pg un)) := by
  have HQ : Hid (∀ W z, W.heap.size = z → Fr [] w W → Made1 w (new 2 mir pg un) (.returned (.tuple #[.iface 74 (.pointer (some ⟨z, 0, none⟩)), .bool true])) (W.alloc (.cells #[.int .i64 mir, .int .u8 0] 76))) := Lib.hid fun W z hz h2 => by
    subst hz
    exact
      have h1 : Ob2 (W.alloc (.cells #[.int .i64 mir, .int .u8 0] 76)) W.heap.size (new 2 mir pg un) := Blk.fresh W _ _
      ⟨_, _, rfl, .inr (.inr (.inl ⟨rfl, rfl, h1⟩)), h2.alloc _, h2.size⟩
  have HF2 : Hid (∀ o u v, Fr [] w (((w.alloc o).alloc u).setCell ⟨w.heap.size + 1, 0, none⟩ v)) := Lib.hid fun o u v => (((Fr.refl [] w).alloc _).alloc _).setCell (by simp) _
  have HF : Hid (∀ o o', Fr [] w ((w.alloc o).alloc o')) := Lib.hid fun o o' => ((Fr.refl [] w).alloc _).alloc _
  go_enter Try.func31, Try.ntmps31
  go_wp2
  go_ret2
  exact HQ.out _ _ (by simp) (HF.out _ _)

set_option maxRecDepth 100000 in
set_option maxHeartbeats 4000000 in
theorem mapperOf_3 (w : World) (mir pg un : Int) (A A' : Option Addr) (n c n' c' : Nat) (ram : Bool) : Calls Try.prog 31 #[.agg #[.int .i64 3, .int .i64 mir, .slice A n c, .slice A' n' c', .bool ram]] w (Made1 w (new 3 mir pg un)) := by
  have HQ : Hid (∀ W z, W.heap.size = z → Fr [] w W → Made1 w (new 3 mir pg un) (.returned (.tuple #[.iface 77 (.pointer (some ⟨z, 0, none⟩)), .bool true])) (W.alloc (.cells #[.int .i64 mir, .int .u8 0] 78))) := Lib.hid fun W z hz h2 => by
    subst hz
    exact
      have h1 : Ob3 (W.alloc (.cells #[.int .i64 mir, .int .u8 0] 78)) W.heap.size (new 3 mir pg un) := Blk.fresh W _ _
      ⟨_, _, rfl, .inr (.inr (.inr (.inl ⟨rfl, rfl, h1⟩))), h2.alloc _, h2.size⟩
  have HF2 : Hid (∀ o u v, Fr [] w (((w.alloc o).alloc u).setCell ⟨w.heap.size + 1, 0, none⟩ v)) := Lib.hid fun o u v => (((Fr.refl [] w).alloc _).alloc _).setCell (by simp) _
  have HF : Hid (∀ o o', Fr [] w ((w.alloc o).alloc o')) := Lib.hid fun o o' => ((Fr.refl [] w).alloc _).alloc _
  go_enter Try.func31, Try.ntmps31
  go_wp2
  go_ret2
  exact HQ.out _ _ (by simp) (HF.out _ _)

set_option maxRecDepth 100000 in
set_option maxHeartbeats 4000000 in
theorem mapperOf_4 (w : World) (mir pg un : Int) (A A' : Option Addr) (n c n' c' : Nat) (ram : Bool) : Calls Try.prog 31 #[.agg #[.int .i64 4, .int .i64 mir, .slice A n c, .slice A' n' c', .bool ram]] w (Made1 w (new 4 mir pg un)) := by
  have HQ : Hid (∀ W z, W.heap.size = z → Fr [] w W → Made1 w (new 4 mir pg un) (.returned (.tuple #[.iface 79 (.pointer (some ⟨z, 0, none⟩)), .bool true])) (W.alloc (.cells #[.int .i64 mir, .int .u8 0, .int .u8 0, .int .u8 0, .int .u8 0, .int .u8 0, .int .u8 0, .int .u8 0, .int .u8 0, .int .u8 0, .int .u8 0, .int .u8 0, .bool false, .bool false] 82))) := Lib.hid fun W z hz h2 => by
    subst hz
    exact
      have h1 : Ob4 (W.alloc (.cells #[.int .i64 mir, .int .u8 0, .int .u8 0, .int .u8 0, .int .u8 0, .int .u8 0, .int .u8 0, .int .u8 0, .int .u8 0, .int .u8 0, .int .u8 0, .int .u8 0, .bool false, .bool false] 82)) W.heap.size (new 4 mir pg un) := Blk.fresh W _ _
      ⟨_, _, rfl, .inr (.inr (.inr (.inr ⟨rfl, rfl, h1⟩))), h2.alloc _, h2.size⟩
  have HF2 : Hid (∀ o u v, Fr [] w (((w.alloc o).alloc u).setCell ⟨w.heap.size + 1, 0, none⟩ v)) := Lib.hid fun o u v => (((Fr.refl [] w).alloc _).alloc _).setCell (by simp) _
  have HF : Hid (∀ o o', Fr [] w ((w.alloc o).alloc o')) := Lib.hid fun o o' => ((Fr.refl [] w).alloc _).alloc _
  go_enter Try.func31, Try.ntmps31
  go_wp2
  go_ret2
  exact HQ.out _ _ (by simp) (HF.out _ _)

theorem mapperOf_any (w : World) (mp mir pg un : Int) (A A' : Option Addr) (n c n' c' : Nat) (ram : Bool) (h0 : 0 ≤ mp) (h4 : mp ≤ 4) : Calls Try.prog 31 #[.agg #[.int .i64 mp, .int .i64 mir, .slice A n c, .slice A' n' c', .bool ram]] w (Made1 w (new mp mir pg un)) := by
  obtain rfl | rfl | rfl | rfl | rfl : mp = 0 ∨ mp = 1 ∨ mp = 2 ∨ mp = 3 ∨ mp = 4 := by omega
  · exact mapperOf_0 w mir pg un A A' n c n' c' ram
  · exact mapperOf_1 w mir pg un A A' n c n' c' ram
  · exact mapperOf_2 w mir pg un A A' n c n' c' ram
  · exact mapperOf_3 w mir pg un A A' n c n' c' ram
  · exact mapperOf_4 w mir pg un A A' n c n' c' ram

/-- What New leaves where it refuses. -/
def NewBad (w : World) (e : Ending) (w' : World) : Prop := e = .returned (.tuple #[.pointer none, .int .i64 1]) ∧ Fr [] w w'
/-- A map that was made. -/
def NewOk (w : World) (S : St) (e : Ending) (w' : World) : Prop := ∃ p g, e = .returned (.tuple #[.pointer (some ⟨p, 0, none⟩), .int .i64 0]) ∧ ProgAt w' p g S ∧ Fr [] w w' ∧ w.heap.size ≤ p ∧ w.heap.size ≤ g

set_option maxRecDepth 100000 in
set_option maxHeartbeats 4000000 in
theorem new_unknown (w : World) (mp mir : Int) (A A' : Option Addr) (n c n' c' : Nat) (ram : Bool) (h : ¬ (0 ≤ mp ∧ mp ≤ 4)) : Calls Try.prog 19 #[.agg #[.int .i64 mp, .int .i64 mir, .slice A n c, .slice A' n' c', .bool ram]] w (NewBad w) := by
  have hbx := Blk.fresh w 47 #[.int .i64 mp, .int .i64 mir, .slice A n c, .slice A' n' c', .bool ram]
  have hfx : Fr [] w (w.alloc (.cells #[.int .i64 mp, .int .i64 mir, .slice A n c, .slice A' n' c', .bool ram] 47)) := (Fr.refl [] w).alloc _
  obtain ⟨z, hz⟩ : ∃ z, w.heap.size = z := ⟨_, rfl⟩
  rw [hz] at hbx
  have HB := Lib.hid hbx
  have HF := Lib.hid hfx
  have HZ := Lib.hid hz
  have HI1 := Lib.hid fun W => isWhole_any W A n c 16384 (by omega)
  have HI2 := Lib.hid fun W => isWhole_any W A' n' c' 8192 (by omega)
  have HM := Lib.hid fun W => mapperOf_bad W mp mir A A' n c n' c' ram h
  clear hbx hfx hz h HI1 HI2
  go_enter Try.func19, Try.ntmps19
  go_upto_region 1 with fail
  rw [HZ.out]
  generalize w.alloc _ = w1 at *
  obtain ⟨c0, c1, c2, c3, c4⟩ := blk5 HB.out
  go_wp2_with fail
  (with_reducible refine (HM.out _).mono ?_)
  rintro e w2 ⟨rfl, hf⟩
  have HF2 := Lib.hid (HF.out.tr hf)
  clear hf
  go_wp2
  go_ret2
  exact ⟨rfl, HF2.out⟩

set_option maxRecDepth 100000 in
set_option maxHeartbeats 4000000 in
theorem new_part (w : World) (mp mir : Int) (A A' : Option Addr) (n c n' c' : Nat) (ram : Bool) (h0 : 0 ≤ mp) (h4 : mp ≤ 4) (hw : (whole n 16384 && whole n' 8192) = false) : Calls Try.prog 19 #[.agg #[.int .i64 mp, .int .i64 mir, .slice A n c, .slice A' n' c', .bool ram]] w (NewBad w) := by
  have hbx := Blk.fresh w 47 #[.int .i64 mp, .int .i64 mir, .slice A n c, .slice A' n' c', .bool ram]
  have hfx : Fr [] w (w.alloc (.cells #[.int .i64 mp, .int .i64 mir, .slice A n c, .slice A' n' c', .bool ram] 47)) := (Fr.refl [] w).alloc _
  obtain ⟨z, hz⟩ : ∃ z, w.heap.size = z := ⟨_, rfl⟩
  rw [hz] at hbx
  have HB := Lib.hid hbx
  have HF := Lib.hid hfx
  have HZ := Lib.hid hz
  have HI1 := Lib.hid fun W => isWhole_any W A n c 16384 (by omega)
  have HI2 := Lib.hid fun W => isWhole_any W A' n' c' 8192 (by omega)
  have HM := Lib.hid fun W => mapperOf_any W mp mir 0 0 A A' n c n' c' ram h0 h4
  clear hbx hfx hz
  by_cases h1 : whole n 16384 = true
  · have h2 : whole n' 8192 = false := by rw [h1] at hw; simpa using hw
    rw [h1] at HI1
    rw [h2] at HI2
    clear h1 h2 hw
    go_enter Try.func19, Try.ntmps19
    go_upto_region 1 with fail
    rw [HZ.out]
    generalize w.alloc _ = w1 at *
    obtain ⟨c0, c1, c2, c3, c4⟩ := blk5 HB.out
    go_wp2_with fail
    (with_reducible refine (HM.out _).mono ?_)
    rintro e w2 ⟨g, t, rfl, -, hf, -⟩
    obtain ⟨e0, e1, e2, e3, e4⟩ := blk5 (HB.out.fr hf (by simp))
    have HF2 := Lib.hid (HF.out.tr hf)
    clear hf
    go_wp2_with fail
    (with_reducible refine (HI1.out _).mono ?_)
    rintro e w3 ⟨rfl, rfl⟩
    go_wp2_with fail
    (with_reducible refine (HI2.out _).mono ?_)
    rintro e w3 ⟨rfl, rfl⟩
    go_wp2
    go_ret2
    exact ⟨rfl, HF2.out⟩
  · have h1 : whole n 16384 = false := by simpa using h1
    rw [h1] at HI1
    clear h1 hw HI2
    go_enter Try.func19, Try.ntmps19
    go_upto_region 1 with fail
    rw [HZ.out]
    generalize w.alloc _ = w1 at *
    obtain ⟨c0, c1, c2, c3, c4⟩ := blk5 HB.out
    go_wp2_with fail
    (with_reducible refine (HM.out _).mono ?_)
    rintro e w2 ⟨g, t, rfl, -, hf, -⟩
    obtain ⟨e0, e1, e2, e3, e4⟩ := blk5 (HB.out.fr hf (by simp))
    have HF2 := Lib.hid (HF.out.tr hf)
    clear hf
    go_wp2_with fail
    (with_reducible refine (HI1.out _).mono ?_)
    rintro e w3 ⟨rfl, rfl⟩
    go_wp2
    go_ret2
    exact ⟨rfl, HF2.out⟩

set_option maxRecDepth 100000 in
set_option maxHeartbeats 4000000 in
theorem new_ok (w : World) (mp mir pg un : Int) (A A' : Option Addr) (n c n' c' : Nat) (ram : Bool) (h0 : 0 ≤ mp) (h4 : mp ≤ 4) (hw : whole n 16384 = true) (hw' : whole n' 8192 = true) (hpg : (n : Int) / 8192 = pg) (hun : (n' : Int) / 1024 = un) (hnb : n ≤ 1000000000) (hnb' : n' ≤ 1000000000) :
    Calls Try.prog 19 #[.agg #[.int .i64 mp, .int .i64 mir, .slice A n c, .slice A' n' c', .bool ram]] w (NewOk w (new mp mir pg un)) := by
  have hbx := Blk.fresh w 47 #[.int .i64 mp, .int .i64 mir, .slice A n c, .slice A' n' c', .bool ram]
  have hfx : Fr [] w (w.alloc (.cells #[.int .i64 mp, .int .i64 mir, .slice A n c, .slice A' n' c', .bool ram] 47)) := (Fr.refl [] w).alloc _
  obtain ⟨z, hz⟩ : ∃ z, w.heap.size = z := ⟨_, rfl⟩
  rw [hz] at hbx
  have HB := Lib.hid hbx
  have HF := Lib.hid hfx
  have HZ := Lib.hid hz
  have HI1 := Lib.hid fun W => isWhole_any W A n c 16384 (by omega)
  have HI2 := Lib.hid fun W => isWhole_any W A' n' c' 8192 (by omega)
  have HM := Lib.hid fun W => mapperOf_any W mp mir pg un A A' n c n' c' ram h0 h4
  rw [hw] at HI1
  rw [hw'] at HI2
  have hpg' : (n : Int).tdiv 8192 = pg := by rw [Int.tdiv_eq_ediv_of_nonneg (by omega)]; exact hpg
  have hun' : (n' : Int).tdiv 1024 = un := by rw [Int.tdiv_eq_ediv_of_nonneg (by omega)]; exact hun
  have HQ : Hid (∀ (g : Nat) (t : TypeId) (W : World) (y : Nat), W.heap.size = y → Obj W g t (new mp mir pg un) → Fr [] w W → w.heap.size ≤ g → NewOk w (new mp mir pg un) (.returned (.tuple #[.pointer (some ⟨y, 0, none⟩), .int .i64 0])) (W.alloc (.cells #[.iface t (.pointer (some ⟨g, 0, none⟩)), .int .i64 pg, .int .i64 un] 60))) := Lib.hid (by
    intro g t W y hy ho hf hg
    subst hy
    exact ⟨_, g, rfl, (ho.fr ((Fr.refl [] W).alloc _) (by simp)).prog (Blk.fresh W _ _), hf.alloc _, hf.size, hg⟩)
  have b0 : 0 ≤ pg := by omega
  have b1 : pg < 1000000000 := by omega
  have b2 : 0 ≤ un := by omega
  have b3 : un < 1000000000 := by omega
  clear hbx hfx hz hw hw' hpg hun hnb hnb'
  unfold Made1 at HM
  generalize new mp mir pg un = S at *
  go_enter Try.func19, Try.ntmps19
  go_upto_region 1 with fail
  rw [HZ.out]
  generalize w.alloc _ = w1 at *
  obtain ⟨c0, c1, c2, c3, c4⟩ := blk5 HB.out
  go_wp2_with fail
  (with_reducible refine (HM.out _).mono ?_)
  rintro e w2 ⟨g, t, rfl, ho, hf, hg⟩
  obtain ⟨e0, e1, e2, e3, e4⟩ := blk5 (HB.out.fr hf (by simp))
  have HO := Lib.hid ho
  have HF2 := Lib.hid (HF.out.tr hf)
  have HG := Lib.hid (Nat.le_trans HF.out.size hg)
  clear hf ho hg c0 c1 c2 c3 c4
  go_wp2_with fail
  (with_reducible refine (HI1.out _).mono ?_)
  rintro e w3 ⟨rfl, rfl⟩
  go_wp2_with fail
  (with_reducible refine (HI2.out _).mono ?_)
  rintro e w3 ⟨rfl, rfl⟩
  go_wp2
  go_ret2
  exact HQ.out _ _ _ _ rfl HO.out HF2.out HG.out

end Nm
end Go.Proofs.Ytgakdlbdbiacgaa
