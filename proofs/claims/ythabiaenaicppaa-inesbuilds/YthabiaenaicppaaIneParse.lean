/-
  Contract of ines.Parse: the first fault is told, with a zero cart; else the file's cart. Condition: lengths as of slices.
-/
import Derived.Test.YthabiaenaicppaaIneFaults
import Derived.Test.YthabiaenaicppaaIneCart
namespace Go.Proofs.Ythabiaenaicppaa
open Go.RowKit
namespace Ine

/-- The zero cart. -/
def zeroCt : Value := .agg #[.int .i64 0, .int .i64 0, .slice none 0 0, .slice none 0 0, .bool false]
theorem fault_among (l : List UInt8) : fault l = 0 ∨ fault l = 2 ∨ fault l = 3 ∨ fault l = 6 ∨ fault l = 7 := by
  unfold fault
  repeat' split
  all_goals simp

/-- What Parse leaves where it fails. -/
def Refused (w : World) (x : Nat) (e : Ending) (w' : World) : Prop := e = .returned (.tuple #[zeroCt, .int .i64 (x : Int)]) ∧ Fr [] w w'

set_option maxRecDepth 100000 in
set_option maxHeartbeats 1000000 in
theorem parse_bad (w : World) (A : Option Addr) (n c : Nat) (l : List UInt8) (hn : l.length = n) (hnc : n ≤ c) (hr : Rd w A l) (hb : fault l ≠ 0) :
    Calls Try.prog 10 #[.slice A n c] w (Refused w (fault l)) := by
  have HD : Hid (∀ W, Fr [] w W → Does W (fileFs (.slice A n c)) (fileBs l)) := Lib.hid fun W hW => does_file W A n c l hn hnc (hr.later hW (by simp))
  have HT := Lib.hid (told_file (.slice A n c) l)
  obtain ⟨x, hx⟩ : ∃ x, fault l = x := ⟨_, rfl⟩
  rw [hx] at HT hb ⊢
  have hx4 : Hid (x = 2 ∨ x = 3 ∨ x = 6 ∨ x = 7) := Lib.hid (by have := fault_among l; omega)
  obtain ⟨z, hz⟩ : ∃ z, w.heap.size = z := ⟨_, rfl⟩
  have hb0 := Blk.fresh w 32 #[.int .i64 0, .int .i64 0, .slice none 0 0, .slice none 0 0, .bool false]
  rw [hz] at hb0
  have HB0 := Lib.hid hb0
  have HF0 := Lib.hid ((Fr.refl [] w).alloc (.cells #[.int .i64 0, .int .i64 0, .slice none 0 0, .slice none 0 0, .bool false] 32))
  clear hb0 hx hr hb
  go_enter Try.func10, Try.ntmps10
  go_wp2_with fail
  generalize w.alloc _ = w0 at *
  (with_reducible refine (faults_any w0 (.slice A n c)).mono ?_)
  rintro e w1 ⟨g, rfl, ht, hf1⟩
  have HTb := Lib.hid ht
  have HB1 := Lib.hid (HB0.out.fr hf1 (by simp))
  have HF1 := Lib.hid (HF0.out.tr hf1)
  clear ht hf1 HB0 HF0
  go_wp2_with fail
  (with_reducible refine (firstOf_any w1 g 8 (fileFs (.slice A n c)) (fileBs l) rfl (by decide) rfl HTb.out (HD.out w1 HF1.out)).mono ?_)
  rintro e w2 ⟨rfl, hf2⟩
  rw [HT.out]
  have HB2 := Lib.hid (HB1.out.fr hf2 (by simp))
  have HF2 := Lib.hid (HF1.out.tr hf2)
  clear hf2 HB1 HF1 HTb HD HT
  obtain ⟨c0, c1, c2, c3, c4⟩ := blk5 HB2.out
  have f0 := HB2.out.frozen 0
  have f1 := HB2.out.frozen 1
  have f2 := HB2.out.frozen 2
  have f3 := HB2.out.frozen 3
  have f4 := HB2.out.frozen 4
  have hb9 := five_put HB2.out (.int .i64 0) (.int .i64 0) (.slice none 0 0) (.slice none 0 0) (.bool false)
  have hf9 := five_fr w2 z (.int .i64 0) (.int .i64 0) (.slice none 0 0) (.slice none 0 0) (.bool false)
  have HB9 := Lib.hid hb9
  have HF9 := Lib.hid hf9
  clear hb9 hf9
  rcases hx4.out with rfl | rfl | rfl | rfl
  all_goals
    go_wp2
    have hf := HF2.out.trans (S := []) HF9.out (by simp; omega)
    obtain ⟨z0, z1, z2, z3, z4⟩ := blk5 HB9.out
    generalize ((((w2.setCell ⟨z, 0, none⟩ _).setCell ⟨z, 1, none⟩ _).setCell ⟨z, 2, none⟩ _).setCell ⟨z, 3, none⟩ _).setCell ⟨z, 4, none⟩ _ = w9 at *
    exact bodyPost_ret (v := .tuple #[zeroCt, .int .i64 _]) (by simp [results, Try.results10, go_sem, z0, z1, z2, z3, z4, zeroCt]) rfl ⟨rfl, hf⟩

set_option maxRecDepth 100000 in
set_option maxHeartbeats 1000000 in
theorem parse_ok (w : World) (A : Option Addr) (n c : Nat) (l : List UInt8) (hn : l.length = n) (hnc : n ≤ c) (hr : Rd w A l) (hb : fault l = 0) :
    Calls Try.prog 10 #[.slice A n c] w fun e w' => ∃ v, e = .returned (.tuple #[v, .int .i64 0]) ∧ Told w (cartOf l) v w' := by
  have HD : Hid (∀ W, Fr [] w W → Does W (fileFs (.slice A n c)) (fileBs l)) := Lib.hid fun W hW => does_file W A n c l hn hnc (hr.later hW (by simp))
  have HT := Lib.hid (told_file (.slice A n c) l)
  obtain ⟨h16, h24, -, -, h4, hE⟩ := fault_cases l hb
  have HC : Hid (∀ W, Fr [] w W → Calls Try.prog 17 #[.slice A n c] W fun e w' => ∃ v, e = .returned v ∧ Told W (cartOf l) v w') := Lib.hid fun W hW => cart_any W A n c l hn (by omega) hnc (by omega) h4 (by omega) (hr.later hW (by simp))
  rw [hb] at HT
  obtain ⟨z, hz⟩ : ∃ z, w.heap.size = z := ⟨_, rfl⟩
  have hb0 := Blk.fresh w 32 #[.int .i64 0, .int .i64 0, .slice none 0 0, .slice none 0 0, .bool false]
  rw [hz] at hb0
  have HB0 := Lib.hid hb0
  have HF0 := Lib.hid ((Fr.refl [] w).alloc (.cells #[.int .i64 0, .int .i64 0, .slice none 0 0, .slice none 0 0, .bool false] 32))
  have HTd : Hid (∀ v W, Told w (cartOf l) v W → ∃ v', Ending.returned (.tuple #[v, .int .i64 0]) = .returned (.tuple #[v', .int .i64 0]) ∧ Told w (cartOf l) v' W) := Lib.hid fun v W h => ⟨v, rfl, h⟩
  generalize cartOf l = ct at *
  obtain ⟨cm, cr, cp, cc, cb⟩ := ct
  clear hb0 hb hr hn h16 h24 h4 hE
  go_enter Try.func10, Try.ntmps10
  go_wp2_with fail
  generalize w.alloc _ = w0 at *
  (with_reducible refine (faults_any w0 (.slice A n c)).mono ?_)
  rintro e w1 ⟨g, rfl, ht, hf1⟩
  have HTb := Lib.hid ht
  have HB1 := Lib.hid (HB0.out.fr hf1 (by simp))
  have HF1 := Lib.hid (HF0.out.tr hf1)
  clear ht hf1 HB0 HF0
  go_wp2_with fail
  (with_reducible refine (firstOf_any w1 g 8 (fileFs (.slice A n c)) (fileBs l) rfl (by decide) rfl HTb.out (HD.out w1 HF1.out)).mono ?_)
  rintro e w2 ⟨rfl, hf2⟩
  rw [HT.out]
  have HB2 := Lib.hid (HB1.out.fr hf2 (by simp))
  have HF2 := Lib.hid (HF1.out.tr hf2)
  clear hf2 HB1 HF1 HTb HD HT
  go_wp2_with fail
  (with_reducible refine (HC.out w2 HF2.out).mono ?_)
  rintro e w3 ⟨v, rfl, g1, g2, rfl, hg1, hg2, hg3, hd1, hd2, hf3⟩
  simp only [ctV] at *
  obtain ⟨N1, hN1⟩ : ∃ N1, cp.length = N1 := ⟨_, rfl⟩
  obtain ⟨N2, hN2⟩ : ∃ N2, cc.length = N2 := ⟨_, rfl⟩
  rw [hN1, hN2]
  have HN1 := Lib.hid hN1
  have HN2 := Lib.hid hN2
  have HB3 := Lib.hid (HB2.out.fr hf3 (by simp))
  have HF3 := Lib.hid (HF2.out.tr hf3)
  have HD1 := Lib.hid hd1
  have HD2 := Lib.hid hd2
  have hz3 := HB2.out.lt
  have hz4 := HF2.out.size
  clear hN1 hN2 hd1 hd2 hf3 HB2 HF2 HC
  obtain ⟨c0, c1, c2, c3, c4⟩ := blk5 HB3.out
  have f0 := HB3.out.frozen 0
  have f1 := HB3.out.frozen 1
  have f2 := HB3.out.frozen 2
  have f3 := HB3.out.frozen 3
  have f4 := HB3.out.frozen 4
  have hb9 := five_put HB3.out (.int .i64 (cm : Int)) (.int .i64 (cr : Int)) (.slice (some ⟨g1, 0, none⟩) N1 N1) (.slice (some ⟨g2, 0, none⟩) N2 N2) (.bool cb)
  have hf9 := five_fr w3 z (.int .i64 (cm : Int)) (.int .i64 (cr : Int)) (.slice (some ⟨g1, 0, none⟩) N1 N1) (.slice (some ⟨g2, 0, none⟩) N2 N2) (.bool cb)
  have HB9 := Lib.hid hb9
  have HF9 := Lib.hid hf9
  clear hb9 hf9
  go_wp2
  have hf := HF3.out.trans (S := []) HF9.out (by simp; omega)
  have hd1 := HD1.out.fr HF9.out (by simp; omega)
  have hd2 := HD2.out.fr HF9.out (by simp; omega)
  obtain ⟨z0, z1, z2, z3, z4⟩ := blk5 HB9.out
  generalize ((((w3.setCell ⟨z, 0, none⟩ _).setCell ⟨z, 1, none⟩ _).setCell ⟨z, 2, none⟩ _).setCell ⟨z, 3, none⟩ _).setCell ⟨z, 4, none⟩ _ = w9 at *
  refine bodyPost_ret (v := .tuple #[.agg #[.int .i64 (cm : Int), .int .i64 (cr : Int), .slice (some ⟨g1, 0, none⟩) N1 N1, .slice (some ⟨g2, 0, none⟩) N2 N2, .bool cb], .int .i64 0]) (by simp [results, Try.results10, go_sem, z0, z1, z2, z3, z4]) rfl (HTd.out _ _ ⟨g1, g2, ?_, by omega, by omega, hg3, hd1, hd2, hf⟩)
  simp only [ctV]
  rw [HN1.out, HN2.out]

end Ine
end Go.Proofs.Ythabiaenaicppaa
