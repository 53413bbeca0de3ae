/-
  Contracts of the program's atFirst and New. Condition: a length as of a slice.
-/
import Derived.Test.YtglnpgdigdfjiaaGmKind
import Derived.Deep.RegionHeld3
namespace Go.Proofs.Ytglnpgdigdfjiaa
open Go.RowKit
namespace Gm

theorem infoR : (Try.prog.info? 61).map (·.size) = some 4 := by decide +kernel
theorem infoM : (Try.prog.info? 63).map (·.size) = some 18 := by decide +kernel

set_option maxRecDepth 100000 in
set_option maxHeartbeats 4000000 in
theorem atFirst_any (w : World) (A : Array Value) (en : Bool) (_hA : A.size = 12) (h0 : A[0]? = some (.bool en)) :
    Calls Try.prog 23 #[.agg A] w fun e w' => e = .returned (.agg #[.bool en, .int .i64 1, .int .i64 0, .int .i64 0]) ∧ Fr [] w w' := by
  have hb := Blk.fresh w 59 A
  have hf : Fr [] w (w.alloc (.cells A 59)) := (Fr.refl [] w).alloc _
  have hb2 := hb.fr ((Fr.refl [] _).alloc (.cells #[.bool false, .int .i64 0, .int .i64 0, .int .i64 0] 61)) (by simp)
  have hc2 := Blk.fresh (w.alloc (.cells A 59)) 61 #[.bool false, .int .i64 0, .int .i64 0, .int .i64 0]
  have hf2 := hf.alloc (.cells #[.bool false, .int .i64 0, .int .i64 0, .int .i64 0] 61)
  have hs : (w.alloc (.cells A 59)).heap.size = w.heap.size + 1 := by simp
  rw [hs] at hc2
  have HB := Lib.hid hb2
  have HC := Lib.hid hc2
  have HF := Lib.hid hf2
  have H0 := Lib.hid h0
  have HZ := Lib.hid (Nat.le_refl w.heap.size)
  clear hb hf hb2 hc2 hf2 hs h0
  go_enter Try.func23, Try.ntmps23
  go_upto_region 1 with fail
  generalize (w.alloc _).alloc _ = w2 at *
  obtain ⟨z, hz⟩ : ∃ z, w.heap.size = z := ⟨_, rfl⟩
  rw [hz] at HB HC HZ ⊢
  have HZ2 : Hid (w.heap.size ≤ z + 1) := Lib.hid (by omega)
  clear hz
  have e := HB.out.cell 0
  rw [H0.out] at e
  have c0 := HC.out.cell 0
  have c1 := HC.out.cell 1
  have c2 := HC.out.cell 2
  have c3 := HC.out.cell 3
  have f0 := HC.out.frozen 0
  have f1 := HC.out.frozen 1
  have f2 := HC.out.frozen 2
  have f3 := HC.out.frozen 3
  simp at c0 c1 c2 c3
  have hp := (((HC.out.put 0 (.bool en)).put 1 (.int .i64 1)).put 2 (.int .i64 0)).put 3 (.int .i64 0)
  have HP : Hid (Blk ((((w2.setCell ⟨z + 1, 0, none⟩ (.bool en)).setCell ⟨z + 1, 1, none⟩ (.int .i64 1)).setCell ⟨z + 1, 2, none⟩ (.int .i64 0)).setCell ⟨z + 1, 3, none⟩ (.int .i64 0)) (z + 1) 61 #[.bool en, .int .i64 1, .int .i64 0, .int .i64 0]) := Lib.hid hp
  clear hp
  go_wp2
  exact bodyPost_ret (v := .agg #[.bool en, .int .i64 1, .int .i64 0, .int .i64 0]) (results_cell_row Try.results23 _ _ (z + 1) 61 #[.bool en, .int .i64 1, .int .i64 0, .int .i64 0] (0, 0) _ rfl HP.out Try.underlying61 rfl infoR) rfl ⟨rfl, (((HF.out.setCell (.inr HZ2.out) _).setCell (.inr HZ2.out) _).setCell (.inr HZ2.out) _).setCell (.inr HZ2.out) _⟩

set_option maxRecDepth 100000 in
set_option maxHeartbeats 4000000 in
theorem new_unknown (w : World) (ram : Int) (A0 : Option Addr) (n c : Nat) (hn0 : n ≤ 1000000000) (kd : Int) (hk : isK kd) (A : Array Value) (b : Bool) (hA : A.size = 12) (hA1 : A.all (·.oneCell') = true) (hc : (kinds kd = some (.agg A) ∧ b = true) ∨ (kinds kd = none ∧ A = nowhat.toArray ∧ b = false)) (hb : b = false) :
    Calls Try.prog 16 #[.agg #[.int .i64 kd, .slice A0 n c, .int .i64 ram]] w fun e w' => e = .returned (.tuple #[.pointer none, .int .i64 1]) ∧ Fr [] w w' := by
  have HK : Hid (∀ W, Calls Try.prog 22 #[.int .i64 kd] W fun e w' => e = .returned (.tuple #[.agg A, .bool b]) ∧ Fr [] W w') := Lib.hid fun W => kindOf_any W kd hk A b hA hA1 hc
  have HS := Lib.hid hA
  have HO := Lib.hid hA1
  clear hk hA hA1 hc
  have hal : Fr [] w (w.alloc (.cells #[.int .i64 kd, .slice A0 n c, .int .i64 ram] 46)) := (Fr.refl [] w).alloc _
  have hbl := Blk.fresh w 46 #[.int .i64 kd, .slice A0 n c, .int .i64 ram]
  have HAL := Lib.hid hal
  have HBL := Lib.hid hbl
  clear hal hbl
  obtain ⟨z, hz⟩ : ∃ z, w.heap.size = z := ⟨_, rfl⟩
  have HZ := Lib.hid (Nat.le_of_eq hz)
  rw [hz] at HBL
  have d0 := HBL.out.cell 0
  simp at d0
  subst hb
  go_enter Try.func16, Try.ntmps16
  go_upto_region 1 with fail
  generalize w.alloc _ = w1 at *
  go_wp2_with fail
  (with_reducible refine (HK.out _).mono ?_)
  rintro e w2 ⟨rfl, hf⟩
  have HF2 : Hid (Fr [] w w2) := Lib.hid (HAL.out.tr hf)
  have HB2 := Lib.hid (HBL.out.fr hf (by simp))
  clear hf d0 HK HBL HAL
  have hst := storeRow (Blk.fresh w2 59 #[.bool false, .nilFunc, .nilFunc, .nilFunc, .nilFunc, .nilFunc, .nilFunc, .nilFunc, .nilFunc, .nilFunc, .nilFunc, .nilFunc]) (by simp [HS.out]) HO.out
  rw [World.setRow_alloc_new] at hst
  have hts := HS.out
  have HF3 : Hid (Fr [] w (w2.alloc (.cells A 59))) := Lib.hid (HF2.out.alloc _)
  have HB3 : Hid (Blk (w2.alloc (.cells A 59)) z 46 #[.int .i64 kd, .slice A0 n c, .int .i64 ram]) := Lib.hid (HB2.out.fr ((Fr.refl [] w2).alloc _) (by simp))
  have HV3 : Hid (Blk (w2.alloc (.cells A 59)) w2.heap.size 59 A) := Lib.hid (Blk.fresh _ _ _)
  go_upto_region 2 with fail
  clear hst hts HF2 HB2
  generalize w2.alloc _ = w3 at *
  obtain ⟨y, hy⟩ : ∃ y, w2.heap.size = y := ⟨_, rfl⟩
  rw [hy] at HV3 ⊢
  clear hy hz
  have d1 := HB3.out.cell 1
  have d2 := HB3.out.cell 2
  simp at d1 d2
  go_wp2
  go_ret2
  exact ⟨rfl, HF3.out⟩

set_option maxRecDepth 100000 in
set_option maxHeartbeats 4000000 in
theorem new_parts (w : World) (ram : Int) (A0 : Option Addr) (n c : Nat) (hn0 : n ≤ 1000000000) (kd : Int) (hk : isK kd) (A : Array Value) (b : Bool) (hA : A.size = 12) (hA1 : A.all (·.oneCell') = true) (hc : (kinds kd = some (.agg A) ∧ b = true) ∨ (kinds kd = none ∧ A = nowhat.toArray ∧ b = false)) (hb : b = true) (h1 : ¬ (n : Int) % 16384 = 0) :
    Calls Try.prog 16 #[.agg #[.int .i64 kd, .slice A0 n c, .int .i64 ram]] w fun e w' => e = .returned (.tuple #[.pointer none, .int .i64 1]) ∧ Fr [] w w' := by
  have HK : Hid (∀ W, Calls Try.prog 22 #[.int .i64 kd] W fun e w' => e = .returned (.tuple #[.agg A, .bool b]) ∧ Fr [] W w') := Lib.hid fun W => kindOf_any W kd hk A b hA hA1 hc
  have HS := Lib.hid hA
  have HO := Lib.hid hA1
  clear hk hA hA1 hc
  have hal : Fr [] w (w.alloc (.cells #[.int .i64 kd, .slice A0 n c, .int .i64 ram] 46)) := (Fr.refl [] w).alloc _
  have hbl := Blk.fresh w 46 #[.int .i64 kd, .slice A0 n c, .int .i64 ram]
  have HAL := Lib.hid hal
  have HBL := Lib.hid hbl
  clear hal hbl
  obtain ⟨z, hz⟩ : ∃ z, w.heap.size = z := ⟨_, rfl⟩
  have HZ := Lib.hid (Nat.le_of_eq hz)
  rw [hz] at HBL
  have d0 := HBL.out.cell 0
  simp at d0
  subst hb
  have hn0' : (n : Int) ≤ 1000000000 := by omega
  obtain ⟨M, hM⟩ : ∃ M, (n : Int) % 16384 = M := ⟨_, rfl⟩
  have hM' : (n : Int).tmod 16384 = M := by rw [Int.tmod_eq_emod_of_nonneg (by omega)]; exact hM
  obtain ⟨Q, hQ⟩ : ∃ Q, (n : Int) / 16384 = Q := ⟨_, rfl⟩
  have hQ' : (n : Int).tdiv 16384 = Q := by rw [Int.tdiv_eq_ediv_of_nonneg (by omega)]; exact hQ
  have hQ0 : 0 ≤ Q := by omega
  have hQ1 : Q ≤ 1000000 := by omega
  have h1' : (M == 0) = false := by rw [beq_eq_false_iff_ne, ← hM]; exact h1
  have hM1 : 1 ≤ M := by omega
  clear h1 hM hQ hn0'
  go_enter Try.func16, Try.ntmps16
  go_upto_region 1 with fail
  generalize w.alloc _ = w1 at *
  go_wp2_with fail
  (with_reducible refine (HK.out _).mono ?_)
  rintro e w2 ⟨rfl, hf⟩
  have HF2 : Hid (Fr [] w w2) := Lib.hid (HAL.out.tr hf)
  have HB2 := Lib.hid (HBL.out.fr hf (by simp))
  clear hf d0 HK HBL HAL
  have hst := storeRow (Blk.fresh w2 59 #[.bool false, .nilFunc, .nilFunc, .nilFunc, .nilFunc, .nilFunc, .nilFunc, .nilFunc, .nilFunc, .nilFunc, .nilFunc, .nilFunc]) (by simp [HS.out]) HO.out
  rw [World.setRow_alloc_new] at hst
  have hts := HS.out
  have HF3 : Hid (Fr [] w (w2.alloc (.cells A 59))) := Lib.hid (HF2.out.alloc _)
  have HB3 : Hid (Blk (w2.alloc (.cells A 59)) z 46 #[.int .i64 kd, .slice A0 n c, .int .i64 ram]) := Lib.hid (HB2.out.fr ((Fr.refl [] w2).alloc _) (by simp))
  have HV3 : Hid (Blk (w2.alloc (.cells A 59)) w2.heap.size 59 A) := Lib.hid (Blk.fresh _ _ _)
  go_upto_region 2 with fail
  clear hst hts HF2 HB2
  generalize w2.alloc _ = w3 at *
  obtain ⟨y, hy⟩ : ∃ y, w2.heap.size = y := ⟨_, rfl⟩
  rw [hy] at HV3 ⊢
  clear hy hz
  have d1 := HB3.out.cell 1
  have d2 := HB3.out.cell 2
  simp at d1 d2
  go_wp2
  go_ret2
  exact ⟨rfl, HF3.out⟩

set_option maxRecDepth 100000 in
set_option maxHeartbeats 4000000 in
theorem new_short (w : World) (ram : Int) (A0 : Option Addr) (n c : Nat) (hn0 : n ≤ 1000000000) (kd : Int) (hk : isK kd) (A : Array Value) (b : Bool) (hA : A.size = 12) (hA1 : A.all (·.oneCell') = true) (hc : (kinds kd = some (.agg A) ∧ b = true) ∨ (kinds kd = none ∧ A = nowhat.toArray ∧ b = false)) (hb : b = true) (h1 : (n : Int) % 16384 = 0) (h2 : (n : Int) < 32768) :
    Calls Try.prog 16 #[.agg #[.int .i64 kd, .slice A0 n c, .int .i64 ram]] w fun e w' => e = .returned (.tuple #[.pointer none, .int .i64 1]) ∧ Fr [] w w' := by
  have HK : Hid (∀ W, Calls Try.prog 22 #[.int .i64 kd] W fun e w' => e = .returned (.tuple #[.agg A, .bool b]) ∧ Fr [] W w') := Lib.hid fun W => kindOf_any W kd hk A b hA hA1 hc
  have HS := Lib.hid hA
  have HO := Lib.hid hA1
  clear hk hA hA1 hc
  have hal : Fr [] w (w.alloc (.cells #[.int .i64 kd, .slice A0 n c, .int .i64 ram] 46)) := (Fr.refl [] w).alloc _
  have hbl := Blk.fresh w 46 #[.int .i64 kd, .slice A0 n c, .int .i64 ram]
  have HAL := Lib.hid hal
  have HBL := Lib.hid hbl
  clear hal hbl
  obtain ⟨z, hz⟩ : ∃ z, w.heap.size = z := ⟨_, rfl⟩
  have HZ := Lib.hid (Nat.le_of_eq hz)
  rw [hz] at HBL
  have d0 := HBL.out.cell 0
  simp at d0
  subst hb
  have hn0' : (n : Int) ≤ 1000000000 := by omega
  obtain ⟨M, hM⟩ : ∃ M, (n : Int) % 16384 = M := ⟨_, rfl⟩
  have hM' : (n : Int).tmod 16384 = M := by rw [Int.tmod_eq_emod_of_nonneg (by omega)]; exact hM
  obtain ⟨Q, hQ⟩ : ∃ Q, (n : Int) / 16384 = Q := ⟨_, rfl⟩
  have hQ' : (n : Int).tdiv 16384 = Q := by rw [Int.tdiv_eq_ediv_of_nonneg (by omega)]; exact hQ
  have hQ0 : 0 ≤ Q := by omega
  have hQ1 : Q ≤ 1000000 := by omega
  obtain rfl : M = 0 := by omega
  have hQ2 : Q < 2 := by omega
  clear h1 h2 hM hQ hn0'
  go_enter Try.func16, Try.ntmps16
  go_upto_region 1 with fail
  generalize w.alloc _ = w1 at *
  go_wp2_with fail
  (with_reducible refine (HK.out _).mono ?_)
  rintro e w2 ⟨rfl, hf⟩
  have HF2 : Hid (Fr [] w w2) := Lib.hid (HAL.out.tr hf)
  have HB2 := Lib.hid (HBL.out.fr hf (by simp))
  clear hf d0 HK HBL HAL
  have hst := storeRow (Blk.fresh w2 59 #[.bool false, .nilFunc, .nilFunc, .nilFunc, .nilFunc, .nilFunc, .nilFunc, .nilFunc, .nilFunc, .nilFunc, .nilFunc, .nilFunc]) (by simp [HS.out]) HO.out
  rw [World.setRow_alloc_new] at hst
  have hts := HS.out
  have HF3 : Hid (Fr [] w (w2.alloc (.cells A 59))) := Lib.hid (HF2.out.alloc _)
  have HB3 : Hid (Blk (w2.alloc (.cells A 59)) z 46 #[.int .i64 kd, .slice A0 n c, .int .i64 ram]) := Lib.hid (HB2.out.fr ((Fr.refl [] w2).alloc _) (by simp))
  have HV3 : Hid (Blk (w2.alloc (.cells A 59)) w2.heap.size 59 A) := Lib.hid (Blk.fresh _ _ _)
  go_upto_region 2 with fail
  clear hst hts HF2 HB2
  generalize w2.alloc _ = w3 at *
  obtain ⟨y, hy⟩ : ∃ y, w2.heap.size = y := ⟨_, rfl⟩
  rw [hy] at HV3 ⊢
  clear hy hz
  have d1 := HB3.out.cell 1
  have d2 := HB3.out.cell 2
  simp at d1 d2
  go_wp2
  go_ret2
  exact ⟨rfl, HF3.out⟩

set_option maxRecDepth 100000 in
set_option maxHeartbeats 4000000 in
theorem new_below (w : World) (ram : Int) (A0 : Option Addr) (n c : Nat) (hn0 : n ≤ 1000000000) (kd : Int) (hk : isK kd) (A : Array Value) (b : Bool) (hA : A.size = 12) (hA1 : A.all (·.oneCell') = true) (hc : (kinds kd = some (.agg A) ∧ b = true) ∨ (kinds kd = none ∧ A = nowhat.toArray ∧ b = false)) (hb : b = true) (h1 : (n : Int) % 16384 = 0) (h2 : 32768 ≤ (n : Int)) (h3 : ram < 0) :
    Calls Try.prog 16 #[.agg #[.int .i64 kd, .slice A0 n c, .int .i64 ram]] w fun e w' => e = .returned (.tuple #[.pointer none, .int .i64 1]) ∧ Fr [] w w' := by
  have HK : Hid (∀ W, Calls Try.prog 22 #[.int .i64 kd] W fun e w' => e = .returned (.tuple #[.agg A, .bool b]) ∧ Fr [] W w') := Lib.hid fun W => kindOf_any W kd hk A b hA hA1 hc
  have HS := Lib.hid hA
  have HO := Lib.hid hA1
  clear hk hA hA1 hc
  have hal : Fr [] w (w.alloc (.cells #[.int .i64 kd, .slice A0 n c, .int .i64 ram] 46)) := (Fr.refl [] w).alloc _
  have hbl := Blk.fresh w 46 #[.int .i64 kd, .slice A0 n c, .int .i64 ram]
  have HAL := Lib.hid hal
  have HBL := Lib.hid hbl
  clear hal hbl
  obtain ⟨z, hz⟩ : ∃ z, w.heap.size = z := ⟨_, rfl⟩
  have HZ := Lib.hid (Nat.le_of_eq hz)
  rw [hz] at HBL
  have d0 := HBL.out.cell 0
  simp at d0
  subst hb
  have hn0' : (n : Int) ≤ 1000000000 := by omega
  obtain ⟨M, hM⟩ : ∃ M, (n : Int) % 16384 = M := ⟨_, rfl⟩
  have hM' : (n : Int).tmod 16384 = M := by rw [Int.tmod_eq_emod_of_nonneg (by omega)]; exact hM
  obtain ⟨Q, hQ⟩ : ∃ Q, (n : Int) / 16384 = Q := ⟨_, rfl⟩
  have hQ' : (n : Int).tdiv 16384 = Q := by rw [Int.tdiv_eq_ediv_of_nonneg (by omega)]; exact hQ
  have hQ0 : 0 ≤ Q := by omega
  have hQ1 : Q ≤ 1000000 := by omega
  obtain rfl : M = 0 := by omega
  have hQ2 : 2 ≤ Q := by omega
  clear h1 h2 hM hQ hn0'
  go_enter Try.func16, Try.ntmps16
  go_upto_region 1 with fail
  generalize w.alloc _ = w1 at *
  go_wp2_with fail
  (with_reducible refine (HK.out _).mono ?_)
  rintro e w2 ⟨rfl, hf⟩
  have HF2 : Hid (Fr [] w w2) := Lib.hid (HAL.out.tr hf)
  have HB2 := Lib.hid (HBL.out.fr hf (by simp))
  clear hf d0 HK HBL HAL
  have hst := storeRow (Blk.fresh w2 59 #[.bool false, .nilFunc, .nilFunc, .nilFunc, .nilFunc, .nilFunc, .nilFunc, .nilFunc, .nilFunc, .nilFunc, .nilFunc, .nilFunc]) (by simp [HS.out]) HO.out
  rw [World.setRow_alloc_new] at hst
  have hts := HS.out
  have HF3 : Hid (Fr [] w (w2.alloc (.cells A 59))) := Lib.hid (HF2.out.alloc _)
  have HB3 : Hid (Blk (w2.alloc (.cells A 59)) z 46 #[.int .i64 kd, .slice A0 n c, .int .i64 ram]) := Lib.hid (HB2.out.fr ((Fr.refl [] w2).alloc _) (by simp))
  have HV3 : Hid (Blk (w2.alloc (.cells A 59)) w2.heap.size 59 A) := Lib.hid (Blk.fresh _ _ _)
  go_upto_region 2 with fail
  clear hst hts HF2 HB2
  generalize w2.alloc _ = w3 at *
  obtain ⟨y, hy⟩ : ∃ y, w2.heap.size = y := ⟨_, rfl⟩
  rw [hy] at HV3 ⊢
  clear hy hz
  have d1 := HB3.out.cell 1
  have d2 := HB3.out.cell 2
  simp at d1 d2
  go_wp2
  go_ret2
  exact ⟨rfl, HF3.out⟩

set_option maxRecDepth 100000 in
set_option maxHeartbeats 4000000 in
theorem new_0 (w : World) (ram Q : Int) (A0 : Option Addr) (n c : Nat) (hn0 : n ≤ 1000000000) (hn : (n : Int) = 16384 * Q) (hQ2 : 2 ≤ Q) (hram : 0 ≤ ram) :
    Calls Try.prog 16 #[.agg #[.int .i64 0, .slice A0 n c, .int .i64 ram]] w fun e w' => ∃ p, e = .returned (.tuple #[.pointer (some ⟨p, 0, none⟩), .int .i64 0]) ∧ ProgAt w' p (new 0 Q ram) ∧ Fr [] w w' ∧ w.heap.size ≤ p := by
  obtain ⟨A, hAr⟩ : ∃ A : Array Value, A = #[.bool true, .func (.func 24) #[] #[], .func (.func 24) #[] #[], .func (.func 24) #[] #[], .func (.func 24) #[] #[], .func (.func 24) #[] #[], .func (.func 24) #[] #[], .func (.func 24) #[] #[], .func (.func 24) #[] #[], .func (.func 25) #[] #[], .func (.func 26) #[] #[], .func (.func 25) #[] #[]] := ⟨_, rfl⟩
  have hk : isK 0 := isK_of _ (by omega) (by omega)
  have hA : A.size = 12 := by rw [hAr]; rfl
  have hA1 : A.all (·.oneCell') = true := by rw [hAr]; decide +kernel
  have hc : (kinds 0 = some (.agg A) ∧ true = true) ∨ (kinds 0 = none ∧ A = nowhat.toArray ∧ true = false) := .inl ⟨by rw [hAr]; rfl, rfl⟩
  have hM' : (n : Int).tmod 16384 = 0 := by rw [Int.tmod_eq_emod_of_nonneg (by omega)]; omega
  have hQ' : (n : Int).tdiv 16384 = Q := by rw [Int.tdiv_eq_ediv_of_nonneg (by omega)]; omega
  have HAr := Lib.hid hAr
  have hQ1 : Q ≤ 1000000 := by omega
  clear hn hAr hn0
  have HK : Hid (∀ W, Calls Try.prog 22 #[.int .i64 0] W fun e w' => e = .returned (.tuple #[.agg A, .bool true]) ∧ Fr [] W w') := Lib.hid fun W => kindOf_any W 0 hk A true hA hA1 hc
  have HS := Lib.hid hA
  have HO := Lib.hid hA1
  clear hk hA hA1 hc
  have hal : Fr [] w (w.alloc (.cells #[.int .i64 0, .slice A0 n c, .int .i64 ram] 46)) := (Fr.refl [] w).alloc _
  have hbl := Blk.fresh w 46 #[.int .i64 0, .slice A0 n c, .int .i64 ram]
  have HAL := Lib.hid hal
  have HBL := Lib.hid hbl
  clear hal hbl
  obtain ⟨z, hz⟩ : ∃ z, w.heap.size = z := ⟨_, rfl⟩
  have HZ := Lib.hid (Nat.le_of_eq hz)
  rw [hz] at HBL
  have d0 := HBL.out.cell 0
  simp at d0
  go_enter Try.func16, Try.ntmps16
  go_upto_region 1 with fail
  generalize w.alloc _ = w1 at *
  go_wp2_with fail
  (with_reducible refine (HK.out _).mono ?_)
  rintro e w2 ⟨rfl, hf⟩
  have HF2 : Hid (Fr [] w w2) := Lib.hid (HAL.out.tr hf)
  have HB2 := Lib.hid (HBL.out.fr hf (by simp))
  clear hf d0 HK HBL HAL
  have hst := storeRow (Blk.fresh w2 59 #[.bool false, .nilFunc, .nilFunc, .nilFunc, .nilFunc, .nilFunc, .nilFunc, .nilFunc, .nilFunc, .nilFunc, .nilFunc, .nilFunc]) (by simp [HS.out]) HO.out
  rw [World.setRow_alloc_new] at hst
  have hts := HS.out
  have HF3 : Hid (Fr [] w (w2.alloc (.cells A 59))) := Lib.hid (HF2.out.alloc _)
  have HB3 : Hid (Blk (w2.alloc (.cells A 59)) z 46 #[.int .i64 0, .slice A0 n c, .int .i64 ram]) := Lib.hid (HB2.out.fr ((Fr.refl [] w2).alloc _) (by simp))
  have HV3 : Hid (Blk (w2.alloc (.cells A 59)) w2.heap.size 59 A) := Lib.hid (Blk.fresh _ _ _)
  go_upto_region 2 with fail
  clear hst hts HF2 HB2
  generalize w2.alloc _ = w3 at *
  obtain ⟨y, hy⟩ : ∃ y, w2.heap.size = y := ⟨_, rfl⟩
  rw [hy] at HV3 ⊢
  clear hy hz
  have d1 := HB3.out.cell 1
  have d2 := HB3.out.cell 2
  simp at d1 d2
  go_upto_region 5 with fail
  obtain rfl := HAr.out
  obtain ⟨v0, v1, v2, v3, v4, v5, v6, v7, v8, v9, v10, v11, d2⟩ : w3.cell? ⟨y, 0, none⟩ = some (.bool true) ∧ w3.cell? ⟨y, 1, none⟩ = some (.func (.func 24) #[] #[]) ∧ w3.cell? ⟨y, 2, none⟩ = some (.func (.func 24) #[] #[]) ∧ w3.cell? ⟨y, 3, none⟩ = some (.func (.func 24) #[] #[]) ∧ w3.cell? ⟨y, 4, none⟩ = some (.func (.func 24) #[] #[]) ∧ w3.cell? ⟨y, 5, none⟩ = some (.func (.func 24) #[] #[]) ∧ w3.cell? ⟨y, 6, none⟩ = some (.func (.func 24) #[] #[]) ∧ w3.cell? ⟨y, 7, none⟩ = some (.func (.func 24) #[] #[]) ∧ w3.cell? ⟨y, 8, none⟩ = some (.func (.func 24) #[] #[]) ∧ w3.cell? ⟨y, 9, none⟩ = some (.func (.func 25) #[] #[]) ∧ w3.cell? ⟨y, 10, none⟩ = some (.func (.func 26) #[] #[]) ∧ w3.cell? ⟨y, 11, none⟩ = some (.func (.func 25) #[] #[]) ∧ w3.cell? ⟨z, 2, none⟩ = some (.int .i64 ram) := ⟨HV3.out.cell 0, HV3.out.cell 1, HV3.out.cell 2, HV3.out.cell 3, HV3.out.cell 4, HV3.out.cell 5, HV3.out.cell 6, HV3.out.cell 7, HV3.out.cell 8, HV3.out.cell 9, HV3.out.cell 10, HV3.out.cell 11, HB3.out.cell 2⟩
  have HC : Hid (∀ W, Fr [] w W → (W.cell? ⟨y, 0, none⟩ = some (.bool true) ∧ W.cell? ⟨y, 1, none⟩ = some (.func (.func 24) #[] #[]) ∧ W.cell? ⟨y, 2, none⟩ = some (.func (.func 24) #[] #[]) ∧ W.cell? ⟨y, 3, none⟩ = some (.func (.func 24) #[] #[]) ∧ W.cell? ⟨y, 4, none⟩ = some (.func (.func 24) #[] #[]) ∧ W.cell? ⟨y, 5, none⟩ = some (.func (.func 24) #[] #[]) ∧ W.cell? ⟨y, 6, none⟩ = some (.func (.func 24) #[] #[]) ∧ W.cell? ⟨y, 7, none⟩ = some (.func (.func 24) #[] #[]) ∧ W.cell? ⟨y, 8, none⟩ = some (.func (.func 24) #[] #[]) ∧ W.cell? ⟨y, 9, none⟩ = some (.func (.func 25) #[] #[]) ∧ W.cell? ⟨y, 10, none⟩ = some (.func (.func 26) #[] #[]) ∧ W.cell? ⟨y, 11, none⟩ = some (.func (.func 25) #[] #[]) ∧ W.cell? ⟨z, 2, none⟩ = some (.int .i64 ram)) → Calls Try.prog 23 #[.agg #[.bool true, .func (.func 24) #[] #[], .func (.func 24) #[] #[], .func (.func 24) #[] #[], .func (.func 24) #[] #[], .func (.func 24) #[] #[], .func (.func 24) #[] #[], .func (.func 24) #[] #[], .func (.func 24) #[] #[], .func (.func 25) #[] #[], .func (.func 26) #[] #[], .func (.func 25) #[] #[]]] W (fun e w' => e = .returned (.agg #[.bool true, .int .i64 1, .int .i64 0, .int .i64 0]) ∧ (w'.cell? ⟨y, 0, none⟩ = some (.bool true) ∧ w'.cell? ⟨y, 1, none⟩ = some (.func (.func 24) #[] #[]) ∧ w'.cell? ⟨y, 2, none⟩ = some (.func (.func 24) #[] #[]) ∧ w'.cell? ⟨y, 3, none⟩ = some (.func (.func 24) #[] #[]) ∧ w'.cell? ⟨y, 4, none⟩ = some (.func (.func 24) #[] #[]) ∧ w'.cell? ⟨y, 5, none⟩ = some (.func (.func 24) #[] #[]) ∧ w'.cell? ⟨y, 6, none⟩ = some (.func (.func 24) #[] #[]) ∧ w'.cell? ⟨y, 7, none⟩ = some (.func (.func 24) #[] #[]) ∧ w'.cell? ⟨y, 8, none⟩ = some (.func (.func 24) #[] #[]) ∧ w'.cell? ⟨y, 9, none⟩ = some (.func (.func 25) #[] #[]) ∧ w'.cell? ⟨y, 10, none⟩ = some (.func (.func 26) #[] #[]) ∧ w'.cell? ⟨y, 11, none⟩ = some (.func (.func 25) #[] #[]) ∧ w'.cell? ⟨z, 2, none⟩ = some (.int .i64 ram)) ∧ Fr [] w w')) := Lib.hid (by
    intro W hW hS
    refine (atFirst_any W #[.bool true, .func (.func 24) #[] #[], .func (.func 24) #[] #[], .func (.func 24) #[] #[], .func (.func 24) #[] #[], .func (.func 24) #[] #[], .func (.func 24) #[] #[], .func (.func 24) #[] #[], .func (.func 24) #[] #[], .func (.func 25) #[] #[], .func (.func 26) #[] #[], .func (.func 25) #[] #[]] true rfl rfl).mono ?_
    rintro e w' ⟨g1, g2⟩
    obtain ⟨v0, v1, v2, v3, v4, v5, v6, v7, v8, v9, v10, v11, d2⟩ := hS
    exact ⟨g1, ⟨g2.cell v0 (by simp), g2.cell v1 (by simp), g2.cell v2 (by simp), g2.cell v3 (by simp), g2.cell v4 (by simp), g2.cell v5 (by simp), g2.cell v6 (by simp), g2.cell v7 (by simp), g2.cell v8 (by simp), g2.cell v9 (by simp), g2.cell v10 (by simp), g2.cell v11 (by simp), g2.cell d2 (by simp)⟩, hW.tr g2⟩)
  clear HV3 HB3 HS HO hM' hQ' HAr
  go_cut [2, 3] (fun s2 s3 wx => ∃ p, s2 = .pointer (some ⟨p, 0, none⟩) ∧ s3 = .int .i64 0 ∧ ProgAt wx p (new 0 Q ram) ∧ Fr [] w wx ∧ w.heap.size ≤ p)
  case first =>
    go_region_held3 (fun W => W.cell? ⟨y, 0, none⟩ = some (.bool true) ∧ W.cell? ⟨y, 1, none⟩ = some (.func (.func 24) #[] #[]) ∧ W.cell? ⟨y, 2, none⟩ = some (.func (.func 24) #[] #[]) ∧ W.cell? ⟨y, 3, none⟩ = some (.func (.func 24) #[] #[]) ∧ W.cell? ⟨y, 4, none⟩ = some (.func (.func 24) #[] #[]) ∧ W.cell? ⟨y, 5, none⟩ = some (.func (.func 24) #[] #[]) ∧ W.cell? ⟨y, 6, none⟩ = some (.func (.func 24) #[] #[]) ∧ W.cell? ⟨y, 7, none⟩ = some (.func (.func 24) #[] #[]) ∧ W.cell? ⟨y, 8, none⟩ = some (.func (.func 24) #[] #[]) ∧ W.cell? ⟨y, 9, none⟩ = some (.func (.func 25) #[] #[]) ∧ W.cell? ⟨y, 10, none⟩ = some (.func (.func 26) #[] #[]) ∧ W.cell? ⟨y, 11, none⟩ = some (.func (.func 25) #[] #[]) ∧ W.cell? ⟨z, 2, none⟩ = some (.int .i64 ram)) (first | exact HQ.out _ | exact ⟨v0, v1, v2, v3, v4, v5, v6, v7, v8, v9, v10, v11, d2⟩ | assumption) (first
      | (go_at_call 23; (with_reducible refine (HC.out _ (by first | with_reducible exact HF3.out.drew | with_reducible exact HF3.out) (by first | assumption | exact ⟨v0, v1, v2, v3, v4, v5, v6, v7, v8, v9, v10, v11, d2⟩)).mono ?_); rintro e wc ⟨rfl, hS, hf⟩; have HFc := Lib.hid hf; have HQ : Hid (∀ o, (wc.alloc o).cell? ⟨y, 0, none⟩ = some (.bool true) ∧ (wc.alloc o).cell? ⟨y, 1, none⟩ = some (.func (.func 24) #[] #[]) ∧ (wc.alloc o).cell? ⟨y, 2, none⟩ = some (.func (.func 24) #[] #[]) ∧ (wc.alloc o).cell? ⟨y, 3, none⟩ = some (.func (.func 24) #[] #[]) ∧ (wc.alloc o).cell? ⟨y, 4, none⟩ = some (.func (.func 24) #[] #[]) ∧ (wc.alloc o).cell? ⟨y, 5, none⟩ = some (.func (.func 24) #[] #[]) ∧ (wc.alloc o).cell? ⟨y, 6, none⟩ = some (.func (.func 24) #[] #[]) ∧ (wc.alloc o).cell? ⟨y, 7, none⟩ = some (.func (.func 24) #[] #[]) ∧ (wc.alloc o).cell? ⟨y, 8, none⟩ = some (.func (.func 24) #[] #[]) ∧ (wc.alloc o).cell? ⟨y, 9, none⟩ = some (.func (.func 25) #[] #[]) ∧ (wc.alloc o).cell? ⟨y, 10, none⟩ = some (.func (.func 26) #[] #[]) ∧ (wc.alloc o).cell? ⟨y, 11, none⟩ = some (.func (.func 25) #[] #[]) ∧ (wc.alloc o).cell? ⟨z, 2, none⟩ = some (.int .i64 ram)) := Lib.hid (by intro o; have hq := (Fr.refl [] wc).alloc o; obtain ⟨v0, v1, v2, v3, v4, v5, v6, v7, v8, v9, v10, v11, d2⟩ := hS; exact ⟨hq.cell v0 (by simp), hq.cell v1 (by simp), hq.cell v2 (by simp), hq.cell v3 (by simp), hq.cell v4 (by simp), hq.cell v5 (by simp), hq.cell v6 (by simp), hq.cell v7 (by simp), hq.cell v8 (by simp), hq.cell v9 (by simp), hq.cell v10 (by simp), hq.cell v11 (by simp), hq.cell d2 (by simp)⟩); clear hf))
    all_goals
      go_wp2_with fail
      go_meet
      exact ⟨_, rfl, rfl, Blk.fresh wc _ _, HFc.out.alloc _, HFc.out.size⟩
  case rest =>
    obtain ⟨p, rfl, rfl, hp, hf, hl⟩ := hcut
    have HP := Lib.hid hp
    have HFc := Lib.hid hf
    clear hp hf
    go_wp2
    go_ret2
    exact ⟨p, rfl, HP.out, HFc.out, hl⟩

set_option maxRecDepth 100000 in
set_option maxHeartbeats 4000000 in
theorem new_1 (w : World) (ram Q : Int) (A0 : Option Addr) (n c : Nat) (hn0 : n ≤ 1000000000) (hn : (n : Int) = 16384 * Q) (hQ2 : 2 ≤ Q) (hram : 0 ≤ ram) :
    Calls Try.prog 16 #[.agg #[.int .i64 1, .slice A0 n c, .int .i64 ram]] w fun e w' => ∃ p, e = .returned (.tuple #[.pointer (some ⟨p, 0, none⟩), .int .i64 0]) ∧ ProgAt w' p (new 1 Q ram) ∧ Fr [] w w' ∧ w.heap.size ≤ p := by
  obtain ⟨A, hAr⟩ : ∃ A : Array Value, A = #[.bool false, .func (.func 27) #[] #[], .func (.func 27) #[] #[], .func (.func 28) #[] #[], .func (.func 28) #[] #[], .func (.func 29) #[] #[], .func (.func 29) #[] #[], .func (.func 30) #[] #[], .func (.func 30) #[] #[], .func (.func 31) #[] #[], .func (.func 32) #[] #[], .func (.func 33) #[] #[]] := ⟨_, rfl⟩
  have hk : isK 1 := isK_of _ (by omega) (by omega)
  have hA : A.size = 12 := by rw [hAr]; rfl
  have hA1 : A.all (·.oneCell') = true := by rw [hAr]; decide +kernel
  have hc : (kinds 1 = some (.agg A) ∧ true = true) ∨ (kinds 1 = none ∧ A = nowhat.toArray ∧ true = false) := .inl ⟨by rw [hAr]; rfl, rfl⟩
  have hM' : (n : Int).tmod 16384 = 0 := by rw [Int.tmod_eq_emod_of_nonneg (by omega)]; omega
  have hQ' : (n : Int).tdiv 16384 = Q := by rw [Int.tdiv_eq_ediv_of_nonneg (by omega)]; omega
  have HAr := Lib.hid hAr
  have hQ1 : Q ≤ 1000000 := by omega
  clear hn hAr hn0
  have HK : Hid (∀ W, Calls Try.prog 22 #[.int .i64 1] W fun e w' => e = .returned (.tuple #[.agg A, .bool true]) ∧ Fr [] W w') := Lib.hid fun W => kindOf_any W 1 hk A true hA hA1 hc
  have HS := Lib.hid hA
  have HO := Lib.hid hA1
  clear hk hA hA1 hc
  have hal : Fr [] w (w.alloc (.cells #[.int .i64 1, .slice A0 n c, .int .i64 ram] 46)) := (Fr.refl [] w).alloc _
  have hbl := Blk.fresh w 46 #[.int .i64 1, .slice A0 n c, .int .i64 ram]
  have HAL := Lib.hid hal
  have HBL := Lib.hid hbl
  clear hal hbl
  obtain ⟨z, hz⟩ : ∃ z, w.heap.size = z := ⟨_, rfl⟩
  have HZ := Lib.hid (Nat.le_of_eq hz)
  rw [hz] at HBL
  have d0 := HBL.out.cell 0
  simp at d0
  go_enter Try.func16, Try.ntmps16
  go_upto_region 1 with fail
  generalize w.alloc _ = w1 at *
  go_wp2_with fail
  (with_reducible refine (HK.out _).mono ?_)
  rintro e w2 ⟨rfl, hf⟩
  have HF2 : Hid (Fr [] w w2) := Lib.hid (HAL.out.tr hf)
  have HB2 := Lib.hid (HBL.out.fr hf (by simp))
  clear hf d0 HK HBL HAL
  have hst := storeRow (Blk.fresh w2 59 #[.bool false, .nilFunc, .nilFunc, .nilFunc, .nilFunc, .nilFunc, .nilFunc, .nilFunc, .nilFunc, .nilFunc, .nilFunc, .nilFunc]) (by simp [HS.out]) HO.out
  rw [World.setRow_alloc_new] at hst
  have hts := HS.out
  have HF3 : Hid (Fr [] w (w2.alloc (.cells A 59))) := Lib.hid (HF2.out.alloc _)
  have HB3 : Hid (Blk (w2.alloc (.cells A 59)) z 46 #[.int .i64 1, .slice A0 n c, .int .i64 ram]) := Lib.hid (HB2.out.fr ((Fr.refl [] w2).alloc _) (by simp))
  have HV3 : Hid (Blk (w2.alloc (.cells A 59)) w2.heap.size 59 A) := Lib.hid (Blk.fresh _ _ _)
  go_upto_region 2 with fail
  clear hst hts HF2 HB2
  generalize w2.alloc _ = w3 at *
  obtain ⟨y, hy⟩ : ∃ y, w2.heap.size = y := ⟨_, rfl⟩
  rw [hy] at HV3 ⊢
  clear hy hz
  have d1 := HB3.out.cell 1
  have d2 := HB3.out.cell 2
  simp at d1 d2
  go_upto_region 5 with fail
  obtain rfl := HAr.out
  obtain ⟨v0, v1, v2, v3, v4, v5, v6, v7, v8, v9, v10, v11, d2⟩ : w3.cell? ⟨y, 0, none⟩ = some (.bool false) ∧ w3.cell? ⟨y, 1, none⟩ = some (.func (.func 27) #[] #[]) ∧ w3.cell? ⟨y, 2, none⟩ = some (.func (.func 27) #[] #[]) ∧ w3.cell? ⟨y, 3, none⟩ = some (.func (.func 28) #[] #[]) ∧ w3.cell? ⟨y, 4, none⟩ = some (.func (.func 28) #[] #[]) ∧ w3.cell? ⟨y, 5, none⟩ = some (.func (.func 29) #[] #[]) ∧ w3.cell? ⟨y, 6, none⟩ = some (.func (.func 29) #[] #[]) ∧ w3.cell? ⟨y, 7, none⟩ = some (.func (.func 30) #[] #[]) ∧ w3.cell? ⟨y, 8, none⟩ = some (.func (.func 30) #[] #[]) ∧ w3.cell? ⟨y, 9, none⟩ = some (.func (.func 31) #[] #[]) ∧ w3.cell? ⟨y, 10, none⟩ = some (.func (.func 32) #[] #[]) ∧ w3.cell? ⟨y, 11, none⟩ = some (.func (.func 33) #[] #[]) ∧ w3.cell? ⟨z, 2, none⟩ = some (.int .i64 ram) := ⟨HV3.out.cell 0, HV3.out.cell 1, HV3.out.cell 2, HV3.out.cell 3, HV3.out.cell 4, HV3.out.cell 5, HV3.out.cell 6, HV3.out.cell 7, HV3.out.cell 8, HV3.out.cell 9, HV3.out.cell 10, HV3.out.cell 11, HB3.out.cell 2⟩
  have HC : Hid (∀ W, Fr [] w W → (W.cell? ⟨y, 0, none⟩ = some (.bool false) ∧ W.cell? ⟨y, 1, none⟩ = some (.func (.func 27) #[] #[]) ∧ W.cell? ⟨y, 2, none⟩ = some (.func (.func 27) #[] #[]) ∧ W.cell? ⟨y, 3, none⟩ = some (.func (.func 28) #[] #[]) ∧ W.cell? ⟨y, 4, none⟩ = some (.func (.func 28) #[] #[]) ∧ W.cell? ⟨y, 5, none⟩ = some (.func (.func 29) #[] #[]) ∧ W.cell? ⟨y, 6, none⟩ = some (.func (.func 29) #[] #[]) ∧ W.cell? ⟨y, 7, none⟩ = some (.func (.func 30) #[] #[]) ∧ W.cell? ⟨y, 8, none⟩ = some (.func (.func 30) #[] #[]) ∧ W.cell? ⟨y, 9, none⟩ = some (.func (.func 31) #[] #[]) ∧ W.cell? ⟨y, 10, none⟩ = some (.func (.func 32) #[] #[]) ∧ W.cell? ⟨y, 11, none⟩ = some (.func (.func 33) #[] #[]) ∧ W.cell? ⟨z, 2, none⟩ = some (.int .i64 ram)) → Calls Try.prog 23 #[.agg #[.bool false, .func (.func 27) #[] #[], .func (.func 27) #[] #[], .func (.func 28) #[] #[], .func (.func 28) #[] #[], .func (.func 29) #[] #[], .func (.func 29) #[] #[], .func (.func 30) #[] #[], .func (.func 30) #[] #[], .func (.func 31) #[] #[], .func (.func 32) #[] #[], .func (.func 33) #[] #[]]] W (fun e w' => e = .returned (.agg #[.bool false, .int .i64 1, .int .i64 0, .int .i64 0]) ∧ (w'.cell? ⟨y, 0, none⟩ = some (.bool false) ∧ w'.cell? ⟨y, 1, none⟩ = some (.func (.func 27) #[] #[]) ∧ w'.cell? ⟨y, 2, none⟩ = some (.func (.func 27) #[] #[]) ∧ w'.cell? ⟨y, 3, none⟩ = some (.func (.func 28) #[] #[]) ∧ w'.cell? ⟨y, 4, none⟩ = some (.func (.func 28) #[] #[]) ∧ w'.cell? ⟨y, 5, none⟩ = some (.func (.func 29) #[] #[]) ∧ w'.cell? ⟨y, 6, none⟩ = some (.func (.func 29) #[] #[]) ∧ w'.cell? ⟨y, 7, none⟩ = some (.func (.func 30) #[] #[]) ∧ w'.cell? ⟨y, 8, none⟩ = some (.func (.func 30) #[] #[]) ∧ w'.cell? ⟨y, 9, none⟩ = some (.func (.func 31) #[] #[]) ∧ w'.cell? ⟨y, 10, none⟩ = some (.func (.func 32) #[] #[]) ∧ w'.cell? ⟨y, 11, none⟩ = some (.func (.func 33) #[] #[]) ∧ w'.cell? ⟨z, 2, none⟩ = some (.int .i64 ram)) ∧ Fr [] w w')) := Lib.hid (by
    intro W hW hS
    refine (atFirst_any W #[.bool false, .func (.func 27) #[] #[], .func (.func 27) #[] #[], .func (.func 28) #[] #[], .func (.func 28) #[] #[], .func (.func 29) #[] #[], .func (.func 29) #[] #[], .func (.func 30) #[] #[], .func (.func 30) #[] #[], .func (.func 31) #[] #[], .func (.func 32) #[] #[], .func (.func 33) #[] #[]] false rfl rfl).mono ?_
    rintro e w' ⟨g1, g2⟩
    obtain ⟨v0, v1, v2, v3, v4, v5, v6, v7, v8, v9, v10, v11, d2⟩ := hS
    exact ⟨g1, ⟨g2.cell v0 (by simp), g2.cell v1 (by simp), g2.cell v2 (by simp), g2.cell v3 (by simp), g2.cell v4 (by simp), g2.cell v5 (by simp), g2.cell v6 (by simp), g2.cell v7 (by simp), g2.cell v8 (by simp), g2.cell v9 (by simp), g2.cell v10 (by simp), g2.cell v11 (by simp), g2.cell d2 (by simp)⟩, hW.tr g2⟩)
  clear HV3 HB3 HS HO hM' hQ' HAr
  go_cut [2, 3] (fun s2 s3 wx => ∃ p, s2 = .pointer (some ⟨p, 0, none⟩) ∧ s3 = .int .i64 0 ∧ ProgAt wx p (new 1 Q ram) ∧ Fr [] w wx ∧ w.heap.size ≤ p)
  case first =>
    go_region_held3 (fun W => W.cell? ⟨y, 0, none⟩ = some (.bool false) ∧ W.cell? ⟨y, 1, none⟩ = some (.func (.func 27) #[] #[]) ∧ W.cell? ⟨y, 2, none⟩ = some (.func (.func 27) #[] #[]) ∧ W.cell? ⟨y, 3, none⟩ = some (.func (.func 28) #[] #[]) ∧ W.cell? ⟨y, 4, none⟩ = some (.func (.func 28) #[] #[]) ∧ W.cell? ⟨y, 5, none⟩ = some (.func (.func 29) #[] #[]) ∧ W.cell? ⟨y, 6, none⟩ = some (.func (.func 29) #[] #[]) ∧ W.cell? ⟨y, 7, none⟩ = some (.func (.func 30) #[] #[]) ∧ W.cell? ⟨y, 8, none⟩ = some (.func (.func 30) #[] #[]) ∧ W.cell? ⟨y, 9, none⟩ = some (.func (.func 31) #[] #[]) ∧ W.cell? ⟨y, 10, none⟩ = some (.func (.func 32) #[] #[]) ∧ W.cell? ⟨y, 11, none⟩ = some (.func (.func 33) #[] #[]) ∧ W.cell? ⟨z, 2, none⟩ = some (.int .i64 ram)) (first | exact HQ.out _ | exact ⟨v0, v1, v2, v3, v4, v5, v6, v7, v8, v9, v10, v11, d2⟩ | assumption) (first
      | (go_at_call 23; (with_reducible refine (HC.out _ (by first | with_reducible exact HF3.out.drew | with_reducible exact HF3.out) (by first | assumption | exact ⟨v0, v1, v2, v3, v4, v5, v6, v7, v8, v9, v10, v11, d2⟩)).mono ?_); rintro e wc ⟨rfl, hS, hf⟩; have HFc := Lib.hid hf; have HQ : Hid (∀ o, (wc.alloc o).cell? ⟨y, 0, none⟩ = some (.bool false) ∧ (wc.alloc o).cell? ⟨y, 1, none⟩ = some (.func (.func 27) #[] #[]) ∧ (wc.alloc o).cell? ⟨y, 2, none⟩ = some (.func (.func 27) #[] #[]) ∧ (wc.alloc o).cell? ⟨y, 3, none⟩ = some (.func (.func 28) #[] #[]) ∧ (wc.alloc o).cell? ⟨y, 4, none⟩ = some (.func (.func 28) #[] #[]) ∧ (wc.alloc o).cell? ⟨y, 5, none⟩ = some (.func (.func 29) #[] #[]) ∧ (wc.alloc o).cell? ⟨y, 6, none⟩ = some (.func (.func 29) #[] #[]) ∧ (wc.alloc o).cell? ⟨y, 7, none⟩ = some (.func (.func 30) #[] #[]) ∧ (wc.alloc o).cell? ⟨y, 8, none⟩ = some (.func (.func 30) #[] #[]) ∧ (wc.alloc o).cell? ⟨y, 9, none⟩ = some (.func (.func 31) #[] #[]) ∧ (wc.alloc o).cell? ⟨y, 10, none⟩ = some (.func (.func 32) #[] #[]) ∧ (wc.alloc o).cell? ⟨y, 11, none⟩ = some (.func (.func 33) #[] #[]) ∧ (wc.alloc o).cell? ⟨z, 2, none⟩ = some (.int .i64 ram)) := Lib.hid (by intro o; have hq := (Fr.refl [] wc).alloc o; obtain ⟨v0, v1, v2, v3, v4, v5, v6, v7, v8, v9, v10, v11, d2⟩ := hS; exact ⟨hq.cell v0 (by simp), hq.cell v1 (by simp), hq.cell v2 (by simp), hq.cell v3 (by simp), hq.cell v4 (by simp), hq.cell v5 (by simp), hq.cell v6 (by simp), hq.cell v7 (by simp), hq.cell v8 (by simp), hq.cell v9 (by simp), hq.cell v10 (by simp), hq.cell v11 (by simp), hq.cell d2 (by simp)⟩); clear hf))
    all_goals
      go_wp2_with fail
      go_meet
      exact ⟨_, rfl, rfl, Blk.fresh wc _ _, HFc.out.alloc _, HFc.out.size⟩
  case rest =>
    obtain ⟨p, rfl, rfl, hp, hf, hl⟩ := hcut
    have HP := Lib.hid hp
    have HFc := Lib.hid hf
    clear hp hf
    go_wp2
    go_ret2
    exact ⟨p, rfl, HP.out, HFc.out, hl⟩

set_option maxRecDepth 100000 in
set_option maxHeartbeats 4000000 in
theorem new_3 (w : World) (ram Q : Int) (A0 : Option Addr) (n c : Nat) (hn0 : n ≤ 1000000000) (hn : (n : Int) = 16384 * Q) (hQ2 : 2 ≤ Q) (hram : 0 ≤ ram) :
    Calls Try.prog 16 #[.agg #[.int .i64 3, .slice A0 n c, .int .i64 ram]] w fun e w' => ∃ p, e = .returned (.tuple #[.pointer (some ⟨p, 0, none⟩), .int .i64 0]) ∧ ProgAt w' p (new 3 Q ram) ∧ Fr [] w w' ∧ w.heap.size ≤ p := by
  obtain ⟨A, hAr⟩ : ∃ A : Array Value, A = #[.bool false, .func (.func 27) #[] #[], .func (.func 27) #[] #[], .func (.func 34) #[] #[], .func (.func 34) #[] #[], .func (.func 35) #[] #[], .func (.func 35) #[] #[], .func (.func 24) #[] #[], .func (.func 24) #[] #[], .func (.func 25) #[] #[], .func (.func 36) #[] #[], .func (.func 37) #[] #[]] := ⟨_, rfl⟩
  have hk : isK 3 := isK_of _ (by omega) (by omega)
  have hA : A.size = 12 := by rw [hAr]; rfl
  have hA1 : A.all (·.oneCell') = true := by rw [hAr]; decide +kernel
  have hc : (kinds 3 = some (.agg A) ∧ true = true) ∨ (kinds 3 = none ∧ A = nowhat.toArray ∧ true = false) := .inl ⟨by rw [hAr]; rfl, rfl⟩
  have hM' : (n : Int).tmod 16384 = 0 := by rw [Int.tmod_eq_emod_of_nonneg (by omega)]; omega
  have hQ' : (n : Int).tdiv 16384 = Q := by rw [Int.tdiv_eq_ediv_of_nonneg (by omega)]; omega
  have HAr := Lib.hid hAr
  have hQ1 : Q ≤ 1000000 := by omega
  clear hn hAr hn0
  have HK : Hid (∀ W, Calls Try.prog 22 #[.int .i64 3] W fun e w' => e = .returned (.tuple #[.agg A, .bool true]) ∧ Fr [] W w') := Lib.hid fun W => kindOf_any W 3 hk A true hA hA1 hc
  have HS := Lib.hid hA
  have HO := Lib.hid hA1
  clear hk hA hA1 hc
  have hal : Fr [] w (w.alloc (.cells #[.int .i64 3, .slice A0 n c, .int .i64 ram] 46)) := (Fr.refl [] w).alloc _
  have hbl := Blk.fresh w 46 #[.int .i64 3, .slice A0 n c, .int .i64 ram]
  have HAL := Lib.hid hal
  have HBL := Lib.hid hbl
  clear hal hbl
  obtain ⟨z, hz⟩ : ∃ z, w.heap.size = z := ⟨_, rfl⟩
  have HZ := Lib.hid (Nat.le_of_eq hz)
  rw [hz] at HBL
  have d0 := HBL.out.cell 0
  simp at d0
  go_enter Try.func16, Try.ntmps16
  go_upto_region 1 with fail
  generalize w.alloc _ = w1 at *
  go_wp2_with fail
  (with_reducible refine (HK.out _).mono ?_)
  rintro e w2 ⟨rfl, hf⟩
  have HF2 : Hid (Fr [] w w2) := Lib.hid (HAL.out.tr hf)
  have HB2 := Lib.hid (HBL.out.fr hf (by simp))
  clear hf d0 HK HBL HAL
  have hst := storeRow (Blk.fresh w2 59 #[.bool false, .nilFunc, .nilFunc, .nilFunc, .nilFunc, .nilFunc, .nilFunc, .nilFunc, .nilFunc, .nilFunc, .nilFunc, .nilFunc]) (by simp [HS.out]) HO.out
  rw [World.setRow_alloc_new] at hst
  have hts := HS.out
  have HF3 : Hid (Fr [] w (w2.alloc (.cells A 59))) := Lib.hid (HF2.out.alloc _)
  have HB3 : Hid (Blk (w2.alloc (.cells A 59)) z 46 #[.int .i64 3, .slice A0 n c, .int .i64 ram]) := Lib.hid (HB2.out.fr ((Fr.refl [] w2).alloc _) (by simp))
  have HV3 : Hid (Blk (w2.alloc (.cells A 59)) w2.heap.size 59 A) := Lib.hid (Blk.fresh _ _ _)
  go_upto_region 2 with fail
  clear hst hts HF2 HB2
  generalize w2.alloc _ = w3 at *
  obtain ⟨y, hy⟩ : ∃ y, w2.heap.size = y := ⟨_, rfl⟩
  rw [hy] at HV3 ⊢
  clear hy hz
  have d1 := HB3.out.cell 1
  have d2 := HB3.out.cell 2
  simp at d1 d2
  go_upto_region 5 with fail
  obtain rfl := HAr.out
  obtain ⟨v0, v1, v2, v3, v4, v5, v6, v7, v8, v9, v10, v11, d2⟩ : w3.cell? ⟨y, 0, none⟩ = some (.bool false) ∧ w3.cell? ⟨y, 1, none⟩ = some (.func (.func 27) #[] #[]) ∧ w3.cell? ⟨y, 2, none⟩ = some (.func (.func 27) #[] #[]) ∧ w3.cell? ⟨y, 3, none⟩ = some (.func (.func 34) #[] #[]) ∧ w3.cell? ⟨y, 4, none⟩ = some (.func (.func 34) #[] #[]) ∧ w3.cell? ⟨y, 5, none⟩ = some (.func (.func 35) #[] #[]) ∧ w3.cell? ⟨y, 6, none⟩ = some (.func (.func 35) #[] #[]) ∧ w3.cell? ⟨y, 7, none⟩ = some (.func (.func 24) #[] #[]) ∧ w3.cell? ⟨y, 8, none⟩ = some (.func (.func 24) #[] #[]) ∧ w3.cell? ⟨y, 9, none⟩ = some (.func (.func 25) #[] #[]) ∧ w3.cell? ⟨y, 10, none⟩ = some (.func (.func 36) #[] #[]) ∧ w3.cell? ⟨y, 11, none⟩ = some (.func (.func 37) #[] #[]) ∧ w3.cell? ⟨z, 2, none⟩ = some (.int .i64 ram) := ⟨HV3.out.cell 0, HV3.out.cell 1, HV3.out.cell 2, HV3.out.cell 3, HV3.out.cell 4, HV3.out.cell 5, HV3.out.cell 6, HV3.out.cell 7, HV3.out.cell 8, HV3.out.cell 9, HV3.out.cell 10, HV3.out.cell 11, HB3.out.cell 2⟩
  have HC : Hid (∀ W, Fr [] w W → (W.cell? ⟨y, 0, none⟩ = some (.bool false) ∧ W.cell? ⟨y, 1, none⟩ = some (.func (.func 27) #[] #[]) ∧ W.cell? ⟨y, 2, none⟩ = some (.func (.func 27) #[] #[]) ∧ W.cell? ⟨y, 3, none⟩ = some (.func (.func 34) #[] #[]) ∧ W.cell? ⟨y, 4, none⟩ = some (.func (.func 34) #[] #[]) ∧ W.cell? ⟨y, 5, none⟩ = some (.func (.func 35) #[] #[]) ∧ W.cell? ⟨y, 6, none⟩ = some (.func (.func 35) #[] #[]) ∧ W.cell? ⟨y, 7, none⟩ = some (.func (.func 24) #[] #[]) ∧ W.cell? ⟨y, 8, none⟩ = some (.func (.func 24) #[] #[]) ∧ W.cell? ⟨y, 9, none⟩ = some (.func (.func 25) #[] #[]) ∧ W.cell? ⟨y, 10, none⟩ = some (.func (.func 36) #[] #[]) ∧ W.cell? ⟨y, 11, none⟩ = some (.func (.func 37) #[] #[]) ∧ W.cell? ⟨z, 2, none⟩ = some (.int .i64 ram)) → Calls Try.prog 23 #[.agg #[.bool false, .func (.func 27) #[] #[], .func (.func 27) #[] #[], .func (.func 34) #[] #[], .func (.func 34) #[] #[], .func (.func 35) #[] #[], .func (.func 35) #[] #[], .func (.func 24) #[] #[], .func (.func 24) #[] #[], .func (.func 25) #[] #[], .func (.func 36) #[] #[], .func (.func 37) #[] #[]]] W (fun e w' => e = .returned (.agg #[.bool false, .int .i64 1, .int .i64 0, .int .i64 0]) ∧ (w'.cell? ⟨y, 0, none⟩ = some (.bool false) ∧ w'.cell? ⟨y, 1, none⟩ = some (.func (.func 27) #[] #[]) ∧ w'.cell? ⟨y, 2, none⟩ = some (.func (.func 27) #[] #[]) ∧ w'.cell? ⟨y, 3, none⟩ = some (.func (.func 34) #[] #[]) ∧ w'.cell? ⟨y, 4, none⟩ = some (.func (.func 34) #[] #[]) ∧ w'.cell? ⟨y, 5, none⟩ = some (.func (.func 35) #[] #[]) ∧ w'.cell? ⟨y, 6, none⟩ = some (.func (.func 35) #[] #[]) ∧ w'.cell? ⟨y, 7, none⟩ = some (.func (.func 24) #[] #[]) ∧ w'.cell? ⟨y, 8, none⟩ = some (.func (.func 24) #[] #[]) ∧ w'.cell? ⟨y, 9, none⟩ = some (.func (.func 25) #[] #[]) ∧ w'.cell? ⟨y, 10, none⟩ = some (.func (.func 36) #[] #[]) ∧ w'.cell? ⟨y, 11, none⟩ = some (.func (.func 37) #[] #[]) ∧ w'.cell? ⟨z, 2, none⟩ = some (.int .i64 ram)) ∧ Fr [] w w')) := Lib.hid (by
    intro W hW hS
    refine (atFirst_any W #[.bool false, .func (.func 27) #[] #[], .func (.func 27) #[] #[], .func (.func 34) #[] #[], .func (.func 34) #[] #[], .func (.func 35) #[] #[], .func (.func 35) #[] #[], .func (.func 24) #[] #[], .func (.func 24) #[] #[], .func (.func 25) #[] #[], .func (.func 36) #[] #[], .func (.func 37) #[] #[]] false rfl rfl).mono ?_
    rintro e w' ⟨g1, g2⟩
    obtain ⟨v0, v1, v2, v3, v4, v5, v6, v7, v8, v9, v10, v11, d2⟩ := hS
    exact ⟨g1, ⟨g2.cell v0 (by simp), g2.cell v1 (by simp), g2.cell v2 (by simp), g2.cell v3 (by simp), g2.cell v4 (by simp), g2.cell v5 (by simp), g2.cell v6 (by simp), g2.cell v7 (by simp), g2.cell v8 (by simp), g2.cell v9 (by simp), g2.cell v10 (by simp), g2.cell v11 (by simp), g2.cell d2 (by simp)⟩, hW.tr g2⟩)
  clear HV3 HB3 HS HO hM' hQ' HAr
  go_cut [2, 3] (fun s2 s3 wx => ∃ p, s2 = .pointer (some ⟨p, 0, none⟩) ∧ s3 = .int .i64 0 ∧ ProgAt wx p (new 3 Q ram) ∧ Fr [] w wx ∧ w.heap.size ≤ p)
  case first =>
    go_region_held3 (fun W => W.cell? ⟨y, 0, none⟩ = some (.bool false) ∧ W.cell? ⟨y, 1, none⟩ = some (.func (.func 27) #[] #[]) ∧ W.cell? ⟨y, 2, none⟩ = some (.func (.func 27) #[] #[]) ∧ W.cell? ⟨y, 3, none⟩ = some (.func (.func 34) #[] #[]) ∧ W.cell? ⟨y, 4, none⟩ = some (.func (.func 34) #[] #[]) ∧ W.cell? ⟨y, 5, none⟩ = some (.func (.func 35) #[] #[]) ∧ W.cell? ⟨y, 6, none⟩ = some (.func (.func 35) #[] #[]) ∧ W.cell? ⟨y, 7, none⟩ = some (.func (.func 24) #[] #[]) ∧ W.cell? ⟨y, 8, none⟩ = some (.func (.func 24) #[] #[]) ∧ W.cell? ⟨y, 9, none⟩ = some (.func (.func 25) #[] #[]) ∧ W.cell? ⟨y, 10, none⟩ = some (.func (.func 36) #[] #[]) ∧ W.cell? ⟨y, 11, none⟩ = some (.func (.func 37) #[] #[]) ∧ W.cell? ⟨z, 2, none⟩ = some (.int .i64 ram)) (first | exact HQ.out _ | exact ⟨v0, v1, v2, v3, v4, v5, v6, v7, v8, v9, v10, v11, d2⟩ | assumption) (first
      | (go_at_call 23; (with_reducible refine (HC.out _ (by first | with_reducible exact HF3.out.drew | with_reducible exact HF3.out) (by first | assumption | exact ⟨v0, v1, v2, v3, v4, v5, v6, v7, v8, v9, v10, v11, d2⟩)).mono ?_); rintro e wc ⟨rfl, hS, hf⟩; have HFc := Lib.hid hf; have HQ : Hid (∀ o, (wc.alloc o).cell? ⟨y, 0, none⟩ = some (.bool false) ∧ (wc.alloc o).cell? ⟨y, 1, none⟩ = some (.func (.func 27) #[] #[]) ∧ (wc.alloc o).cell? ⟨y, 2, none⟩ = some (.func (.func 27) #[] #[]) ∧ (wc.alloc o).cell? ⟨y, 3, none⟩ = some (.func (.func 34) #[] #[]) ∧ (wc.alloc o).cell? ⟨y, 4, none⟩ = some (.func (.func 34) #[] #[]) ∧ (wc.alloc o).cell? ⟨y, 5, none⟩ = some (.func (.func 35) #[] #[]) ∧ (wc.alloc o).cell? ⟨y, 6, none⟩ = some (.func (.func 35) #[] #[]) ∧ (wc.alloc o).cell? ⟨y, 7, none⟩ = some (.func (.func 24) #[] #[]) ∧ (wc.alloc o).cell? ⟨y, 8, none⟩ = some (.func (.func 24) #[] #[]) ∧ (wc.alloc o).cell? ⟨y, 9, none⟩ = some (.func (.func 25) #[] #[]) ∧ (wc.alloc o).cell? ⟨y, 10, none⟩ = some (.func (.func 36) #[] #[]) ∧ (wc.alloc o).cell? ⟨y, 11, none⟩ = some (.func (.func 37) #[] #[]) ∧ (wc.alloc o).cell? ⟨z, 2, none⟩ = some (.int .i64 ram)) := Lib.hid (by intro o; have hq := (Fr.refl [] wc).alloc o; obtain ⟨v0, v1, v2, v3, v4, v5, v6, v7, v8, v9, v10, v11, d2⟩ := hS; exact ⟨hq.cell v0 (by simp), hq.cell v1 (by simp), hq.cell v2 (by simp), hq.cell v3 (by simp), hq.cell v4 (by simp), hq.cell v5 (by simp), hq.cell v6 (by simp), hq.cell v7 (by simp), hq.cell v8 (by simp), hq.cell v9 (by simp), hq.cell v10 (by simp), hq.cell v11 (by simp), hq.cell d2 (by simp)⟩); clear hf))
    all_goals
      go_wp2_with fail
      go_meet
      exact ⟨_, rfl, rfl, Blk.fresh wc _ _, HFc.out.alloc _, HFc.out.size⟩
  case rest =>
    obtain ⟨p, rfl, rfl, hp, hf, hl⟩ := hcut
    have HP := Lib.hid hp
    have HFc := Lib.hid hf
    clear hp hf
    go_wp2
    go_ret2
    exact ⟨p, rfl, HP.out, HFc.out, hl⟩

set_option maxRecDepth 100000 in
set_option maxHeartbeats 4000000 in
theorem new_5 (w : World) (ram Q : Int) (A0 : Option Addr) (n c : Nat) (hn0 : n ≤ 1000000000) (hn : (n : Int) = 16384 * Q) (hQ2 : 2 ≤ Q) (hram : 0 ≤ ram) :
    Calls Try.prog 16 #[.agg #[.int .i64 5, .slice A0 n c, .int .i64 ram]] w fun e w' => ∃ p, e = .returned (.tuple #[.pointer (some ⟨p, 0, none⟩), .int .i64 0]) ∧ ProgAt w' p (new 5 Q ram) ∧ Fr [] w w' ∧ w.heap.size ≤ p := by
  obtain ⟨A, hAr⟩ : ∃ A : Array Value, A = #[.bool false, .func (.func 27) #[] #[], .func (.func 27) #[] #[], .func (.func 38) #[] #[], .func (.func 39) #[] #[], .func (.func 40) #[] #[], .func (.func 40) #[] #[], .func (.func 24) #[] #[], .func (.func 24) #[] #[], .func (.func 25) #[] #[], .func (.func 36) #[] #[], .func (.func 41) #[] #[]] := ⟨_, rfl⟩
  have hk : isK 5 := isK_of _ (by omega) (by omega)
  have hA : A.size = 12 := by rw [hAr]; rfl
  have hA1 : A.all (·.oneCell') = true := by rw [hAr]; decide +kernel
  have hc : (kinds 5 = some (.agg A) ∧ true = true) ∨ (kinds 5 = none ∧ A = nowhat.toArray ∧ true = false) := .inl ⟨by rw [hAr]; rfl, rfl⟩
  have hM' : (n : Int).tmod 16384 = 0 := by rw [Int.tmod_eq_emod_of_nonneg (by omega)]; omega
  have hQ' : (n : Int).tdiv 16384 = Q := by rw [Int.tdiv_eq_ediv_of_nonneg (by omega)]; omega
  have HAr := Lib.hid hAr
  have hQ1 : Q ≤ 1000000 := by omega
  clear hn hAr hn0
  have HK : Hid (∀ W, Calls Try.prog 22 #[.int .i64 5] W fun e w' => e = .returned (.tuple #[.agg A, .bool true]) ∧ Fr [] W w') := Lib.hid fun W => kindOf_any W 5 hk A true hA hA1 hc
  have HS := Lib.hid hA
  have HO := Lib.hid hA1
  clear hk hA hA1 hc
  have hal : Fr [] w (w.alloc (.cells #[.int .i64 5, .slice A0 n c, .int .i64 ram] 46)) := (Fr.refl [] w).alloc _
  have hbl := Blk.fresh w 46 #[.int .i64 5, .slice A0 n c, .int .i64 ram]
  have HAL := Lib.hid hal
  have HBL := Lib.hid hbl
  clear hal hbl
  obtain ⟨z, hz⟩ : ∃ z, w.heap.size = z := ⟨_, rfl⟩
  have HZ := Lib.hid (Nat.le_of_eq hz)
  rw [hz] at HBL
  have d0 := HBL.out.cell 0
  simp at d0
  go_enter Try.func16, Try.ntmps16
  go_upto_region 1 with fail
  generalize w.alloc _ = w1 at *
  go_wp2_with fail
  (with_reducible refine (HK.out _).mono ?_)
  rintro e w2 ⟨rfl, hf⟩
  have HF2 : Hid (Fr [] w w2) := Lib.hid (HAL.out.tr hf)
  have HB2 := Lib.hid (HBL.out.fr hf (by simp))
  clear hf d0 HK HBL HAL
  have hst := storeRow (Blk.fresh w2 59 #[.bool false, .nilFunc, .nilFunc, .nilFunc, .nilFunc, .nilFunc, .nilFunc, .nilFunc, .nilFunc, .nilFunc, .nilFunc, .nilFunc]) (by simp [HS.out]) HO.out
  rw [World.setRow_alloc_new] at hst
  have hts := HS.out
  have HF3 : Hid (Fr [] w (w2.alloc (.cells A 59))) := Lib.hid (HF2.out.alloc _)
  have HB3 : Hid (Blk (w2.alloc (.cells A 59)) z 46 #[.int .i64 5, .slice A0 n c, .int .i64 ram]) := Lib.hid (HB2.out.fr ((Fr.refl [] w2).alloc _) (by simp))
  have HV3 : Hid (Blk (w2.alloc (.cells A 59)) w2.heap.size 59 A) := Lib.hid (Blk.fresh _ _ _)
  go_upto_region 2 with fail
  clear hst hts HF2 HB2
  generalize w2.alloc _ = w3 at *
  obtain ⟨y, hy⟩ : ∃ y, w2.heap.size = y := ⟨_, rfl⟩
  rw [hy] at HV3 ⊢
  clear hy hz
  have d1 := HB3.out.cell 1
  have d2 := HB3.out.cell 2
  simp at d1 d2
  go_upto_region 5 with fail
  obtain rfl := HAr.out
  obtain ⟨v0, v1, v2, v3, v4, v5, v6, v7, v8, v9, v10, v11, d2⟩ : w3.cell? ⟨y, 0, none⟩ = some (.bool false) ∧ w3.cell? ⟨y, 1, none⟩ = some (.func (.func 27) #[] #[]) ∧ w3.cell? ⟨y, 2, none⟩ = some (.func (.func 27) #[] #[]) ∧ w3.cell? ⟨y, 3, none⟩ = some (.func (.func 38) #[] #[]) ∧ w3.cell? ⟨y, 4, none⟩ = some (.func (.func 39) #[] #[]) ∧ w3.cell? ⟨y, 5, none⟩ = some (.func (.func 40) #[] #[]) ∧ w3.cell? ⟨y, 6, none⟩ = some (.func (.func 40) #[] #[]) ∧ w3.cell? ⟨y, 7, none⟩ = some (.func (.func 24) #[] #[]) ∧ w3.cell? ⟨y, 8, none⟩ = some (.func (.func 24) #[] #[]) ∧ w3.cell? ⟨y, 9, none⟩ = some (.func (.func 25) #[] #[]) ∧ w3.cell? ⟨y, 10, none⟩ = some (.func (.func 36) #[] #[]) ∧ w3.cell? ⟨y, 11, none⟩ = some (.func (.func 41) #[] #[]) ∧ w3.cell? ⟨z, 2, none⟩ = some (.int .i64 ram) := ⟨HV3.out.cell 0, HV3.out.cell 1, HV3.out.cell 2, HV3.out.cell 3, HV3.out.cell 4, HV3.out.cell 5, HV3.out.cell 6, HV3.out.cell 7, HV3.out.cell 8, HV3.out.cell 9, HV3.out.cell 10, HV3.out.cell 11, HB3.out.cell 2⟩
  have HC : Hid (∀ W, Fr [] w W → (W.cell? ⟨y, 0, none⟩ = some (.bool false) ∧ W.cell? ⟨y, 1, none⟩ = some (.func (.func 27) #[] #[]) ∧ W.cell? ⟨y, 2, none⟩ = some (.func (.func 27) #[] #[]) ∧ W.cell? ⟨y, 3, none⟩ = some (.func (.func 38) #[] #[]) ∧ W.cell? ⟨y, 4, none⟩ = some (.func (.func 39) #[] #[]) ∧ W.cell? ⟨y, 5, none⟩ = some (.func (.func 40) #[] #[]) ∧ W.cell? ⟨y, 6, none⟩ = some (.func (.func 40) #[] #[]) ∧ W.cell? ⟨y, 7, none⟩ = some (.func (.func 24) #[] #[]) ∧ W.cell? ⟨y, 8, none⟩ = some (.func (.func 24) #[] #[]) ∧ W.cell? ⟨y, 9, none⟩ = some (.func (.func 25) #[] #[]) ∧ W.cell? ⟨y, 10, none⟩ = some (.func (.func 36) #[] #[]) ∧ W.cell? ⟨y, 11, none⟩ = some (.func (.func 41) #[] #[]) ∧ W.cell? ⟨z, 2, none⟩ = some (.int .i64 ram)) → Calls Try.prog 23 #[.agg #[.bool false, .func (.func 27) #[] #[], .func (.func 27) #[] #[], .func (.func 38) #[] #[], .func (.func 39) #[] #[], .func (.func 40) #[] #[], .func (.func 40) #[] #[], .func (.func 24) #[] #[], .func (.func 24) #[] #[], .func (.func 25) #[] #[], .func (.func 36) #[] #[], .func (.func 41) #[] #[]]] W (fun e w' => e = .returned (.agg #[.bool false, .int .i64 1, .int .i64 0, .int .i64 0]) ∧ (w'.cell? ⟨y, 0, none⟩ = some (.bool false) ∧ w'.cell? ⟨y, 1, none⟩ = some (.func (.func 27) #[] #[]) ∧ w'.cell? ⟨y, 2, none⟩ = some (.func (.func 27) #[] #[]) ∧ w'.cell? ⟨y, 3, none⟩ = some (.func (.func 38) #[] #[]) ∧ w'.cell? ⟨y, 4, none⟩ = some (.func (.func 39) #[] #[]) ∧ w'.cell? ⟨y, 5, none⟩ = some (.func (.func 40) #[] #[]) ∧ w'.cell? ⟨y, 6, none⟩ = some (.func (.func 40) #[] #[]) ∧ w'.cell? ⟨y, 7, none⟩ = some (.func (.func 24) #[] #[]) ∧ w'.cell? ⟨y, 8, none⟩ = some (.func (.func 24) #[] #[]) ∧ w'.cell? ⟨y, 9, none⟩ = some (.func (.func 25) #[] #[]) ∧ w'.cell? ⟨y, 10, none⟩ = some (.func (.func 36) #[] #[]) ∧ w'.cell? ⟨y, 11, none⟩ = some (.func (.func 41) #[] #[]) ∧ w'.cell? ⟨z, 2, none⟩ = some (.int .i64 ram)) ∧ Fr [] w w')) := Lib.hid (by
    intro W hW hS
    refine (atFirst_any W #[.bool false, .func (.func 27) #[] #[], .func (.func 27) #[] #[], .func (.func 38) #[] #[], .func (.func 39) #[] #[], .func (.func 40) #[] #[], .func (.func 40) #[] #[], .func (.func 24) #[] #[], .func (.func 24) #[] #[], .func (.func 25) #[] #[], .func (.func 36) #[] #[], .func (.func 41) #[] #[]] false rfl rfl).mono ?_
    rintro e w' ⟨g1, g2⟩
    obtain ⟨v0, v1, v2, v3, v4, v5, v6, v7, v8, v9, v10, v11, d2⟩ := hS
    exact ⟨g1, ⟨g2.cell v0 (by simp), g2.cell v1 (by simp), g2.cell v2 (by simp), g2.cell v3 (by simp), g2.cell v4 (by simp), g2.cell v5 (by simp), g2.cell v6 (by simp), g2.cell v7 (by simp), g2.cell v8 (by simp), g2.cell v9 (by simp), g2.cell v10 (by simp), g2.cell v11 (by simp), g2.cell d2 (by simp)⟩, hW.tr g2⟩)
  clear HV3 HB3 HS HO hM' hQ' HAr
  go_cut [2, 3] (fun s2 s3 wx => ∃ p, s2 = .pointer (some ⟨p, 0, none⟩) ∧ s3 = .int .i64 0 ∧ ProgAt wx p (new 5 Q ram) ∧ Fr [] w wx ∧ w.heap.size ≤ p)
  case first =>
    go_region_held3 (fun W => W.cell? ⟨y, 0, none⟩ = some (.bool false) ∧ W.cell? ⟨y, 1, none⟩ = some (.func (.func 27) #[] #[]) ∧ W.cell? ⟨y, 2, none⟩ = some (.func (.func 27) #[] #[]) ∧ W.cell? ⟨y, 3, none⟩ = some (.func (.func 38) #[] #[]) ∧ W.cell? ⟨y, 4, none⟩ = some (.func (.func 39) #[] #[]) ∧ W.cell? ⟨y, 5, none⟩ = some (.func (.func 40) #[] #[]) ∧ W.cell? ⟨y, 6, none⟩ = some (.func (.func 40) #[] #[]) ∧ W.cell? ⟨y, 7, none⟩ = some (.func (.func 24) #[] #[]) ∧ W.cell? ⟨y, 8, none⟩ = some (.func (.func 24) #[] #[]) ∧ W.cell? ⟨y, 9, none⟩ = some (.func (.func 25) #[] #[]) ∧ W.cell? ⟨y, 10, none⟩ = some (.func (.func 36) #[] #[]) ∧ W.cell? ⟨y, 11, none⟩ = some (.func (.func 41) #[] #[]) ∧ W.cell? ⟨z, 2, none⟩ = some (.int .i64 ram)) (first | exact HQ.out _ | exact ⟨v0, v1, v2, v3, v4, v5, v6, v7, v8, v9, v10, v11, d2⟩ | assumption) (first
      | (go_at_call 23; (with_reducible refine (HC.out _ (by first | with_reducible exact HF3.out.drew | with_reducible exact HF3.out) (by first | assumption | exact ⟨v0, v1, v2, v3, v4, v5, v6, v7, v8, v9, v10, v11, d2⟩)).mono ?_); rintro e wc ⟨rfl, hS, hf⟩; have HFc := Lib.hid hf; have HQ : Hid (∀ o, (wc.alloc o).cell? ⟨y, 0, none⟩ = some (.bool false) ∧ (wc.alloc o).cell? ⟨y, 1, none⟩ = some (.func (.func 27) #[] #[]) ∧ (wc.alloc o).cell? ⟨y, 2, none⟩ = some (.func (.func 27) #[] #[]) ∧ (wc.alloc o).cell? ⟨y, 3, none⟩ = some (.func (.func 38) #[] #[]) ∧ (wc.alloc o).cell? ⟨y, 4, none⟩ = some (.func (.func 39) #[] #[]) ∧ (wc.alloc o).cell? ⟨y, 5, none⟩ = some (.func (.func 40) #[] #[]) ∧ (wc.alloc o).cell? ⟨y, 6, none⟩ = some (.func (.func 40) #[] #[]) ∧ (wc.alloc o).cell? ⟨y, 7, none⟩ = some (.func (.func 24) #[] #[]) ∧ (wc.alloc o).cell? ⟨y, 8, none⟩ = some (.func (.func 24) #[] #[]) ∧ (wc.alloc o).cell? ⟨y, 9, none⟩ = some (.func (.func 25) #[] #[]) ∧ (wc.alloc o).cell? ⟨y, 10, none⟩ = some (.func (.func 36) #[] #[]) ∧ (wc.alloc o).cell? ⟨y, 11, none⟩ = some (.func (.func 41) #[] #[]) ∧ (wc.alloc o).cell? ⟨z, 2, none⟩ = some (.int .i64 ram)) := Lib.hid (by intro o; have hq := (Fr.refl [] wc).alloc o; obtain ⟨v0, v1, v2, v3, v4, v5, v6, v7, v8, v9, v10, v11, d2⟩ := hS; exact ⟨hq.cell v0 (by simp), hq.cell v1 (by simp), hq.cell v2 (by simp), hq.cell v3 (by simp), hq.cell v4 (by simp), hq.cell v5 (by simp), hq.cell v6 (by simp), hq.cell v7 (by simp), hq.cell v8 (by simp), hq.cell v9 (by simp), hq.cell v10 (by simp), hq.cell v11 (by simp), hq.cell d2 (by simp)⟩); clear hf))
    all_goals
      go_wp2_with fail
      go_meet
      exact ⟨_, rfl, rfl, Blk.fresh wc _ _, HFc.out.alloc _, HFc.out.size⟩
  case rest =>
    obtain ⟨p, rfl, rfl, hp, hf, hl⟩ := hcut
    have HP := Lib.hid hp
    have HFc := Lib.hid hf
    clear hp hf
    go_wp2
    go_ret2
    exact ⟨p, rfl, HP.out, HFc.out, hl⟩

theorem new_ok (w : World) (kd ram Q : Int) (A0 : Option Addr) (n c : Nat) (hkd : kd = 0 ∨ kd = 1 ∨ kd = 3 ∨ kd = 5) (hn0 : n ≤ 1000000000) (hn : (n : Int) = 16384 * Q) (hQ2 : 2 ≤ Q) (hram : 0 ≤ ram) :
    Calls Try.prog 16 #[.agg #[.int .i64 kd, .slice A0 n c, .int .i64 ram]] w fun e w' => ∃ p, e = .returned (.tuple #[.pointer (some ⟨p, 0, none⟩), .int .i64 0]) ∧ ProgAt w' p (new kd Q ram) ∧ Fr [] w w' ∧ w.heap.size ≤ p := by
  obtain rfl | rfl | rfl | rfl := hkd
  · exact new_0 w ram Q A0 n c hn0 hn hQ2 hram
  · exact new_1 w ram Q A0 n c hn0 hn hQ2 hram
  · exact new_3 w ram Q A0 n c hn0 hn hQ2 hram
  · exact new_5 w ram Q A0 n c hn0 hn hQ2 hram

theorem new_bad (w : World) (kd ram : Int) (A0 : Option Addr) (n c : Nat) (hk : isK kd) (hn0 : n ≤ 1000000000) (hbad : ¬ ((kd = 0 ∨ kd = 1 ∨ kd = 3 ∨ kd = 5) ∧ 32768 ≤ (n : Int) ∧ (n : Int) % 16384 = 0 ∧ 0 ≤ ram)) :
    Calls Try.prog 16 #[.agg #[.int .i64 kd, .slice A0 n c, .int .i64 ram]] w fun e w' => e = .returned (.tuple #[.pointer none, .int .i64 1]) ∧ Fr [] w w' := by
  by_cases hkd : kd = 0 ∨ kd = 1 ∨ kd = 3 ∨ kd = 5
  · have hA : ∃ A : Array Value, kinds kd = some (.agg A) ∧ A.size = 12 ∧ A.all (·.oneCell') = true := by
      obtain rfl | rfl | rfl | rfl := hkd
      · exact ⟨kind0.toArray, rfl, rfl, by decide +kernel⟩
      · exact ⟨kind1.toArray, rfl, rfl, by decide +kernel⟩
      · exact ⟨kind3.toArray, rfl, rfl, by decide +kernel⟩
      · exact ⟨kind5.toArray, rfl, rfl, by decide +kernel⟩
    obtain ⟨A, g1, g2, g3⟩ := hA
    by_cases h1 : (n : Int) % 16384 = 0
    · by_cases h2 : (n : Int) < 32768
      · exact new_short w ram A0 n c hn0 kd hk A true g2 g3 (.inl ⟨g1, rfl⟩) rfl h1 h2
      · exact new_below w ram A0 n c hn0 kd hk A true g2 g3 (.inl ⟨g1, rfl⟩) rfl h1 (by omega) (by
          by_cases h3 : 0 ≤ ram
          · exact absurd ⟨hkd, by omega, h1, h3⟩ hbad
          · omega)
    · exact new_parts w ram A0 n c hn0 kd hk A true g2 g3 (.inl ⟨g1, rfl⟩) rfl h1
  · have g : kinds kd = none := by
      unfold kinds
      rw [if_neg (by omega), if_neg (by omega), if_neg (by omega), if_neg (by omega)]
    exact new_unknown w ram A0 n c hn0 kd hk nowhat.toArray false rfl (by decide +kernel) (.inr ⟨g, rfl, rfl⟩) rfl

end Gm
end Go.Proofs.Ytglnpgdigdfjiaa
