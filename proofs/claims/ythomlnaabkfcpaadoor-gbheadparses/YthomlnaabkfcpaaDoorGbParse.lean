/-
  Contract of gbhead.Parse: the first fault is told, with a zero cart; else the file's cart. Condition: lengths as of slices; the table of RAM's sizes holds what its text lays.
-/
import Derived.Test.YthomlnaabkfcpaaDoorGbClone
import Derived.Test.YthomlnaabkfcpaaDoorGbKind
import Derived.Test.YthomlnaabkfcpaaDoorGbSizes
import Derived.Deep.DeepCutAuto
namespace Go.Proofs.YthomlnaabkfcpaaDoor
open Go.RowKit
namespace Gb

theorem blk3 {w : World} {g : Nat} {t : TypeId} {a b c : Value} (h : Blk w g t #[a, b, c]) : w.cell? ⟨g, 0, none⟩ = some a ∧ w.cell? ⟨g, 1, none⟩ = some b ∧ w.cell? ⟨g, 2, none⟩ = some c :=
  ⟨h.cell 0, h.cell 1, h.cell 2⟩
theorem three_put {w : World} {g : Nat} {t : TypeId} {a b c : Value} (h : Blk w g t #[a, b, c]) (a' b' c' : Value) :
    Blk (((w.setCell ⟨g, 0, none⟩ a').setCell ⟨g, 1, none⟩ b').setCell ⟨g, 2, none⟩ c') g t #[a', b', c'] := ((h.put 0 a').put 1 b').put 2 c'
theorem three_fr (w : World) (g : Nat) (a' b' c' : Value) : Fr [g] w (((w.setCell ⟨g, 0, none⟩ a').setCell ⟨g, 1, none⟩ b').setCell ⟨g, 2, none⟩ c') :=
  (((Fr.refl [g] w).setCell (by simp) _).setCell (by simp) _).setCell (by simp) _

theorem own_mono {w : World} {B B' : Nat} {v : Value} {l : List UInt8} (h : Own w B v l) (hB : B' ≤ B) : Own w B' v l := by
  obtain ⟨h1, h2⟩ := h
  refine ⟨h1, ?_⟩
  rcases h2 with h2 | ⟨g, cap, cur, e, hg, r⟩
  · exact .inl h2
  · exact .inr ⟨g, cap, cur, e, by omega, r⟩

/-- The zero cart. -/
def zeroCt : Value := .agg #[.int .i64 0, .slice none 0 0, .int .i64 0]
/-- What Parse leaves where it fails. -/
def Refused (w : World) (x : Nat) (e : Ending) (w' : World) : Prop := e = .returned (.tuple #[zeroCt, .int .i64 (x : Int)]) ∧ Fr [] w w'
/-- A cart in memory, its bytes from block B on. -/
def CartIn (B : Nat) (w : World) (v : Value) (ct : Ct) : Prop :=
  ∃ A c, v = .agg #[.int .i64 (ct.k : Int), .slice A ct.rom.length c, .int .i64 (ct.ram : Int)] ∧ Rd w A ct.rom ∧ ∀ ad, A = some ad → B ≤ ad.block
theorem CartIn.fr {S : List Nat} {B : Nat} {w w' : World} {v : Value} {ct : Ct} (h : CartIn B w v ct) (hf : Fr S w w') (hS : ∀ k ∈ S, k < B) : CartIn B w' v ct := by
  obtain ⟨A, c, hv, h1, h2⟩ := h
  exact ⟨A, c, hv, h1.fr hf fun ad he hm => by have := hS _ hm; have := h2 ad he; omega, h2⟩
theorem CartIn.later {B : Nat} {w w' : World} {v : Value} {ct : Ct} (h : CartIn B w v ct) (hf : Fr [] w w') : CartIn B w' v ct := h.fr hf (by simp)
theorem zero_in (B : Nat) (w : World) : CartIn B w zeroCt ⟨0, [], 0⟩ := ⟨none, 0, rfl, rd_nil w, by simp⟩
/-- What both tell. -/
def Outcome (w : World) (l : List UInt8) (e : Ending) (w' : World) : Prop := ∃ v, e = .returned (.tuple #[v, .int .i64 (fault l : Int)]) ∧ CartIn w.heap.size w' v (ctOf l) ∧ Fr [] w w'

section
variable (w : World) (A : Option Addr) (n c : Nat) (l : List UInt8)

set_option maxRecDepth 100000 in
set_option maxHeartbeats 1000000 in
theorem pb_large (h : 16777216 < n) : Calls Tryd.prog 11 #[.slice A n c] w (Refused w 6) := by
  have h1 : (16777216 : Int) < n := by omega
  obtain ⟨z, hz⟩ : ∃ z, w.heap.size = z := ⟨_, rfl⟩
  have hb0 := Blk.fresh w 30 #[.int .i64 0, .slice none 0 0, .int .i64 0]
  rw [hz] at hb0
  have HF0 := Lib.hid ((Fr.refl [] w).alloc (.cells #[.int .i64 0, .slice none 0 0, .int .i64 0] 30))
  obtain ⟨q0, q1, q2⟩ := blk3 hb0
  have f0 := hb0.frozen 0
  have f1 := hb0.frozen 1
  have f2 := hb0.frozen 2
  have HB0 := Lib.hid hb0
  clear hb0
  go_enter Tryd.func11, Tryd.ntmps11
  go_upto_region 1 with fail
  generalize w.alloc _ = w0 at *
  go_wp2
  have HB9 := Lib.hid (three_put HB0.out (.int .i64 0) (.slice none 0 0) (.int .i64 0))
  have HF9 := Lib.hid (three_fr w0 z (.int .i64 0) (.slice none 0 0) (.int .i64 0))
  have hf := HF0.out.trans (S := []) HF9.out (by simp; omega)
  obtain ⟨z0, z1, z2⟩ := blk3 HB9.out
  generalize ((w0.setCell ⟨z, 0, none⟩ _).setCell ⟨z, 1, none⟩ _).setCell ⟨z, 2, none⟩ _ = w9 at *
  exact bodyPost_ret (v := .tuple #[zeroCt, .int .i64 _]) (by simp [results, Tryd.results11, go_sem, z0, z1, z2, zeroCt]) rfl ⟨rfl, hf⟩

set_option maxRecDepth 100000 in
set_option maxHeartbeats 1000000 in
theorem pb_short (h : n < 32768) : Calls Tryd.prog 11 #[.slice A n c] w (Refused w 2) := by
  have h1 : ¬ (16777216 : Int) < n := by omega
  have h2 : (n : Int) < 32768 := by omega
  obtain ⟨z, hz⟩ : ∃ z, w.heap.size = z := ⟨_, rfl⟩
  have hb0 := Blk.fresh w 30 #[.int .i64 0, .slice none 0 0, .int .i64 0]
  rw [hz] at hb0
  have HF0 := Lib.hid ((Fr.refl [] w).alloc (.cells #[.int .i64 0, .slice none 0 0, .int .i64 0] 30))
  obtain ⟨q0, q1, q2⟩ := blk3 hb0
  have f0 := hb0.frozen 0
  have f1 := hb0.frozen 1
  have f2 := hb0.frozen 2
  have HB0 := Lib.hid hb0
  clear hb0
  go_enter Tryd.func11, Tryd.ntmps11
  go_upto_region 1 with fail
  generalize w.alloc _ = w0 at *
  go_wp2
  have HB9 := Lib.hid (three_put HB0.out (.int .i64 0) (.slice none 0 0) (.int .i64 0))
  have HF9 := Lib.hid (three_fr w0 z (.int .i64 0) (.slice none 0 0) (.int .i64 0))
  have hf := HF0.out.trans (S := []) HF9.out (by simp; omega)
  obtain ⟨z0, z1, z2⟩ := blk3 HB9.out
  generalize ((w0.setCell ⟨z, 0, none⟩ _).setCell ⟨z, 1, none⟩ _).setCell ⟨z, 2, none⟩ _ = w9 at *
  exact bodyPost_ret (v := .tuple #[zeroCt, .int .i64 _]) (by simp [results, Tryd.results11, go_sem, z0, z1, z2, zeroCt]) rfl ⟨rfl, hf⟩

set_option maxRecDepth 100000 in
set_option maxHeartbeats 1000000 in
theorem pb_sum (hn : l.length = n) (hnc : n ≤ c) (hl : n ≤ 16777216) (h : 32768 ≤ n) (hr : Rd w A l) (hs : bt l 333 ≠ gsum l) : Calls Tryd.prog 11 #[.slice A n c] w (Refused w 4) := by
  have h1 : ¬ (16777216 : Int) < n := by omega
  have h2 : ¬ (n : Int) < 32768 := by omega
  have t333 : (333 : Int) < n := by omega
  have t327 : (327 : Int) < n := by omega
  have t328 : (328 : Int) < n := by omega
  have t329 : (329 : Int) < n := by omega
  have HS : Hid (∀ W, Fr [] w W → Calls Tryd.prog 16 #[.slice A n c] W fun e w' => e = .returned (.int .u8 (gsum l : Int)) ∧ w' = W) := Lib.hid fun W hW => (headSum_any W A n c l hn hnc (hr.later hW (by simp)) (by omega)).mono fun e w' ⟨h1, h2⟩ => ⟨h1, h2.symm⟩
  obtain ⟨b, o, rfl, hcell⟩ := hr (by omega)
  have c0 := hcell 327 (by omega)
  have c1 := hcell 328 (by omega)
  have c2 := hcell 329 (by omega)
  have c3 := hcell 333 (by omega)
  rw [← bt_get] at c0 c1 c2 c3
  obtain ⟨y0, hy0⟩ : ∃ y : Int, (bt l 327 : Int) = y := ⟨_, rfl⟩
  obtain ⟨y1, hy1⟩ : ∃ y : Int, (bt l 328 : Int) = y := ⟨_, rfl⟩
  obtain ⟨y2, hy2⟩ : ∃ y : Int, (bt l 329 : Int) = y := ⟨_, rfl⟩
  obtain ⟨y3, hy3⟩ : ∃ y : Int, (bt l 333 : Int) = y := ⟨_, rfl⟩
  rw [hy0] at c0
  rw [hy1] at c1
  rw [hy2] at c2
  rw [hy3] at c3
  clear hr hcell
  obtain ⟨s, hs'⟩ : ∃ s : Int, (gsum l : Int) = s := ⟨_, rfl⟩
  have t2 : (y3 == s) = false := by rw [beq_eq_false_iff_ne]; omega
  have t3 : (y3 != s) = true := by rw [bne_iff_ne]; omega
  rw [hs'] at HS
  clear hs hs' hy3 hy0 hy1 hy2
  obtain ⟨z, hz⟩ : ∃ z, w.heap.size = z := ⟨_, rfl⟩
  have hb0 := Blk.fresh w 30 #[.int .i64 0, .slice none 0 0, .int .i64 0]
  rw [hz] at hb0
  have HF0 := Lib.hid ((Fr.refl [] w).alloc (.cells #[.int .i64 0, .slice none 0 0, .int .i64 0] 30))
  obtain ⟨q0, q1, q2⟩ := blk3 hb0
  have f0 := hb0.frozen 0
  have f1 := hb0.frozen 1
  have f2 := hb0.frozen 2
  have HB0 := Lib.hid hb0
  have d0 := HF0.out.cell c0 (by simp)
  have d1 := HF0.out.cell c1 (by simp)
  have d2 := HF0.out.cell c2 (by simp)
  have d3 := HF0.out.cell c3 (by simp)
  clear c0 c1 c2 c3
  clear hb0
  go_enter Tryd.func11, Tryd.ntmps11
  go_upto_region 1 with fail
  generalize w.alloc _ = w0 at *
  go_upto_region 5 with fail
  go_quiet (first | (go_at_call 16; with_reducible exact Calls.quiet_of_same (HS.out _ (HF0.out.drewN _))))
  go_wp2_with fail
  have HBq : Hid (Blk (w0.drewN nq) z 30 #[.int .i64 0, .slice none 0 0, .int .i64 0]) := HB0
  have HB9 := Lib.hid (three_put HBq.out (.int .i64 0) (.slice none 0 0) (.int .i64 0))
  have HF9 := Lib.hid (three_fr (w0.drewN nq) z (.int .i64 0) (.slice none 0 0) (.int .i64 0))
  have HFq : Hid (Fr [] w (w0.drewN nq)) := Lib.hid (HF0.out.drewN nq)
  have hf := HFq.out.trans (S := []) HF9.out (by simp; omega)
  obtain ⟨z0, z1, z2⟩ := blk3 HB9.out
  generalize (((w0.drewN nq).setCell ⟨z, 0, none⟩ _).setCell ⟨z, 1, none⟩ _).setCell ⟨z, 2, none⟩ _ = w9 at *
  exact bodyPost_ret (v := .tuple #[zeroCt, .int .i64 _]) (by simp [results, Tryd.results11, go_sem, z0, z1, z2, zeroCt]) rfl ⟨rfl, hf⟩

set_option maxRecDepth 100000 in
set_option maxHeartbeats 1000000 in
theorem pb_mapper (hn : l.length = n) (hnc : n ≤ c) (hl : n ≤ 16777216) (h : 32768 ≤ n) (hr : Rd w A l) (hs : bt l 333 = gsum l) (hk : kindN (bt l 327) = 9) : Calls Tryd.prog 11 #[.slice A n c] w (Refused w 7) := by
  have h1 : ¬ (16777216 : Int) < n := by omega
  have h2 : ¬ (n : Int) < 32768 := by omega
  have t333 : (333 : Int) < n := by omega
  have t327 : (327 : Int) < n := by omega
  have t328 : (328 : Int) < n := by omega
  have t329 : (329 : Int) < n := by omega
  have HS : Hid (∀ W, Fr [] w W → Calls Tryd.prog 16 #[.slice A n c] W fun e w' => e = .returned (.int .u8 (gsum l : Int)) ∧ w' = W) := Lib.hid fun W hW => (headSum_any W A n c l hn hnc (hr.later hW (by simp)) (by omega)).mono fun e w' ⟨h1, h2⟩ => ⟨h1, h2.symm⟩
  obtain ⟨b, o, rfl, hcell⟩ := hr (by omega)
  have c0 := hcell 327 (by omega)
  have c1 := hcell 328 (by omega)
  have c2 := hcell 329 (by omega)
  have c3 := hcell 333 (by omega)
  rw [← bt_get] at c0 c1 c2 c3
  obtain ⟨y0, hy0⟩ : ∃ y : Int, (bt l 327 : Int) = y := ⟨_, rfl⟩
  obtain ⟨y1, hy1⟩ : ∃ y : Int, (bt l 328 : Int) = y := ⟨_, rfl⟩
  obtain ⟨y2, hy2⟩ : ∃ y : Int, (bt l 329 : Int) = y := ⟨_, rfl⟩
  obtain ⟨y3, hy3⟩ : ∃ y : Int, (bt l 333 : Int) = y := ⟨_, rfl⟩
  rw [hy0] at c0
  rw [hy1] at c1
  rw [hy2] at c2
  rw [hy3] at c3
  clear hr hcell
  rw [← hs, hy3] at HS
  have HK : Hid (∀ W, Calls Tryd.prog 17 #[.int .u8 y0] W fun e w' => e = .returned (.tuple #[.int .i64 0, .bool false]) ∧ W = w') := Lib.hid fun W => by
    have := kindOf_any W (bt l 327)
    rw [hk, hy0] at this
    exact this
  clear hs hy3 hy0 hy1 hy2 hk
  obtain ⟨z, hz⟩ : ∃ z, w.heap.size = z := ⟨_, rfl⟩
  have hb0 := Blk.fresh w 30 #[.int .i64 0, .slice none 0 0, .int .i64 0]
  rw [hz] at hb0
  have HF0 := Lib.hid ((Fr.refl [] w).alloc (.cells #[.int .i64 0, .slice none 0 0, .int .i64 0] 30))
  obtain ⟨q0, q1, q2⟩ := blk3 hb0
  have f0 := hb0.frozen 0
  have f1 := hb0.frozen 1
  have f2 := hb0.frozen 2
  have HB0 := Lib.hid hb0
  have d0 := HF0.out.cell c0 (by simp)
  have d1 := HF0.out.cell c1 (by simp)
  have d2 := HF0.out.cell c2 (by simp)
  have d3 := HF0.out.cell c3 (by simp)
  clear c0 c1 c2 c3
  clear hb0
  go_enter Tryd.func11, Tryd.ntmps11
  go_upto_region 1 with fail
  generalize w.alloc _ = w0 at *
  go_upto_region 5 with fail
  go_quiet (first | (go_at_call 16; with_reducible exact Calls.quiet_of_same (HS.out _ (HF0.out.drewN _))))
  go_wp2_with fail
  (with_reducible refine (HK.out _).mono ?_)
  rintro e w1 ⟨rfl, rfl⟩
  go_wp2_with fail
  have HBq : Hid (Blk (w0.drewN nq) z 30 #[.int .i64 0, .slice none 0 0, .int .i64 0]) := HB0
  have HB9 := Lib.hid (three_put HBq.out (.int .i64 0) (.slice none 0 0) (.int .i64 0))
  have HF9 := Lib.hid (three_fr (w0.drewN nq) z (.int .i64 0) (.slice none 0 0) (.int .i64 0))
  have HFq : Hid (Fr [] w (w0.drewN nq)) := Lib.hid (HF0.out.drewN nq)
  have hf := HFq.out.trans (S := []) HF9.out (by simp; omega)
  obtain ⟨z0, z1, z2⟩ := blk3 HB9.out
  generalize (((w0.drewN nq).setCell ⟨z, 0, none⟩ _).setCell ⟨z, 1, none⟩ _).setCell ⟨z, 2, none⟩ _ = w9 at *
  exact bodyPost_ret (v := .tuple #[zeroCt, .int .i64 _]) (by simp [results, Tryd.results11, go_sem, z0, z1, z2, zeroCt]) rfl ⟨rfl, hf⟩

set_option maxRecDepth 100000 in
set_option maxHeartbeats 1000000 in
theorem pb_form (hn : l.length = n) (hnc : n ≤ c) (hl : n ≤ 16777216) (h : 32768 ≤ n) (hr : Rd w A l) (hs : bt l 333 = gsum l) (hk : kindN (bt l 327) ≠ 9) (hu : unfit (kindN (bt l 327)) (bt l 328) (bt l 329)) : Calls Tryd.prog 11 #[.slice A n c] w (Refused w 3) := by
  have h1 : ¬ (16777216 : Int) < n := by omega
  have h2 : ¬ (n : Int) < 32768 := by omega
  have t333 : (333 : Int) < n := by omega
  have t327 : (327 : Int) < n := by omega
  have t328 : (328 : Int) < n := by omega
  have t329 : (329 : Int) < n := by omega
  have HS : Hid (∀ W, Fr [] w W → Calls Tryd.prog 16 #[.slice A n c] W fun e w' => e = .returned (.int .u8 (gsum l : Int)) ∧ w' = W) := Lib.hid fun W hW => (headSum_any W A n c l hn hnc (hr.later hW (by simp)) (by omega)).mono fun e w' ⟨h1, h2⟩ => ⟨h1, h2.symm⟩
  obtain ⟨b, o, rfl, hcell⟩ := hr (by omega)
  have c0 := hcell 327 (by omega)
  have c1 := hcell 328 (by omega)
  have c2 := hcell 329 (by omega)
  have c3 := hcell 333 (by omega)
  rw [← bt_get] at c0 c1 c2 c3
  obtain ⟨y0, hy0⟩ : ∃ y : Int, (bt l 327 : Int) = y := ⟨_, rfl⟩
  obtain ⟨y1, hy1⟩ : ∃ y : Int, (bt l 328 : Int) = y := ⟨_, rfl⟩
  obtain ⟨y2, hy2⟩ : ∃ y : Int, (bt l 329 : Int) = y := ⟨_, rfl⟩
  obtain ⟨y3, hy3⟩ : ∃ y : Int, (bt l 333 : Int) = y := ⟨_, rfl⟩
  rw [hy0] at c0
  rw [hy1] at c1
  rw [hy2] at c2
  rw [hy3] at c3
  clear hr hcell
  rw [← hs, hy3] at HS
  obtain ⟨K, hK⟩ : ∃ K : Int, (kindN (bt l 327) : Int) = K := ⟨_, rfl⟩
  have HK : Hid (∀ W, Calls Tryd.prog 17 #[.int .u8 y0] W fun e w' => e = .returned (.tuple #[.int .i64 K, .bool true]) ∧ W = w') := Lib.hid fun W => by
    have := kindOf_any W (bt l 327)
    unfold known at this
    rw [if_neg hk, hy0, hK] at this
    exact this
  have HZ : Hid (∀ W, Fr [] w W → Calls Tryd.prog 18 #[.int .i64 K, .int .u8 y1, .int .u8 y2] W fun e w' => e = .returned (.tuple #[.int .i64 0, .int .i64 0, .bool false]) ∧ ∃ q, w' = W.drewN q) := Lib.hid fun W _ => by
    have := sizes_bad W (kindN (bt l 327)) (bt l 328) (bt l 329) (bt_lt _ _) hu
    rw [hK, hy1, hy2] at this
    exact this
  clear hs hy3 hy0 hy1 hy2 hk hu hK
  obtain ⟨z, hz⟩ : ∃ z, w.heap.size = z := ⟨_, rfl⟩
  have hb0 := Blk.fresh w 30 #[.int .i64 0, .slice none 0 0, .int .i64 0]
  rw [hz] at hb0
  have HF0 := Lib.hid ((Fr.refl [] w).alloc (.cells #[.int .i64 0, .slice none 0 0, .int .i64 0] 30))
  obtain ⟨q0, q1, q2⟩ := blk3 hb0
  have f0 := hb0.frozen 0
  have f1 := hb0.frozen 1
  have f2 := hb0.frozen 2
  have HB0 := Lib.hid hb0
  have d0 := HF0.out.cell c0 (by simp)
  have d1 := HF0.out.cell c1 (by simp)
  have d2 := HF0.out.cell c2 (by simp)
  have d3 := HF0.out.cell c3 (by simp)
  clear c0 c1 c2 c3
  clear hb0
  go_enter Tryd.func11, Tryd.ntmps11
  go_upto_region 1 with fail
  generalize w.alloc _ = w0 at *
  go_upto_region 5 with fail
  go_quiet (first | (go_at_call 16; with_reducible exact Calls.quiet_of_same (HS.out _ (HF0.out.drewN _))))
  have HFa := Lib.hid (HF0.out.drewN nq)
  have HBa : Hid (Blk (w0.drewN nq) z 30 #[.int .i64 0, .slice none 0 0, .int .i64 0]) := HB0
  have a0 : (w0.drewN nq).cell? ⟨b, o + 327, none⟩ = some (.int .u8 y0) := d0
  have a1 : (w0.drewN nq).cell? ⟨b, o + 328, none⟩ = some (.int .u8 y1) := d1
  have a2 : (w0.drewN nq).cell? ⟨b, o + 329, none⟩ = some (.int .u8 y2) := d2
  clear d0 d1 d2 d3 q0 q1 q2 f0 f1 f2 HB0 HF0
  generalize w0.drewN nq = wa at *
  obtain ⟨q0, q1, q2⟩ := blk3 HBa.out
  have f0 := HBa.out.frozen 0
  have f1 := HBa.out.frozen 1
  have f2 := HBa.out.frozen 2
  go_wp2_with fail
  (with_reducible refine (HK.out _).mono ?_)
  rintro e w1 ⟨rfl, rfl⟩
  go_wp2_with fail
  go_quiet (first | (go_at_call 18; with_reducible exact Calls.quiet_of (HZ.out _ (HFa.out.drewN _))))
  go_wp2_with fail
  have HBq : Hid (Blk (wa.drewN nq) z 30 #[.int .i64 0, .slice none 0 0, .int .i64 0]) := HBa
  have HB9 := Lib.hid (three_put HBq.out (.int .i64 0) (.slice none 0 0) (.int .i64 0))
  have HF9 := Lib.hid (three_fr (wa.drewN nq) z (.int .i64 0) (.slice none 0 0) (.int .i64 0))
  have HFq : Hid (Fr [] w (wa.drewN nq)) := Lib.hid (HFa.out.drewN nq)
  have hf := HFq.out.trans (S := []) HF9.out (by simp; omega)
  obtain ⟨z0, z1, z2⟩ := blk3 HB9.out
  generalize (((wa.drewN nq).setCell ⟨z, 0, none⟩ _).setCell ⟨z, 1, none⟩ _).setCell ⟨z, 2, none⟩ _ = w9 at *
  exact bodyPost_ret (v := .tuple #[zeroCt, .int .i64 _]) (by simp [results, Tryd.results11, go_sem, z0, z1, z2, zeroCt]) rfl ⟨rfl, hf⟩

set_option maxRecDepth 100000 in
set_option maxHeartbeats 1000000 in
theorem pb_cut (hT : Tab w) (hn : l.length = n) (hnc : n ≤ c) (hl : n ≤ 16777216) (h : 32768 ≤ n) (hr : Rd w A l) (hs : bt l 333 = gsum l) (hk : kindN (bt l 327) ≠ 9) (hu : ¬ unfit (kindN (bt l 327)) (bt l 328) (bt l 329)) (hc : n < romN (bt l 328)) : Calls Tryd.prog 11 #[.slice A n c] w (Refused w 2) := by
  have h1 : ¬ (16777216 : Int) < n := by omega
  have h2 : ¬ (n : Int) < 32768 := by omega
  have t333 : (333 : Int) < n := by omega
  have t327 : (327 : Int) < n := by omega
  have t328 : (328 : Int) < n := by omega
  have t329 : (329 : Int) < n := by omega
  have HS : Hid (∀ W, Fr [] w W → Calls Tryd.prog 16 #[.slice A n c] W fun e w' => e = .returned (.int .u8 (gsum l : Int)) ∧ w' = W) := Lib.hid fun W hW => (headSum_any W A n c l hn hnc (hr.later hW (by simp)) (by omega)).mono fun e w' ⟨h1, h2⟩ => ⟨h1, h2.symm⟩
  obtain ⟨b, o, rfl, hcell⟩ := hr (by omega)
  have c0 := hcell 327 (by omega)
  have c1 := hcell 328 (by omega)
  have c2 := hcell 329 (by omega)
  have c3 := hcell 333 (by omega)
  rw [← bt_get] at c0 c1 c2 c3
  obtain ⟨y0, hy0⟩ : ∃ y : Int, (bt l 327 : Int) = y := ⟨_, rfl⟩
  obtain ⟨y1, hy1⟩ : ∃ y : Int, (bt l 328 : Int) = y := ⟨_, rfl⟩
  obtain ⟨y2, hy2⟩ : ∃ y : Int, (bt l 329 : Int) = y := ⟨_, rfl⟩
  obtain ⟨y3, hy3⟩ : ∃ y : Int, (bt l 333 : Int) = y := ⟨_, rfl⟩
  rw [hy0] at c0
  rw [hy1] at c1
  rw [hy2] at c2
  rw [hy3] at c3
  clear hr hcell
  rw [← hs, hy3] at HS
  obtain ⟨K, hK⟩ : ∃ K : Int, (kindN (bt l 327) : Int) = K := ⟨_, rfl⟩
  have HK : Hid (∀ W, Calls Tryd.prog 17 #[.int .u8 y0] W fun e w' => e = .returned (.tuple #[.int .i64 K, .bool true]) ∧ W = w') := Lib.hid fun W => by
    have := kindOf_any W (bt l 327)
    unfold known at this
    rw [if_neg hk, hy0, hK] at this
    exact this
  obtain ⟨R, hR⟩ : ∃ R : Int, (romN (bt l 328) : Int) = R := ⟨_, rfl⟩
  obtain ⟨M, hM⟩ : ∃ M : Int, (ramN (bt l 329) : Int) = M := ⟨_, rfl⟩
  have HZ : Hid (∀ W, Fr [] w W → Calls Tryd.prog 18 #[.int .i64 K, .int .u8 y1, .int .u8 y2] W fun e w' => e = .returned (.tuple #[.int .i64 R, .int .i64 M, .bool true]) ∧ ∃ q, w' = W.drewN q) := Lib.hid fun W hW => by
    have := sizes_ok W (hT.later hW) (kindN (bt l 327)) (bt l 328) (bt l 329) hu
    rw [hK, hy1, hy2, hR, hM] at this
    exact this
  have hlt : (n : Int) < R := by omega
  clear hs hy3 hy0 hy1 hy2 hk hu hK hT hR hM hc
  obtain ⟨z, hz⟩ : ∃ z, w.heap.size = z := ⟨_, rfl⟩
  have hb0 := Blk.fresh w 30 #[.int .i64 0, .slice none 0 0, .int .i64 0]
  rw [hz] at hb0
  have HF0 := Lib.hid ((Fr.refl [] w).alloc (.cells #[.int .i64 0, .slice none 0 0, .int .i64 0] 30))
  obtain ⟨q0, q1, q2⟩ := blk3 hb0
  have f0 := hb0.frozen 0
  have f1 := hb0.frozen 1
  have f2 := hb0.frozen 2
  have HB0 := Lib.hid hb0
  have d0 := HF0.out.cell c0 (by simp)
  have d1 := HF0.out.cell c1 (by simp)
  have d2 := HF0.out.cell c2 (by simp)
  have d3 := HF0.out.cell c3 (by simp)
  clear c0 c1 c2 c3
  clear hb0
  go_enter Tryd.func11, Tryd.ntmps11
  go_upto_region 1 with fail
  generalize w.alloc _ = w0 at *
  go_upto_region 5 with fail
  go_quiet (first | (go_at_call 16; with_reducible exact Calls.quiet_of_same (HS.out _ (HF0.out.drewN _))))
  have HFa := Lib.hid (HF0.out.drewN nq)
  have HBa : Hid (Blk (w0.drewN nq) z 30 #[.int .i64 0, .slice none 0 0, .int .i64 0]) := HB0
  have a0 : (w0.drewN nq).cell? ⟨b, o + 327, none⟩ = some (.int .u8 y0) := d0
  have a1 : (w0.drewN nq).cell? ⟨b, o + 328, none⟩ = some (.int .u8 y1) := d1
  have a2 : (w0.drewN nq).cell? ⟨b, o + 329, none⟩ = some (.int .u8 y2) := d2
  clear d0 d1 d2 d3 q0 q1 q2 f0 f1 f2 HB0 HF0
  generalize w0.drewN nq = wa at *
  obtain ⟨q0, q1, q2⟩ := blk3 HBa.out
  have f0 := HBa.out.frozen 0
  have f1 := HBa.out.frozen 1
  have f2 := HBa.out.frozen 2
  go_wp2_with fail
  (with_reducible refine (HK.out _).mono ?_)
  rintro e w1 ⟨rfl, rfl⟩
  go_wp2_with fail
  go_quiet (first | (go_at_call 18; with_reducible exact Calls.quiet_of (HZ.out _ (HFa.out.drewN _))))
  go_wp2_with fail
  have HBq : Hid (Blk (wa.drewN nq) z 30 #[.int .i64 0, .slice none 0 0, .int .i64 0]) := HBa
  have HB9 := Lib.hid (three_put HBq.out (.int .i64 0) (.slice none 0 0) (.int .i64 0))
  have HF9 := Lib.hid (three_fr (wa.drewN nq) z (.int .i64 0) (.slice none 0 0) (.int .i64 0))
  have HFq : Hid (Fr [] w (wa.drewN nq)) := Lib.hid (HFa.out.drewN nq)
  have hf := HFq.out.trans (S := []) HF9.out (by simp; omega)
  obtain ⟨z0, z1, z2⟩ := blk3 HB9.out
  generalize (((wa.drewN nq).setCell ⟨z, 0, none⟩ _).setCell ⟨z, 1, none⟩ _).setCell ⟨z, 2, none⟩ _ = w9 at *
  exact bodyPost_ret (v := .tuple #[zeroCt, .int .i64 _]) (by simp [results, Tryd.results11, go_sem, z0, z1, z2, zeroCt]) rfl ⟨rfl, hf⟩

set_option maxRecDepth 100000 in
set_option maxHeartbeats 1000000 in
theorem parse_ok (hT : Tab w) (hn : l.length = n) (hnc : n ≤ c) (hr : Rd w A l) (hb : fault l = 0) : Calls Tryd.prog 11 #[.slice A n c] w (Outcome w l) := by
  obtain ⟨h, hl, hs, hk, hu1, hu2, hu3, hp⟩ := fault_ok l hb
  rw [hn] at h hl hp
  have hu : ¬ unfit (kindN (bt l 327)) (bt l 328) (bt l 329) := by unfold unfit; omega
  have HRl := Lib.hid hr
  have h1 : ¬ (16777216 : Int) < n := by omega
  have h2 : ¬ (n : Int) < 32768 := by omega
  have t333 : (333 : Int) < n := by omega
  have t327 : (327 : Int) < n := by omega
  have t328 : (328 : Int) < n := by omega
  have t329 : (329 : Int) < n := by omega
  have HS : Hid (∀ W, Fr [] w W → Calls Tryd.prog 16 #[.slice A n c] W fun e w' => e = .returned (.int .u8 (gsum l : Int)) ∧ w' = W) := Lib.hid fun W hW => (headSum_any W A n c l hn hnc (hr.later hW (by simp)) (by omega)).mono fun e w' ⟨h1, h2⟩ => ⟨h1, h2.symm⟩
  obtain ⟨b, o, rfl, hcell⟩ := hr (by omega)
  have c0 := hcell 327 (by omega)
  have c1 := hcell 328 (by omega)
  have c2 := hcell 329 (by omega)
  have c3 := hcell 333 (by omega)
  rw [← bt_get] at c0 c1 c2 c3
  obtain ⟨y0, hy0⟩ : ∃ y : Int, (bt l 327 : Int) = y := ⟨_, rfl⟩
  obtain ⟨y1, hy1⟩ : ∃ y : Int, (bt l 328 : Int) = y := ⟨_, rfl⟩
  obtain ⟨y2, hy2⟩ : ∃ y : Int, (bt l 329 : Int) = y := ⟨_, rfl⟩
  obtain ⟨y3, hy3⟩ : ∃ y : Int, (bt l 333 : Int) = y := ⟨_, rfl⟩
  rw [hy0] at c0
  rw [hy1] at c1
  rw [hy2] at c2
  rw [hy3] at c3
  clear hr hcell
  rw [← hs, hy3] at HS
  obtain ⟨K, hK⟩ : ∃ K : Int, (kindN (bt l 327) : Int) = K := ⟨_, rfl⟩
  have HK : Hid (∀ W, Calls Tryd.prog 17 #[.int .u8 y0] W fun e w' => e = .returned (.tuple #[.int .i64 K, .bool true]) ∧ W = w') := Lib.hid fun W => by
    have := kindOf_any W (bt l 327)
    unfold known at this
    rw [if_neg hk, hy0, hK] at this
    exact this
  obtain ⟨R, hR⟩ : ∃ R : Int, (romN (bt l 328) : Int) = R := ⟨_, rfl⟩
  obtain ⟨M, hM⟩ : ∃ M : Int, (ramN (bt l 329) : Int) = M := ⟨_, rfl⟩
  have HZ : Hid (∀ W, Fr [] w W → Calls Tryd.prog 18 #[.int .i64 K, .int .u8 y1, .int .u8 y2] W fun e w' => e = .returned (.tuple #[.int .i64 R, .int .i64 M, .bool true]) ∧ ∃ q, w' = W.drewN q) := Lib.hid fun W hW => by
    have := sizes_ok W (hT.later hW) (kindN (bt l 327)) (bt l 328) (bt l 329) hu
    rw [hK, hy1, hy2, hR, hM] at this
    exact this
  have hge := romN_ge (bt l 328)
  obtain ⟨p, hpp⟩ : ∃ p, romN (bt l 328) = p := ⟨_, rfl⟩
  rw [hpp] at hp hR hge
  subst hR
  have HQ : Hid (∀ W A1 c1, Own W w.heap.size (.slice A1 p c1) (l.take p) → Fr [] w W → Outcome w l (.returned (.tuple #[.agg #[.int .i64 K, .slice A1 p c1, .int .i64 M], .int .i64 0])) W) := Lib.hid fun W A1 c1 ho hf => by
    refine ⟨_, by rw [hb]; rfl, ?_, hf⟩
    unfold ctOf
    rw [if_pos hb]
    unfold cartOf
    refine ⟨A1, c1, ?_, by simp only [hpp]; exact ho.rd, fun ad he => ?_⟩
    · simp only [hpp]
      rw [hK, hM, List.length_take, hn, Nat.min_eq_left hp]
    · subst he
      exact (ho.lt ad.block (by simp [Value.ownBlock])).1
  have HL : Hid ((l.take p).length = p) := Lib.hid (by rw [List.length_take]; omega)
  have hlt : ¬ (n : Int) < p := by omega
  have hlt' : p ≤ n := by omega
  have hpc : (p : Int) ≤ c := by omega
  have hpc' : p ≤ c := by omega
  have hp2 : p ≤ 2000000000 := by omega
  have hp0 : 0 < p := by omega
  generalize Outcome w l = QQ at *
  clear hs hy3 hy0 hy1 hy2 hk hu hK hT hM hb hu1 hu2 hu3 hpp hge hn
  obtain ⟨z, hz⟩ : ∃ z, w.heap.size = z := ⟨_, rfl⟩
  have hb0 := Blk.fresh w 30 #[.int .i64 0, .slice none 0 0, .int .i64 0]
  rw [hz] at hb0
  have HF0 := Lib.hid ((Fr.refl [] w).alloc (.cells #[.int .i64 0, .slice none 0 0, .int .i64 0] 30))
  obtain ⟨q0, q1, q2⟩ := blk3 hb0
  have f0 := hb0.frozen 0
  have f1 := hb0.frozen 1
  have f2 := hb0.frozen 2
  have HB0 := Lib.hid hb0
  have d0 := HF0.out.cell c0 (by simp)
  have d1 := HF0.out.cell c1 (by simp)
  have d2 := HF0.out.cell c2 (by simp)
  have d3 := HF0.out.cell c3 (by simp)
  clear c0 c1 c2 c3
  clear hb0
  go_enter Tryd.func11, Tryd.ntmps11
  go_upto_region 1 with fail
  generalize w.alloc _ = w0 at *
  go_upto_region 5 with fail
  go_quiet (first | (go_at_call 16; with_reducible exact Calls.quiet_of_same (HS.out _ (HF0.out.drewN _))))
  have HFa := Lib.hid (HF0.out.drewN nq)
  have HBa : Hid (Blk (w0.drewN nq) z 30 #[.int .i64 0, .slice none 0 0, .int .i64 0]) := HB0
  have a0 : (w0.drewN nq).cell? ⟨b, o + 327, none⟩ = some (.int .u8 y0) := d0
  have a1 : (w0.drewN nq).cell? ⟨b, o + 328, none⟩ = some (.int .u8 y1) := d1
  have a2 : (w0.drewN nq).cell? ⟨b, o + 329, none⟩ = some (.int .u8 y2) := d2
  clear d0 d1 d2 d3 q0 q1 q2 f0 f1 f2 HB0 HF0
  generalize w0.drewN nq = wa at *
  obtain ⟨q0, q1, q2⟩ := blk3 HBa.out
  have f0 := HBa.out.frozen 0
  have f1 := HBa.out.frozen 1
  have f2 := HBa.out.frozen 2
  go_wp2_with fail
  (with_reducible refine (HK.out _).mono ?_)
  rintro e w1 ⟨rfl, rfl⟩
  go_wp2_with fail
  go_quiet (first | (go_at_call 18; with_reducible exact Calls.quiet_of (HZ.out _ (HFa.out.drewN _))))
  go_wp2_with fail
  have HFq := Lib.hid (HFa.out.drewN nq)
  have HBq : Hid (Blk (wa.drewN nq) z 30 #[.int .i64 0, .slice none 0 0, .int .i64 0]) := HBa
  clear HBa HFa q0 q1 q2 f0 f1 f2 a0 a1 a2
  generalize wa.drewN nq = wq at *
  (with_reducible refine (clone_any wq (some ⟨b, o, none⟩) p c (l.take p) HL.out hp0 hp2 (rd_take (HRl.out.later HFq.out (by simp)) p)).mono ?_)
  rintro e w3 ⟨A1, c1, rfl, ho1, hf1⟩
  have hzq := HBq.out.lt
  have HB3 := Lib.hid (HBq.out.fr hf1 (by simp))
  have HF3 := Lib.hid (HFq.out.tr hf1)
  have hwq := HFq.out.size
  have HO3 : Hid (Own w3 wq.heap.size (.slice A1 p c1) (l.take p)) := Lib.hid ho1
  have HO3' : Hid (Own w3 w.heap.size (.slice A1 p c1) (l.take p)) := Lib.hid (own_mono ho1 hwq)
  clear ho1 hf1 HBq HFq
  obtain ⟨c0, c1', c2⟩ := blk3 HB3.out
  have f0 := HB3.out.frozen 0
  have f1 := HB3.out.frozen 1
  have f2 := HB3.out.frozen 2
  have hb9 := three_put HB3.out (.int .i64 K) (.slice A1 p c1) (.int .i64 M)
  have hf9 := three_fr w3 z (.int .i64 K) (.slice A1 p c1) (.int .i64 M)
  have HB9 := Lib.hid hb9
  have HF9 := Lib.hid hf9
  have HO9 := Lib.hid (HO3'.out.fr hf9 (fun k hk hm => by simp at hm; subst hm; exact HO3.out.other HB3.out (by decide) hk))
  clear hb9 hf9
  go_wp2
  have hf := HF3.out.trans (S := []) HF9.out (by simp; omega)
  obtain ⟨z0, z1, z2⟩ := blk3 HB9.out
  generalize ((w3.setCell ⟨z, 0, none⟩ _).setCell ⟨z, 1, none⟩ _).setCell ⟨z, 2, none⟩ _ = w9 at *
  exact bodyPost_ret (v := .tuple #[.agg #[.int .i64 K, .slice A1 p c1, .int .i64 M], .int .i64 0]) (by simp [results, Tryd.results11, go_sem, z0, z1, z2]) rfl (HQ.out _ _ _ HO9.out hf)

theorem refused {x : Nat} {f : Nat} (h : Calls Tryd.prog f #[.slice A n c] w (Refused w x)) (hx : fault l = x) (h0 : x ≠ 0) : Calls Tryd.prog f #[.slice A n c] w (Outcome w l) := by
  refine h.mono fun e w' ⟨he, hf⟩ => ⟨zeroCt, ?_, ?_, hf⟩
  · rw [he, hx]
  · unfold ctOf
    rw [if_neg (by rw [hx]; exact h0)]
    exact zero_in _ w'

theorem parse_any (hT : Tab w) (hn : l.length = n) (hnc : n ≤ c) (hr : Rd w A l) : Calls Tryd.prog 11 #[.slice A n c] w (Outcome w l) := by
  by_cases hb : fault l = 0
  · exact parse_ok w A n c l hT hn hnc hr hb
  have hF : fault l = fault l := rfl
  conv at hF => rhs; unfold fault
  rw [hn] at hF
  by_cases h1 : 16777216 < n
  · rw [if_pos h1] at hF; exact refused w A n c l (pb_large w A n c h1) hF (by decide)
  rw [if_neg h1] at hF
  by_cases h2 : n < 32768
  · rw [if_pos h2] at hF; exact refused w A n c l (pb_short w A n c h2) hF (by decide)
  rw [if_neg h2] at hF
  by_cases h3 : bt l 333 ≠ gsum l
  · rw [if_pos h3] at hF; exact refused w A n c l (pb_sum w A n c l hn hnc (by omega) (by omega) hr h3) hF (by decide)
  rw [if_neg h3] at hF
  have h3' : bt l 333 = gsum l := by omega
  by_cases h4 : kindN (bt l 327) = 9
  · rw [if_pos h4] at hF; exact refused w A n c l (pb_mapper w A n c l hn hnc (by omega) (by omega) hr h3' h4) hF (by decide)
  rw [if_neg h4] at hF
  by_cases h5 : unfit (kindN (bt l 327)) (bt l 328) (bt l 329)
  · rw [if_pos h5] at hF; exact refused w A n c l (pb_form w A n c l hn hnc (by omega) (by omega) hr h3' h4 h5) hF (by decide)
  rw [if_neg h5] at hF
  by_cases h6 : n < romN (bt l 328)
  · rw [if_pos h6] at hF; exact refused w A n c l (pb_cut w A n c l hT hn hnc (by omega) (by omega) hr h3' h4 h5 h6) hF (by decide)
  rw [if_neg h6] at hF
  exact absurd hF hb
end

end Gb
end Go.Proofs.YthomlnaabkfcpaaDoor
