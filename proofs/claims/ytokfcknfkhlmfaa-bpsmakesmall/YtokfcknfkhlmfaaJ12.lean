/-
  Contract of bps' takeAction (of an action that is there, and for which there is room).
  Contracts of bpsmake's number, moves, size, gain, better. Conditions: the kind below 4, the length up to 16777216, the move within 2^30.
-/
import Derived.Test.YtokfcknfkhlmfaaJ11
import Derived.Test.YtokfcknfkhlmfaaJ05
import Derived.Test.YtokfcknfkhlmfaaJ08
import Derived.Test.YtokfcknfkhlmfaaJ09
import Derived.Deep.DeepCutAuto
import Derived.Deep.Cut
import Derived.Deep.RegionLaw
namespace Go.Proofs.Ytokfcknfkhlmfaa
open Go.RowKit
namespace Bps

/-- An action's value. -/
def actA (a : Act) (D : Option Addr) (c : Nat) : Value := .agg #[.int .i64 (a.kind : Int), .int .i64 (a.len : Int), .int .i64 a.move, .slice D a.data.length c]

/-- What takeAction leaves. -/
def TakenA (w : World) (r gr : Nat) (l : List UInt8) (k : Nat) (a : Act) (e : Ending) (w' : World) : Prop :=
  ∃ D c, e = .returned (.tuple #[actA a D c, .int .i64 0]) ∧ Rd w' D a.data ∧ ((D = none → c = 0) ∧ a.data.length ≤ c ∧ c ≤ maxLen) ∧ (∀ ad, D = some ad → w.heap.size ≤ ad.block ∧ ad.block < w'.heap.size) ∧ Rdr w' r gr l k ∧ Fr [r] w w'

theorem blk4 {w : World} {b : Nat} {x0 x1 x2 x3 : Value} {t : TypeId} (h : Blk w b t #[x0, x1, x2, x3]) : w.cell? ⟨b, 0, none⟩ = some x0 ∧ w.cell? ⟨b, 1, none⟩ = some x1 ∧ w.cell? ⟨b, 2, none⟩ = some x2 ∧ w.cell? ⟨b, 3, none⟩ = some x3 :=
  ⟨by rw [h.cell]; rfl, by rw [h.cell]; rfl, by rw [h.cell]; rfl, by rw [h.cell]; rfl⟩

/-- A whole action into a block of the same kind. -/
theorem put4 {w : World} {b : Nat} {x0 x1 x2 x3 : Value} {t : TypeId} (h : Blk w b t #[x0, x1, x2, x3]) (y0 y1 y2 y3 : Value) : Blk ((((w.setCell ⟨b, 0, none⟩ y0).setCell ⟨b, 1, none⟩ y1).setCell ⟨b, 2, none⟩ y2).setCell ⟨b, 3, none⟩ y3) b t #[y0, y1, y2, y3] := by
  have := (((h.put 0 y0).put 1 y1).put 2 y2).put 3 y3
  simpa only [List.setIfInBounds_toArray, List.set_cons_zero, List.set_cons_succ] using this
theorem put4_fr (w : World) (b : Nat) (y0 y1 y2 y3 : Value) : Fr [b] w ((((w.setCell ⟨b, 0, none⟩ y0).setCell ⟨b, 1, none⟩ y1).setCell ⟨b, 2, none⟩ y2).setCell ⟨b, 3, none⟩ y3) :=
  ((((Fr.refl [b] w).setCell (by simp) _).setCell (by simp) _).setCell (by simp) _).setCell (by simp) _

set_option maxRecDepth 100000 in
set_option maxHeartbeats 2000000 in
theorem takeAction_0 (w : World) (p g k room : Nat) (l r : List UInt8) (a : Act) (ha : Ok a) (hk0 : a.kind = 0) (h : Rdr w p g l k) (hk : k ≤ l.length) (hl : l.length ≤ 1000000000) (hd : l.drop k = actB a ++ r) (hroom : a.len ≤ room) :
    Calls Try.prog 69 #[.pointer (some ⟨p, 0, none⟩), .int .i64 (room : Int)] w (TakenA w p g l (k + (actB a).length) a) := by
  have HT := Lib.hid (act_take a ha r)
  rw [← hd] at HT
  have hu := headN_le a ha
  have hu1 := headN_kind a ha
  have hu2 := headN_len a ha
  have hlen : (actB a).length = (Var.putV (headN a)).length := by unfold actB; rw [tail0 a hk0, List.append_nil]
  rw [hlen]
  generalize (Var.putV (headN a)).length = P at *
  generalize headN a = u at *
  obtain ⟨kind, len, move, data⟩ := a
  simp only at hk0 hu1 hu2 hroom
  have hdn : data = [] := ha.none_ (by simp only; omega)
  have hmv : move = 0 := ha.still (by simp only; omega)
  subst hk0 hdn hmv
  have e1 : (u : Int) % 4 = 0 := by omega
  obtain ⟨v, hv⟩ : ∃ v, u / 4 = v := ⟨_, rfl⟩
  have e2 : (u : Int) / 4 = (v : Int) := by omega
  unfold Var.most at hu
  have e3 : IntKind.i64.wrap (v : Int) = (v : Int) := by rw [IntKind.wrap_i64]; omega
  have e4 : (v : Int) + 1 = (len : Int) := by omega
  have e5 : ¬ (room : Int) < (len : Int) := by omega
  have e6 : decide (room < len) = false := by simp; omega
  have HR := Lib.hid (h.fr ((Fr.refl [] w).alloc (.cells #[.int .i64 0, .int .i64 0, .int .i64 0, .slice none 0 0] 82)) (by simp) (by simp))
  have hpl := h.1.lt
  have hgl := h.2.lt
  obtain ⟨s, hs⟩ : ∃ s, w.heap.size = s := ⟨_, rfl⟩
  rw [hs] at hpl hgl
  have hb0 := Blk.fresh w 82 #[.int .i64 0, .int .i64 0, .int .i64 0, .slice none 0 0]
  rw [hs] at hb0
  have HB0 := Lib.hid hb0
  have HF0 := Lib.hid ((Fr.refl [] w).alloc (.cells #[.int .i64 0, .int .i64 0, .int .i64 0, .slice none 0 0] 82))
  have Hs := Lib.hid hs
  clear h hd hlen ha hb0 hu1 hu2 hv
  go_enter Try.func69, Try.ntmps69
  go_wp2_with fail
  generalize w.alloc (.cells #[.int .i64 0, .int .i64 0, .int .i64 0, .slice none 0 0] 82) = w0 at *
  refine (Var.take_any w0 p g k l HR.out hk hl _ HT.out).mono ?_
  rintro e w1 ⟨rfl, hr1, hf1⟩
  simp only at hr1 ⊢
  have hB1 := HB0.out.fr hf1 (by simp; omega)
  have HR1 := Lib.hid hr1
  have HF1 := Lib.hid (HF0.out.nil.tr hf1)
  have HB1 := Lib.hid hB1
  have hsl : s < w1.heap.size := hB1.lt
  obtain ⟨c0, c1, c2, c3⟩ := blk4 hB1
  have f0 := hB1.frozen 0
  have f1 := hB1.frozen 1
  have f2 := hB1.frozen 2
  have f3 := hB1.frozen 3
  clear hr1 hf1 hB1 HR HB0 HF0 HT
  go_wp2
  have hb := put4 HB1.out (.int .i64 0) (.int .i64 (len : Int)) (.int .i64 0) (.slice none 0 0)
  have hst := put4_fr w1 s (.int .i64 0) (.int .i64 (len : Int)) (.int .i64 0) (.slice none 0 0)
  have hal := hst.alloc (.cells #[.int .i64 0, .int .i64 (len : Int), .int .i64 0, .slice none 0 0] 82)
  have hb2 := hb.fr ((Fr.refl [] _).alloc (.cells #[.int .i64 0, .int .i64 (len : Int), .int .i64 0, .slice none 0 0] 82)) (by simp)
  obtain ⟨z0, z1, z2, z3⟩ := blk4 hb2
  generalize (((((w1.setCell ⟨s, 0, none⟩ (.int .i64 0)).setCell ⟨s, 1, none⟩ (.int .i64 (len : Int))).setCell ⟨s, 2, none⟩ (.int .i64 0)).setCell ⟨s, 3, none⟩ (.slice none 0 0)).alloc (.cells #[.int .i64 0, .int .i64 (len : Int), .int .i64 0, .slice none 0 0] 82)) = w9 at *
  exact bodyPost_ret (v := .tuple #[.agg #[.int .i64 0, .int .i64 (len : Int), .int .i64 0, .slice none 0 0], .int .i64 0]) (by simp [results, Try.results69, go_sem, z0, z1, z2, z3]) rfl ⟨none, 0, rfl, rd_nil _, ⟨fun _ => rfl, Nat.le_refl _, by simp [maxLen]⟩, by simp, HR1.out.fr hal (by simp; omega) (by simp; omega), HF1.out.trans hal (by simp [Hs.out])⟩

set_option maxRecDepth 100000 in
set_option maxHeartbeats 2000000 in
theorem takeAction_1 (w : World) (p g k room : Nat) (l r : List UInt8) (a : Act) (ha : Ok a) (hk0 : a.kind = 1) (h : Rdr w p g l k) (hk : k ≤ l.length) (hl : l.length ≤ 1000000000) (hd : l.drop k = actB a ++ r) (hroom : a.len ≤ room) :
    Calls Try.prog 69 #[.pointer (some ⟨p, 0, none⟩), .int .i64 (room : Int)] w (TakenA w p g l (k + (actB a).length) a) := by
  have HT := Lib.hid (act_take a ha r)
  rw [← hd] at HT
  have hu := headN_le a ha
  have hu1 := headN_kind a ha
  have hu2 := headN_len a ha
  have hlen : (actB a).length = (Var.putV (headN a)).length + a.len := by unfold actB; rw [tail1 a hk0, List.length_append, ha.data hk0]
  have hdd : (l.drop (k + (Var.putV (headN a)).length)).take a.len = a.data := by rw [← List.drop_drop, hd, actB, List.append_assoc, List.drop_left, tail1 a hk0, ← ha.data hk0, List.take_left]
  have hend : k + (Var.putV (headN a)).length + a.len ≤ l.length := by
    have e := congrArg List.length hd
    rw [List.length_drop, List.length_append, hlen] at e
    omega
  rw [hlen, ← Nat.add_assoc]
  generalize (Var.putV (headN a)).length = P at *
  generalize headN a = u at *
  obtain ⟨kind, len, move, data⟩ := a
  simp only at hk0 hu1 hu2 hroom hdd hend
  have hdl : data.length = len := ha.data hk0
  have hmv : move = 0 := ha.still (by simp only; omega)
  subst hk0 hmv
  have e1 : (u : Int) % 4 = 1 := by omega
  obtain ⟨v, hv⟩ : ∃ v, u / 4 = v := ⟨_, rfl⟩
  have e2 : (u : Int) / 4 = (v : Int) := by omega
  unfold Var.most at hu
  have e3 : IntKind.i64.wrap (v : Int) = (v : Int) := by rw [IntKind.wrap_i64]; omega
  have e4 : (v : Int) + 1 = (len : Int) := by omega
  have e5 : ¬ (room : Int) < (len : Int) := by omega
  have e6 : decide (room < len) = false := by simp; omega
  have HR := Lib.hid (h.fr ((Fr.refl [] w).alloc (.cells #[.int .i64 0, .int .i64 0, .int .i64 0, .slice none 0 0] 82)) (by simp) (by simp))
  have hpl := h.1.lt
  have hgl := h.2.lt
  obtain ⟨s, hs⟩ : ∃ s, w.heap.size = s := ⟨_, rfl⟩
  rw [hs] at hpl hgl
  have hb0 := Blk.fresh w 82 #[.int .i64 0, .int .i64 0, .int .i64 0, .slice none 0 0]
  rw [hs] at hb0
  have HB0 := Lib.hid hb0
  have HF0 := Lib.hid ((Fr.refl [] w).alloc (.cells #[.int .i64 0, .int .i64 0, .int .i64 0, .slice none 0 0] 82))
  have Hs := Lib.hid hs
  clear h hd hlen ha hb0 hu1 hu2 hv
  go_enter Try.func69, Try.ntmps69
  go_wp2_with fail
  generalize w.alloc (.cells #[.int .i64 0, .int .i64 0, .int .i64 0, .slice none 0 0] 82) = w0 at *
  refine (Var.take_any w0 p g k l HR.out hk hl _ HT.out).mono ?_
  rintro e w1 ⟨rfl, hr1, hf1⟩
  simp only at hr1 ⊢
  have hB1 := HB0.out.fr hf1 (by simp; omega)
  have HR1 := Lib.hid hr1
  have HF1 := Lib.hid (HF0.out.nil.tr hf1)
  have HB1 := Lib.hid hB1
  have hsl : s < w1.heap.size := hB1.lt
  have hr2 := hr1.fr ((Fr.refl [] w1).alloc (.cells #[.int .i64 1, .int .i64 (len : Int), .int .i64 0, .slice none 0 0] 82)) (by simp) (by simp)
  have hb2 := hB1.fr ((Fr.refl [] w1).alloc (.cells #[.int .i64 1, .int .i64 (len : Int), .int .i64 0, .slice none 0 0] 82)) (by simp)
  have hn2 := Blk.fresh w1 82 #[.int .i64 1, .int .i64 (len : Int), .int .i64 0, .slice none 0 0]
  have hf2 := HF1.out.alloc (.cells #[.int .i64 1, .int .i64 (len : Int), .int .i64 0, .slice none 0 0] 82)
  obtain ⟨b8, hb8⟩ : ∃ b8, w1.heap.size = b8 := ⟨_, rfl⟩
  rw [hb8] at hsl hn2
  clear hr1 hf1 hB1 HR HB0 HF0 HT HR1 HF1 HB1
  go_wp2_with fail
  generalize w1.alloc (.cells #[.int .i64 1, .int .i64 (len : Int), .int .i64 0, .slice none 0 0] 82) = w2 at *
  clear hb8
  refine (rbytes_ok w2 p g (k + P) len l hr2 hl hend).mono ?_
  rintro e w3 ⟨g', rfl, hg', hD, hr3, hf3⟩
  rw [hdd] at hD
  have hb3 := hb2.fr hf3 (by simp; omega)
  have hn3 := hn2.fr hf3 (by simp; omega)
  have HR3 := Lib.hid hr3
  have HD3 := Lib.hid hD
  have HF3 := Lib.hid (hf2.tr hf3)
  have HB3 := Lib.hid hb3
  have HN3 := Lib.hid hn3
  have hs2 : b8 < w2.heap.size := hn2.lt
  obtain ⟨c0, c1, c2, c3⟩ := blk4 hb3
  have f0 := hb3.frozen 0
  have f1 := hb3.frozen 1
  have f2 := hb3.frozen 2
  have f3 := hb3.frozen 3
  obtain ⟨y0, y1, y2, y3⟩ := blk4 hn3
  have q3 := hn3.frozen 3
  have hsb : ¬ b8 = s := by omega
  have hsb' : ¬ s = b8 := by omega
  have Hdl := Lib.hid hdl
  clear hr3 hD hf3 hb3 hn3 hr2 hb2 hn2 hf2 hdd hdl
  go_wp2
  have hq : Fr [b8] w3 (w3.setCell ⟨b8, 3, none⟩ (.slice (some ⟨g', 0, none⟩) len len)) := (Fr.refl [b8] w3).setCell (by simp) _
  have hb := put4 (HB3.out.fr hq (by simp; exact hsb')) (.int .i64 1) (.int .i64 (len : Int)) (.int .i64 0) (.slice (some ⟨g', 0, none⟩) len len)
  have hst := put4_fr (w3.setCell ⟨b8, 3, none⟩ (.slice (some ⟨g', 0, none⟩) len len)) s (.int .i64 1) (.int .i64 (len : Int)) (.int .i64 0) (.slice (some ⟨g', 0, none⟩) len len)
  obtain ⟨z0, z1, z2, z3⟩ := blk4 hb
  have hfa : Fr [b8, s] w3 _ := (hq.sub (T := [b8, s]) (by simp)).trans hst (by simp)
  generalize (((((w3.setCell ⟨b8, 3, none⟩ (.slice (some ⟨g', 0, none⟩) len len)).setCell ⟨s, 0, none⟩ (.int .i64 1)).setCell ⟨s, 1, none⟩ (.int .i64 (len : Int))).setCell ⟨s, 2, none⟩ (.int .i64 0)).setCell ⟨s, 3, none⟩ (.slice (some ⟨g', 0, none⟩) len len)) = w9 at *
  have hD9 := HD3.out.fr hfa (by simp; omega)
  refine bodyPost_ret (v := .tuple #[.agg #[.int .i64 1, .int .i64 (len : Int), .int .i64 0, .slice (some ⟨g', 0, none⟩) len len], .int .i64 0]) (by simp [results, Try.results69, go_sem, z0, z1, z2, z3]) rfl ⟨some ⟨g', 0, none⟩, len, by simp [actA, Hdl.out], rd_blk hD9, ⟨by simp, by simp [Hdl.out], by unfold maxLen; omega⟩, ?_, HR3.out.fr hfa (by simp; omega) (by simp; omega), HF3.out.trans hfa (by simp [Hs.out]; omega)⟩
  rintro ad e
  cases e
  exact ⟨by simp [Hs.out]; omega, hD9.lt⟩

set_option maxRecDepth 100000 in
set_option maxHeartbeats 2000000 in
theorem takeAction_2 (w : World) (p g k room : Nat) (l r : List UInt8) (a : Act) (ha : Ok a) (hkk : a.kind = 2) (h : Rdr w p g l k) (hk : k ≤ l.length) (hl : l.length ≤ 1000000000) (hd : l.drop k = actB a ++ r) (hroom : a.len ≤ room) :
    Calls Try.prog 69 #[.pointer (some ⟨p, 0, none⟩), .int .i64 (room : Int)] w (TakenA w p g l (k + (actB a).length) a) := by
  have HT := Lib.hid (act_take a ha r)
  rw [← hd] at HT
  have hu := headN_le a ha
  have hu1 := headN_kind a ha
  have hu2 := headN_len a ha
  have hk0 : 2 ≤ a.kind := by omega
  have hmv := act_move a ha hk0 r
  have hlen : (actB a).length = (Var.putV (headN a)).length + (Var.putV (turnN a.move)).length := by unfold actB; rw [tail2 a hk0, List.length_append]
  have hdd : l.drop (k + (Var.putV (headN a)).length) = tailB a ++ r := by rw [← List.drop_drop, hd, actB, List.append_assoc, List.drop_left]
  rw [← hdd] at hmv
  have hend : k + (Var.putV (headN a)).length ≤ l.length := by
    have e := congrArg List.length hd
    rw [List.length_drop, List.length_append, hlen] at e
    omega
  rw [hlen, ← Nat.add_assoc]
  have hbk := back_turn a.move ha.low ha.high
  have htm := turnN_le a.move ha.low ha.high
  generalize (Var.putV (headN a)).length = P at *
  generalize headN a = u at *
  generalize (Var.putV (turnN a.move)).length = P2 at *
  generalize turnN a.move = tn at *
  obtain ⟨kind, len, move, data⟩ := a
  simp only at hk0 hkk hu1 hu2 hroom hbk
  have hdn : data = [] := ha.none_ (by simp only; omega)
  subst hdn
  have htm' : (tn : Int) < 18446744073709551616 := by unfold Var.most at htm; omega
  have HM := Lib.hid hmv
  have HBk := Lib.hid hbk
  clear hmv hbk hdd htm
  subst hkk
  clear hk0
  have e1 : (u : Int) % 4 = 2 := by omega
  obtain ⟨v, hv⟩ : ∃ v, u / 4 = v := ⟨_, rfl⟩
  have e2 : (u : Int) / 4 = (v : Int) := by omega
  unfold Var.most at hu
  have e3 : IntKind.i64.wrap (v : Int) = (v : Int) := by rw [IntKind.wrap_i64]; omega
  have e4 : (v : Int) + 1 = (len : Int) := by omega
  have e5 : ¬ (room : Int) < (len : Int) := by omega
  have e6 : decide (room < len) = false := by simp; omega
  have HR := Lib.hid (h.fr ((Fr.refl [] w).alloc (.cells #[.int .i64 0, .int .i64 0, .int .i64 0, .slice none 0 0] 82)) (by simp) (by simp))
  have hpl := h.1.lt
  have hgl := h.2.lt
  obtain ⟨s, hs⟩ : ∃ s, w.heap.size = s := ⟨_, rfl⟩
  rw [hs] at hpl hgl
  have hb0 := Blk.fresh w 82 #[.int .i64 0, .int .i64 0, .int .i64 0, .slice none 0 0]
  rw [hs] at hb0
  have HB0 := Lib.hid hb0
  have HF0 := Lib.hid ((Fr.refl [] w).alloc (.cells #[.int .i64 0, .int .i64 0, .int .i64 0, .slice none 0 0] 82))
  have Hs := Lib.hid hs
  clear h hd hlen ha hb0 hu1 hu2 hv
  go_enter Try.func69, Try.ntmps69
  go_wp2_with fail
  generalize w.alloc (.cells #[.int .i64 0, .int .i64 0, .int .i64 0, .slice none 0 0] 82) = w0 at *
  refine (Var.take_any w0 p g k l HR.out hk hl _ HT.out).mono ?_
  rintro e w1 ⟨rfl, hr1, hf1⟩
  simp only at hr1 ⊢
  have hB1 := HB0.out.fr hf1 (by simp; omega)
  have HR1 := Lib.hid hr1
  have HF1 := Lib.hid (HF0.out.nil.tr hf1)
  have HB1 := Lib.hid hB1
  have hsl : s < w1.heap.size := hB1.lt
  have hr2 := hr1.fr ((Fr.refl [] w1).alloc (.cells #[.int .i64 2, .int .i64 (len : Int), .int .i64 0, .slice none 0 0] 82)) (by simp) (by simp)
  have hb2 := hB1.fr ((Fr.refl [] w1).alloc (.cells #[.int .i64 2, .int .i64 (len : Int), .int .i64 0, .slice none 0 0] 82)) (by simp)
  have hn2 := Blk.fresh w1 82 #[.int .i64 2, .int .i64 (len : Int), .int .i64 0, .slice none 0 0]
  have hf2 := HF1.out.alloc (.cells #[.int .i64 2, .int .i64 (len : Int), .int .i64 0, .slice none 0 0] 82)
  obtain ⟨b8, hb8⟩ : ∃ b8, w1.heap.size = b8 := ⟨_, rfl⟩
  rw [hb8] at hsl hn2
  clear hr1 hf1 hB1 HR HB0 HF0 HT HR1 HF1 HB1
  go_wp2_with fail
  generalize w1.alloc (.cells #[.int .i64 2, .int .i64 (len : Int), .int .i64 0, .slice none 0 0] 82) = w2 at *
  clear hb8
  refine (Var.take_any w2 p g (k + P) l hr2 hend hl _ HM.out).mono ?_
  rintro e w3 ⟨rfl, hr3, hf3⟩
  simp only at hr3 ⊢
  have hb3 := hb2.fr hf3 (by simp; omega)
  have hn3 := hn2.fr hf3 (by simp; omega)
  have HR3 := Lib.hid hr3
  have HF3 := Lib.hid (hf2.tr hf3)
  have HB3 := Lib.hid hb3
  have HN3 := Lib.hid hn3
  obtain ⟨c0, c1, c2, c3⟩ := blk4 hb3
  have f0 := hb3.frozen 0
  have f1 := hb3.frozen 1
  have f2 := hb3.frozen 2
  have f3 := hb3.frozen 3
  obtain ⟨y0, y1, y2, y3⟩ := blk4 hn3
  have q2 := hn3.frozen 2
  have hsb : ¬ b8 = s := by omega
  have hsb' : ¬ s = b8 := by omega
  clear hr3 hf3 hb3 hn3 hr2 hb2 hn2 hf2
  go_wp2_with fail
  refine (Var.back_any w3 (tn : Int) (by omega) htm').mono ?_
  rintro e w4 ⟨rfl, rfl⟩
  rw [HBk.out]
  go_wp2
  have hq : Fr [b8] w3 (w3.setCell ⟨b8, 2, none⟩ (.int .i64 move)) := (Fr.refl [b8] w3).setCell (by simp) _
  have hb := put4 (HB3.out.fr hq (by simp; exact hsb')) (.int .i64 2) (.int .i64 (len : Int)) (.int .i64 move) (.slice none 0 0)
  have hst := put4_fr (w3.setCell ⟨b8, 2, none⟩ (.int .i64 move)) s (.int .i64 2) (.int .i64 (len : Int)) (.int .i64 move) (.slice none 0 0)
  obtain ⟨z0, z1, z2, z3⟩ := blk4 hb
  have hfa : Fr [b8, s] w3 _ := (hq.sub (T := [b8, s]) (by simp)).trans hst (by simp)
  generalize (((((w3.setCell ⟨b8, 2, none⟩ (.int .i64 move)).setCell ⟨s, 0, none⟩ (.int .i64 2)).setCell ⟨s, 1, none⟩ (.int .i64 (len : Int))).setCell ⟨s, 2, none⟩ (.int .i64 move)).setCell ⟨s, 3, none⟩ (.slice none 0 0)) = w9 at *
  exact bodyPost_ret (v := .tuple #[.agg #[.int .i64 2, .int .i64 (len : Int), .int .i64 move, .slice none 0 0], .int .i64 0]) (by simp [results, Try.results69, go_sem, z0, z1, z2, z3]) rfl ⟨none, 0, rfl, rd_nil _, ⟨fun _ => rfl, Nat.le_refl _, by simp [maxLen]⟩, by simp, HR3.out.fr hfa (by simp; omega) (by simp; omega), HF3.out.trans hfa (by simp [Hs.out]; omega)⟩

set_option maxRecDepth 100000 in
set_option maxHeartbeats 2000000 in
theorem takeAction_3 (w : World) (p g k room : Nat) (l r : List UInt8) (a : Act) (ha : Ok a) (hkk : a.kind = 3) (h : Rdr w p g l k) (hk : k ≤ l.length) (hl : l.length ≤ 1000000000) (hd : l.drop k = actB a ++ r) (hroom : a.len ≤ room) :
    Calls Try.prog 69 #[.pointer (some ⟨p, 0, none⟩), .int .i64 (room : Int)] w (TakenA w p g l (k + (actB a).length) a) := by
  have HT := Lib.hid (act_take a ha r)
  rw [← hd] at HT
  have hu := headN_le a ha
  have hu1 := headN_kind a ha
  have hu2 := headN_len a ha
  have hk0 : 2 ≤ a.kind := by omega
  have hmv := act_move a ha hk0 r
  have hlen : (actB a).length = (Var.putV (headN a)).length + (Var.putV (turnN a.move)).length := by unfold actB; rw [tail2 a hk0, List.length_append]
  have hdd : l.drop (k + (Var.putV (headN a)).length) = tailB a ++ r := by rw [← List.drop_drop, hd, actB, List.append_assoc, List.drop_left]
  rw [← hdd] at hmv
  have hend : k + (Var.putV (headN a)).length ≤ l.length := by
    have e := congrArg List.length hd
    rw [List.length_drop, List.length_append, hlen] at e
    omega
  rw [hlen, ← Nat.add_assoc]
  have hbk := back_turn a.move ha.low ha.high
  have htm := turnN_le a.move ha.low ha.high
  generalize (Var.putV (headN a)).length = P at *
  generalize headN a = u at *
  generalize (Var.putV (turnN a.move)).length = P2 at *
  generalize turnN a.move = tn at *
  obtain ⟨kind, len, move, data⟩ := a
  simp only at hk0 hkk hu1 hu2 hroom hbk
  have hdn : data = [] := ha.none_ (by simp only; omega)
  subst hdn
  have htm' : (tn : Int) < 18446744073709551616 := by unfold Var.most at htm; omega
  have HM := Lib.hid hmv
  have HBk := Lib.hid hbk
  clear hmv hbk hdd htm
  subst hkk
  clear hk0
  have e1 : (u : Int) % 4 = 3 := by omega
  obtain ⟨v, hv⟩ : ∃ v, u / 4 = v := ⟨_, rfl⟩
  have e2 : (u : Int) / 4 = (v : Int) := by omega
  unfold Var.most at hu
  have e3 : IntKind.i64.wrap (v : Int) = (v : Int) := by rw [IntKind.wrap_i64]; omega
  have e4 : (v : Int) + 1 = (len : Int) := by omega
  have e5 : ¬ (room : Int) < (len : Int) := by omega
  have e6 : decide (room < len) = false := by simp; omega
  have HR := Lib.hid (h.fr ((Fr.refl [] w).alloc (.cells #[.int .i64 0, .int .i64 0, .int .i64 0, .slice none 0 0] 82)) (by simp) (by simp))
  have hpl := h.1.lt
  have hgl := h.2.lt
  obtain ⟨s, hs⟩ : ∃ s, w.heap.size = s := ⟨_, rfl⟩
  rw [hs] at hpl hgl
  have hb0 := Blk.fresh w 82 #[.int .i64 0, .int .i64 0, .int .i64 0, .slice none 0 0]
  rw [hs] at hb0
  have HB0 := Lib.hid hb0
  have HF0 := Lib.hid ((Fr.refl [] w).alloc (.cells #[.int .i64 0, .int .i64 0, .int .i64 0, .slice none 0 0] 82))
  have Hs := Lib.hid hs
  clear h hd hlen ha hb0 hu1 hu2 hv
  go_enter Try.func69, Try.ntmps69
  go_wp2_with fail
  generalize w.alloc (.cells #[.int .i64 0, .int .i64 0, .int .i64 0, .slice none 0 0] 82) = w0 at *
  refine (Var.take_any w0 p g k l HR.out hk hl _ HT.out).mono ?_
  rintro e w1 ⟨rfl, hr1, hf1⟩
  simp only at hr1 ⊢
  have hB1 := HB0.out.fr hf1 (by simp; omega)
  have HR1 := Lib.hid hr1
  have HF1 := Lib.hid (HF0.out.nil.tr hf1)
  have HB1 := Lib.hid hB1
  have hsl : s < w1.heap.size := hB1.lt
  have hr2 := hr1.fr ((Fr.refl [] w1).alloc (.cells #[.int .i64 3, .int .i64 (len : Int), .int .i64 0, .slice none 0 0] 82)) (by simp) (by simp)
  have hb2 := hB1.fr ((Fr.refl [] w1).alloc (.cells #[.int .i64 3, .int .i64 (len : Int), .int .i64 0, .slice none 0 0] 82)) (by simp)
  have hn2 := Blk.fresh w1 82 #[.int .i64 3, .int .i64 (len : Int), .int .i64 0, .slice none 0 0]
  have hf2 := HF1.out.alloc (.cells #[.int .i64 3, .int .i64 (len : Int), .int .i64 0, .slice none 0 0] 82)
  obtain ⟨b8, hb8⟩ : ∃ b8, w1.heap.size = b8 := ⟨_, rfl⟩
  rw [hb8] at hsl hn2
  clear hr1 hf1 hB1 HR HB0 HF0 HT HR1 HF1 HB1
  go_wp2_with fail
  generalize w1.alloc (.cells #[.int .i64 3, .int .i64 (len : Int), .int .i64 0, .slice none 0 0] 82) = w2 at *
  clear hb8
  refine (Var.take_any w2 p g (k + P) l hr2 hend hl _ HM.out).mono ?_
  rintro e w3 ⟨rfl, hr3, hf3⟩
  simp only at hr3 ⊢
  have hb3 := hb2.fr hf3 (by simp; omega)
  have hn3 := hn2.fr hf3 (by simp; omega)
  have HR3 := Lib.hid hr3
  have HF3 := Lib.hid (hf2.tr hf3)
  have HB3 := Lib.hid hb3
  have HN3 := Lib.hid hn3
  obtain ⟨c0, c1, c2, c3⟩ := blk4 hb3
  have f0 := hb3.frozen 0
  have f1 := hb3.frozen 1
  have f2 := hb3.frozen 2
  have f3 := hb3.frozen 3
  obtain ⟨y0, y1, y2, y3⟩ := blk4 hn3
  have q2 := hn3.frozen 2
  have hsb : ¬ b8 = s := by omega
  have hsb' : ¬ s = b8 := by omega
  clear hr3 hf3 hb3 hn3 hr2 hb2 hn2 hf2
  go_wp2_with fail
  refine (Var.back_any w3 (tn : Int) (by omega) htm').mono ?_
  rintro e w4 ⟨rfl, rfl⟩
  rw [HBk.out]
  go_wp2
  have hq : Fr [b8] w3 (w3.setCell ⟨b8, 2, none⟩ (.int .i64 move)) := (Fr.refl [b8] w3).setCell (by simp) _
  have hb := put4 (HB3.out.fr hq (by simp; exact hsb')) (.int .i64 3) (.int .i64 (len : Int)) (.int .i64 move) (.slice none 0 0)
  have hst := put4_fr (w3.setCell ⟨b8, 2, none⟩ (.int .i64 move)) s (.int .i64 3) (.int .i64 (len : Int)) (.int .i64 move) (.slice none 0 0)
  obtain ⟨z0, z1, z2, z3⟩ := blk4 hb
  have hfa : Fr [b8, s] w3 _ := (hq.sub (T := [b8, s]) (by simp)).trans hst (by simp)
  generalize (((((w3.setCell ⟨b8, 2, none⟩ (.int .i64 move)).setCell ⟨s, 0, none⟩ (.int .i64 3)).setCell ⟨s, 1, none⟩ (.int .i64 (len : Int))).setCell ⟨s, 2, none⟩ (.int .i64 move)).setCell ⟨s, 3, none⟩ (.slice none 0 0)) = w9 at *
  exact bodyPost_ret (v := .tuple #[.agg #[.int .i64 3, .int .i64 (len : Int), .int .i64 move, .slice none 0 0], .int .i64 0]) (by simp [results, Try.results69, go_sem, z0, z1, z2, z3]) rfl ⟨none, 0, rfl, rd_nil _, ⟨fun _ => rfl, Nat.le_refl _, by simp [maxLen]⟩, by simp, HR3.out.fr hfa (by simp; omega) (by simp; omega), HF3.out.trans hfa (by simp [Hs.out]; omega)⟩

theorem takeAction_ok (w : World) (p g k room : Nat) (l r : List UInt8) (a : Act) (ha : Ok a) (h : Rdr w p g l k) (hk : k ≤ l.length) (hl : l.length ≤ 1000000000) (hd : l.drop k = actB a ++ r) (hroom : a.len ≤ room) :
    Calls Try.prog 69 #[.pointer (some ⟨p, 0, none⟩), .int .i64 (room : Int)] w (TakenA w p g l (k + (actB a).length) a) := by
  have h4 := ha.kind
  rcases (by omega : a.kind = 0 ∨ a.kind = 1 ∨ a.kind = 2 ∨ a.kind = 3) with h0 | h0 | h0 | h0
  · exact takeAction_0 w p g k room l r a ha h0 h hk hl hd hroom
  · exact takeAction_1 w p g k room l r a ha h0 h hk hl hd hroom
  · exact takeAction_2 w p g k room l r a ha h0 h hk hl hd hroom
  · exact takeAction_3 w p g k room l r a ha h0 h hk hl hd hroom

end Bps
end Go.Proofs.Ytokfcknfkhlmfaa

namespace Go.Proofs.Ytokfcknfkhlmfaa
open Go.RowKit
namespace Bm

/-- An action as a value. -/
def aV (k n : Nat) (mv : Int) (D : Option Addr) (dn dc : Nat) : Value := .agg #[.int .i64 (k : Int), .int .i64 (n : Int), .int .i64 mv, .slice D dn dc]
/-- How many bytes an action has in a patch, beside its Data. -/
def sz (k n : Nat) (mv : Int) : Nat := (Var.putV ((n - 1) * 4 + k)).length + if 2 ≤ k then (Var.putV (Bps.turnN mv)).length else 0
/-- How many bytes fewer an action has than it makes. -/
def gn (k n : Nat) (mv : Int) : Int := if n = 0 then -1 else (n : Int) - (sz k n mv : Int)

theorem sz_le (k n : Nat) (mv : Int) (hk : k < 4) (hn : n ≤ 16777216) (h0 : -1073741824 ≤ mv) (h1 : mv ≤ 1073741824) : sz k n mv ≤ 10 := by
  have e1 := Var.putV_le5 (u := (n - 1) * 4 + k) (by unfold Var.most; omega)
  have e2 := Var.putV_le5 (Bps.turnN_le mv h0 h1)
  unfold sz
  split <;> omega

set_option maxRecDepth 100000 in
theorem number_any (w : World) (k n dn dc N : Nat) (mv : Int) (D : Option Addr) (hk : k < 4) (hn : 1 ≤ n) (hn2 : n ≤ 16777216) (hN : (n - 1) * 4 + k = N) :
    Calls Try.prog 60 #[aV k n mv D dn dc] w fun e w' => e = .returned (.int .u64 (N : Int)) ∧ Fr [] w w' := by
  unfold aV
  obtain ⟨n1, h1⟩ : ∃ n1, n1 + 1 = n := ⟨n - 1, by omega⟩
  obtain ⟨M, hM⟩ : ∃ M, 4 * n1 = M := ⟨_, rfl⟩
  have e1 : (n : Int) - 1 = (n1 : Int) := by omega
  have e2 : IntKind.i64.wrap (n1 : Int) = (n1 : Int) := by rw [IntKind.wrap_i64]; omega
  have e3 : IntKind.u64.wrap (n1 : Int) = (n1 : Int) := by rw [IntKind.wrap_u64]; omega
  have e4 : 4 * (n1 : Int) = (M : Int) := by omega
  have e5 : IntKind.u64.wrap (M : Int) = (M : Int) := by rw [IntKind.wrap_u64]; omega
  have e6 : IntKind.u64.wrap (k : Int) = (k : Int) := by rw [IntKind.wrap_u64]; omega
  have e7 : (M : Int) + (k : Int) = (N : Int) := by omega
  have e8 : IntKind.u64.wrap (N : Int) = (N : Int) := by rw [IntKind.wrap_u64]; omega
  clear hN hM h1
  go_enter Try.func60, Try.ntmps60
  go_wp2
  go_ret
  exact ⟨rfl, (Fr.refl [] w).alloc _⟩

set_option maxRecDepth 100000 in
theorem moves_any (w : World) (k n dn dc : Nat) (mv : Int) (D : Option Addr) (hk : k < 4) :
    Calls Try.prog 61 #[aV k n mv D dn dc] w fun e w' => e = .returned (.bool (decide (2 ≤ k))) ∧ Fr [] w w' := by
  unfold aV
  rcases (by omega : k = 0 ∨ k = 1 ∨ k = 2 ∨ k = 3) with rfl | rfl | rfl | rfl
  all_goals
    go_enter Try.func61, Try.ntmps61
    go_wp2
    go_ret
    exact ⟨rfl, (Fr.refl [] w).alloc _⟩

set_option maxRecDepth 100000 in
set_option maxHeartbeats 1000000 in
theorem size_any (w : World) (k n dn dc : Nat) (mv : Int) (D : Option Addr) (hk : k < 4) (hn : 1 ≤ n) (hn2 : n ≤ 16777216) (h0 : -1073741824 ≤ mv) (h1 : mv ≤ 1073741824) :
    Calls Try.prog 58 #[aV k n mv D dn dc] w fun e w' => e = .returned (.int .i64 (sz k n mv : Int)) ∧ Fr [] w w' := by
  obtain ⟨N, hN⟩ : ∃ N, (n - 1) * 4 + k = N := ⟨_, rfl⟩
  have hN2 : N ≤ Var.most := by unfold Var.most; omega
  obtain ⟨P, hP⟩ : ∃ P, (Var.putV N).length = P := ⟨_, rfl⟩
  obtain ⟨R, hR⟩ : ∃ R, (Var.putV (Bps.turnN mv)).length = R := ⟨_, rfl⟩
  have hP5 : P ≤ 5 := by rw [← hP]; exact Var.putV_le5 hN2
  have hR5 : R ≤ 5 := by rw [← hR]; exact Var.putV_le5 (Bps.turnN_le mv h0 h1)
  have HT := Lib.hid (Bps.turnN_cast mv h0 h1)
  have HT2 := Lib.hid (Bps.turnN_le mv h0 h1)
  have HS : Hid (sz k n mv = P + if 2 ≤ k then R else 0) := Lib.hid (by unfold sz; rw [hN, hP, hR])
  have HPP : Hid (∀ W, Calls Try.prog 16 #[.int .u64 (N : Int)] W fun e w' => ∃ g, e = .returned (.slice (some ⟨g, 0, none⟩) P P) ∧ Fr [] W w') := Lib.hid fun W => by
    rw [← hP]
    exact (Var.put_any W N hN2).mono fun e w' ⟨g, a1, _, _, a4⟩ => ⟨g, a1, a4⟩
  obtain ⟨T, hT⟩ : ∃ T, Bps.turnN mv = T := ⟨_, rfl⟩
  have HPT : Hid (∀ W, Calls Try.prog 62 #[.int .i64 mv] W fun e w' => e = .returned (.int .u64 (T : Int)) ∧ W = w') := Lib.hid fun W => by
    rw [← hT, HT.out]
    exact Var.turn_any W mv (by omega) (by omega)
  have HPR : Hid (∀ W, Calls Try.prog 16 #[.int .u64 (T : Int)] W fun e w' => ∃ g, e = .returned (.slice (some ⟨g, 0, none⟩) R R) ∧ Fr [] W w') := Lib.hid fun W => by
    rw [← hR, ← hT]
    exact (Var.put_any W (Bps.turnN mv) HT2.out).mono fun e w' ⟨g, a1, _, _, a4⟩ => ⟨g, a1, a4⟩
  have HNN : Hid (∀ W, Calls Try.prog 60 #[.agg #[.int .i64 (k : Int), .int .i64 (n : Int), .int .i64 mv, .slice D dn dc]] W fun e w' => e = .returned (.int .u64 (N : Int)) ∧ Fr [] W w') := Lib.hid fun W => number_any W k n dn dc N mv D hk hn hn2 hN
  have HMM : Hid (∀ W, Calls Try.prog 61 #[.agg #[.int .i64 (k : Int), .int .i64 (n : Int), .int .i64 mv, .slice D dn dc]] W fun e w' => e = .returned (.bool (decide (2 ≤ k))) ∧ Fr [] W w') := Lib.hid fun W => moves_any W k n dn dc mv D hk
  obtain ⟨s, hs⟩ : ∃ s, w.heap.size = s := ⟨_, rfl⟩
  have hb := Blk.fresh w 82 #[.int .i64 (k : Int), .int .i64 (n : Int), .int .i64 mv, .slice D dn dc]
  rw [hs] at hb
  have HB := Lib.hid hb
  have HF : Hid (Fr [] w (w.alloc (.cells #[.int .i64 (k : Int), .int .i64 (n : Int), .int .i64 mv, .slice D dn dc] 82))) := Lib.hid ((Fr.refl [] w).alloc _)
  clear hN hP hR hT HT HT2 hb h0 h1 hn hn2
  unfold aV
  go_enter Try.func58, Try.ntmps58
  go_upto_region 1 with fail
  generalize w.alloc _ = w1 at *
  have hc := HB.out
  obtain ⟨c0, c1, c2, c3⟩ := Bps.blk4 hc
  go_wp2_with fail
  refine (HNN.out w1).mono ?_
  rintro e w2 ⟨rfl, hf2⟩
  have HB2 := Lib.hid (HB.out.fr hf2 (by simp))
  have HF2 := Lib.hid (HF.out.tr hf2)
  clear hf2 HB HF c0 c1 c2 c3 hc
  go_wp2_with fail
  refine (HPP.out w2).mono ?_
  rintro e w3 ⟨g3, rfl, hf3⟩
  have HB3 := Lib.hid (HB2.out.fr hf3 (by simp))
  have HF3 := Lib.hid (HF2.out.tr hf3)
  clear hf3 HB2 HF2
  obtain ⟨c0, c1, c2, c3⟩ := Bps.blk4 HB3.out
  go_wp2_with fail
  refine (HMM.out w3).mono ?_
  rintro e w4 ⟨rfl, hf4⟩
  have HB4 := Lib.hid (HB3.out.fr hf4 (by simp))
  have HF4 := Lib.hid (HF3.out.tr hf4)
  clear hf4 HB3 HF3 c0 c1 c2 c3
  obtain ⟨c0, c1, c2, c3⟩ := Bps.blk4 HB4.out
  by_cases hk2 : 2 ≤ k
  · have hd : decide (2 ≤ k) = true := by simp [hk2]
    rw [hd]
    go_wp2_with fail
    refine (HPT.out w4).mono ?_
    rintro e w5 ⟨rfl, rfl⟩
    go_wp2_with fail
    refine (HPR.out w4).mono ?_
    rintro e w6 ⟨g6, rfl, hf6⟩
    have HF6 := Lib.hid (HF4.out.tr hf6)
    clear hf6 c0 c1 c2 c3
    obtain ⟨Z, hZ⟩ : ∃ Z, P + R = Z := ⟨_, rfl⟩
    have hZ1 : (P : Int) + (R : Int) = (Z : Int) := by omega
    have hZ2 : IntKind.i64.wrap (Z : Int) = (Z : Int) := by rw [IntKind.wrap_i64]; omega
    have HZ := Lib.hid hZ
    clear hZ
    go_wp2
    go_ret
    refine ⟨?_, HF6.out⟩
    rw [HS.out, if_pos hk2, HZ.out]
    rfl
  · have hd : decide (2 ≤ k) = false := by simp; omega
    rw [hd]
    go_wp2
    go_ret
    refine ⟨?_, HF4.out⟩
    rw [HS.out, if_neg hk2, Nat.add_zero]
    rfl

end Bm
end Go.Proofs.Ytokfcknfkhlmfaa
