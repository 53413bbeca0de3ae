/-
  Contract of bps' takeAction (of an action that is there, and for which there is room).
-/
import Derived.Test.YtokfcknfkhlmfaaBpsHead
namespace Go.Proofs.Ytokfcknfkhlmfaa
open Go.RowKit
namespace Bps

/-- An action's value. -/
def actA (a : Act) (D : Option Addr) (c : Nat) : Value := .agg #[.int .i64 (a.kind : Int), .int .i64 (a.len : Int), .int .i64 a.move, .slice D a.data.length c]

/-- What takeAction leaves. -/
def TakenA (w : World) (r gr : Nat) (l : List UInt8) (k : Nat) (a : Act) (e : Ending) (w' : World) : Prop :=
  ∃ D c, e = .returned (.tuple #[actA a D c, .int .i64 0]) ∧ Rd w' D a.data ∧ ((D = none → c = 0) ∧ a.data.length ≤ c ∧ c ≤ maxLen) ∧ (∀ ad, D = some ad → w.heap.size ≤ ad.block ∧ ad.block < w'.heap.size) ∧ Rdr w' r gr l k ∧ Fr [r] w w'

theorem blk4 {w : World} {b : Nat} {x0 x1 x2 x3 : Value} {t : TypeId} (h : Blk w b t #[x0, x1, x2, x3]) : w.cell? ⟨b, 0, none⟩ = some x0 ∧ w.cell? ⟨b, 1, none⟩ = some x1 ∧ w.cell? ⟨b, 2, none⟩ = some x2 ∧ w.cell? ⟨b, 3, none⟩ = some x3 :=
  ⟨by rw [h.cell]; rfl, by rw [h.cell]; rfl, by rw [h.cell]; rfl, by rw [h.cell]; rfl⟩

/-- A whole action into a block of the same kind. -/
theorem put4 {w : World} {b : Nat} {x0 x1 x2 x3 : Value} {t : TypeId} (h : Blk w b t #[x0, x1, x2, x3]) (y0 y1 y2 y3 : Value) : Blk ((((w.setCell ⟨b, 0, none⟩ y0).setCell ⟨b, 1, none⟩ y1).setCell ⟨b, 2, none⟩ y2).setCell ⟨b, 3, none⟩ y3) b t #[y0, y1, y2, y3] := by
  have := (((h.put 0 y0).put 1 y1).put 2 y2).put 3 y3
  simpa only [List.setIfInBounds_toArray, List.set_cons_zero, List.set_cons_succ] using this
theorem put4_fr (w : World) (b : Nat) (y0 y1 y2 y3 : Value) : Fr [b] w ((((w.setCell ⟨b, 0, none⟩ y0).setCell ⟨b, 1, none⟩ y1).setCell ⟨b, 2, none⟩ y2).setCell ⟨b, 3, none⟩ y3) :=
  ((((Fr.refl [b] w).setCell (by simp) _).setCell (by simp) _).setCell (by simp) _).setCell (by simp) _

set_option maxRecDepth 100000 in
set_option maxHeartbeats 2000000 in
theorem takeAction_0 (w : World) (p g k room : Nat) (l r : List UInt8) (a : Act) (ha : Ok a) (hk0 : a.kind = 0) (h : Rdr w p g l k) (hk : k ≤ l.length) (hl : l.length ≤ 1000000000) (hd : l.drop k = actB a ++ r) (hroom : a.len ≤ room) :
    Calls Try.prog 69 #[.pointer (some ⟨p, 0, none⟩), .int .i64 (room : Int)] w (TakenA w p g l (k + (actB a).length) a) := by
  have HT := Lib.hid (act_take a ha r)
  rw [← hd] at HT
  have hu := headN_le a ha
  have hu1 := headN_kind a ha
  have hu2 := headN_len a ha
  have hlen : (actB a).length = (Var.putV (headN a)).length := by unfold actB; rw [tail0 a hk0, List.append_nil]
  rw [hlen]
  generalize (Var.putV (headN a)).length = P at *
  generalize headN a = u at *
  obtain ⟨kind, len, move, data⟩ := a
  simp only at hk0 hu1 hu2 hroom
  have hdn : data = [] := ha.none_ (by simp only; omega)
  have hmv : move = 0 := ha.still (by simp only; omega)
  subst hk0 hdn hmv
  have e1 : (u : Int) % 4 = 0 := by omega
  obtain ⟨v, hv⟩ : ∃ v, u / 4 = v := ⟨_, rfl⟩
  have e2 : (u : Int) / 4 = (v : Int) := by omega
  unfold Var.most at hu
  have e3 : IntKind.i64.wrap (v : Int) = (v : Int) := by rw [IntKind.wrap_i64]; omega
  have e4 : (v : Int) + 1 = (len : Int) := by omega
  have e5 : ¬ (room : Int) < (len : Int) := by omega
  have e6 : decide (room < len) = false := by simp; omega
  have HR := Lib.hid (h.fr ((Fr.refl [] w).alloc (.cells #[.int .i64 0, .int .i64 0, .int .i64 0, .slice none 0 0] 82)) (by simp) (by simp))
  have hpl := h.1.lt
  have hgl := h.2.lt
  obtain ⟨s, hs⟩ : ∃ s, w.heap.size = s := ⟨_, rfl⟩
  rw [hs] at hpl hgl
  have hb0 := Blk.fresh w 82 #[.int .i64 0, .int .i64 0, .int .i64 0, .slice none 0 0]
  rw [hs] at hb0
  have HB0 := Lib.hid hb0
  have HF0 := Lib.hid ((Fr.refl [] w).alloc (.cells #[.int .i64 0, .int .i64 0, .int .i64 0, .slice none 0 0] 82))
  have Hs := Lib.hid hs
  clear h hd hlen ha hb0 hu1 hu2 hv
  go_enter Try.func69, Try.ntmps69
  go_wp2_with fail
  generalize w.alloc (.cells #[.int .i64 0, .int .i64 0, .int .i64 0, .slice none 0 0] 82) = w0 at *
  refine (Var.take_any w0 p g k l HR.out hk hl _ HT.out).mono ?_
  rintro e w1 ⟨rfl, hr1, hf1⟩
  simp only at hr1 ⊢
  have hB1 := HB0.out.fr hf1 (by simp; omega)
  have HR1 := Lib.hid hr1
  have HF1 := Lib.hid (HF0.out.nil.tr hf1)
  have HB1 := Lib.hid hB1
  have hsl : s < w1.heap.size := hB1.lt
  obtain ⟨c0, c1, c2, c3⟩ := blk4 hB1
  have f0 := hB1.frozen 0
  have f1 := hB1.frozen 1
  have f2 := hB1.frozen 2
  have f3 := hB1.frozen 3
  clear hr1 hf1 hB1 HR HB0 HF0 HT
  go_wp2
  have hb := put4 HB1.out (.int .i64 0) (.int .i64 (len : Int)) (.int .i64 0) (.slice none 0 0)
  have hst := put4_fr w1 s (.int .i64 0) (.int .i64 (len : Int)) (.int .i64 0) (.slice none 0 0)
  have hal := hst.alloc (.cells #[.int .i64 0, .int .i64 (len : Int), .int .i64 0, .slice none 0 0] 82)
  have hb2 := hb.fr ((Fr.refl [] _).alloc (.cells #[.int .i64 0, .int .i64 (len : Int), .int .i64 0, .slice none 0 0] 82)) (by simp)
  obtain ⟨z0, z1, z2, z3⟩ := blk4 hb2
  generalize (((((w1.setCell ⟨s, 0, none⟩ (.int .i64 0)).setCell ⟨s, 1, none⟩ (.int .i64 (len : Int))).setCell ⟨s, 2, none⟩ (.int .i64 0)).setCell ⟨s, 3, none⟩ (.slice none 0 0)).alloc (.cells #[.int .i64 0, .int .i64 (len : Int), .int .i64 0, .slice none 0 0] 82)) = w9 at *
  exact bodyPost_ret (v := .tuple #[.agg #[.int .i64 0, .int .i64 (len : Int), .int .i64 0, .slice none 0 0], .int .i64 0]) (by simp [results, Try.results69, go_sem, z0, z1, z2, z3]) rfl ⟨none, 0, rfl, rd_nil _, ⟨fun _ => rfl, Nat.le_refl _, by simp [maxLen]⟩, by simp, HR1.out.fr hal (by simp; omega) (by simp; omega), HF1.out.trans hal (by simp [Hs.out])⟩

set_option maxRecDepth 100000 in
set_option maxHeartbeats 2000000 in
theorem takeAction_1 (w : World) (p g k room : Nat) (l r : List UInt8) (a : Act) (ha : Ok a) (hk0 : a.kind = 1) (h : Rdr w p g l k) (hk : k ≤ l.length) (hl : l.length ≤ 1000000000) (hd : l.drop k = actB a ++ r) (hroom : a.len ≤ room) :
    Calls Try.prog 69 #[.pointer (some ⟨p, 0, none⟩), .int .i64 (room : Int)] w (TakenA w p g l (k + (actB a).length) a) := by
  have HT := Lib.hid (act_take a ha r)
  rw [← hd] at HT
  have hu := headN_le a ha
  have hu1 := headN_kind a ha
  have hu2 := headN_len a ha
  have hlen : (actB a).length = (Var.putV (headN a)).length + a.len := by unfold actB; rw [tail1 a hk0, List.length_append, ha.data hk0]
  have hdd : (l.drop (k + (Var.putV (headN a)).length)).take a.len = a.data := by rw [← List.drop_drop, hd, actB, List.append_assoc, List.drop_left, tail1 a hk0, ← ha.data hk0, List.take_left]
  have hend : k + (Var.putV (headN a)).length + a.len ≤ l.length := by
    have e := congrArg List.length hd
    rw [List.length_drop, List.length_append, hlen] at e
    omega
  rw [hlen, ← Nat.add_assoc]
  generalize (Var.putV (headN a)).length = P at *
  generalize headN a = u at *
  obtain ⟨kind, len, move, data⟩ := a
  simp only at hk0 hu1 hu2 hroom hdd hend
  have hdl : data.length = len := ha.data hk0
  have hmv : move = 0 := ha.still (by simp only; omega)
  subst hk0 hmv
  have e1 : (u : Int) % 4 = 1 := by omega
  obtain ⟨v, hv⟩ : ∃ v, u / 4 = v := ⟨_, rfl⟩
  have e2 : (u : Int) / 4 = (v : Int) := by omega
  unfold Var.most at hu
  have e3 : IntKind.i64.wrap (v : Int) = (v : Int) := by rw [IntKind.wrap_i64]; omega
  have e4 : (v : Int) + 1 = (len : Int) := by omega
  have e5 : ¬ (room : Int) < (len : Int) := by omega
  have e6 : decide (room < len) = false := by simp; omega
  have HR := Lib.hid (h.fr ((Fr.refl [] w).alloc (.cells #[.int .i64 0, .int .i64 0, .int .i64 0, .slice none 0 0] 82)) (by simp) (by simp))
  have hpl := h.1.lt
  have hgl := h.2.lt
  obtain ⟨s, hs⟩ : ∃ s, w.heap.size = s := ⟨_, rfl⟩
  rw [hs] at hpl hgl
  have hb0 := Blk.fresh w 82 #[.int .i64 0, .int .i64 0, .int .i64 0, .slice none 0 0]
  rw [hs] at hb0
  have HB0 := Lib.hid hb0
  have HF0 := Lib.hid ((Fr.refl [] w).alloc (.cells #[.int .i64 0, .int .i64 0, .int .i64 0, .slice none 0 0] 82))
  have Hs := Lib.hid hs
  clear h hd hlen ha hb0 hu1 hu2 hv
  go_enter Try.func69, Try.ntmps69
  go_wp2_with fail
  generalize w.alloc (.cells #[.int .i64 0, .int .i64 0, .int .i64 0, .slice none 0 0] 82) = w0 at *
  refine (Var.take_any w0 p g k l HR.out hk hl _ HT.out).mono ?_
  rintro e w1 ⟨rfl, hr1, hf1⟩
  simp only at hr1 ⊢
  have hB1 := HB0.out.fr hf1 (by simp; omega)
  have HR1 := Lib.hid hr1
  have HF1 := Lib.hid (HF0.out.nil.tr hf1)
  have HB1 := Lib.hid hB1
  have hsl : s < w1.heap.size := hB1.lt
  have hr2 := hr1.fr ((Fr.refl [] w1).alloc (.cells #[.int .i64 1, .int .i64 (len : Int), .int .i64 0, .slice none 0 0] 82)) (by simp) (by simp)
  have hb2 := hB1.fr ((Fr.refl [] w1).alloc (.cells #[.int .i64 1, .int .i64 (len : Int), .int .i64 0, .slice none 0 0] 82)) (by simp)
  have hn2 := Blk.fresh w1 82 #[.int .i64 1, .int .i64 (len : Int), .int .i64 0, .slice none 0 0]
  have hf2 := HF1.out.alloc (.cells #[.int .i64 1, .int .i64 (len : Int), .int .i64 0, .slice none 0 0] 82)
  obtain ⟨b8, hb8⟩ : ∃ b8, w1.heap.size = b8 := ⟨_, rfl⟩
  rw [hb8] at hsl hn2
  clear hr1 hf1 hB1 HR HB0 HF0 HT HR1 HF1 HB1
  go_wp2_with fail
  generalize w1.alloc (.cells #[.int .i64 1, .int .i64 (len : Int), .int .i64 0, .slice none 0 0] 82) = w2 at *
  clear hb8
  refine (rbytes_ok w2 p g (k + P) len l hr2 hl hend).mono ?_
  rintro e w3 ⟨g', rfl, hg', hD, hr3, hf3⟩
  rw [hdd] at hD
  have hb3 := hb2.fr hf3 (by simp; omega)
  have hn3 := hn2.fr hf3 (by simp; omega)
  have HR3 := Lib.hid hr3
  have HD3 := Lib.hid hD
  have HF3 := Lib.hid (hf2.tr hf3)
  have HB3 := Lib.hid hb3
  have HN3 := Lib.hid hn3
  have hs2 : b8 < w2.heap.size := hn2.lt
  obtain ⟨c0, c1, c2, c3⟩ := blk4 hb3
  have f0 := hb3.frozen 0
  have f1 := hb3.frozen 1
  have f2 := hb3.frozen 2
  have f3 := hb3.frozen 3
  obtain ⟨y0, y1, y2, y3⟩ := blk4 hn3
  have q3 := hn3.frozen 3
  have hsb : ¬ b8 = s := by omega
  have hsb' : ¬ s = b8 := by omega
  have Hdl := Lib.hid hdl
  clear hr3 hD hf3 hb3 hn3 hr2 hb2 hn2 hf2 hdd hdl
  go_wp2
  have hq : Fr [b8] w3 (w3.setCell ⟨b8, 3, none⟩ (.slice (some ⟨g', 0, none⟩) len len)) := (Fr.refl [b8] w3).setCell (by simp) _
  have hb := put4 (HB3.out.fr hq (by simp; exact hsb')) (.int .i64 1) (.int .i64 (len : Int)) (.int .i64 0) (.slice (some ⟨g', 0, none⟩) len len)
  have hst := put4_fr (w3.setCell ⟨b8, 3, none⟩ (.slice (some ⟨g', 0, none⟩) len len)) s (.int .i64 1) (.int .i64 (len : Int)) (.int .i64 0) (.slice (some ⟨g', 0, none⟩) len len)
  obtain ⟨z0, z1, z2, z3⟩ := blk4 hb
  have hfa : Fr [b8, s] w3 _ := (hq.sub (T := [b8, s]) (by simp)).trans hst (by simp)
  generalize (((((w3.setCell ⟨b8, 3, none⟩ (.slice (some ⟨g', 0, none⟩) len len)).setCell ⟨s, 0, none⟩ (.int .i64 1)).setCell ⟨s, 1, none⟩ (.int .i64 (len : Int))).setCell ⟨s, 2, none⟩ (.int .i64 0)).setCell ⟨s, 3, none⟩ (.slice (some ⟨g', 0, none⟩) len len)) = w9 at *
  have hD9 := HD3.out.fr hfa (by simp; omega)
  refine bodyPost_ret (v := .tuple #[.agg #[.int .i64 1, .int .i64 (len : Int), .int .i64 0, .slice (some ⟨g', 0, none⟩) len len], .int .i64 0]) (by simp [results, Try.results69, go_sem, z0, z1, z2, z3]) rfl ⟨some ⟨g', 0, none⟩, len, by simp [actA, Hdl.out], rd_blk hD9, ⟨by simp, by simp [Hdl.out], by unfold maxLen; omega⟩, ?_, HR3.out.fr hfa (by simp; omega) (by simp; omega), HF3.out.trans hfa (by simp [Hs.out]; omega)⟩
  rintro ad e
  cases e
  exact ⟨by simp [Hs.out]; omega, hD9.lt⟩

set_option maxRecDepth 100000 in
set_option maxHeartbeats 2000000 in
theorem takeAction_2 (w : World) (p g k room : Nat) (l r : List UInt8) (a : Act) (ha : Ok a) (hkk : a.kind = 2) (h : Rdr w p g l k) (hk : k ≤ l.length) (hl : l.length ≤ 1000000000) (hd : l.drop k = actB a ++ r) (hroom : a.len ≤ room) :
    Calls Try.prog 69 #[.pointer (some ⟨p, 0, none⟩), .int .i64 (room : Int)] w (TakenA w p g l (k + (actB a).length) a) := by
  have HT := Lib.hid (act_take a ha r)
  rw [← hd] at HT
  have hu := headN_le a ha
  have hu1 := headN_kind a ha
  have hu2 := headN_len a ha
  have hk0 : 2 ≤ a.kind := by omega
  have hmv := act_move a ha hk0 r
  have hlen : (actB a).length = (Var.putV (headN a)).length + (Var.putV (turnN a.move)).length := by unfold actB; rw [tail2 a hk0, List.length_append]
  have hdd : l.drop (k + (Var.putV (headN a)).length) = tailB a ++ r := by rw [← List.drop_drop, hd, actB, List.append_assoc, List.drop_left]
  rw [← hdd] at hmv
  have hend : k + (Var.putV (headN a)).length ≤ l.length := by
    have e := congrArg List.length hd
    rw [List.length_drop, List.length_append, hlen] at e
    omega
  rw [hlen, ← Nat.add_assoc]
  have hbk := back_turn a.move ha.low ha.high
  have htm := turnN_le a.move ha.low ha.high
  generalize (Var.putV (headN a)).length = P at *
  generalize headN a = u at *
  generalize (Var.putV (turnN a.move)).length = P2 at *
  generalize turnN a.move = tn at *
  obtain ⟨kind, len, move, data⟩ := a
  simp only at hk0 hkk hu1 hu2 hroom hbk
  have hdn : data = [] := ha.none_ (by simp only; omega)
  subst hdn
  have htm' : (tn : Int) < 18446744073709551616 := by unfold Var.most at htm; omega
  have HM := Lib.hid hmv
  have HBk := Lib.hid hbk
  clear hmv hbk hdd htm
  subst hkk
  clear hk0
  have e1 : (u : Int) % 4 = 2 := by omega
  obtain ⟨v, hv⟩ : ∃ v, u / 4 = v := ⟨_, rfl⟩
  have e2 : (u : Int) / 4 = (v : Int) := by omega
  unfold Var.most at hu
  have e3 : IntKind.i64.wrap (v : Int) = (v : Int) := by rw [IntKind.wrap_i64]; omega
  have e4 : (v : Int) + 1 = (len : Int) := by omega
  have e5 : ¬ (room : Int) < (len : Int) := by omega
  have e6 : decide (room < len) = false := by simp; omega
  have HR := Lib.hid (h.fr ((Fr.refl [] w).alloc (.cells #[.int .i64 0, .int .i64 0, .int .i64 0, .slice none 0 0] 82)) (by simp) (by simp))
  have hpl := h.1.lt
  have hgl := h.2.lt
  obtain ⟨s, hs⟩ : ∃ s, w.heap.size = s := ⟨_, rfl⟩
  rw [hs] at hpl hgl
  have hb0 := Blk.fresh w 82 #[.int .i64 0, .int .i64 0, .int .i64 0, .slice none 0 0]
  rw [hs] at hb0
  have HB0 := Lib.hid hb0
  have HF0 := Lib.hid ((Fr.refl [] w).alloc (.cells #[.int .i64 0, .int .i64 0, .int .i64 0, .slice none 0 0] 82))
  have Hs := Lib.hid hs
  clear h hd hlen ha hb0 hu1 hu2 hv
  go_enter Try.func69, Try.ntmps69
  go_wp2_with fail
  generalize w.alloc (.cells #[.int .i64 0, .int .i64 0, .int .i64 0, .slice none 0 0] 82) = w0 at *
  refine (Var.take_any w0 p g k l HR.out hk hl _ HT.out).mono ?_
  rintro e w1 ⟨rfl, hr1, hf1⟩
  simp only at hr1 ⊢
  have hB1 := HB0.out.fr hf1 (by simp; omega)
  have HR1 := Lib.hid hr1
  have HF1 := Lib.hid (HF0.out.nil.tr hf1)
  have HB1 := Lib.hid hB1
  have hsl : s < w1.heap.size := hB1.lt
  have hr2 := hr1.fr ((Fr.refl [] w1).alloc (.cells #[.int .i64 2, .int .i64 (len : Int), .int .i64 0, .slice none 0 0] 82)) (by simp) (by simp)
  have hb2 := hB1.fr ((Fr.refl [] w1).alloc (.cells #[.int .i64 2, .int .i64 (len : Int), .int .i64 0, .slice none 0 0] 82)) (by simp)
  have hn2 := Blk.fresh w1 82 #[.int .i64 2, .int .i64 (len : Int), .int .i64 0, .slice none 0 0]
  have hf2 := HF1.out.alloc (.cells #[.int .i64 2, .int .i64 (len : Int), .int .i64 0, .slice none 0 0] 82)
  obtain ⟨b8, hb8⟩ : ∃ b8, w1.heap.size = b8 := ⟨_, rfl⟩
  rw [hb8] at hsl hn2
  clear hr1 hf1 hB1 HR HB0 HF0 HT HR1 HF1 HB1
  go_wp2_with fail
  generalize w1.alloc (.cells #[.int .i64 2, .int .i64 (len : Int), .int .i64 0, .slice none 0 0] 82) = w2 at *
  clear hb8
  refine (Var.take_any w2 p g (k + P) l hr2 hend hl _ HM.out).mono ?_
  rintro e w3 ⟨rfl, hr3, hf3⟩
  simp only at hr3 ⊢
  have hb3 := hb2.fr hf3 (by simp; omega)
  have hn3 := hn2.fr hf3 (by simp; omega)
  have HR3 := Lib.hid hr3
  have HF3 := Lib.hid (hf2.tr hf3)
  have HB3 := Lib.hid hb3
  have HN3 := Lib.hid hn3
  obtain ⟨c0, c1, c2, c3⟩ := blk4 hb3
  have f0 := hb3.frozen 0
  have f1 := hb3.frozen 1
  have f2 := hb3.frozen 2
  have f3 := hb3.frozen 3
  obtain ⟨y0, y1, y2, y3⟩ := blk4 hn3
  have q2 := hn3.frozen 2
  have hsb : ¬ b8 = s := by omega
  have hsb' : ¬ s = b8 := by omega
  clear hr3 hf3 hb3 hn3 hr2 hb2 hn2 hf2
  go_wp2_with fail
  refine (Var.back_any w3 (tn : Int) (by omega) htm').mono ?_
  rintro e w4 ⟨rfl, rfl⟩
  rw [HBk.out]
  go_wp2
  have hq : Fr [b8] w3 (w3.setCell ⟨b8, 2, none⟩ (.int .i64 move)) := (Fr.refl [b8] w3).setCell (by simp) _
  have hb := put4 (HB3.out.fr hq (by simp; exact hsb')) (.int .i64 2) (.int .i64 (len : Int)) (.int .i64 move) (.slice none 0 0)
  have hst := put4_fr (w3.setCell ⟨b8, 2, none⟩ (.int .i64 move)) s (.int .i64 2) (.int .i64 (len : Int)) (.int .i64 move) (.slice none 0 0)
  obtain ⟨z0, z1, z2, z3⟩ := blk4 hb
  have hfa : Fr [b8, s] w3 _ := (hq.sub (T := [b8, s]) (by simp)).trans hst (by simp)
  generalize (((((w3.setCell ⟨b8, 2, none⟩ (.int .i64 move)).setCell ⟨s, 0, none⟩ (.int .i64 2)).setCell ⟨s, 1, none⟩ (.int .i64 (len : Int))).setCell ⟨s, 2, none⟩ (.int .i64 move)).setCell ⟨s, 3, none⟩ (.slice none 0 0)) = w9 at *
  exact bodyPost_ret (v := .tuple #[.agg #[.int .i64 2, .int .i64 (len : Int), .int .i64 move, .slice none 0 0], .int .i64 0]) (by simp [results, Try.results69, go_sem, z0, z1, z2, z3]) rfl ⟨none, 0, rfl, rd_nil _, ⟨fun _ => rfl, Nat.le_refl _, by simp [maxLen]⟩, by simp, HR3.out.fr hfa (by simp; omega) (by simp; omega), HF3.out.trans hfa (by simp [Hs.out]; omega)⟩

set_option maxRecDepth 100000 in
set_option maxHeartbeats 2000000 in
theorem takeAction_3 (w : World) (p g k room : Nat) (l r : List UInt8) (a : Act) (ha : Ok a) (hkk : a.kind = 3) (h : Rdr w p g l k) (hk : k ≤ l.length) (hl : l.length ≤ 1000000000) (hd : l.drop k = actB a ++ r) (hroom : a.len ≤ room) :
    Calls Try.prog 69 #[.pointer (some ⟨p, 0, none⟩), .int .i64 (room : Int)] w (TakenA w p g l (k + (actB a).length) a) := by
  have HT := Lib.hid (act_take a ha r)
  rw [← hd] at HT
  have hu := headN_le a ha
  have hu1 := headN_kind a ha
  have hu2 := headN_len a ha
  have hk0 : 2 ≤ a.kind := by omega
  have hmv := act_move a ha hk0 r
  have hlen : (actB a).length = (Var.putV (headN a)).length + (Var.putV (turnN a.move)).length := by unfold actB; rw [tail2 a hk0, List.length_append]
  have hdd : l.drop (k + (Var.putV (headN a)).length) = tailB a ++ r := by rw [← List.drop_drop, hd, actB, List.append_assoc, List.drop_left]
  rw [← hdd] at hmv
  have hend : k + (Var.putV (headN a)).length ≤ l.length := by
    have e := congrArg List.length hd
    rw [List.length_drop, List.length_append, hlen] at e
    omega
  rw [hlen, ← Nat.add_assoc]
  have hbk := back_turn a.move ha.low ha.high
  have htm := turnN_le a.move ha.low ha.high
  generalize (Var.putV (headN a)).length = P at *
  generalize headN a = u at *
  generalize (Var.putV (turnN a.move)).length = P2 at *
  generalize turnN a.move = tn at *
  obtain ⟨kind, len, move, data⟩ := a
  simp only at hk0 hkk hu1 hu2 hroom hbk
  have hdn : data = [] := ha.none_ (by simp only; omega)
  subst hdn
  have htm' : (tn : Int) < 18446744073709551616 := by unfold Var.most at htm; omega
  have HM := Lib.hid hmv
  have HBk := Lib.hid hbk
  clear hmv hbk hdd htm
  subst hkk
  clear hk0
  have e1 : (u : Int) % 4 = 3 := by omega
  obtain ⟨v, hv⟩ : ∃ v, u / 4 = v := ⟨_, rfl⟩
  have e2 : (u : Int) / 4 = (v : Int) := by omega
  unfold Var.most at hu
  have e3 : IntKind.i64.wrap (v : Int) = (v : Int) := by rw [IntKind.wrap_i64]; omega
  have e4 : (v : Int) + 1 = (len : Int) := by omega
  have e5 : ¬ (room : Int) < (len : Int) := by omega
  have e6 : decide (room < len) = false := by simp; omega
  have HR := Lib.hid (h.fr ((Fr.refl [] w).alloc (.cells #[.int .i64 0, .int .i64 0, .int .i64 0, .slice none 0 0] 82)) (by simp) (by simp))
  have hpl := h.1.lt
  have hgl := h.2.lt
  obtain ⟨s, hs⟩ : ∃ s, w.heap.size = s := ⟨_, rfl⟩
  rw [hs] at hpl hgl
  have hb0 := Blk.fresh w 82 #[.int .i64 0, .int .i64 0, .int .i64 0, .slice none 0 0]
  rw [hs] at hb0
  have HB0 := Lib.hid hb0
  have HF0 := Lib.hid ((Fr.refl [] w).alloc (.cells #[.int .i64 0, .int .i64 0, .int .i64 0, .slice none 0 0] 82))
  have Hs := Lib.hid hs
  clear h hd hlen ha hb0 hu1 hu2 hv
  go_enter Try.func69, Try.ntmps69
  go_wp2_with fail
  generalize w.alloc (.cells #[.int .i64 0, .int .i64 0, .int .i64 0, .slice none 0 0] 82) = w0 at *
  refine (Var.take_any w0 p g k l HR.out hk hl _ HT.out).mono ?_
  rintro e w1 ⟨rfl, hr1, hf1⟩
  simp only at hr1 ⊢
  have hB1 := HB0.out.fr hf1 (by simp; omega)
  have HR1 := Lib.hid hr1
  have HF1 := Lib.hid (HF0.out.nil.tr hf1)
  have HB1 := Lib.hid hB1
  have hsl : s < w1.heap.size := hB1.lt
  have hr2 := hr1.fr ((Fr.refl [] w1).alloc (.cells #[.int .i64 3, .int .i64 (len : Int), .int .i64 0, .slice none 0 0] 82)) (by simp) (by simp)
  have hb2 := hB1.fr ((Fr.refl [] w1).alloc (.cells #[.int .i64 3, .int .i64 (len : Int), .int .i64 0, .slice none 0 0] 82)) (by simp)
  have hn2 := Blk.fresh w1 82 #[.int .i64 3, .int .i64 (len : Int), .int .i64 0, .slice none 0 0]
  have hf2 := HF1.out.alloc (.cells #[.int .i64 3, .int .i64 (len : Int), .int .i64 0, .slice none 0 0] 82)
  obtain ⟨b8, hb8⟩ : ∃ b8, w1.heap.size = b8 := ⟨_, rfl⟩
  rw [hb8] at hsl hn2
  clear hr1 hf1 hB1 HR HB0 HF0 HT HR1 HF1 HB1
  go_wp2_with fail
  generalize w1.alloc (.cells #[.int .i64 3, .int .i64 (len : Int), .int .i64 0, .slice none 0 0] 82) = w2 at *
  clear hb8
  refine (Var.take_any w2 p g (k + P) l hr2 hend hl _ HM.out).mono ?_
  rintro e w3 ⟨rfl, hr3, hf3⟩
  simp only at hr3 ⊢
  have hb3 := hb2.fr hf3 (by simp; omega)
  have hn3 := hn2.fr hf3 (by simp; omega)
  have HR3 := Lib.hid hr3
  have HF3 := Lib.hid (hf2.tr hf3)
  have HB3 := Lib.hid hb3
  have HN3 := Lib.hid hn3
  obtain ⟨c0, c1, c2, c3⟩ := blk4 hb3
  have f0 := hb3.frozen 0
  have f1 := hb3.frozen 1
  have f2 := hb3.frozen 2
  have f3 := hb3.frozen 3
  obtain ⟨y0, y1, y2, y3⟩ := blk4 hn3
  have q2 := hn3.frozen 2
  have hsb : ¬ b8 = s := by omega
  have hsb' : ¬ s = b8 := by omega
  clear hr3 hf3 hb3 hn3 hr2 hb2 hn2 hf2
  go_wp2_with fail
  refine (Var.back_any w3 (tn : Int) (by omega) htm').mono ?_
  rintro e w4 ⟨rfl, rfl⟩
  rw [HBk.out]
  go_wp2
  have hq : Fr [b8] w3 (w3.setCell ⟨b8, 2, none⟩ (.int .i64 move)) := (Fr.refl [b8] w3).setCell (by simp) _
  have hb := put4 (HB3.out.fr hq (by simp; exact hsb')) (.int .i64 3) (.int .i64 (len : Int)) (.int .i64 move) (.slice none 0 0)
  have hst := put4_fr (w3.setCell ⟨b8, 2, none⟩ (.int .i64 move)) s (.int .i64 3) (.int .i64 (len : Int)) (.int .i64 move) (.slice none 0 0)
  obtain ⟨z0, z1, z2, z3⟩ := blk4 hb
  have hfa : Fr [b8, s] w3 _ := (hq.sub (T := [b8, s]) (by simp)).trans hst (by simp)
  generalize (((((w3.setCell ⟨b8, 2, none⟩ (.int .i64 move)).setCell ⟨s, 0, none⟩ (.int .i64 3)).setCell ⟨s, 1, none⟩ (.int .i64 (len : Int))).setCell ⟨s, 2, none⟩ (.int .i64 move)).setCell ⟨s, 3, none⟩ (.slice none 0 0)) = w9 at *
  exact bodyPost_ret (v := .tuple #[.agg #[.int .i64 3, .int .i64 (len : Int), .int .i64 move, .slice none 0 0], .int .i64 0]) (by simp [results, Try.results69, go_sem, z0, z1, z2, z3]) rfl ⟨none, 0, rfl, rd_nil _, ⟨fun _ => rfl, Nat.le_refl _, by simp [maxLen]⟩, by simp, HR3.out.fr hfa (by simp; omega) (by simp; omega), HF3.out.trans hfa (by simp [Hs.out]; omega)⟩

theorem takeAction_ok (w : World) (p g k room : Nat) (l r : List UInt8) (a : Act) (ha : Ok a) (h : Rdr w p g l k) (hk : k ≤ l.length) (hl : l.length ≤ 1000000000) (hd : l.drop k = actB a ++ r) (hroom : a.len ≤ room) :
    Calls Try.prog 69 #[.pointer (some ⟨p, 0, none⟩), .int .i64 (room : Int)] w (TakenA w p g l (k + (actB a).length) a) := by
  have h4 := ha.kind
  rcases (by omega : a.kind = 0 ∨ a.kind = 1 ∨ a.kind = 2 ∨ a.kind = 3) with h0 | h0 | h0 | h0
  · exact takeAction_0 w p g k room l r a ha h0 h hk hl hd hroom
  · exact takeAction_1 w p g k room l r a ha h0 h hk hl hd hroom
  · exact takeAction_2 w p g k room l r a ha h0 h hk hl hd hroom
  · exact takeAction_3 w p g k room l r a ha h0 h hk hl hd hroom

end Bps
end Go.Proofs.Ytokfcknfkhlmfaa
