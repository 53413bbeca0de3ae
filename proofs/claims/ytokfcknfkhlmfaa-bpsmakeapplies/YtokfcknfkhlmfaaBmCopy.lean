/-
  Contracts of bpsmake's copySource and copyTarget.
-/
import Derived.Test.YtokfcknfkhlmfaaBmFrom
namespace Go.Proofs.Ytokfcknfkhlmfaa
open Go.RowKit
namespace Bm

/-- A copy is told: as many bytes as longest tells, from the place where they begin. -/
def Copied (w : World) (k s : Nat) (t b : List UInt8) (hi f u : Nat) (e : Ending) (w' : World) : Prop := ∃ p n : Nat, Long t b hi f u p n ∧ Acted w (k, n, (p : Int) - (s : Int)) e w'

set_option maxRecDepth 100000 in
set_option maxHeartbeats 2000000 in
theorem copySource_any (w : World) (m ca cb la lb lk s t told u q x : Nat) (A D : Option Addr) (a b : List UInt8) (hla : a.length = la) (hlb : b.length = lb) (hca : la ≤ ca) (hcb : lb ≤ cb) (hna : la ≤ 1000000000) (hu : u + 4 ≤ lb) (hnb : lb ≤ 1000000000) (hlk : lk ≤ 1000000000) (hlk1 : 1 ≤ lk) (hs : s ≤ 1000000000) (hA : Rd w A a) (hD : Rd w D b)
    (h : Blk w m 92 (mkV A D ca cb la lb (some ⟨x, 0, none⟩) lk s t told u q)) (hI : Idx w x A D ca cb a b) :
    Calls Try.prog 55 #[.pointer (some ⟨m, 0, none⟩)] w (Copied w 2 s a b la (across a b u) u) := by
  obtain ⟨s0, hs0⟩ : ∃ s0, w.heap.size = s0 := ⟨_, rfl⟩
  have hb := Blk.fresh w 82 #[.int .i64 0, .int .i64 0, .int .i64 0, .slice none 0 0]
  rw [hs0] at hb
  have hf : Fr [] w (w.alloc (.cells #[.int .i64 0, .int .i64 0, .int .i64 0, .slice none 0 0] 82)) := (Fr.refl [] w).alloc _
  have h1 := h.fr hf (by simp)
  have hA1 := hA.later hf (by simp)
  have hD1 := hD.later hf (by simp)
  have hI1 := hI.fr hf (by simp)
  have HF := Lib.hid hf
  have HB := Lib.hid hb
  have HM := Lib.hid h1
  have HC : Hid (∀ W, Fr [] (w.alloc (.cells #[.int .i64 0, .int .i64 0, .int .i64 0, .slice none 0 0] 82)) W → Calls Try.prog 74 #[.pointer (some ⟨x, 0, none⟩), .int .i64 0, .int .i64 (u : Int), .int .i64 (lk : Int)] W fun e w' => ∃ p n : Nat, e = .returned (.tuple #[.int .i64 (p : Int), .int .i64 (n : Int)]) ∧ Long a b la (across a b u) u p n ∧ Fr [] W w') := Lib.hid fun W hW =>
    longest_in W x u lk ca cb la lb A D a b hla hlb hca hcb hna hnb hlk (hA1.later hW (by simp)) (hD1.later hW (by simp)) hu (hI1.fr hW (by simp)) hlk1
  have HP : Hid (∀ p n, Long a b la (across a b u) u p n → p ≤ la) := Lib.hid fun p n hl => by
    rcases hl.1 with ⟨_, h2⟩ | ⟨_, h2, _⟩ <;> omega
  generalize hQ : Copied w 2 s a b la (across a b u) u = Q
  have HQ : Hid (∀ W (p n : Nat), Long a b la (across a b u) u p n → Fr [] w W → Q (.returned (aV 2 n ((p : Int) - (s : Int)) none 0 0)) W) := Lib.hid fun W p n h1 h2 => by rw [← hQ]; exact ⟨p, n, h1, rfl, h2⟩
  clear hb hf hA hD h h1 hA1 hD1 hI hI1 hla hlb hQ hu hca hcb hlk1 hnb
  go_enter Try.func55, Try.ntmps55
  go_upto_region 1 with fail
  generalize w.alloc _ = w1 at *
  obtain ⟨-, -, c2, c3, c4, -, -, c7, -⟩ := blk9 HM.out
  clear c4
  go_wp2_with fail
  go_cut [3, 4] (fun s3 s4 wx => ∃ p n : Nat, s3 = .int .i64 (p : Int) ∧ s4 = .int .i64 (n : Int) ∧ Long a b la (across a b u) u p n ∧ Fr [] w1 wx)
  case first =>
    go_region_law (go_simp; go_at_call 74; (with_reducible refine (HC.out w1.drew (Fr.refl [] w1).drew).mono ?_); rintro e w3 ⟨p, n, rfl, hl, hf3⟩; have HL := Lib.hid hl; have HF3 : Hid (Fr [] w1 w3) := Lib.hid ((Fr.refl [] w1).drew.tr hf3); clear hf3 hl)
    all_goals
      go_wp2_with fail
      go_meet
      exact ⟨p, n, rfl, rfl, HL.out, HF3.out⟩
  case rest =>
    obtain ⟨p, n, rfl, rfl, hl, hfc⟩ := hcut
    have hp := HP.out p n hl
    have HL := Lib.hid hl
    have HFc := Lib.hid hfc
    have HB3 := Lib.hid (HB.out.fr hfc (by simp))
    obtain ⟨-, -, -, -, e4, -, -, -, -⟩ := blk9 (HM.out.fr hfc (by simp))
    obtain ⟨z0, z1, z2, z3⟩ := Bps.blk4 HB3.out
    obtain ⟨f0, f1, f2, f3⟩ := frz4 HB3.out
    obtain ⟨mv, hmv⟩ : ∃ mv, (p : Int) - (s : Int) = mv := ⟨_, rfl⟩
    have hw : IntKind.i64.wrap mv = mv := by rw [IntKind.wrap_i64]; omega
    have HE : Hid (∀ W, Fr [] w W → Q (.returned (aV 2 n mv none 0 0)) W) := Lib.hid fun W hW => by rw [← hmv]; exact HQ.out W p n HL.out hW
    clear hl hfc c2 c3 c7
    go_wp2
    obtain ⟨hfin, hbl⟩ := act_put HB3.out (HF.out.tr HFc.out) (by omega) (.int .i64 2) (.int .i64 (n : Int)) (.int .i64 mv) (.slice none 0 0)
    obtain ⟨y0, y1, y2, y3⟩ := Bps.blk4 hbl
    generalize (((wc.setCell ⟨s0, 0, none⟩ (.int .i64 2)).setCell ⟨s0, 1, none⟩ (.int .i64 (n : Int))).setCell ⟨s0, 2, none⟩ (.int .i64 mv)).setCell ⟨s0, 3, none⟩ (.slice none 0 0) = w5 at *
    exact bodyPost_ret (v := aV 2 n mv none 0 0) (by simp [results, Try.results55, go_sem, y0, y1, y2, y3, aV]) rfl (HE.out _ hfin)

set_option maxRecDepth 100000 in
set_option maxHeartbeats 2000000 in
theorem copyTarget_any (w : World) (m ca cb la lb lk s t told u q x : Nat) (A D : Option Addr) (a b : List UInt8) (hlb : b.length = lb) (hcb : lb ≤ cb) (hu : u + 4 ≤ lb) (hnb : lb ≤ 1000000000) (hlk : lk ≤ 1000000000) (hlk1 : 1 ≤ lk) (hs : t ≤ 1000000000) (hD : Rd w D b)
    (h : Blk w m 92 (mkV A D ca cb la lb (some ⟨x, 0, none⟩) lk s t told u q)) (hI : Idx w x A D ca cb a b) :
    Calls Try.prog 56 #[.pointer (some ⟨m, 0, none⟩)] w (Copied w 3 t b b u (within b u) u) := by
  obtain ⟨s0, hs0⟩ : ∃ s0, w.heap.size = s0 := ⟨_, rfl⟩
  have hb := Blk.fresh w 82 #[.int .i64 0, .int .i64 0, .int .i64 0, .slice none 0 0]
  rw [hs0] at hb
  have hf : Fr [] w (w.alloc (.cells #[.int .i64 0, .int .i64 0, .int .i64 0, .slice none 0 0] 82)) := (Fr.refl [] w).alloc _
  have h1 := h.fr hf (by simp)
  have hD1 := hD.later hf (by simp)
  have hI1 := hI.fr hf (by simp)
  have HF := Lib.hid hf
  have HB := Lib.hid hb
  have HM := Lib.hid h1
  have HC : Hid (∀ W, Fr [] (w.alloc (.cells #[.int .i64 0, .int .i64 0, .int .i64 0, .slice none 0 0] 82)) W → Calls Try.prog 74 #[.pointer (some ⟨x, 0, none⟩), .int .i64 1, .int .i64 (u : Int), .int .i64 (lk : Int)] W fun e w' => ∃ p n : Nat, e = .returned (.tuple #[.int .i64 (p : Int), .int .i64 (n : Int)]) ∧ Long b b u (within b u) u p n ∧ Fr [] W w') := Lib.hid fun W hW =>
    longest_out W x u lk ca cb lb A D a b hlb hcb hnb hlk (hD1.later hW (by simp)) hu (hI1.fr hW (by simp)) hlk1
  have HP : Hid (∀ p n, Long b b u (within b u) u p n → p ≤ lb) := Lib.hid fun p n hl => by
    rcases hl.1 with ⟨_, h2⟩ | ⟨_, h2, _⟩ <;> omega
  generalize hQ : Copied w 3 t b b u (within b u) u = Q
  have HQ : Hid (∀ W (p n : Nat), Long b b u (within b u) u p n → Fr [] w W → Q (.returned (aV 3 n ((p : Int) - (t : Int)) none 0 0)) W) := Lib.hid fun W p n h1 h2 => by rw [← hQ]; exact ⟨p, n, h1, rfl, h2⟩
  clear hb hf hD h h1 hD1 hI hI1 hlb hQ hcb hlk1
  go_enter Try.func56, Try.ntmps56
  go_upto_region 1 with fail
  generalize w.alloc _ = w1 at *
  obtain ⟨-, -, c2, c3, -, -, -, c7, -⟩ := blk9 HM.out
  go_wp2_with fail
  go_cut [3, 4] (fun s3 s4 wx => ∃ p n : Nat, s3 = .int .i64 (p : Int) ∧ s4 = .int .i64 (n : Int) ∧ Long b b u (within b u) u p n ∧ Fr [] w1 wx)
  case first =>
    go_region_law (go_simp; go_at_call 74; (with_reducible refine (HC.out w1.drew (Fr.refl [] w1).drew).mono ?_); rintro e w3 ⟨p, n, rfl, hl, hf3⟩; have HL := Lib.hid hl; have HF3 : Hid (Fr [] w1 w3) := Lib.hid ((Fr.refl [] w1).drew.tr hf3); clear hf3 hl)
    all_goals
      go_wp2_with fail
      go_meet
      exact ⟨p, n, rfl, rfl, HL.out, HF3.out⟩
  case rest =>
    obtain ⟨p, n, rfl, rfl, hl, hfc⟩ := hcut
    have hp := HP.out p n hl
    have HL := Lib.hid hl
    have HFc := Lib.hid hfc
    have HB3 := Lib.hid (HB.out.fr hfc (by simp))
    obtain ⟨-, -, -, -, -, e4, -, -, -⟩ := blk9 (HM.out.fr hfc (by simp))
    obtain ⟨z0, z1, z2, z3⟩ := Bps.blk4 HB3.out
    obtain ⟨f0, f1, f2, f3⟩ := frz4 HB3.out
    obtain ⟨mv, hmv⟩ : ∃ mv, (p : Int) - (t : Int) = mv := ⟨_, rfl⟩
    have hw : IntKind.i64.wrap mv = mv := by rw [IntKind.wrap_i64]; omega
    have HE : Hid (∀ W, Fr [] w W → Q (.returned (aV 3 n mv none 0 0)) W) := Lib.hid fun W hW => by rw [← hmv]; exact HQ.out W p n HL.out hW
    clear hl hfc c2 c3 c7
    go_wp2
    obtain ⟨hfin, hbl⟩ := act_put HB3.out (HF.out.tr HFc.out) (by omega) (.int .i64 3) (.int .i64 (n : Int)) (.int .i64 mv) (.slice none 0 0)
    obtain ⟨y0, y1, y2, y3⟩ := Bps.blk4 hbl
    generalize (((wc.setCell ⟨s0, 0, none⟩ (.int .i64 3)).setCell ⟨s0, 1, none⟩ (.int .i64 (n : Int))).setCell ⟨s0, 2, none⟩ (.int .i64 mv)).setCell ⟨s0, 3, none⟩ (.slice none 0 0) = w5 at *
    exact bodyPost_ret (v := aV 3 n mv none 0 0) (by simp [results, Try.results56, go_sem, y0, y1, y2, y3, aV]) rfl (HE.out _ hfin)

end Bm
end Go.Proofs.Ytokfcknfkhlmfaa
