/-
  Contract of bps' takeHead (of numbers and meta that are there).
-/
import Derived.Test.YtokfcknfkhlmfaaBpsTake
namespace Go.Proofs.Ytokfcknfkhlmfaa
open Go.RowKit
namespace Bps

/-- A patch's cells. -/
def patV (i o : Nat) (s1 s2 : BitVec 32) (M L : Value) : Array Value := #[.int .i64 (i : Int), .int .i64 (o : Int), .int .u32 (Crc.u s1), .int .u32 (Crc.u s2), M, L]

set_option maxRecDepth 100000 in
set_option maxHeartbeats 2000000 in
theorem takeHead_ok (w : World) (q p g k : Nat) (l mt r : List UInt8) (n1 n2 n3 : Nat) (s1 s2 : BitVec 32) (hP : Blk w q 70 (patV 0 0 s1 s2 (.slice none 0 0) (.slice none 0 0))) (h : Rdr w p g l k) (hk : k ≤ l.length) (hl : l.length ≤ 1000000000) (hd : l.drop k = Var.putV n1 ++ (Var.putV n2 ++ (Var.putV n3 ++ (mt ++ r)))) (hm : mt.length = n3) (h1 : n1 ≤ 16777216) (h2 : n2 ≤ 16777216) (h3 : n3 ≤ 16777216) :
    Calls Try.prog 41 #[.pointer (some ⟨q, 0, none⟩), .pointer (some ⟨p, 0, none⟩)] w fun e w' => ∃ g', e = .returned (.int .i64 0) ∧ Rdr w' p g l (end3 n1 n2 n3 k + n3) ∧ Blk w' q 70 (patV n1 n2 s1 s2 (.slice (some ⟨g', 0, none⟩) n3 n3) (.slice none 0 0)) ∧ Fr [p, q] w w' := by
  have HN := Lib.hid (takeNumbers_ok w p g k l (mt ++ r) n1 n2 n3 h hk hl hd h1 h2 h3)
  have hend : end3 n1 n2 n3 k + n3 ≤ l.length := by
    have e := congrArg List.length hd
    simp only [List.length_drop, List.length_append] at e
    unfold end3
    omega
  generalize end3 n1 n2 n3 k = k3 at *
  have hne : q ≠ p := hP.other h.1 (by decide)
  have hqg : q ≠ g := fun e => by subst e; exact (hP.other h.2 (by decide)) rfl
  have HP := Lib.hid hP
  have hql := hP.lt
  have hmx : ¬ (16777216 : Int) < max (n1 : Int) (n2 : Int) := by omega
  have hlf : ¬ (l.length : Int) - k3 < n3 := by omega
  have e1 : IntKind.i64.wrap (n1 : Int) = n1 := by rw [IntKind.wrap_i64]; omega
  have e2 : IntKind.i64.wrap (n2 : Int) = n2 := by rw [IntKind.wrap_i64]; omega
  have e3 : IntKind.i64.wrap (n3 : Int) = n3 := by rw [IntKind.wrap_i64]; omega
  have e4 : IntKind.u64.wrap ((l.length : Int) - k3) = (l.length : Int) - k3 := by rw [IntKind.wrap_u64]; omega
  clear hP h hd hm
  go_enter Try.func41, Try.ntmps41
  go_wp2_with fail
  refine HN.out.mono ?_
  rintro e w1 ⟨rfl, hr1, hf1⟩
  have hs1 := hf1.size
  have HR1 := Lib.hid (hr1.fr ((Fr.refl [] w1).alloc (.cells #[.int .u64 (n1 : Int), .int .u64 (n2 : Int), .int .u64 (n3 : Int)] 118)) (by simp) (by simp))
  have HP1 := Lib.hid ((HP.out.fr hf1 (by simp; exact hne)).fr ((Fr.refl [] w1).alloc (.cells #[.int .u64 (n1 : Int), .int .u64 (n2 : Int), .int .u64 (n3 : Int)] 118)) (by simp))
  have HF1 := Lib.hid ((hf1.sub (T := [p, q]) (by simp)).alloc (.cells #[.int .u64 (n1 : Int), .int .u64 (n2 : Int), .int .u64 (n3 : Int)] 118))
  clear hr1 hf1 HN HP
  go_wp2_with fail
  go_quiet (fail)
  go_wp2_with fail
  generalize w1.alloc (.cells #[.int .u64 (n1 : Int), .int .u64 (n2 : Int), .int .u64 (n3 : Int)] 118) = w2 at *
  have hdr : Fr [] w2 (w2.drewN nq) := (Fr.refl [] w2).drewN nq
  have HR2 := Lib.hid (HR1.out.fr hdr (by simp) (by simp))
  have HP2 := Lib.hid (HP1.out.fr hdr (by simp))
  have HF2 := Lib.hid (HF1.out.tr hdr.nil)
  generalize w2.drewN nq = w3 at *
  clear hdr HR1 HP1 HF1
  refine (left_any w3 p g k3 l HR2.out (by omega) hl).mono ?_
  rintro e w4 ⟨rfl, nd, rfl⟩
  have hdr : Fr [] w3 (w3.drewN nd) := (Fr.refl [] w3).drewN nd
  have HR3 := Lib.hid (HR2.out.fr hdr (by simp) (by simp))
  have hP3 := HP2.out.fr hdr (by simp)
  have HF3 := Lib.hid (HF2.out.tr hdr.nil)
  generalize w3.drewN nd = w4 at *
  have c0 := hP3.cell 0
  have c1 := hP3.cell 1
  have f0 := hP3.frozen 0
  have f1 := hP3.frozen 1
  simp [patV] at c0 c1
  have HP3 := Lib.hid hP3
  clear hdr HR2 HP2 HF2 hP3
  go_wp2_with fail
  have hb := (HP3.out.put 0 (.int .i64 (n1 : Int))).put 1 (.int .i64 (n2 : Int))
  have hst : Fr [q] w4 ((w4.setCell ⟨q, 0, none⟩ (.int .i64 (n1 : Int))).setCell ⟨q, 1, none⟩ (.int .i64 (n2 : Int))) := ((Fr.refl [q] w4).setCell (by simp) _).setCell (by simp) _
  simp only [patV, List.setIfInBounds_toArray, List.set_cons_zero, List.set_cons_succ] at hb
  have HP4 : Hid (Blk ((w4.setCell ⟨q, 0, none⟩ (.int .i64 (n1 : Int))).setCell ⟨q, 1, none⟩ (.int .i64 (n2 : Int))) q 70 (patV n1 n2 s1 s2 (.slice none 0 0) (.slice none 0 0))) := Lib.hid hb
  have HR4 := Lib.hid (HR3.out.fr hst (by simp; exact fun e => hne e.symm) (by simp; exact fun e => hqg e.symm))
  have HF4 := Lib.hid (HF3.out.trans (S := [p, q]) hst (by simp))
  generalize (w4.setCell ⟨q, 0, none⟩ (.int .i64 (n1 : Int))).setCell ⟨q, 1, none⟩ (.int .i64 (n2 : Int)) = w5 at *
  clear hb hst HP3 HR3 HF3 c0 c1 f0 f1
  refine (rbytes_ok w5 p g k3 n3 l HR4.out hl hend).mono ?_
  rintro e w6 ⟨g', rfl, hg', -, hr6, hf6⟩
  have HR6 := Lib.hid hr6
  have hP6 := HP4.out.fr hf6 (by simp; exact hne)
  have HF6 := Lib.hid (HF4.out.trans (S := [p, q]) hf6 (by simp))
  have c4 := hP6.cell 4
  have f4 := hP6.frozen 4
  simp [patV] at c4
  have HP6 := Lib.hid hP6
  clear hr6 hf6 hP6 HR4 HP4 HF4
  go_wp2
  go_ret
  have hb := HP6.out.put 4 (.slice (some ⟨g', 0, none⟩) n3 n3)
  simp only [patV, List.setIfInBounds_toArray, List.set_cons_zero, List.set_cons_succ] at hb
  have hst : Fr [q] w6 (w6.setCell ⟨q, 4, none⟩ (.slice (some ⟨g', 0, none⟩) n3 n3)) := (Fr.refl [q] w6).setCell (by simp) _
  exact ⟨_, rfl, HR6.out.fr hst (by simp; exact fun e => hne e.symm) (by simp; exact fun e => hqg e.symm), hb, HF6.out.trans (S := [p, q]) hst (by simp)⟩

end Bps
end Go.Proofs.Ytokfcknfkhlmfaa
