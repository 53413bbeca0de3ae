/-
  Contracts of the document's own Signed and Put of layer 7 (picklockref07).
-/
import Derived.Test.YtkefckoffnlkcaaBpsAct
import Derived.Test.YtkefckoffnlkcaaCrcRef
import Derived.Test.YtkefckoffnlkcaaVarRefPut
import Derived.Test.YtkefckoffnlkcaaVarRefTurn
import Derived.Test.YtkefckoffnlkcaaRefPut4
import Derived.Test.YtkefckoffnlkcaaIpsAp
namespace Go.Proofs.Ytkefckoffnlkcaa
open Go.RowKit
namespace Bps
open Ups (signed signed_length le4 le4_length rput4 sum)

/-- What Signed leaves. -/
def Bytes (w : World) (l : List UInt8) (e : Ending) (w' : World) : Prop :=
  ∃ A c, e = .returned (.slice A l.length c) ∧ Own w' w.heap.size (.slice A l.length c) l ∧ Fr [] w w'

set_option maxRecDepth 100000 in
set_option maxHeartbeats 1000000 in
theorem refsigned_any (w : World) (A : Option Addr) (n c : Nat) (l : List UInt8) (hn : l.length = n) (hr : Rd w A l) (hc : A = none → c = 0) (hm : n ≤ 500000000) :
    Calls Try.prog 18 #[.slice A n c] w (Bytes w (signed l)) := by
  obtain ⟨i0, hi, hz0, hz1, hz2⟩ := info_parts info5
  have HR := Lib.hid hr
  have HN := Lib.hid hn
  have HC := Lib.hid hc
  have HL : Hid ((signed l).length = n + 4) := Lib.hid (by rw [signed_length, hn])
  unfold Bytes
  rw [HL.out]
  clear hr hn hc
  go_enter Try.func18, Try.ntmps18
  go_wp2_with (at_builtin; refine wpList_app _ rfl (.tmp 3) (.tmp 4) 23 rfl w.heap.size i0 Try.underlying23 hi hz0 hz1 hz2 (.slice (some ⟨w.heap.size, 0, none⟩) 0 0) [] rfl (Own.empty w _ (Nat.le_refl _)) A n c l rfl HN.out (HR.out.later (S := []) ((Fr.refl [] w).alloc _) (by simp)) HC.out (by simp; omega) (by simp) ?_)
  intro A1 c1 w1 ho1 hf1 _
  have HO1 : Hid (Own w1 w.heap.size (.slice A1 n c1) l) := Lib.hid (by simpa using ho1)
  have HF1 : Hid (Fr [] w w1) := Lib.hid (((Fr.refl [] w).alloc _).trans hf1 (by simp [Value.ownBlock]))
  have hs1 := HF1.out.size
  clear ho1 hf1
  go_wp2_with fail
  refine (Crc.rsum_any w1 A n c l HN.out (HR.out.later HF1.out (by simp)) (by omega)).mono ?_
  rintro e w2 ⟨rfl, rfl⟩
  have HSg : Hid (l ++ le4 (Crc.next 0#32 l) = signed l) := Lib.hid rfl
  generalize Crc.next 0#32 l = t at *
  have hwt : IntKind.u64.wrap (Crc.u t) = Crc.u t := by have := Crc.u_bounds t; rw [IntKind.wrap_u64]; omega
  go_wp2_with fail
  refine (rput4 w1 t).mono ?_
  rintro e w2 ⟨A2, c2, rfl, ho2, hf2⟩
  have HO1' := Lib.hid (HO1.out.fr hf2 (by simp))
  have HO2 := Lib.hid ho2
  have HF2 := Lib.hid (HF1.out.tr hf2)
  have HC2 := Lib.hid (Ref.own_nilcap ho2)
  have hs2 := HF2.out.size
  clear ho2 hf2 HO1
  go_wp2_with (at_builtin; refine wpList_appN _ rfl (.tmp 5) (.tmp 9) 23 rfl w.heap.size i0 Try.underlying23 hi hz0 hz1 hz2 (.slice A1 n c1) l n HN.out rfl HO1'.out A2 4 c2 (le4 t) rfl rfl HO2.out.rd HC2.out (by omega) hs2 ?_)
  intro A3 c3 w3 ho3 hf3 _
  rw [HSg.out] at ho3
  have HO3 := Lib.hid ho3
  have HF3 : Hid (Fr [] w w3) := Lib.hid (HF2.out.trans hf3 (by intro i hi; exact .inr (HO1'.out.lt i (by simpa using hi)).1))
  clear ho3 hf3
  go_wp2
  go_ret
  exact ⟨A3, c3, rfl, HO3.out, HF3.out⟩

open Ips (Ap)


set_option maxRecDepth 100000 in
set_option maxHeartbeats 2000000 in
theorem rput_ok (w : World) (a : Act) (D : Option Addr) (c : Nat) (ha : Ok a) (hD : Rd w D a.data) (hDn : D = none → c = 0) :
    Calls Try.prog 16 #[actA a D c] w (Bytes w (actB a)) := by
  obtain ⟨i0, hi, hz0, hz1, hz2⟩ := info_parts info5
  have h4 := ha.kind
  have hpos := ha.pos
  have hlm := ha.len
  have hdl : a.data.length ≤ 16777216 := by
    by_cases h1 : a.kind = 1
    · rw [ha.data h1]; omega
    · rw [ha.none_ h1]; simp
  have hlow := ha.low
  have hhigh := ha.high
  have hu := headN_le a ha
  have htn := turnN_cast a.move ha.low ha.high
  have htl := turnN_le a.move ha.low ha.high
  have hhd : ((a.len : Int) - 1) * 4 + (a.kind : Int) = (headN a : Int) := by unfold headN; omega
  have HB0 : Hid (a.kind = 0 → actB a = Var.putV (headN a)) := Lib.hid fun h => by unfold actB; rw [tail0 a h, List.append_nil]
  have HB1 : Hid (a.kind = 1 → actB a = Var.putV (headN a) ++ a.data) := Lib.hid fun h => by unfold actB; rw [tail1 a h]
  have HB2 : Hid (2 ≤ a.kind → actB a = Var.putV (headN a) ++ Var.putV (turnN a.move)) := Lib.hid fun h => by unfold actB; rw [tail2 a h]
  generalize actB a = AB at *
  have Hu := Lib.hid hu
  generalize headN a = u at *
  obtain ⟨P, hP⟩ : ∃ P, (Var.putV u).length = P := ⟨_, rfl⟩
  have hP5 : P ≤ 5 := by rw [← hP]; exact Var.putV_le5 hu
  have HP := Lib.hid hP
  have HD := Lib.hid hD
  have HDn := Lib.hid hDn
  have Htl := Lib.hid htl
  have Htn := Lib.hid htn
  generalize turnN a.move = tn at *
  unfold actA
  obtain ⟨kd, hkd⟩ : ∃ kd, a.kind = kd := ⟨_, rfl⟩
  obtain ⟨ln, hln⟩ : ∃ ln, a.len = ln := ⟨_, rfl⟩
  obtain ⟨mv, hmv⟩ : ∃ mv, a.move = mv := ⟨_, rfl⟩
  obtain ⟨da, hda⟩ : ∃ da, a.data = da := ⟨_, rfl⟩
  rw [hkd] at HB0 HB1 HB2 h4 hhd ⊢
  rw [hln] at hhd hpos hlm ⊢
  rw [hmv] at Htn hlow hhigh ⊢
  rw [hda] at HD HB1 hdl ⊢
  unfold Var.most at hu
  have e1 : IntKind.u64.wrap ((ln : Int) - 1) = (ln : Int) - 1 := by rw [IntKind.wrap_u64]; omega
  have e2 : IntKind.u64.wrap (((ln : Int) - 1) * 4) = ((ln : Int) - 1) * 4 := by rw [IntKind.wrap_u64]; omega
  have e3 : IntKind.u64.wrap (kd : Int) = (kd : Int) := by rw [IntKind.wrap_u64]; omega
  have e4 : IntKind.u64.wrap (u : Int) = (u : Int) := by rw [IntKind.wrap_u64]; omega
  have hal : Fr [] w (w.alloc (.cells #[.int .i64 (kd : Int), .int .i64 (ln : Int), .int .i64 mv, .slice D da.length c] 40)) := (Fr.refl [] w).alloc _
  have hn := Blk.fresh w 40 #[.int .i64 (kd : Int), .int .i64 (ln : Int), .int .i64 mv, .slice D da.length c]
  obtain ⟨s, hs⟩ : ∃ s, w.heap.size = s := ⟨_, rfl⟩
  rw [hs] at hn
  have HAl := Lib.hid hal
  have HN := Lib.hid hn
  have Hs := Lib.hid hs
  clear hP hD hDn htl htn hkd hln hmv hda ha hn hal hu
  go_enter Try.func16, Try.ntmps16
  go_wp2_with fail
  generalize w.alloc _ = w1 at *
  refine (Var.refPut_any w1 u Hu.out).mono ?_
  rintro e w2 ⟨A2, c2, rfl, ho2, hf2⟩
  rw [HP.out] at ho2 ⊢
  have HO2 := Lib.hid ho2
  have hn2 := HN.out.fr hf2 (by simp)
  obtain ⟨y0, y1, y2, y3⟩ := blk4 hn2
  have HF2 := Lib.hid (HAl.out.tr hf2)
  have HD2 := Lib.hid (HD.out.later HF2.out (by simp))
  have hsz : s < w1.heap.size := HN.out.lt
  have hs2 : w1.heap.size ≤ w2.heap.size := hf2.size
  have HN2 := Lib.hid hn2
  clear ho2 hf2 hn2 HN
  rcases (by omega : kd = 0 ∨ kd = 1 ∨ kd = 2 ∨ kd = 3) with rfl | rfl | rfl | rfl
  · go_wp2
    go_ret
    rw [HB0.out (by simp)]
    exact ⟨A2, c2, by rw [HP.out]; rfl, by rw [HP.out]; exact HO2.out.base (by omega), HF2.out⟩
  · go_wp2_with (at_builtin; refine wpList_appN _ rfl (.tmp 17) (.tmp 19) 23 rfl w1.heap.size i0 Try.underlying23 hi hz0 hz1 hz2 (.slice A2 P c2) (Var.putV u) P HP.out rfl HO2.out D da.length c da rfl rfl HD2.out HDn.out (by omega) hs2 ?_)
    intro A3 c3 w3 ho3 hf3 _
    have HO3 := Lib.hid ho3
    have HF3 : Hid (Fr [] w w3) := Lib.hid (HF2.out.trans hf3 (by intro i hi; exact .inr (by have := (HO2.out.lt i (by simpa using hi)).1; have := Hs.out; omega)))
    clear ho3 hf3
    go_wp2
    go_ret
    rw [HB1.out (by simp)]
    refine ⟨A3, c3, ?_, ?_, HF3.out⟩
    · rw [List.length_append, HP.out]; rfl
    · rw [List.length_append, HP.out]; exact HO3.out.base (by have := Hs.out; omega)
  · go_wp2_with fail
    refine (Var.refTurn_any w2 mv (by omega) (by omega)).mono ?_
    rintro e w3 ⟨rfl, rfl⟩
    rw [← Htn.out]
    go_wp2_with fail
    refine (Var.refPut_any w2 tn Htl.out).mono ?_
    rintro e w3 ⟨A3, c3, rfl, ho3, hf3⟩
    obtain ⟨P2, hP2⟩ : ∃ P2, (Var.putV tn).length = P2 := ⟨_, rfl⟩
    have hP25 : P2 ≤ 5 := by rw [← hP2]; exact Var.putV_le5 Htl.out
    have HP2 := Lib.hid hP2
    rw [hP2] at ho3 ⊢
    have HO3 := Lib.hid ho3
    have HO2' := Lib.hid (HO2.out.fr hf3 (by simp))
    have HF3 := Lib.hid (HF2.out.tr hf3)
    have HNc := Lib.hid (Ref.own_nilcap ho3)
    have hs3 : w1.heap.size ≤ w3.heap.size := Nat.le_trans hs2 hf3.size
    clear ho3 hf3 hP2
    go_wp2_with (at_builtin; refine wpList_appN _ rfl (.tmp 24) (.tmp 28) 23 rfl w1.heap.size i0 Try.underlying23 hi hz0 hz1 hz2 (.slice A2 P c2) (Var.putV u) P HP.out rfl HO2'.out A3 P2 c3 (Var.putV tn) rfl HP2.out HO3.out.rd HNc.out (by omega) hs3 ?_)
    intro A4 c4 w4 ho4 hf4 _
    have HO4 := Lib.hid ho4
    have HF4 : Hid (Fr [] w w4) := Lib.hid (HF3.out.trans hf4 (by intro i hi; exact .inr (by have := (HO2'.out.lt i (by simpa using hi)).1; have := Hs.out; omega)))
    clear ho4 hf4
    go_wp2
    go_ret
    rw [HB2.out (by omega)]
    refine ⟨A4, c4, ?_, ?_, HF4.out⟩
    · rw [List.length_append, HP.out, HP2.out]; rfl
    · rw [List.length_append, HP.out, HP2.out]; exact HO4.out.base (by have := Hs.out; omega)
  · go_wp2_with fail
    refine (Var.refTurn_any w2 mv (by omega) (by omega)).mono ?_
    rintro e w3 ⟨rfl, rfl⟩
    rw [← Htn.out]
    go_wp2_with fail
    refine (Var.refPut_any w2 tn Htl.out).mono ?_
    rintro e w3 ⟨A3, c3, rfl, ho3, hf3⟩
    obtain ⟨P2, hP2⟩ : ∃ P2, (Var.putV tn).length = P2 := ⟨_, rfl⟩
    have hP25 : P2 ≤ 5 := by rw [← hP2]; exact Var.putV_le5 Htl.out
    have HP2 := Lib.hid hP2
    rw [hP2] at ho3 ⊢
    have HO3 := Lib.hid ho3
    have HO2' := Lib.hid (HO2.out.fr hf3 (by simp))
    have HF3 := Lib.hid (HF2.out.tr hf3)
    have HNc := Lib.hid (Ref.own_nilcap ho3)
    have hs3 : w1.heap.size ≤ w3.heap.size := Nat.le_trans hs2 hf3.size
    clear ho3 hf3 hP2
    go_wp2_with (at_builtin; refine wpList_appN _ rfl (.tmp 24) (.tmp 28) 23 rfl w1.heap.size i0 Try.underlying23 hi hz0 hz1 hz2 (.slice A2 P c2) (Var.putV u) P HP.out rfl HO2'.out A3 P2 c3 (Var.putV tn) rfl HP2.out HO3.out.rd HNc.out (by omega) hs3 ?_)
    intro A4 c4 w4 ho4 hf4 _
    have HO4 := Lib.hid ho4
    have HF4 : Hid (Fr [] w w4) := Lib.hid (HF3.out.trans hf4 (by intro i hi; exact .inr (by have := (HO2'.out.lt i (by simpa using hi)).1; have := Hs.out; omega)))
    clear ho4 hf4
    go_wp2
    go_ret
    rw [HB2.out (by omega)]
    refine ⟨A4, c4, ?_, ?_, HF4.out⟩
    · rw [List.length_append, HP.out, HP2.out]; rfl
    · rw [List.length_append, HP.out, HP2.out]; exact HO4.out.base (by have := Hs.out; omega)

end Bps
end Go.Proofs.Ytkefckoffnlkcaa
