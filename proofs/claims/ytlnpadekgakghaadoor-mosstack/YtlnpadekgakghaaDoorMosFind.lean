/-
  The program's table of opcodes: what sort.Search finds in it, and a row of it. Conditions: the table holds its words, the opcode is a byte.
-/
import Derived.Test.YtlnpadekgakghaaDoorMosWords
namespace Go.Proofs.YtlnpadekgakghaaDoor
open Go.RowKit
namespace Ms
open Al (byte of_byte)
set_option linter.unusedVariables false

theorem row_bits : ∀ r : Fin 151, bits .and .u32 (wd r : Nat) 65280 = (doesN r : Nat) ∧ bits .and .u32 (wd r : Nat) 240 = (modeN r : Nat) ∧ bits .and .u32 (wd r : Nat) 15 = (cycN r : Nat) ∧ ((wd r : Nat) : Int) / 65536 = (keyN r : Nat) ∧ wd r < 4294967296 := by decide +kernel

set_option maxRecDepth 100000 in
set_option maxHeartbeats 1000000 in
theorem there_any (w : World) (k op i : Nat) (ho : op < 256) (hi : i < 151) (hT : Tab w) (hk : w.cell? ⟨k, 0, none⟩ = some (.int .u8 op)) :
    Calls Tryd.prog 33 (#[.int .i64 i] ++ #[.pointer (some ⟨k, 0, none⟩)]) w fun e w' => e = .returned (.bool (decide (op ≤ keyN i))) ∧ Fr [] w w' := by
  have hc := hT i hi
  obtain ⟨-, -, -, h4, h5⟩ := row_bits ⟨i, hi⟩
  simp only at h4 h5
  have HW := Lib.hid h4
  have hle : (decide (op ≤ keyN i)) = decide ((op : Int) ≤ ((keyN i : Nat) : Int)) := by simp
  rw [hle]
  clear hT hle
  have i0 : (0 : Int) ≤ i := by omega
  have i1 : (i : Int) < 151 := by omega
  have o0 : (0 : Int) ≤ op := by omega
  have o1 : (op : Int) < 256 := by omega
  have wo : IntKind.u32.wrap op = op := by rw [IntKind.wrap_u32]; omega
  generalize ((keyN i : Nat) : Int) = K at *
  generalize hop : (op : Int) = O at *
  generalize hW : ((wd i : Nat) : Int) = Wd at *
  have it : ((i : Int)).toNat = i := by omega
  go_enter Tryd.func33, Tryd.ntmps33
  go_upto_region 1 with fail
  go_region
  all_goals go_wp2
  all_goals go_ret
  all_goals exact ⟨by first | rfl | simp, (Fr.refl [] w).drew⟩

set_option maxRecDepth 100000 in
set_option maxHeartbeats 1000000 in
theorem search_any (w : World) (k op : Nat) (ho : op < 256) (hT : Tab w) (hk : w.cell? ⟨k, 0, none⟩ = some (.int .u8 op)) :
    Calls Tryd.prog 32 #[.int .i64 151, .func (.func 33) #[] #[.pointer (some ⟨k, 0, none⟩)]] w fun e w' => ∃ r : Nat, e = .returned (.int .i64 r) ∧ Found op r ∧ Fr [] w w' := by
  have HT := Lib.hid hT
  have HK := Lib.hid hk
  have HO := Lib.hid ho
  clear hT hk ho
  go_enter Tryd.func32, Tryd.ntmps32
  go_wp2
  go_loopg [5, 6] 151 (fun kx s5 s6 wr => ∃ lo hi : Nat, s5 = .int .i64 lo ∧ s6 = .int .i64 hi ∧ lo ≤ hi ∧ hi ≤ 151 ∧ hi - lo ≤ kx ∧ Hid ((lo = 0 ∨ keyN (lo - 1) < op) ∧ (hi = 151 ∨ op ≤ keyN hi)) ∧ Hid (Fr [] w wr))
  case atStart => exact ⟨0, 151, rfl, rfl, by omega, by omega, by omega, Lib.hid ⟨.inl rfl, .inl rfl⟩, Lib.hid (Fr.refl [] w)⟩
  case round =>
    obtain ⟨lo, hi, rfl, rfl, hlh, hin, hg, I, F⟩ := hrel
    by_cases hlt : lo < hi
    · have hc := there_any wr k op ((lo + hi) / 2) HO.out (by omega) (HT.out.later F.out) (F.out.cell HK.out (by simp))
      rw [show (((lo + hi) / 2 : Nat) : Int) = ((lo : Int) + (hi : Int)) / 2 by omega] at hc
      obtain ⟨bb, hbb⟩ : ∃ z, decide (op ≤ keyN ((lo + hi) / 2)) = z := ⟨_, rfl⟩
      have HBB := Lib.hid hbb
      rw [hbb] at hc
      clear hbb
      have HC := Lib.hid hc
      clear hc
      cases bb
      · go_wp2_with fail
        refine HC.out.mono ?_
        rintro e w' ⟨rfl, hf⟩
        have HF := Lib.hid (F.out.tr hf)
        clear hf
        go_wp2
        go_roundg (hi - ((lo + hi) / 2 + 1))
        case measure => omega
        case rel =>
          have hd := of_decide_eq_false HBB.out
          exact ⟨(lo + hi) / 2 + 1, hi, by rw [show ((lo : Int) + (hi : Int)) / 2 + 1 = (((lo + hi) / 2 + 1 : Nat) : Int) by omega], rfl, by omega, hin, Nat.le_refl _, Lib.hid ⟨.inr (by simpa using hd), I.out.2⟩, HF⟩
      · go_wp2_with fail
        refine HC.out.mono ?_
        rintro e w' ⟨rfl, hf⟩
        have HF := Lib.hid (F.out.tr hf)
        clear hf
        go_wp2
        go_roundg ((lo + hi) / 2 - lo)
        case measure => omega
        case rel =>
          have hd := of_decide_eq_true HBB.out
          exact ⟨lo, (lo + hi) / 2, rfl, by rw [show ((lo : Int) + (hi : Int)) / 2 = (((lo + hi) / 2 : Nat) : Int) by omega], by omega, by omega, Nat.le_refl _, Lib.hid ⟨I.out.1, .inr hd⟩, HF⟩
    · obtain rfl : hi = lo := by omega
      go_wp2
      go_ret
      exact ⟨hi, rfl, ⟨hin, I.out.1, I.out.2⟩, F.out⟩

theorem infoRow : (Tryd.prog.info? 65).map (·.size) = some 3 := by kernel_rfl
/-- What rowOf leaves: a row, or none. -/
def Rowed (w : World) (op : Nat) (e : Ending) (w' : World) : Prop :=
  Fr [] w w' ∧ ∃ r, Found op r ∧ ((r < 151 ∧ keyN r = op ∧ e = .returned (.tuple #[.agg #[.int .u32 (doesN r : Nat), .int .u32 (modeN r : Nat), .int .i64 (cycN r : Nat)], .bool true])) ∨ ((r = 151 ∨ (r < 151 ∧ keyN r ≠ op)) ∧ e = .returned (.tuple #[.agg #[.int .u32 0, .int .u32 0, .int .i64 0], .bool false])))

set_option maxRecDepth 100000 in
set_option maxHeartbeats 1000000 in
theorem rowOf_any (w : World) (op : Nat) (ho : op < 256) (hT : Tab w) :
    Calls Tryd.prog 21 #[.int .u8 op] w (Rowed w op) := by
  have HT := Lib.hid hT
  have HO := Lib.hid ho
  have o0 : (0 : Int) ≤ op := by omega
  have o1 : (op : Int) < 256 := by omega
  have wo : IntKind.u32.wrap op = op := by rw [IntKind.wrap_u32]; omega
  obtain ⟨k, hk⟩ : ∃ k, w.heap.size = k := ⟨_, rfl⟩
  obtain ⟨j, hj⟩ : ∃ j, k + 1 = j := ⟨_, rfl⟩
  have h1 : Blk (w.alloc (.cells #[.int .u8 op] 5)) k 5 #[.int .u8 op] := by rw [← hk]; exact Blk.fresh _ _ _
  have HB0 : Hid (Blk ((w.alloc (.cells #[.int .u8 op] 5)).alloc (.cells #[.int .u32 0, .int .u32 0, .int .i64 0] 65)) k 5 #[.int .u8 op]) := Lib.hid (h1.fr ((Fr.refl [] _).alloc _) (by simp))
  have HJ0 : Hid (Blk ((w.alloc (.cells #[.int .u8 op] 5)).alloc (.cells #[.int .u32 0, .int .u32 0, .int .i64 0] 65)) j 65 #[.int .u32 0, .int .u32 0, .int .i64 0]) := Lib.hid (by
    have h2 := Blk.fresh (w.alloc (.cells #[.int .u8 op] 5)) 65 #[.int .u32 0, .int .u32 0, .int .i64 0]
    rwa [show (w.alloc (.cells #[.int .u8 op] 5)).heap.size = j by simp; omega] at h2)
  have HF0 : Hid (Fr [] w ((w.alloc (.cells #[.int .u8 op] 5)).alloc (.cells #[.int .u32 0, .int .u32 0, .int .i64 0] 65))) := Lib.hid (((Fr.refl [] w).alloc _).alloc _)
  have HGe : Hid (w.heap.size ≤ j) := Lib.hid (by omega)
  clear h1 hT ho
  go_enter Tryd.func21, Tryd.ntmps21
  go_upto_region 1 with fail
  clear hk hj
  generalize (w.alloc _).alloc _ = w1 at *
  go_wp2_with fail
  refine (search_any w1 k op HO.out (HT.out.later HF0.out) (HB0.out.cell 0)).mono ?_
  rintro e w2 ⟨r, rfl, hF, hf⟩
  have HFd := Lib.hid hF
  have HF2 := Lib.hid (HF0.out.tr hf)
  have HB2 := Lib.hid (HB0.out.fr hf (by simp))
  have HJ2 := Lib.hid (HJ0.out.fr hf (by simp))
  have HT2 := Lib.hid (HT.out.later HF2.out)
  clear hF hf HF0 HB0 HJ0
  have cb := HB2.out.cell 0
  have cj0 := HJ2.out.cell 0
  have cj1 := HJ2.out.cell 1
  have cj2 := HJ2.out.cell 2
  have fj0 := HJ2.out.frozen 0
  have fj1 := HJ2.out.frozen 1
  have fj2 := HJ2.out.frozen 2
  simp at cb cj0 cj1 cj2
  by_cases hr : r < 151
  · have hne : ((r : Int) == 151) = false := by simp; omega
    have r0 : (0 : Int) ≤ r := by omega
    have r1 : (r : Int) < 151 := by omega
    have hc := HT2.out r hr
    obtain ⟨h1, h2, h3, h4, h5⟩ := row_bits ⟨r, hr⟩
    simp only at h1 h2 h3 h4 h5
    by_cases hk : keyN r = op
    · have e1 : ((keyN r : Nat) : Int) = op := by omega
      rw [e1] at h4
      have d0 : (0 : Int) ≤ cycN r := by omega
      have d1 : ((cycN r : Nat) : Int) < 16 := by have := (row_isD r hr).2.2; omega
      have HE : Hid (Rowed w op (.returned (.tuple #[.agg #[.int .u32 (doesN r : Nat), .int .u32 (modeN r : Nat), .int .i64 (cycN r : Nat)], .bool true])) w2) := Lib.hid ⟨HF2.out, r, HFd.out, .inl ⟨hr, hk, rfl⟩⟩
      clear hk e1
      generalize ((wd r : Nat) : Int) = Wd at *
      go_upto_region 2 with fail
      go_quiet (fail)
      go_wp2
      have hb := HJ2.out.fr ((Fr.refl [] w2).drewN nq) (by simp)
      have hff := ((((HF2.out.drewN nq).setCell (p := ⟨j, 0, none⟩) (.inr HGe.out) (.int .u32 (doesN r : Nat))).setCell (p := ⟨j, 1, none⟩) (.inr HGe.out) (.int .u32 (modeN r : Nat))).setCell (p := ⟨j, 2, none⟩) (.inr HGe.out) (.int .i64 (cycN r : Nat)))
      have hbb : Blk _ j 65 #[.int .u32 (doesN r : Nat), .int .u32 (modeN r : Nat), .int .i64 (cycN r : Nat)] := ((hb.put 0 (.int .u32 (doesN r : Nat))).put 1 (.int .u32 (modeN r : Nat))).put 2 (.int .i64 (cycN r : Nat))
      obtain ⟨r', hr'⟩ := HE.out.2
      exact bodyPost_ret (v := .tuple #[.agg #[.int .u32 (doesN r : Nat), .int .u32 (modeN r : Nat), .int .i64 (cycN r : Nat)], .bool true]) (by
        have hv := run_loadVar_row (P := Tryd.prog) _ j 65 65 _ (0, 0) _ hbb Tryd.underlying65 rfl infoRow
        rw [results_cell_tmp (p := 2) (u := 3) (ty := 65) rfl]
        simp [asAddr, hv, Result.andThen]) rfl ⟨hff, r', hr'⟩
    · have e1 : ¬ ((keyN r : Nat) : Int) = op := by omega
      rw [← h4] at e1
      clear h1 h2 h3 h4 h5
      have HE : Hid (Rowed w op (.returned (.tuple #[.agg #[.int .u32 0, .int .u32 0, .int .i64 0], .bool false])) w2) := Lib.hid ⟨HF2.out, r, HFd.out, .inr ⟨.inr ⟨hr, hk⟩, rfl⟩⟩
      clear hk
      generalize ((wd r : Nat) : Int) = Wd at *
      have e2 : (Wd / 65536 == (op : Int)) = false := by simp; omega
      go_upto_region 2 with fail
      go_quiet (fail)
      go_wp2
      have hb := HJ2.out.fr ((Fr.refl [] w2).drewN nq) (by simp)
      have hff := ((((HF2.out.drewN nq).setCell (p := ⟨j, 0, none⟩) (.inr HGe.out) (.int .u32 0)).setCell (p := ⟨j, 1, none⟩) (.inr HGe.out) (.int .u32 0)).setCell (p := ⟨j, 2, none⟩) (.inr HGe.out) (.int .i64 0))
      have hbb : Blk _ j 65 #[.int .u32 0, .int .u32 0, .int .i64 0] := ((hb.put 0 (.int .u32 0)).put 1 (.int .u32 0)).put 2 (.int .i64 0)
      obtain ⟨r', hr'⟩ := HE.out.2
      exact bodyPost_ret (v := .tuple #[.agg #[.int .u32 0, .int .u32 0, .int .i64 0], .bool false]) (by
        have hv := run_loadVar_row (P := Tryd.prog) _ j 65 65 _ (0, 0) _ hbb Tryd.underlying65 rfl infoRow
        rw [results_cell_tmp (p := 2) (u := 3) (ty := 65) rfl]
        simp [asAddr, hv, Result.andThen]) rfl ⟨hff, r', hr'⟩
  · have hr2 : r = 151 := by have := HFd.out.1; omega
    subst hr2
    have HE : Hid (Rowed w op (.returned (.tuple #[.agg #[.int .u32 0, .int .u32 0, .int .i64 0], .bool false])) w2) := Lib.hid ⟨HF2.out, 151, HFd.out, .inr ⟨.inl rfl, rfl⟩⟩
    go_upto_region 2 with fail
    go_quiet (fail)
    go_wp2
    · skip
      have hb := HJ2.out.fr ((Fr.refl [] w2).drewN nq) (by simp)
      have hff := ((((HF2.out.drewN nq).setCell (p := ⟨j, 0, none⟩) (.inr HGe.out) (.int .u32 0)).setCell (p := ⟨j, 1, none⟩) (.inr HGe.out) (.int .u32 0)).setCell (p := ⟨j, 2, none⟩) (.inr HGe.out) (.int .i64 0))
      have hbb : Blk _ j 65 #[.int .u32 0, .int .u32 0, .int .i64 0] := ((hb.put 0 (.int .u32 0)).put 1 (.int .u32 0)).put 2 (.int .i64 0)
      obtain ⟨r', hr'⟩ := HE.out.2
      exact bodyPost_ret (v := .tuple #[.agg #[.int .u32 0, .int .u32 0, .int .i64 0], .bool false]) (by
        have hv := run_loadVar_row (P := Tryd.prog) _ j 65 65 _ (0, 0) _ hbb Tryd.underlying65 rfl infoRow
        rw [results_cell_tmp (p := 2) (u := 3) (ty := 65) rfl]
        simp [asAddr, hv, Result.andThen]) rfl ⟨hff, r', hr'⟩

end Ms
end Go.Proofs.YtlnpadekgakghaaDoor
