/-
  picklocklaw14.MosPlays returns true for every input. Condition: the program's Step, Interrupt and Reset do what the account says.
-/
import Derived.Test.YtlnpadekgakghaaDoorMkShown
import Derived.Test.YtlnpadekgakghaaDoorMkEq
import Derived.Deep.MidRow
namespace Go.Proofs.YtlnpadekgakghaaDoor
open Go.RowKit
namespace Ms
open Al (byte of_byte)
set_option linter.unusedVariables false

theorem sizeA : (Tryd.prog.info? 35).map (·.size) = some 65536 := by kernel_rfl
theorem Both.ref_after {w w' : World} {B p f q : Nat} {v u : Value} {S : S14} (h : Both w B p f q v u S) (hf : Fr (pfoot p f v) w w') : RefAt w' B q u S := h.ref.fr hf (fun k hk hm => h.disj k hm hk)
theorem Both.ge {w : World} {B p f q : Nat} {v u : Value} {S : S14} (h : Both w B p f q v u S) (hp : B ≤ p) (hf : B ≤ f) (hq : B ≤ q) : ∀ k ∈ bfoot p f q v u, B ≤ k := by
  intro k hk
  simp only [bfoot, pfoot, foot, List.mem_append, List.mem_cons, Option.mem_toList] at hk
  rcases hk with (rfl | rfl | hk) | rfl | hk
  · exact hp
  · exact hf
  · exact (h.prog.row.lt k hk).1
  · exact hq
  · exact (h.ref.2.lt k hk).1
theorem vec_u16 (x : Int) (h : 0 ≤ x ∧ x < 65536 := by decide) : u16 x := h
theorem quiet_load {P : Program} {C : World → Prop} {a : Act} {o : Oper} {K : Act → Prop} (ty : TypeId) (x : Operand) (ho : o.op = .load ty x) (v : Value) (hx : ∀ w, C w → (Instr.loadAt ty (a.eval x)).run P w = .ok v w) (hk : K (a.put o.dst v)) : o.quiet P a C K :=
  ⟨v, fun w hw => by
    unfold Oper.quietAt execOp
    simp only [ho, Sem.run_bind, hx w hw, Result.andThen_ok, Sem.run_pure]
    exact ⟨rfl, rfl⟩, hk⟩
theorem and7 (v : Int) (h : byte v) : bits .and .u8 v 7 = v % 8 := of_byte (fun v => bits .and .u8 v 7 = v % 8) (by decide +kernel) v h
/-- The bytes of both machines, loaded whole. -/
theorem both_mem {w : World} {B p f q : Nat} {v u : Value} {S : S14} (h : Both w B p f q v u S) :
    ∃ C : Array Value, (∀ i, i < 65536 → C[i]? = some (.int .u8 (S.b.m (i : Int)))) ∧
      (∀ k, (Instr.loadAt 35 (.pointer (some ⟨f, 0, none⟩))).run Tryd.prog (w.drewN k) = .ok (.agg C) (w.drewN k)) ∧
      (∀ k, (Instr.loadAt 35 (.pointer (some ⟨q, 7, none⟩))).run Tryd.prog (w.drewN k) = .ok (.agg C) (w.drewN k)) := by
  have hget : ∀ (j : Nat) (x : Value), ((List.range 65536).map fun (i : Nat) => Value.int .u8 (S.b.m (i : Int)))[j]? = some x → j < 65536 ∧ x = .int .u8 (S.b.m (j : Int)) := by
    intro j x hx
    rw [List.getElem?_map] at hx
    by_cases hj : j < 65536
    · rw [List.getElem?_range hj] at hx
      exact ⟨hj, by simpa using hx.symm⟩
    · rw [List.getElem?_eq_none (by simp; omega)] at hx
      simp at hx
  have hsz : (Tryd.prog.info? 35).map (·.size) = some ((List.range 65536).map fun (i : Nat) => Value.int .u8 (S.b.m (i : Int))).length := by
    rw [List.length_map, List.length_range]
    exact sizeA
  refine ⟨((List.range 65536).map fun (i : Nat) => Value.int .u8 (S.b.m (i : Int))).toArray, fun i hi => ?_, fun k => ?_, fun k => ?_⟩
  · rw [List.getElem?_toArray, List.getElem?_map, List.getElem?_range hi]
    rfl
  · refine run_loadAt_mid _ f 0 35 _ _ (fun j x hx => ?_) Tryd.underlying35 rfl hsz
    obtain ⟨hj, rfl⟩ := hget j x hx
    have := h.prog.flat.cell j (by omega)
    rw [Nat.zero_add]
    show w.cell? _ = _
    rw [this]
    unfold flatOf
    rw [if_pos hj]
  · refine run_loadAt_mid _ q 7 35 _ _ (fun j x hx => ?_) Tryd.underlying35 rfl hsz
    obtain ⟨hj, rfl⟩ := hget j x hx
    have := h.ref.cell (7 + j) (by omega)
    show w.cell? _ = _
    rw [this]
    unfold cellOf
    repeat rw [if_neg (by omega)]
    rw [if_pos (by omega), show ((7 + j : Nat) : Int) - 7 = (j : Int) by omega]

set_option maxRecDepth 100000 in
set_option maxHeartbeats 8000000 in
theorem plays_walk (hS : StepC) (hI : IntC) (hR : ResetC) (a x y s p pc fl0 : Int) (A : Option Addr) (n c : Nat) (zs : List (Int × Int)) (A2 : Option Addr) (c2 : Nat) (l2 : List UInt8) (w : World) (hT : Tab w)
    (ha : byte a) (hx : byte x) (hy : byte y) (hs : byte s) (hp : byte p) (hpc : u16 pc) (hf : byte fl0) (hl : zs.length = n) (hz : Pk.PkRd w A zs) (hzb : ∀ z ∈ zs, u16 z.1 ∧ byte z.2) (hnc : n ≤ c) (hcm : c ≤ maxLen) (hr2 : Rd w A2 l2) (hlc2 : l2.length ≤ c2) (hcm2 : c2 ≤ maxLen) :
    Calls Tryd.prog 4 #[.agg #[.int .u8 a, .int .u8 x, .int .u8 y, .int .u8 s, .int .u8 p, .int .u16 pc], .agg #[.int .u8 fl0, .slice A n c], .slice A2 l2.length c2] w fun e w' => e = .returned (.bool true) ∧ Below w.heap.size w w' := by
  have HTab : Hid (∀ w', Fr [] w w' → Tab w') := Lib.hid fun _ h => hT.later h
  have HTps := Lib.hid hT.pos
  clear hT
  obtain ⟨g, hg⟩ : ∃ g, w.heap.size = g := ⟨_, rfl⟩
  obtain ⟨L, hL⟩ : ∃ L, l2.length = L := ⟨_, rfl⟩
  have hb0 := Blk.fresh w 24 #[.int .u8 a, .int .u8 x, .int .u8 y, .int .u8 s, .int .u8 p, .int .u16 pc]
  have hb1 := Blk.fresh (w.alloc (.cells #[.int .u8 a, .int .u8 x, .int .u8 y, .int .u8 s, .int .u8 p, .int .u16 pc] 24)) 28 #[.int .u8 fl0, .slice A n c]
  have hal : Fr [] (w.alloc (.cells #[.int .u8 a, .int .u8 x, .int .u8 y, .int .u8 s, .int .u8 p, .int .u16 pc] 24)) ((w.alloc (.cells #[.int .u8 a, .int .u8 x, .int .u8 y, .int .u8 s, .int .u8 p, .int .u16 pc] 24)).alloc (.cells #[.int .u8 fl0, .slice A n c] 28)) := (Fr.refl [] _).alloc _
  have hal0 : Fr [] w (w.alloc (.cells #[.int .u8 a, .int .u8 x, .int .u8 y, .int .u8 s, .int .u8 p, .int .u16 pc] 24)) := (Fr.refl [] _).alloc _
  have hs1 : (w.alloc (.cells #[.int .u8 a, .int .u8 x, .int .u8 y, .int .u8 s, .int .u8 p, .int .u16 pc] 24)).heap.size = g + 1 := by simp [hg]
  rw [hg] at hb0
  rw [hs1] at hb1
  have HB0 := Lib.hid (hb0.fr hal (by simp))
  have HB1 := Lib.hid hb1
  have HF0 : Hid (Fr [] w ((w.alloc (.cells #[.int .u8 a, .int .u8 x, .int .u8 y, .int .u8 s, .int .u8 p, .int .u16 pc] 24)).alloc (.cells #[.int .u8 fl0, .slice A n c] 28))) := Lib.hid (hal0.tr hal)
  have HZ := Lib.hid hz
  have HZL := Lib.hid hl
  have HZB := Lib.hid hzb
  have HRd := Lib.hid hr2
  have HLL := Lib.hid hL
  have HS := Lib.hid hS
  have HI := Lib.hid hI
  have HRs := Lib.hid hR
  have HA := Lib.hid ha
  have HX := Lib.hid hx
  have HY := Lib.hid hy
  have HSs := Lib.hid hs
  have HP := Lib.hid hp
  have HPC := Lib.hid hpc
  have HFl := Lib.hid hf
  have HNC := Lib.hid hnc
  have HCM := Lib.hid hcm
  rw [hL] at hlc2 ⊢
  have hLm : L ≤ 9223372036854775807 := by unfold maxLen at hcm2; omega
  clear hb0 hb1 hal hal0 hs1 hz hl hzb hr2 hL hS hI hR ha hx hy hs hp hpc hf hnc hcm hcm2
  go_enter Tryd.func4, Tryd.ntmps4
  go_upto_region 1 with fail
  clear hg
  generalize (w.alloc _).alloc _ = w0 at *
  go_wp2_with fail
  (with_reducible refine (shown14 HS.out w0 (HTab.out w0 HF0.out)).mono ?_)
  rintro e w1 ⟨rfl, hf1⟩
  have HF1 : Hid (Fr [] w w1) := Lib.hid (HF0.out.tr hf1)
  have hb0 := HB0.out.fr hf1 (by simp)
  have hb1 := HB1.out.fr hf1 (by simp)
  have c0 := hb0.cell 0
  have c1 := hb0.cell 1
  have c2' := hb0.cell 2
  have c3 := hb0.cell 3
  have c4 := hb0.cell 4
  have c5 := hb0.cell 5
  have d0 := hb1.cell 0
  have d1 := hb1.cell 1
  simp at c0 c1 c2' c3 c4 c5 d0 d1
  clear hf1 hb0 hb1 HB0 HB1 HF0
  go_wp2_with fail
  (with_reducible refine (made_any w1 w.heap.size a x y s p pc fl0 A n c zs HZL.out (HZ.out.later HF1.out (by simp)) HZB.out HNC.out HCM.out HF1.out.size (HTab.out w1 HF1.out) HTps.out HP.out HFl.out).mono ?_)
  rintro e w2 ⟨pp, f, q, m, rfl, hbo, hmb, hf2, hg1, hg2, hg3⟩
  have HBo := Lib.hid hbo
  have HF2 : Hid (Fr [] w w2) := Lib.hid (HF1.out.tr hf2)
  have HOk0 : Hid (Ok 0 (⟨a, x, y, s, noBU p, pc, false, ⟨m, []⟩⟩ : S14)) := Lib.hid (Ok.mk' HA.out HX.out HY.out HSs.out (fl_noBU p HP.out) HPC.out ⟨hmb, by simp, Nat.le_refl _⟩)
  have HG1 : Hid (w.heap.size ≤ pp) := Lib.hid (Nat.le_trans HF1.out.size hg1)
  have HG2 : Hid (w.heap.size ≤ f) := Lib.hid (Nat.le_trans HF1.out.size hg2)
  have HG3 : Hid (w.heap.size ≤ q) := Lib.hid (Nat.le_trans HF1.out.size hg3)
  clear hbo hmb hf2 hg1 hg2 hg3 c0 c1 c2' c3 c4 c5 d0 d1 HF1
  go_wp2_with fail
  go_loopw [11] (fun s11 wr => ∃ (i : Nat) (v u : Value) (S : S14), s11 = .int .i64 (i : Int) ∧ i ≤ L ∧ i ≤ 60 ∧ Both wr w.heap.size pp f q v u S ∧ Ok (3 * i) S ∧ Fr [] w wr) (fun s11 _ => L - (intOf s11).toNat)
  case atStart => exact ⟨0, nil0, nil0, _, rfl, Nat.zero_le _, Nat.zero_le _, HBo.out, HOk0.out, HF2.out⟩
  case round =>
    clear HBo HOk0 HF2
    obtain ⟨i, v, u, S, rfl, hi, hi60, hb, hok, hfr⟩ := hrel
    have HBr := Lib.hid hb
    have HOr := Lib.hid hok
    have HFr := Lib.hid hfr
    clear hb hok hfr
    have hi0 : (0 : Int) ≤ i := by omega
    rcases (show (i < L ∧ i < 60) ∨ (¬ i < L) ∨ (i < L ∧ ¬ i < 60) by omega) with ⟨h1, h2⟩ | h1 | ⟨h1, h2⟩
    · have h1' : (i : Int) < L := by omega
      have h2' : (i : Int) < 60 := by omega
      obtain ⟨ab, ao, rfl, hcs⟩ := (HRd.out.later HFr.out (by simp)) (by rw [HLL.out]; omega)
      have q0 := hcs i (by rw [HLL.out]; exact h1)
      have hby : byte (l2[i]'(by rw [HLL.out]; exact h1)).toNat := ⟨by omega, by have := (l2[i]'(by rw [HLL.out]; exact h1)).toNat_lt; omega⟩
      generalize ((l2[i]'(by rw [HLL.out]; exact h1)).toNat : Int) = Y at *
      have h7 := and7 Y hby
      obtain ⟨k, hk⟩ : ∃ k, Y % 8 = k := ⟨_, rfl⟩
      rw [hk] at h7
      have k0 : 0 ≤ k := by omega
      have k8 : k < 8 := by omega
      obtain ⟨y0, y1⟩ := hby
      have HI2 := Lib.hid h1
      have HI60 := Lib.hid h2
      have HNn : Hid (3 * i + 10 < 1000000000) := Lib.hid (by omega)
      clear hcs hk
      rcases (show k = 5 ∨ k = 6 ∨ k = 7 ∨ (¬ k = 5 ∧ ¬ k = 6 ∧ ¬ k = 7) by omega) with rfl | rfl | rfl | ⟨n5, n6, n7⟩
      · clear k0 k8
        go_wp2_with fail
        (with_reducible refine (HI.out wr w.heap.size pp f v S (3 * i) 65530 HBr.out.prog HOr.out HNn.out HFr.out.size (vec_u16 65530)).mono ?_)
        intro e w3 hd
        obtain ⟨rfl, v3, hp3, hf3, hl3⟩ := hd
        have HPd : Hid (PDone wr w.heap.size pp f v (interrupt S 65530) (.int .i64 (interruptN S)) (.returned (.int .i64 (interruptN S))) w3) := Lib.hid ⟨rfl, v3, hp3, hf3, hl3⟩
        have HRr := Lib.hid (HBr.out.ref_after hf3)
        have HSz : Hid (w.heap.size ≤ w3.heap.size) := Lib.hid (Nat.le_trans HFr.out.size hf3.size)
        clear hp3 hf3 hl3
        go_wp2_with fail
        (with_reducible refine (rinterrupt_any w3 w.heap.size q u S (3 * i) 65530 HRr.out HOr.out (by have := HNn.out; omega) (vec_u16 65530) HSz.out).mono ?_)
        intro e w4 hd
        obtain ⟨-, rfl, v4, u4, hb4, hf4, -⟩ := Both.step HBr.out HPd.out hd
        have HB4 := Lib.hid hb4
        have HF4 : Hid (Fr [] w w4) := Lib.hid (HFr.out.trans hf4 (fun j hj => .inr (HBr.out.ge HG1.out HG2.out HG3.out j hj)))
        have HOk4 : Hid (Ok (3 * (i + 1)) (interrupt S 65530)) := Lib.hid (ok_interrupt _ HOr.out)
        have HNN : Hid (3 * (i + 1) < 1000000000) := Lib.hid (by have := HI60.out; omega)
        clear hd hb4 hf4 HPd HRr HSz
        generalize interruptN S = NN at *
        generalize interrupt S 65530 = T4 at *
        go_wp2_with fail
        (with_reducible refine (same_any w4 w.heap.size pp f q v4 u4 T4 (3 * (i + 1)) HB4.out HOk4.out HNN.out).mono ?_)
        rintro e w5 ⟨rfl, kk, rfl⟩
        have HB5 := Lib.hid (HB4.out.fr ((Fr.refl [] w4).drewN kk) (by simp))
        have HF5 : Hid (Fr [] w (w4.drewN kk)) := Lib.hid (HF4.out.drewN kk)
        clear HB4 HF4
        generalize w4.drewN kk = w5 at *
        go_wp2
        go_roundw
        case rel => exact ⟨i + 1, v4, u4, T4, by go_num, by have := HI2.out; omega, by have := HI60.out; omega, HB5.out, HOk4.out, HF5.out⟩
        case measure => simp [intOf]; have := HI2.out; omega
      · clear k0 k8
        go_wp2_with fail
        (with_reducible refine (HI.out wr w.heap.size pp f v S (3 * i) 65534 HBr.out.prog HOr.out HNn.out HFr.out.size (vec_u16 65534)).mono ?_)
        intro e w3 hd
        obtain ⟨rfl, v3, hp3, hf3, hl3⟩ := hd
        have HPd : Hid (PDone wr w.heap.size pp f v (interrupt S 65534) (.int .i64 (interruptN S)) (.returned (.int .i64 (interruptN S))) w3) := Lib.hid ⟨rfl, v3, hp3, hf3, hl3⟩
        have HRr := Lib.hid (HBr.out.ref_after hf3)
        have HSz : Hid (w.heap.size ≤ w3.heap.size) := Lib.hid (Nat.le_trans HFr.out.size hf3.size)
        clear hp3 hf3 hl3
        go_wp2_with fail
        (with_reducible refine (rinterrupt_any w3 w.heap.size q u S (3 * i) 65534 HRr.out HOr.out (by have := HNn.out; omega) (vec_u16 65534) HSz.out).mono ?_)
        intro e w4 hd
        obtain ⟨-, rfl, v4, u4, hb4, hf4, -⟩ := Both.step HBr.out HPd.out hd
        have HB4 := Lib.hid hb4
        have HF4 : Hid (Fr [] w w4) := Lib.hid (HFr.out.trans hf4 (fun j hj => .inr (HBr.out.ge HG1.out HG2.out HG3.out j hj)))
        have HOk4 : Hid (Ok (3 * (i + 1)) (interrupt S 65534)) := Lib.hid (ok_interrupt _ HOr.out)
        have HNN : Hid (3 * (i + 1) < 1000000000) := Lib.hid (by have := HI60.out; omega)
        clear hd hb4 hf4 HPd HRr HSz
        generalize interruptN S = NN at *
        generalize interrupt S 65534 = T4 at *
        go_wp2_with fail
        (with_reducible refine (same_any w4 w.heap.size pp f q v4 u4 T4 (3 * (i + 1)) HB4.out HOk4.out HNN.out).mono ?_)
        rintro e w5 ⟨rfl, kk, rfl⟩
        have HB5 := Lib.hid (HB4.out.fr ((Fr.refl [] w4).drewN kk) (by simp))
        have HF5 : Hid (Fr [] w (w4.drewN kk)) := Lib.hid (HF4.out.drewN kk)
        clear HB4 HF4
        generalize w4.drewN kk = w5 at *
        go_wp2
        go_roundw
        case rel => exact ⟨i + 1, v4, u4, T4, by go_num, by have := HI2.out; omega, by have := HI60.out; omega, HB5.out, HOk4.out, HF5.out⟩
        case measure => simp [intOf]; have := HI2.out; omega
      · clear k0 k8
        go_wp2_with fail
        (with_reducible refine (HRs.out wr w.heap.size pp f v S (3 * i) HBr.out.prog HOr.out HNn.out HFr.out.size).mono ?_)
        intro e w3 hd
        obtain ⟨rfl, v3, hp3, hf3, hl3⟩ := hd
        have HPd : Hid (PDone wr w.heap.size pp f v (reset S) (.int .i64 (7)) (.returned (.int .i64 (7))) w3) := Lib.hid ⟨rfl, v3, hp3, hf3, hl3⟩
        have HRr := Lib.hid (HBr.out.ref_after hf3)
        have HSz : Hid (w.heap.size ≤ w3.heap.size) := Lib.hid (Nat.le_trans HFr.out.size hf3.size)
        clear hp3 hf3 hl3
        go_wp2_with fail
        (with_reducible refine (rreset_any w3 w.heap.size q u S (3 * i) HRr.out HOr.out (by have := HNn.out; omega) HSz.out).mono ?_)
        intro e w4 hd
        obtain ⟨-, rfl, v4, u4, hb4, hf4, -⟩ := Both.step HBr.out HPd.out hd
        have HB4 := Lib.hid hb4
        have HF4 : Hid (Fr [] w w4) := Lib.hid (HFr.out.trans hf4 (fun j hj => .inr (HBr.out.ge HG1.out HG2.out HG3.out j hj)))
        have HOk4 : Hid (Ok (3 * (i + 1)) (reset S)) := Lib.hid ((ok_reset HOr.out).up (by omega))
        have HNN : Hid (3 * (i + 1) < 1000000000) := Lib.hid (by have := HI60.out; omega)
        clear hd hb4 hf4 HPd HRr HSz
        generalize reset S = T4 at *
        go_wp2_with fail
        (with_reducible refine (same_any w4 w.heap.size pp f q v4 u4 T4 (3 * (i + 1)) HB4.out HOk4.out HNN.out).mono ?_)
        rintro e w5 ⟨rfl, kk, rfl⟩
        have HB5 := Lib.hid (HB4.out.fr ((Fr.refl [] w4).drewN kk) (by simp))
        have HF5 : Hid (Fr [] w (w4.drewN kk)) := Lib.hid (HF4.out.drewN kk)
        clear HB4 HF4
        generalize w4.drewN kk = w5 at *
        go_wp2
        go_roundw
        case rel => exact ⟨i + 1, v4, u4, T4, by go_num, by have := HI2.out; omega, by have := HI60.out; omega, HB5.out, HOk4.out, HF5.out⟩
        case measure => simp [intOf]; have := HI2.out; omega
      · have e5 : (k == 5) = false := by rw [beq_eq_false_iff_ne]; exact n5
        have e6 : (k == 6) = false := by rw [beq_eq_false_iff_ne]; exact n6
        have e7 : (k == 7) = false := by rw [beq_eq_false_iff_ne]; exact n7
        go_wp2_with fail
        (with_reducible refine (HS.out wr w.heap.size pp f v S (3 * i) HBr.out.prog HOr.out HNn.out HFr.out.size).mono ?_)
        intro e w3 hd
        obtain ⟨rfl, v3, hp3, hf3, hl3⟩ := hd
        have HPd : Hid (PDone wr w.heap.size pp f v (step S) (.int .i64 (stepN S)) (.returned (.int .i64 (stepN S))) w3) := Lib.hid ⟨rfl, v3, hp3, hf3, hl3⟩
        have HRr := Lib.hid (HBr.out.ref_after hf3)
        have HSz : Hid (w.heap.size ≤ w3.heap.size) := Lib.hid (Nat.le_trans HFr.out.size hf3.size)
        clear hp3 hf3 hl3
        go_wp2_with fail
        (with_reducible refine (rstep_any w3 w.heap.size q u S (3 * i) HRr.out HOr.out (by have := HNn.out; omega) HSz.out).mono ?_)
        intro e w4 hd
        obtain ⟨-, rfl, v4, u4, hb4, hf4, -⟩ := Both.step HBr.out HPd.out hd
        have HB4 := Lib.hid hb4
        have HF4 : Hid (Fr [] w w4) := Lib.hid (HFr.out.trans hf4 (fun j hj => .inr (HBr.out.ge HG1.out HG2.out HG3.out j hj)))
        have HOk4 : Hid (Ok (3 * (i + 1)) (step S)) := Lib.hid (ok_step HOr.out)
        have HNN : Hid (3 * (i + 1) < 1000000000) := Lib.hid (by have := HI60.out; omega)
        clear hd hb4 hf4 HPd HRr HSz
        generalize stepN S = NN at *
        generalize step S = T4 at *
        go_wp2_with fail
        (with_reducible refine (same_any w4 w.heap.size pp f q v4 u4 T4 (3 * (i + 1)) HB4.out HOk4.out HNN.out).mono ?_)
        rintro e w5 ⟨rfl, kk, rfl⟩
        have HB5 := Lib.hid (HB4.out.fr ((Fr.refl [] w4).drewN kk) (by simp))
        have HF5 : Hid (Fr [] w (w4.drewN kk)) := Lib.hid (HF4.out.drewN kk)
        clear HB4 HF4
        generalize w4.drewN kk = w5 at *
        go_wp2
        go_roundw
        case rel => exact ⟨i + 1, v4, u4, T4, by go_num, by have := HI2.out; omega, by have := HI60.out; omega, HB5.out, HOk4.out, HF5.out⟩
        case measure => simp [intOf]; have := HI2.out; omega
    all_goals
      obtain ⟨w6, rfl⟩ : ∃ x, x = wr := ⟨_, rfl⟩
      obtain ⟨C, hC, hl1, hl2⟩ := both_mem HBr.out
      have hgd := guardA
      have heq : ∀ W, (Op.equalIn 10000 35 (.agg C) (.agg C)).run Tryd.prog W = .ok true W := eqA C C (fun i => S.b.m (i : Int)) hC hC
      clear hC
      go_upto_region 22 with fail
      refine wp_region_quiet_lit (by kernel_rfl) (by kernel_rfl) ?_
      iterate 5 (quiet_step (fail))
      refine Go.BigFrame.wpQuiet_want rfl (fun K hK => quiet_load 35 _ rfl (.agg C) (fun w hw => ?_) (hK _ ?_))
      · obtain ⟨k, rfl⟩ := hw
        exact hl1 k
      clear hK K
      iterate 3 (quiet_step (fail))
      refine Go.BigFrame.wpQuiet_want rfl (fun K hK => quiet_load 35 _ rfl (.agg C) (fun w hw => ?_) (hK _ ?_))
      · obtain ⟨k, rfl⟩ := hw
        exact hl2 k
      clear hK K hl1 hl2
      repeat (quiet_step (fail))
      refine wpQuiet_nil ?_
      intro _ hw'
      obtain ⟨nq, hw''⟩ := hw'
      subst hw''
      go_wp2
      go_ret
      exact ⟨rfl, (HFr.out.drewN _).below (by simp) (Nat.le_refl _)⟩

end Ms
end Go.Proofs.YtlnpadekgakghaaDoor
