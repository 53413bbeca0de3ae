/-
  The program's Step, Interrupt and Reset do what the account says. Conditions: the state is one that there is, few bytes were written.
-/
import Derived.Test.YtlnpadekgakghaaDoorMosDo
import Derived.Test.YtlnpadekgakghaaDoorMosFind
import Derived.Test.YtlnpadekgakghaaDoorMosOper
import Derived.Test.YtlnpadekgakghaaDoorMkShown
namespace Go.Proofs.YtlnpadekgakghaaDoor
open Go.RowKit
namespace Ms
open Al (byte of_byte)
set_option linter.unusedVariables false

theorem isW32 : isW 32 := Or.inl rfl
theorem u16_fffc : u16 65532 := ⟨by omega, by omega⟩
section
variable {w w1 w2 : World} {B t q g : Nat} {v v2 : Value} {S T : S14} {R : Rg} {n : Nat}
/-- A step in a new block. -/
theorem StAt.new (H : ProgAt w B q g v S) (hs : w.heap.size = t) (R : Rg) : StAt (w.alloc (.cells (stC q g R) 70)) B t q g v S R := by
  subst hs
  refine ⟨H.fr ((Fr.refl [] w).alloc _) (by simp), Blk.fresh _ _ _, ?_⟩
  have := H.cpu.lt
  omega
theorem pdone_s (hf0 : Fr (pfoot q g v) w w1) (ht : w.heap.size ≤ t) (h : StAt w2 B t q g v2 T R) (hf : Fr (sfoot t q g v) w1 w2) (hl : Lies w1 v v2) (val : Value) : PDone w B q g v T val (.returned val) w2 := by
  refine ⟨rfl, v2, h.prog, hf0.trans hf ?_, (Lies.refl w v).trans hl hf0.size⟩
  intro i hi
  simp only [sfoot, List.mem_cons] at hi
  rcases hi with rfl | hi
  · exact .inr ht
  · exact .inl hi
theorem ok_withB {b : FB} (hO : Ok n S) (hb : Io.ok n b) : Ok n (withB S b) := Ok.mk' hO.a hO.x hO.y hO.s hO.pf hO.pc hb
theorem ok_oS (m : Int) (hO : Ok n S) : Ok n (oS m S) := by
  unfold oS
  split
  · exact hO
  split
  · exact ok_withPC _ hO (mod_u16 _)
  split
  · exact ok_next hO
  split
  · exact ok_word hO
  split
  · exact ok_withB (ok_word hO) (ok_word hO).b
  split
  · exact ok_withB (ok_next hO) (ok_next hO).b
  · exact ok_withB (ok_next hO) (ok_next hO).b
theorem oAt_u16 (m : Int) (hO : Ok n S) : u16 (oAt m S) := by
  unfold oAt
  split
  · exact ⟨by omega, by omega⟩
  split
  · exact hO.pc
  split
  · exact byte_u16 (nextV_byte hO)
  split
  · exact byte_u16 (mod_byte _)
  split
  · exact byte_u16 (mod_byte _)
  split
  · exact wordV_u16 hO
  split
  · exact mod_u16 _
  split
  · exact mod_u16 _
  split
  · exact pairV_u16 _ _ (ok_word hO).b
  split
  · exact pairV_u16 _ _ (ok_next hO).b
  split
  · exact mod_u16 _
  · exact mod_u16 _
theorem oN_bd (d m : Int) (S : S14) : 0 ≤ oN d m S ∧ oN d m S ≤ 1 := by
  unfold oN
  split <;> omega
end

set_option maxRecDepth 100000 in
set_option maxHeartbeats 1000000 in
theorem intC : IntC := by
  intro w B q g v S n i H hO hn hB hi
  have HI := Lib.hid hi
  have HO := Lib.hid hO
  have HN : Hid (n + 5 < 1000000000) := Lib.hid (by omega)
  obtain ⟨a, x, y, s, p, pc, h, b⟩ := S
  have HP := Lib.hid hO.pc
  obtain ⟨pc0, pc1⟩ : 0 ≤ pc ∧ pc < 65536 := hO.pc
  obtain ⟨i0, i1⟩ := hi
  obtain ⟨c0, c1, c2, c3, c4, c5, c6⟩ := H.regs
  simp only at c0 c1 c2 c3 c4 c5 c6
  clear c0 c1 c2 c3 c4
  cases h
  · obtain ⟨t, ht⟩ : ∃ t, w.heap.size = t := ⟨_, rfl⟩
    change Calls _ _ _ _ (PDone w B q g v (intS ⟨a, x, y, s, p, pc, false, b⟩ pc 32 i) (.int .i64 7))
    have HR0 := Lib.hid (StAt.new H ht ⟨0, 0, 0, 0, false⟩)
    have HF0 : Hid (Fr [] w (w.alloc (.cells (stC q g ⟨0, 0, 0, 0, false⟩) 70))) := Lib.hid ((Fr.refl [] w).alloc _)
    have HB0 := Lib.hid (Nat.le_trans hB HF0.out.size)
    have HT : Hid (w.heap.size ≤ t) := Lib.hid (by omega)
    unfold stC at HR0 HF0 HB0
    simp only at HR0 HF0 HB0
    clear H hO hn hB
    go_enter Tryd.func15, Tryd.ntmps15
    go_upto_region 4 with fail
    clear ht c5 c6
    generalize w.alloc _ = w1 at *
    obtain ⟨c0, c1, c2, c3, c4, c5, c6, t0, t1⟩ := sregs HR0.out
    clear c0 c1 c2 c3 c4 c6 t0 t1
    go_wp2_with fail
    (with_reducible refine (sint_any w1 B t q g v (⟨a, x, y, s, p, pc, false, b⟩ : S14) ⟨0, 0, 0, 0, false⟩ n pc 32 i HR0.out HO.out HN.out HP.out isW32 HI.out HB0.out).mono ?_)
    rintro e w2 ⟨rfl, v2, hr, hf, hl⟩
    have HE := Lib.hid (pdone_s HF0.out.nil HT.out hr hf hl (.int .i64 7))
    clear hr hf hl
    go_wp2
    go_ret
    exact HE.out
  · have HE : Hid (PDone w B q g v (⟨a, x, y, s, p, pc, true, b⟩ : S14) (.int .i64 0) (.returned (.int .i64 0)) w) := Lib.hid ⟨rfl, v, H, Fr.refl _ w, Lies.refl w v⟩
    change Calls _ _ _ _ (PDone w B q g v ⟨a, x, y, s, p, pc, true, b⟩ (.int .i64 0))
    clear H hO hn hB
    go_enter Tryd.func15, Tryd.ntmps15
    go_wp2
    go_ret
    exact HE.out

set_option maxRecDepth 100000 in
set_option maxHeartbeats 1000000 in
theorem resetC : ResetC := by
  intro w B q g v S n H hO hn hB
  have HO := Lib.hid hO
  obtain ⟨a, x, y, s, p, pc, h, b⟩ := S
  obtain ⟨t, ht⟩ : ∃ t, w.heap.size = t := ⟨_, rfl⟩
  change Calls _ _ _ _ (PDone w B q g v ⟨0, 0, 0, 253, 4, pairV b 65532 65533, false, b⟩ (.int .i64 7))
  have HM : Hid (pairV b 65532 ((65532 + 1) % 65536) = pairV b 65532 65533) := Lib.hid rfl
  have hv := pairV_u16 65532 65533 hO.b
  change u16 (pairV b 65532 65533) at hv
  have HR0 := Lib.hid (StAt.new H ht ⟨0, 0, 0, 0, false⟩)
  have HF0 : Hid (Fr [] w (w.alloc (.cells (stC q g ⟨0, 0, 0, 0, false⟩) 70))) := Lib.hid ((Fr.refl [] w).alloc _)
  have HT : Hid (w.heap.size ≤ t) := Lib.hid (by omega)
  unfold stC at HR0 HF0
  simp only at HR0 HF0
  generalize pairV b 65532 65533 = M1 at *
  obtain ⟨m0, m1⟩ := hv
  clear H hO hn hB
  go_enter Tryd.func17, Tryd.ntmps17
  go_upto_region 2 with fail
  clear ht
  generalize w.alloc _ = w1 at *
  obtain ⟨c0, c1, c2, c3, c4, c5, c6, t0, t1⟩ := sregs HR0.out
  clear t0 t1
  have f0 := HR0.out.frozen 0
  have f1 := HR0.out.frozen 1
  have f2 := HR0.out.frozen 2
  have f3 := HR0.out.frozen 3
  have f4 := HR0.out.frozen 4
  have f5 := HR0.out.frozen 5
  have f6 := HR0.out.frozen 6
  go_wp2_with fail
  (with_reducible refine (show Calls Tryd.prog 31 #[.pointer (some ⟨t, 0, none⟩), .int .u16 65532] w1 (fun e w' => e = .returned (.int .u16 M1) ∧ w1 = w') from by rw [← HM.out]; exact sword_any HR0.out n 65532 HO.out u16_fffc).mono ?_)
  rintro e wq ⟨rfl, rfl⟩
  go_wp2
  go_ret
  refine pdone_s HF0.out.nil HT.out (v2 := v) (R := ⟨0, 0, 0, 0, false⟩) ?_ ?_ (Lies.refl _ _) _
  · exact (((((((HR0.out.put 0 (.int .u8 0) ⟨0, x, y, s, p, pc, h, b⟩ rfl rfl).put 1 (.int .u8 0) ⟨0, 0, y, s, p, pc, h, b⟩ rfl rfl).put 2 (.int .u8 0) ⟨0, 0, 0, s, p, pc, h, b⟩ rfl rfl).put 3 (.int .u8 253) ⟨0, 0, 0, 253, p, pc, h, b⟩ rfl rfl).put 4 (.int .u8 4) ⟨0, 0, 0, 253, 4, pc, h, b⟩ rfl rfl).put 5 (.int .u16 M1) ⟨0, 0, 0, 253, 4, M1, h, b⟩ rfl rfl).put 6 (.bool false) ⟨0, 0, 0, 253, 4, M1, false, b⟩ rfl rfl)
  · exact (((((((Fr.refl (sfoot t q g v) w1).setCell (by simp [sfoot, pfoot]) _).setCell (by simp [sfoot, pfoot]) _).setCell (by simp [sfoot, pfoot]) _).setCell (by simp [sfoot, pfoot]) _).setCell (by simp [sfoot, pfoot]) _).setCell (by simp [sfoot, pfoot]) _).setCell (by simp [sfoot, pfoot]) _

/-- rowOf's answer, as one row of values. -/
def Rowed2 (w : World) (op : Nat) (e : Ending) (w' : World) : Prop :=
  ∃ (dd mm cc : Int) (kk : Bool), e = .returned (.tuple #[.agg #[.int .u32 dd, .int .u32 mm, .int .i64 cc], .bool kk]) ∧ Fr [] w w' ∧
    Hid ((kk = true → ∃ r : Nat, r < 151 ∧ keyN r = op ∧ dd = (doesN r : Nat) ∧ mm = (modeN r : Nat) ∧ cc = (cycN r : Nat)) ∧ (kk = false → known op = false))
theorem rowOf2 (w : World) (op : Nat) (ho : op < 256) (hT : Tab w) :
    Calls Tryd.prog 21 #[.int .u8 op] w (Rowed2 w op) := by
  refine (rowOf_any w op ho hT).mono fun e w' h => ?_
  obtain ⟨hf, r, hF, ⟨hr, hk, rfl⟩ | ⟨hr, rfl⟩⟩ := h
  · exact ⟨_, _, _, _, rfl, hf, Lib.hid ⟨fun _ => ⟨r, hr, hk, rfl, rfl, rfl⟩, fun h => by cases h⟩⟩
  · exact ⟨_, _, _, _, rfl, hf, Lib.hid ⟨fun h => (by cases h), fun _ => not_known op r ho hF hr⟩⟩

theorem step_un (a x y s p pc : Int) (b : FB) (op : Nat) (hop : b.m pc = op) (hk : known op = false) : step (⟨a, x, y, s, p, pc, false, b⟩ : S14) = ⟨a, x, y, s, p, pc, true, b⟩ ∧ stepN (⟨a, x, y, s, p, pc, false, b⟩ : S14) = 0 := by
  have e : nextV (⟨a, x, y, s, p, pc, false, b⟩ : S14) = op := hop
  unfold step stepN
  rw [e, hk]
  exact ⟨rfl, rfl⟩
theorem step_kn (a x y s p pc : Int) (b : FB) (op r n : Nat) (hop : b.m pc = op) (hr : r < 151) (hkey : keyN r = op) (hO : Ok n (⟨a, x, y, s, p, pc, false, b⟩ : S14)) :
    step (⟨a, x, y, s, p, pc, false, b⟩ : S14) = exS (doesN r : Nat) (modeN r : Nat) (oAt (modeN r : Nat) (⟨a, x, y, s, p, (pc + 1) % 65536, false, b⟩ : S14)) (oS (modeN r : Nat) (⟨a, x, y, s, p, (pc + 1) % 65536, false, b⟩ : S14)) ∧
    stepN (⟨a, x, y, s, p, pc, false, b⟩ : S14) = (cycN r : Nat) + oN (doesN r : Nat) (modeN r : Nat) (⟨a, x, y, s, p, (pc + 1) % 65536, false, b⟩ : S14) + exN (doesN r : Nat) (oCr (modeN r : Nat) (⟨a, x, y, s, p, (pc + 1) % 65536, false, b⟩ : S14)) (oS (modeN r : Nat) (⟨a, x, y, s, p, (pc + 1) % 65536, false, b⟩ : S14)) := by
  have e : nextV (⟨a, x, y, s, p, pc, false, b⟩ : S14) = op := hop
  have hn := ok_next hO
  obtain ⟨h1, h2⟩ := rows_ok (β := FB) r hr (next (⟨a, x, y, s, p, pc, false, b⟩ : S14)) n hn
  have hk := (is_known r hr).1
  rw [hkey] at hk h1 h2
  unfold step stepN
  rw [e, hk]
  exact ⟨h1.symm, h2.symm⟩
theorem nil_read (g : Nat) (W : World) : (nilAhead 227 31 (.pointer (some ⟨g, 0, none⟩)) "Read").run Tryd.prog W = .ok (some false) W := by kernel_rfl

set_option maxRecDepth 100000 in
set_option maxHeartbeats 1000000 in
theorem stepC : StepC := by
  intro w B q g v S n H hO hn hB
  have HO := Lib.hid hO
  have HN : Hid (n + 5 < 1000000000) := Lib.hid (by omega)
  obtain ⟨a, x, y, s, p, pc, h, b⟩ := S
  have HP := Lib.hid hO.pc
  obtain ⟨pc0, pc1⟩ : 0 ≤ pc ∧ pc < 65536 := hO.pc
  obtain ⟨c0, c1, c2, c3, c4, c5, c6⟩ := H.regs
  simp only at c0 c1 c2 c3 c4 c5 c6
  clear c0 c1 c2 c3 c4
  cases h
  · have hv := nextV_byte hO
    obtain ⟨op, hop⟩ : ∃ op : Nat, b.m pc = op := ⟨(b.m pc).toNat, by have := hv.1; show b.m pc = _; change 0 ≤ b.m pc at this; omega⟩
    have hop2 : op < 256 := by have := hv.2; change b.m pc < 256 at this; omega
    have HOP := Lib.hid hop
    have HOp2 := Lib.hid hop2
    have hme := meth_read g
    have hni := nil_read g
    have k5 : ∀ o, (w.alloc o).cell? ⟨q, 5, none⟩ = some (.int .u16 pc) := fun o => ((Fr.refl [] w).alloc o).cell c5 (by simp)
    have k5d : ∀ o, (w.drew.alloc o).cell? ⟨q, 5, none⟩ = some (.int .u16 pc) := fun o => ((Fr.refl [] w).drew.alloc o).cell c5 (by simp)
    have HH := Lib.hid H
    have HB := Lib.hid hB
    have HRd : Hid (∀ W, Fr [] w W → Calls Tryd.prog 114 #[.pointer (some ⟨g, 0, none⟩), .int .u16 pc] W fun e w' => e = .returned (.int .u8 op) ∧ W = w') := Lib.hid (fun W hf => by rw [← HOP.out]; exact pread_any W B q g v _ pc (HH.out.fr hf (by simp)) HP.out)
    have HRo : Hid (∀ W, Fr [] w W → Calls Tryd.prog 21 #[.int .u8 op] W (Rowed2 W op)) := Lib.hid (fun W hf => rowOf2 W op HOp2.out (HH.out.fr hf (by simp)).tab)
    clear H hO hn hB hv hop
    go_enter Tryd.func12, Tryd.ntmps12
    go_upto_region 3 with fail
    go_region_law (go_simp; first
      | (go_at_call 114; (with_reducible refine (HRd.out _ (by first | exact (Fr.refl [] w).drew | exact ((Fr.refl [] w).alloc _).drew | exact ((Fr.refl [] w).drew.alloc _))).mono ?_); rintro e wq ⟨rfl, rfl⟩)
      | (go_at_call 21; (with_reducible refine (HRo.out w.drew (Fr.refl [] w).drew).mono ?_); rintro e w2 ⟨dd, mm, cc, kk, rfl, hf, HK⟩; have HF2 : Hid (Fr [] w w2) := Lib.hid ((Fr.refl [] w).drew.tr hf); clear hf)
      | (go_at_call 21; (with_reducible refine (HRo.out (w.alloc _).drew ((Fr.refl [] w).alloc _).drew).mono ?_); rintro e w2 ⟨dd, mm, cc, kk, rfl, hf, HK⟩; have HF2 : Hid (Fr [] w w2) := Lib.hid (((Fr.refl [] w).alloc _).drew.tr hf); have hbk := ((Blk.fresh w _ _).fr ((Fr.refl [] _).drew.tr hf) (by simp)); have r0 := hbk.cell 0; have r1 := hbk.cell 1; have r2 := hbk.cell 2; have r3 := hbk.frozen 0; have r4 := hbk.frozen 1; have r5 := hbk.frozen 2; simp at r0 r1 r2; clear hf)
      | (go_at_call 21; (with_reducible refine (HRo.out (w.drew.alloc _) ((Fr.refl [] w).drew.alloc _)).mono ?_); rintro e w2 ⟨dd, mm, cc, kk, rfl, hf, HK⟩; have HF2 : Hid (Fr [] w w2) := Lib.hid (((Fr.refl [] w).drew.alloc _).tr hf); have hbk := ((Blk.fresh w.drew _ _).fr hf (by simp)); have r0 := hbk.cell 0; have r1 := hbk.cell 1; have r2 := hbk.cell 2; have r3 := hbk.frozen 0; have r4 := hbk.frozen 1; have r5 := hbk.frozen 2; simp at r0 r1 r2; clear hf))
    all_goals
      (first
        | (have HJ : Hid (Blk (((w2.setCell ⟨w.heap.size, 0, none⟩ (.int .u32 dd)).setCell ⟨w.heap.size, 1, none⟩ (.int .u32 mm)).setCell ⟨w.heap.size, 2, none⟩ (.int .i64 cc)) w.heap.size 65 #[.int .u32 dd, .int .u32 mm, .int .i64 cc]) := Lib.hid (((hbk.put 0 (.int .u32 dd)).put 1 (.int .u32 mm)).put 2 (.int .i64 cc))
           have HF3 : Hid (Fr [] w (((w2.setCell ⟨w.heap.size, 0, none⟩ (.int .u32 dd)).setCell ⟨w.heap.size, 1, none⟩ (.int .u32 mm)).setCell ⟨w.heap.size, 2, none⟩ (.int .i64 cc))) := Lib.hid (((HF2.out.setCell (.inr (Nat.le_refl _)) _).setCell (.inr (Nat.le_refl _)) _).setCell (.inr (Nat.le_refl _)) _)
           clear hbk r0 r1 r2 r3 r4 r5
           generalize (((w2.setCell ⟨w.heap.size, 0, none⟩ (.int .u32 dd)).setCell ⟨w.heap.size, 1, none⟩ (.int .u32 mm)).setCell ⟨w.heap.size, 2, none⟩ (.int .i64 cc)) = w3 at *
           generalize w.heap.size = j at HJ ⊢)
        | (have HJ : Hid (Blk (w2.alloc (.cells #[.int .u32 dd, .int .u32 mm, .int .i64 cc] 65)) w2.heap.size 65 #[.int .u32 dd, .int .u32 mm, .int .i64 cc]) := Lib.hid (Blk.fresh _ _ _)
           have HF3 : Hid (Fr [] w (w2.alloc (.cells #[.int .u32 dd, .int .u32 mm, .int .i64 cc] 65))) := Lib.hid (HF2.out.alloc _)
           generalize w2.alloc _ = w3 at *
           generalize w2.heap.size = j at HJ ⊢))
      clear HF2 c5 c6 k5 k5d HRd HRo hme hni
      have r0 := HJ.out.cell 0
      have r1 := HJ.out.cell 1
      have r2 := HJ.out.cell 2
      simp at r0 r1 r2
      have HP3 : Hid (ProgAt w3 B q g v ⟨a, x, y, s, p, pc, false, b⟩) := Lib.hid (HH.out.fr HF3.out (by simp))
      have hrg := HP3.out.regs
      have d5 := hrg.2.2.2.2.2.1
      have d6 := hrg.2.2.2.2.2.2
      simp only at d5 d6
      clear hrg
      have f5 := HP3.out.cpu.frozen 5
      have f6 := HP3.out.cpu.frozen 6
      cases kk
      · have HE : Hid (PDone w B q g v (step (⟨a, x, y, s, p, pc, false, b⟩ : S14)) (.int .i64 (stepN (⟨a, x, y, s, p, pc, false, b⟩ : S14))) (.returned (.int .i64 0)) (w3.setCell ⟨q, 6, none⟩ (.bool true))) := Lib.hid (by
          obtain ⟨e1, e2⟩ := step_un a x y s p pc b op HOP.out (HK.out.2 rfl)
          rw [e1, e2]
          exact ⟨rfl, v, HP3.out.put 6 (.bool true) ⟨a, x, y, s, p, pc, true, b⟩ rfl rfl, HF3.out.nil.setCell (by simp [pfoot]) _, Lies.refl w v⟩)
        clear HK r0 r1 r2 d5 f5
        go_wp2
        go_ret
        exact HE.out
      · obtain ⟨r, hr, hkey, rfl, rfl, rfl⟩ := HK.out.1 rfl
        obtain ⟨hd, hm, hc16⟩ := row_isD r hr
        obtain ⟨e1, e2⟩ := step_kn a x y s p pc b op r n HOP.out hr hkey HO.out
        have HE1 := Lib.hid e1
        have HE2 := Lib.hid e2
        clear e1 e2 HK hkey
        have HD := Lib.hid hd
        have HM := Lib.hid hm
        have hc0 : (0 : Int) ≤ ((cycN r : Nat) : Int) := by omega
        have hc1 : ((cycN r : Nat) : Int) < 16 := by omega
        have HC : Hid (0 ≤ ((cycN r : Nat) : Int) ∧ ((cycN r : Nat) : Int) < 100) := Lib.hid ⟨by omega, by omega⟩
        have HC2 : Hid (((cycN r : Nat) : Int) < 16) := Lib.hid hc1
        clear hd hm hc16 hr
        generalize ((doesN r : Nat) : Int) = D1 at *
        generalize ((modeN r : Nat) : Int) = D2 at *
        generalize ((cycN r : Nat) : Int) = D3 at *
        obtain ⟨PC, hPC⟩ : ∃ z, (pc + 1) % 65536 = z := ⟨_, rfl⟩
        have wPC : IntKind.u16.wrap (pc + 1) = PC := by rw [IntKind.wrap_u16]; exact hPC
        have HO2 : Hid (Ok n (⟨a, x, y, s, p, PC, false, b⟩ : S14)) := Lib.hid (by rw [← hPC]; exact ok_withPC _ HO.out (mod_u16 _))
        rw [hPC] at HE1 HE2
        have HP4 : Hid (ProgAt (w3.setCell ⟨q, 5, none⟩ (.int .u16 PC)) B q g v (⟨a, x, y, s, p, PC, false, b⟩ : S14)) := Lib.hid (HP3.out.put 5 _ _ rfl rfl)
        have HF4 : Hid (Fr (pfoot q g v) w (w3.setCell ⟨q, 5, none⟩ (.int .u16 PC))) := Lib.hid (HF3.out.nil.setCell (by simp [pfoot]) _)
        have hjq : j ≠ q := HJ.out.other HP3.out.cpu (by decide)
        have HJ4 : Hid (Blk (w3.setCell ⟨q, 5, none⟩ (.int .u16 PC)) j 65 #[.int .u32 D1, .int .u32 D2, .int .i64 D3]) := Lib.hid (HJ.out.fr ((Fr.refl [q] w3).setCell (by simp) _) (by simpa using hjq))
        clear hPC hjq d6 f6 r0 r1 r2
        go_upto_region 8 with fail
        clear d5 f5 wPC HJ HF3 HP3
        generalize w3.setCell _ _ = w4 at *
        have r0 := HJ4.out.cell 0
        have r1 := HJ4.out.cell 1
        have r2 := HJ4.out.cell 2
        simp at r0 r1 r2
        obtain ⟨t, ht⟩ : ∃ t, w4.heap.size = t := ⟨_, rfl⟩
        have HR5 := Lib.hid (StAt.new HP4.out ht ⟨D1, D2, D3, 0, false⟩)
        have HF5 : Hid (Fr (pfoot q g v) w (w4.alloc (.cells (stC q g ⟨D1, D2, D3, 0, false⟩) 70))) := Lib.hid (HF4.out.alloc _)
        have HT : Hid (w.heap.size ≤ t) := Lib.hid (by rw [← ht]; exact HF4.out.size)
        unfold stC at HR5 HF5
        simp only at HR5 HF5
        go_upto_region 9 with fail
        clear ht r0 r1 r2
        generalize w4.alloc _ = w5 at *
        have HB5 := Lib.hid (Nat.le_trans HB.out HF5.out.size)
        go_wp2_with fail
        (with_reducible refine (soper_any w5 B t q g v (⟨a, x, y, s, p, PC, false, b⟩ : S14) n D1 D2 D3 HM.out HR5.out HO2.out HB5.out HC.out).mono ?_)
        rintro e w6 ⟨rfl, v6, hr6, hf6, hl6⟩
        have HR6 := Lib.hid hr6
        have HF6 := Lib.hid hf6
        have HL6 := Lib.hid hl6
        have HB6 := Lib.hid (Nat.le_trans HB5.out hf6.size)
        have HOs := Lib.hid (ok_oS D2 HO2.out)
        have HAt := Lib.hid (oAt_u16 D2 HO2.out)
        have HCy : Hid (0 ≤ D3 + oN D1 D2 (⟨a, x, y, s, p, PC, false, b⟩ : S14) ∧ D3 + oN D1 D2 (⟨a, x, y, s, p, PC, false, b⟩ : S14) < 200) := Lib.hid (by have h1 := oN_bd D1 D2 (⟨a, x, y, s, p, PC, false, b⟩ : S14); have h2 := HC.out; have h3 := HC2.out; omega)
        clear hr6 hf6 hl6
        go_wp2_with fail
        (with_reducible refine (sdo_any w6 B t q g v6 (oS D2 (⟨a, x, y, s, p, PC, false, b⟩ : S14)) n D1 D2 (D3 + oN D1 D2 (⟨a, x, y, s, p, PC, false, b⟩ : S14)) (oAt D2 (⟨a, x, y, s, p, PC, false, b⟩ : S14)) (oCr D2 (⟨a, x, y, s, p, PC, false, b⟩ : S14)) HD.out HR6.out HOs.out HN.out HAt.out HCy.out HB6.out).mono ?_)
        intro e w7 hd
        obtain ⟨rfl, v7, hr7, hf7, hl7⟩ := sdone_tr HF6.out HL6.out hd
        have t4 := (srow hr7).2.2.1
        have HE := Lib.hid (pdone_s HF5.out HT.out hr7 hf7 hl7 (.int .i64 (D3 + oN D1 D2 (⟨a, x, y, s, p, PC, false, b⟩ : S14) + exN D1 (oCr D2 (⟨a, x, y, s, p, PC, false, b⟩ : S14)) (oS D2 (⟨a, x, y, s, p, PC, false, b⟩ : S14)))))
        clear hd hr7 hf7 hl7
        go_wp2
        go_ret
        rw [HE1.out, HE2.out]
        exact HE.out
  · have HE : Hid (PDone w B q g v (⟨a, x, y, s, p, pc, true, b⟩ : S14) (.int .i64 0) (.returned (.int .i64 0)) w) := Lib.hid ⟨rfl, v, H, Fr.refl _ w, Lies.refl w v⟩
    change Calls _ _ _ _ (PDone w B q g v ⟨a, x, y, s, p, pc, true, b⟩ (.int .i64 0))
    clear H hO hn hB
    go_enter Tryd.func12, Tryd.ntmps12
    go_wp2
    go_ret
    exact HE.out

end Ms
end Go.Proofs.YtlnpadekgakghaaDoor
