/-
  picklocklaw14.shown returns true, and turns nothing that was there. Condition: the program's Step does what the account says.
-/
import Derived.Test.YtlnpadekgakghaaDoorMkSame
namespace Go.Proofs.YtlnpadekgakghaaDoor
open Go.RowKit
namespace Ms
set_option linter.unusedVariables false
open Al (byte)

/-- A flat bus as the program's bus. -/
def busV (f : Nat) : Value := .iface 31 (.pointer (some ⟨f, 0, none⟩))
/-- What the program's three calls do. -/
abbrev StepC : Prop := ∀ (w : World) (B p f : Nat) (v : Value) (S : S14) (n : Nat), ProgAt w B p f v S → Ok n S → n + 10 < 1000000000 → B ≤ w.heap.size →
  Calls Tryd.prog 12 #[.pointer (some ⟨p, 0, none⟩), .iface 31 (.pointer (some ⟨f, 0, none⟩))] w (PDone w B p f v (step S) (.int .i64 (stepN S)))
abbrev IntC : Prop := ∀ (w : World) (B p f : Nat) (v : Value) (S : S14) (n : Nat) (i : Int), ProgAt w B p f v S → Ok n S → n + 10 < 1000000000 → B ≤ w.heap.size → u16 i →
  Calls Tryd.prog 15 #[.pointer (some ⟨p, 0, none⟩), .iface 31 (.pointer (some ⟨f, 0, none⟩)), .int .u16 i] w (PDone w B p f v (interrupt S i) (.int .i64 (interruptN S)))
abbrev ResetC : Prop := ∀ (w : World) (B p f : Nat) (v : Value) (S : S14) (n : Nat), ProgAt w B p f v S → Ok n S → n + 10 < 1000000000 → B ≤ w.heap.size →
  Calls Tryd.prog 17 #[.pointer (some ⟨p, 0, none⟩), .iface 31 (.pointer (some ⟨f, 0, none⟩))] w (PDone w B p f v (reset S) (.int .i64 7))

theorem pdone_tr {w w1 w2 : World} {B p f : Nat} {v v1 : Value} {T : S14} {val : Value} {e : Ending} (h1 : Fr (pfoot p f v) w w1) (l1 : Lies w v v1) (h : PDone w1 B p f v1 T val e w2) : PDone w B p f v T val e w2 := by
  obtain ⟨rfl, v2, h2, h3, h4⟩ := h
  refine ⟨rfl, v2, h2, h1.trans h3 ?_, l1.trans h4 h1.size⟩
  intro i hi
  simp only [pfoot, List.mem_cons, Option.mem_toList] at hi ⊢
  rcases hi with rfl | rfl | hi
  · exact .inl (.inl rfl)
  · exact .inl (.inr (.inl rfl))
  · rcases l1 with h | ⟨k, hk, hle⟩
    · exact .inl (.inr (.inr (by rw [← h]; exact hi)))
    · rw [hk] at hi
      cases hi
      exact .inr hle

def sm : Int → Int := upd (upd (upd (upd m0 32768 169) 32769 128) 32770 72) 32771 2
def sh1 : S14 := ⟨0, 0, 0, 255, 0, 32768, false, ⟨sm, []⟩⟩
def sh2 : S14 := ⟨128, 0, 0, 255, 128, 32770, false, ⟨sm, []⟩⟩
def sh3 : S14 := ⟨128, 0, 0, 254, 128, 32771, false, ⟨upd sm 511 128, [(511, 128)]⟩⟩
def sh4 : S14 := ⟨128, 0, 0, 254, 128, 32771, true, ⟨upd sm 511 128, [(511, 128)]⟩⟩
theorem sm_byte : ∀ j, byte (sm j) := by
  have h0 : ∀ j, byte (m0 j) := fun j => ⟨by show (0:Int) ≤ 0; omega, by show (0:Int) < 256; omega⟩
  exact both_byte _ _ _ (both_byte _ _ _ (both_byte _ _ _ (both_byte _ _ _ h0 ⟨by omega, by omega⟩) ⟨by omega, by omega⟩) ⟨by omega, by omega⟩) ⟨by omega, by omega⟩
theorem step1 : step sh1 = sh2 ∧ stepN sh1 = 2 := ⟨rfl, rfl⟩
theorem step2 : step sh2 = sh3 ∧ stepN sh2 = 3 := ⟨rfl, rfl⟩
theorem step3 : step sh3 = sh4 ∧ stepN sh3 = 0 := ⟨rfl, rfl⟩

theorem sh1_ok : Ok 0 sh1 := Ok.mk' ⟨by omega, by omega⟩ ⟨by omega, by omega⟩ ⟨by omega, by omega⟩ ⟨by omega, by omega⟩ ⟨⟨by omega, by omega⟩, by omega⟩ ⟨by omega, by omega⟩ ⟨sm_byte, (by simp), Nat.le_refl _⟩
theorem sh2_ok : Ok 3 sh2 := by rw [← step1.1]; exact ok_step sh1_ok
theorem sh3_ok : Ok 6 sh3 := by rw [← step2.1]; exact ok_step sh2_ok

theorem flat_alloc (w : World) (B p f : Nat) (a x y s pp pc : Int) (hf : w.heap.size = f) (hp : f + 1 = p) (hT : Tab w) (hB : 0 < B) :
    ProgAt ((w.alloc (.cells Tryd.zeroCells37 37)).alloc (.cells #[.int .u8 a, .int .u8 x, .int .u8 y, .int .u8 s, .int .u8 pp, .int .u16 pc, .bool false] 50)) B p f nil0 ⟨a, x, y, s, pp, pc, false, ⟨m0, []⟩⟩ := by
  subst hf hp
  have h1 := flat_laid w B
  have hs : (w.alloc (.cells Tryd.zeroCells37 37)).heap.size = w.heap.size + 1 := by simp
  refine ⟨?_, h1.fr ((Fr.refl [] _).alloc _) (by simp), Pk.PkOwn.none_ _ B _, hT.later (((Fr.refl [] w).alloc _).alloc _), hB, by omega, hT.pos⟩
  rw [← hs]
  exact Blk.fresh _ _ _

set_option maxRecDepth 100000 in
set_option maxHeartbeats 8000000 in
theorem shown14 (hS : StepC) (w : World) (hT : Tab w) : Calls Tryd.prog 10 #[] w fun e w' => e = .returned (.bool true) ∧ Fr [] w w' := by
  obtain ⟨f, hf⟩ : ∃ f, w.heap.size = f := ⟨_, rfl⟩
  obtain ⟨p, hp⟩ : ∃ p, f + 1 = p := ⟨_, rfl⟩
  have hP0 := flat_alloc w w.heap.size p f 0 0 0 255 0 32768 hf hp hT hT.pos
  have hF0 : Fr [] w ((w.alloc (.cells Tryd.zeroCells37 37)).alloc (.cells #[.int .u8 0, .int .u8 0, .int .u8 0, .int .u8 255, .int .u8 0, .int .u16 32768, .bool false] 50)) := ((Fr.refl [] w).alloc _).alloc _
  have HP0 := Lib.hid hP0
  have HF0 := Lib.hid hF0
  have HHf : Hid (w.heap.size ≤ f) := Lib.hid (by omega)
  have HHp : Hid (w.heap.size ≤ p) := Lib.hid (by omega)
  have HS := Lib.hid hS
  clear hP0 hF0 hS hT
  go_enter Tryd.func10, Tryd.ntmps10
  go_upto_region 3 with fail
  clear hf hp
  generalize (w.alloc _).alloc _ = w2 at *
  generalize Tryd.zeroCells37 = ZC at *
  have hP := HP0.out.flat
  have d0 : w2.cell? ⟨f, 32768, none⟩ = some (.int .u8 0) := hP.mem 32768 ⟨by omega, by omega⟩
  have d1 : w2.cell? ⟨f, 32769, none⟩ = some (.int .u8 0) := hP.mem 32769 ⟨by omega, by omega⟩
  have d2 : w2.cell? ⟨f, 32770, none⟩ = some (.int .u8 0) := hP.mem 32770 ⟨by omega, by omega⟩
  have d3 : w2.cell? ⟨f, 32771, none⟩ = some (.int .u8 0) := hP.mem 32771 ⟨by omega, by omega⟩
  have g0 := hP.frozen 32768
  have g1 := hP.frozen 32769
  have g2 := hP.frozen 32770
  have g3 := hP.frozen 32771
  have HP1 : Hid (ProgAt ((((w2.setCell ⟨f, 32768, none⟩ (.int .u8 169)).setCell ⟨f, 32769, none⟩ (.int .u8 128)).setCell ⟨f, 32770, none⟩ (.int .u8 72)).setCell ⟨f, 32771, none⟩ (.int .u8 2)) w.heap.size p f nil0 sh1) := Lib.hid (prog_putm (prog_putm (prog_putm (prog_putm HP0.out 32768 169 ⟨by omega, by omega⟩) 32769 128 ⟨by omega, by omega⟩) 32770 72 ⟨by omega, by omega⟩) 32771 2 ⟨by omega, by omega⟩)
  have HF1 : Hid (Fr [] w ((((w2.setCell ⟨f, 32768, none⟩ (.int .u8 169)).setCell ⟨f, 32769, none⟩ (.int .u8 128)).setCell ⟨f, 32770, none⟩ (.int .u8 72)).setCell ⟨f, 32771, none⟩ (.int .u8 2))) := Lib.hid ((((HF0.out.setCell (.inr HHf.out) _).setCell (.inr HHf.out) _).setCell (.inr HHf.out) _).setCell (.inr HHf.out) _)
  clear hP
  go_upto_region 7 with fail
  clear d0 d1 d2 d3 g0 g1 g2 g3 HP0 HF0
  generalize (((w2.setCell _ _).setCell _ _).setCell _ _).setCell _ _ = w3 at *
  have HS1 : Hid (Calls Tryd.prog 12 #[.pointer (some ⟨p, 0, none⟩), .iface 31 (.pointer (some ⟨f, 0, none⟩))] w3 (PDone w3 w.heap.size p f nil0 sh2 (.int .i64 2))) := Lib.hid (by
    rw [← step1.1, ← step1.2]
    exact HS.out w3 w.heap.size p f nil0 sh1 0 HP1.out sh1_ok (by omega) HF1.out.size)
  go_wp2_with fail
  (with_reducible refine (HS1.out).mono ?_)
  intro e w4 hd
  obtain ⟨rfl, v4, hp4, hf4, hl4⟩ := hd
  have HP4 := Lib.hid hp4
  have HF4 := Lib.hid hf4
  have HL4 := Lib.hid hl4
  have HS2 : Hid (Calls Tryd.prog 12 #[.pointer (some ⟨p, 0, none⟩), .iface 31 (.pointer (some ⟨f, 0, none⟩))] w4 (PDone w4 w.heap.size p f v4 sh3 (.int .i64 3))) := Lib.hid (by
    rw [← step2.1, ← step2.2]
    exact HS.out w4 w.heap.size p f v4 sh2 3 HP4.out sh2_ok (by omega) (Nat.le_trans HF1.out.size HF4.out.size))
  clear hp4 hf4 hl4 HS1
  go_wp2_with fail
  (with_reducible refine (HS2.out).mono ?_)
  intro e w5 hd
  obtain ⟨rfl, v5, hp5, hf5, hl5⟩ := pdone_tr HF4.out HL4.out hd
  have HP5 := Lib.hid hp5
  have HF5 := Lib.hid hf5
  have HL5 := Lib.hid hl5
  have HS3 : Hid (Calls Tryd.prog 12 #[.pointer (some ⟨p, 0, none⟩), .iface 31 (.pointer (some ⟨f, 0, none⟩))] w5 (PDone w5 w.heap.size p f v5 sh4 (.int .i64 0))) := Lib.hid (by
    rw [← step3.1, ← step3.2]
    exact HS.out w5 w.heap.size p f v5 sh3 6 HP5.out sh3_ok (by omega) (Nat.le_trans HF1.out.size HF5.out.size))
  clear hd hp5 hf5 hl5 HS2 HP4
  go_wp2_with fail
  (with_reducible refine (HS3.out).mono ?_)
  intro e w6 hd
  obtain ⟨rfl, v6, hp6, hf6, hl6⟩ := pdone_tr HF5.out HL5.out hd
  have HFF : Hid (Fr [] w w6) := Lib.hid (HF1.out.trans hf6 (by intro i hi; right; simp only [pfoot, nil0, Value.ownBlock, List.mem_cons, Option.toList_none, List.not_mem_nil, or_false] at hi; rcases hi with rfl | rfl; exact HHp.out; exact HHf.out))
  obtain ⟨c0, c1, c2, c3, c4, c5, c6⟩ := ProgAt.regs hp6
  have cm : w6.cell? ⟨f, 511, none⟩ = some (.int .u8 128) := hp6.flat.mem 511 ⟨by omega, by omega⟩
  obtain ⟨A, k, rfl, -⟩ := hp6.row.slice
  have cw : w6.cell? ⟨f, 65536, none⟩ = some (.slice A 1 k) := hp6.flat.cell 65536 (by omega)
  simp only [sh4] at c0 c3 c4 c5 c6
  clear hd hp6 hf6 hl6 HS3 HP5 HF5 HL5 HF4 HL4 HF1 HP1 c1 c2
  go_wp2
  go_ret
  exact ⟨rfl, HFF.out⟩

end Ms
end Go.Proofs.YtlnpadekgakghaaDoor
