/-
  For MosStack: the two steps of each of the four ways (of no program), bits, and the program's A and P set. No condition.
-/
import Derived.Test.YtlnpadekgakghaaDoorStackMath
import Derived.Test.YtlnpadekgakghaaDoorMkMade
import Derived.Laws.Bits
namespace Go.Proofs.YtlnpadekgakghaaDoor
open Go.RowKit
namespace Ms
set_option linter.unusedVariables false
open Al (byte of_byte)

theorem stk_lt (j P : Int) (hj : j < 512) (hP : 1024 ≤ P) : ¬ P = j := by omega

/-- PHA, then PLA, A set to v in between. -/
theorem two_pha (a x y s p P v : Int) (m : Int → Int) (l l' : List (Int × Int)) (h1 : m P = 72) (h2 : m (P + 1) = 104) (hP : 1024 ≤ P) (hQ : P < 32768) (hs : 16 ≤ s) (ht : s < 216) :
    step (⟨a, x, y, s, p, P, false, ⟨m, l⟩⟩ : S14) = ⟨a, x, y, s - 1, p, P + 1, false, ⟨upd m (256 + s) a, l ++ [(256 + s, a)]⟩⟩ ∧
    step (⟨v, x, y, s - 1, p, P + 1, false, ⟨upd m (256 + s) a, l'⟩⟩ : S14) = ⟨a, x, y, s, zn p a, P + 2, false, ⟨upd m (256 + s) a, l'⟩⟩ := by
  obtain ⟨e1, -⟩ := step_pha a x y s p P m l h1
  have h3 : upd m (256 + s) a (P + 1) = 104 := by rw [upd_other _ _ _ _ (by omega)]; exact h2
  obtain ⟨e2, -⟩ := step_pla v x y (s - 1) p (P + 1) (upd m (256 + s) a) l' h3
  rw [e1, e2, show (s - 1) % 256 = s - 1 by omega, show (P + 1) % 65536 = P + 1 by omega, show (s - 1 + 1) % 256 = s by omega, show (P + 1 + 1) % 65536 = P + 2 by omega, upd_same]
  exact ⟨rfl, rfl⟩
/-- PHP, then PLP, P set to v in between. -/
theorem two_php (a x y s p P v : Int) (m : Int → Int) (l l' : List (Int × Int)) (h1 : m P = 8) (h2 : m (P + 1) = 40) (hP : 1024 ≤ P) (hQ : P < 32768) (hs : 16 ≤ s) (ht : s < 216) (hp : fl p) :
    step (⟨a, x, y, s, p, P, false, ⟨m, l⟩⟩ : S14) = ⟨a, x, y, s - 1, p, P + 1, false, ⟨upd m (256 + s) (p + 48), l ++ [(256 + s, p + 48)]⟩⟩ ∧
    step (⟨a, x, y, s - 1, v, P + 1, false, ⟨upd m (256 + s) (p + 48), l'⟩⟩ : S14) = ⟨a, x, y, s, p, P + 2, false, ⟨upd m (256 + s) (p + 48), l'⟩⟩ := by
  obtain ⟨e1, -⟩ := step_php a x y s p P m l h1
  have h3 : upd m (256 + s) (p + 48) (P + 1) = 40 := by rw [upd_other _ _ _ _ (by omega)]; exact h2
  obtain ⟨e2, -⟩ := step_plp a x y (s - 1) v (P + 1) (upd m (256 + s) (p + 48)) l' h3
  have hn : noBU (p + 48) = p := by have := hp.2; unfold noBU; omega
  rw [e1, e2, show (s - 1) % 256 = s - 1 by omega, show (P + 1) % 65536 = P + 1 by omega, show (s - 1 + 1) % 256 = s by omega, show (P + 1 + 1) % 65536 = P + 2 by omega, upd_same, hn]
  exact ⟨rfl, rfl⟩
/-- JSR to 9000, then RTS there. -/
theorem two_jsr (a x y s p P : Int) (m : Int → Int) (l l' : List (Int × Int)) (h1 : m P = 32) (h2 : m (P + 1) = 0) (h3 : m (P + 2) = 144) (h4 : m 36864 = 96) (hP : 1024 ≤ P) (hQ : P < 32768) (hs : 16 ≤ s) (ht : s < 216) :
    ∃ m' : Int → Int, (m' = upd (upd m (256 + s) ((P + 2) / 256)) (256 + (s - 1)) ((P + 2) % 256)) ∧
    step (⟨a, x, y, s, p, P, false, ⟨m, l⟩⟩ : S14) = ⟨a, x, y, s - 2, p, 36864, false, ⟨m', l ++ [(256 + s, (P + 2) / 256)] ++ [(256 + (s - 1), (P + 2) % 256)]⟩⟩ ∧
    step (⟨a, x, y, s - 2, p, 36864, false, ⟨m', l'⟩⟩ : S14) = ⟨a, x, y, s, p, P + 3, false, ⟨m', l'⟩⟩ := by
  refine ⟨_, rfl, ?_⟩
  obtain ⟨e1, -⟩ := step_jsr a x y s p P m l h1 (by omega) (by omega) (by omega) (by omega)
  have h5 : upd (upd m (256 + s) ((P + 2) / 256)) (256 + (s - 1)) ((P + 2) % 256) 36864 = 96 := by rw [upd_other _ _ _ _ (by omega), upd_other _ _ _ _ (by omega)]; exact h4
  obtain ⟨e2, -⟩ := step_rts a x y (s - 2) p 36864 (upd (upd m (256 + s) ((P + 2) / 256)) (256 + (s - 1)) ((P + 2) % 256)) l' h5
  rw [e1, e2, show ((s - 1) % 256 - 1) % 256 = s - 2 by omega, show (s - 2 + 1) % 256 = s - 1 by omega, show (s - 1 + 1) % 256 = s by omega, upd_same, upd_other _ _ _ _ (by omega), upd_same, h2, h3,
    show ((P + 2) % 256 + 256 * ((P + 2) / 256) + 1) % 65536 = P + 3 by omega]
  exact ⟨rfl, rfl⟩
/-- An interrupt whose vector says 9000, then RTI there. -/
theorem two_int (a x y s p P : Int) (m : Int → Int) (l l' : List (Int × Int)) (h1 : m 65530 = 0) (h2 : m 65531 = 144) (h4 : m 36864 = 64) (hP : 1024 ≤ P) (hQ : P < 32768) (hs : 16 ≤ s) (ht : s < 216) (hp : fl p) :
    ∃ m' : Int → Int, (m' = upd (upd (upd m (256 + s) (P / 256)) (256 + (s - 1)) (P % 256)) (256 + (s - 2)) (p + 32)) ∧
    interrupt (⟨a, x, y, s, p, P, false, ⟨m, l⟩⟩ : S14) 65530 = ⟨a, x, y, s - 3, setF p 4 true, 36864, false, ⟨m', l ++ [(256 + s, P / 256)] ++ [(256 + (s - 1), P % 256)] ++ [(256 + (s - 2), p + 32)]⟩⟩ ∧
    step (⟨a, x, y, s - 3, setF p 4 true, 36864, false, ⟨m', l'⟩⟩ : S14) = ⟨a, x, y, s, p, P, false, ⟨m', l'⟩⟩ := by
  refine ⟨_, rfl, ?_⟩
  have e1 := int_at a x y s p P 65530 m l
  have h5 : upd (upd (upd m (256 + s) (P / 256)) (256 + (s - 1)) (P % 256)) (256 + (s - 2)) (p + 32) 36864 = 64 := by rw [upd_other _ _ _ _ (by omega), upd_other _ _ _ _ (by omega), upd_other _ _ _ _ (by omega)]; exact h4
  have h6 : upd (upd (upd m (256 + s) (P / 256)) (256 + (s - 1)) (P % 256)) (256 + (s - 2)) (p + 32) 65530 = 0 := by rw [upd_other _ _ _ _ (by omega), upd_other _ _ _ _ (by omega), upd_other _ _ _ _ (by omega)]; exact h1
  have h7 : upd (upd (upd m (256 + s) (P / 256)) (256 + (s - 1)) (P % 256)) (256 + (s - 2)) (p + 32) 65531 = 144 := by rw [upd_other _ _ _ _ (by omega), upd_other _ _ _ _ (by omega), upd_other _ _ _ _ (by omega)]; exact h2
  obtain ⟨e2, -⟩ := step_rti a x y (s - 3) (setF p 4 true) 36864 _ l' h5
  have hn : noBU (p + 32) = p := by have := hp.2; unfold noBU; omega
  have g1 : (s - 1) % 256 = s - 1 := by omega
  have g2 : (s - 1 - 1) % 256 = s - 2 := by omega
  have g3 : (s - 2 - 1) % 256 = s - 3 := by omega
  have g4 : (s - 3 + 1) % 256 = s - 2 := by omega
  have g5 : (s - 2 + 1) % 256 = s - 1 := by omega
  have g6 : (s - 1 + 1) % 256 = s := by omega
  refine ⟨?_, ?_⟩
  · rw [e1]
    simp only [g1, g2, g3]
    rw [show ((65530 : Int) + 1) % 65536 = 65531 by decide, h6, h7]
    rfl
  · rw [e2, g4, g5, g6, upd_same, upd_other _ _ _ (256 + (s - 1)) (by omega), upd_same, upd_other _ _ _ (256 + s) (by omega), upd_other _ _ _ (256 + s) (by omega), upd_same, hn,
      show P % 256 + 256 * (P / 256) = P by omega]

theorem pc_stack (pc : Int) (h : u16 pc) : 1024 ≤ bits .or .u16 1024 (bits .and .u16 pc 31743) ∧ bits .or .u16 1024 (bits .and .u16 pc 31743) < 32768 := by
  obtain ⟨n, rfl, hn⟩ : ∃ n : Nat, pc = (n : Int) ∧ n < 65536 := ⟨pc.toNat, by have := h.1; omega, by have := h.1; have := h.2; omega⟩
  have of16 : ∀ n : Nat, n < 65536 → (BitVec.ofInt 16 (n : Int)).toNat = n := fun n hn => by rw [BitVec.toNat_ofInt]; omega
  have ha : n &&& 31743 ≤ 31743 := Nat.and_le_right
  have e1 : bits .and .u16 (n : Int) 31743 = ((n &&& 31743 : Nat) : Int) := by
    have e : bits .and .u16 (n : Int) ((31743 : Nat) : Int) = IntKind.u16.wrap ((BitVec.ofInt 16 (n : Int) &&& BitVec.ofInt 16 ((31743 : Nat) : Int)).toNat : Nat) := rfl
    rw [show (31743 : Int) = ((31743 : Nat) : Int) from rfl, e, BitVec.toNat_and, of16 n hn, of16 31743 (by decide), IntKind.wrap_u16]
    omega
  rw [e1]
  generalize n &&& 31743 = q at *
  have e2 : bits .or .u16 1024 (q : Int) = IntKind.u16.wrap ((1024 ||| q : Nat) : Int) := by
    have e : bits .or .u16 ((1024 : Nat) : Int) (q : Int) = IntKind.u16.wrap ((BitVec.ofInt 16 ((1024 : Nat) : Int) ||| BitVec.ofInt 16 (q : Int)).toNat : Nat) := rfl
    rw [show (1024 : Int) = ((1024 : Nat) : Int) from rfl, e, BitVec.toNat_or, of16 1024 (by decide), of16 q (by omega)]
  have hl : 1024 ||| q < 2 ^ 15 := Nat.or_lt_two_pow (by decide) (by omega)
  have hg : 1024 ≤ 1024 ||| q := Nat.left_le_or
  rw [e2, IntKind.wrap_u16]
  omega

theorem prog_seta {w : World} {B p f : Nat} {v : Value} {a x y s pp pc : Int} {h : Bool} {b : FB} (H : ProgAt w B p f v ⟨a, x, y, s, pp, pc, h, b⟩) (u : Int) : ProgAt (w.setCell ⟨p, 0, none⟩ (.int .u8 u)) B p f v ⟨u, x, y, s, pp, pc, h, b⟩ :=
  ⟨H.cpu.put 0 _, H.flat.fr ((Fr.refl [p] w).setCell (by simp) _) (by have := H.pf; simp; exact fun e => this e.symm), H.row.fr ((Fr.refl [p] w).setCell (by simp) _) (by intro k hk e; simp at e; subst e; exact H.nep hk), H.tab.fr ((Fr.refl [p] w).setCell (by simp) _) H.nop, H.pos⟩
theorem prog_setp {w : World} {B p f : Nat} {v : Value} {a x y s pp pc : Int} {h : Bool} {b : FB} (H : ProgAt w B p f v ⟨a, x, y, s, pp, pc, h, b⟩) (u : Int) : ProgAt (w.setCell ⟨p, 4, none⟩ (.int .u8 u)) B p f v ⟨a, x, y, s, u, pc, h, b⟩ :=
  ⟨H.cpu.put 4 _, H.flat.fr ((Fr.refl [p] w).setCell (by simp) _) (by have := H.pf; simp; exact fun e => this e.symm), H.row.fr ((Fr.refl [p] w).setCell (by simp) _) (by intro k hk e; simp at e; subst e; exact H.nep hk), H.tab.fr ((Fr.refl [p] w).setCell (by simp) _) H.nop, H.pos⟩

set_option maxRecDepth 100000 in
theorem xor207 : ∀ v, byte v → (v / 16 % 4 = 0 → 0 ≤ bits .xor .u8 v 207 ∧ bits .xor .u8 v 207 < 256 ∧ bits .xor .u8 v 207 / 16 % 4 = 0) := of_byte _ (by decide +kernel)
theorem fl_xor (v : Int) (h : fl v) : fl (bits .xor .u8 v 207) := ⟨⟨(xor207 v h.1 h.2).1, (xor207 v h.1 h.2).2.1⟩, (xor207 v h.1 h.2).2.2⟩
set_option maxRecDepth 100000 in
theorem andNot_set : ∀ v, byte v → (bits .andNot .u8 (setF (setF v 2 true) 128 true) 130 = bits .andNot .u8 v 130 ∧ bits .andNot .u8 (setF (setF v 2 true) 128 false) 130 = bits .andNot .u8 v 130 ∧ bits .andNot .u8 (setF (setF v 2 false) 128 true) 130 = bits .andNot .u8 v 130 ∧ bits .andNot .u8 (setF (setF v 2 false) 128 false) 130 = bits .andNot .u8 v 130) := of_byte _ (by decide +kernel)
theorem andNot_zn (p v : Int) (h : byte p) : bits .andNot .u8 (zn p v) 130 = bits .andNot .u8 p 130 := by
  obtain ⟨h1, h2, h3, h4⟩ := andNot_set p h
  unfold zn
  cases (v == 0) <;> cases (decide (128 ≤ v)) <;> assumption

/-- A byte of an array of four. -/
def pick4 (y0 y1 y2 y3 k : Int) : Int := if k = 0 then y0 else if k = 1 then y1 else if k = 2 then y2 else y3
theorem info8 : (Tryd.prog.info? 5).map (fun i => (i.zero, i.size, i.bytes)) = some (some (.int .u8 0), 1, 1) := by kernel_rfl
theorem index4 (w : World) (y0 y1 y2 y3 k : Int) (h0 : 0 ≤ k) (h1 : k < 4) : (Instr.index 53 (.agg #[.int .u8 y0, .int .u8 y1, .int .u8 y2, .int .u8 y3]) (.int .u8 k)).run Tryd.prog w = .ok (.int .u8 (pick4 y0 y1 y2 y3 k)) w := by
  obtain ⟨i, hi, _, hz, _⟩ := info_parts info8
  have hk : k = 0 ∨ k = 1 ∨ k = 2 ∨ k = 3 := by omega
  rcases hk with rfl | rfl | rfl | rfl <;> simp [Instr.index, run_underlying Tryd.underlying53, part, sizeOf, typeInfo, hi, hz, asIntOf, pick4]

end Ms
end Go.Proofs.YtlnpadekgakghaaDoor
