/-
  What stays as it is bound: bytes stay bytes, B and U are never set: of no program. No condition.
-/
import Derived.Test.YtlnpadekgakghaaDoorMosMath
namespace Go.Proofs.YtlnpadekgakghaaDoor
open Go.RowKit
namespace Ms
set_option linter.unusedVariables false
open Al (byte of_byte)
open Io

/-- A byte in which B and U are not set. -/
def fl (p : Int) : Prop := byte p ∧ p / 16 % 4 = 0
theorem fl_b {p : Int} (h : fl p) : byte p := h.1

set_option maxRecDepth 100000 in
theorem setF_all (k : Int) (hk : isF k) (on : Bool) : ∀ p, byte p → (p / 16 % 4 = 0 → 0 ≤ setF p k on ∧ setF p k on < 256 ∧ setF p k on / 16 % 4 = 0) := by
  rcases hk with rfl | rfl | rfl | rfl | rfl | rfl <;> cases on <;> exact of_byte _ (by decide +kernel)
theorem fl_setF (p k : Int) (on : Bool) (hk : isF k) (hp : fl p) : fl (setF p k on) := by
  obtain ⟨h0, h1, h2⟩ := setF_all k hk on p hp.1 hp.2
  exact ⟨⟨h0, h1⟩, h2⟩
theorem isF1 : isF 1 := .inl rfl
theorem isF2 : isF 2 := .inr (.inl rfl)
theorem isF4 : isF 4 := .inr (.inr (.inl rfl))
theorem isF8 : isF 8 := .inr (.inr (.inr (.inl rfl)))
theorem isF64 : isF 64 := .inr (.inr (.inr (.inr (.inl rfl))))
theorem isF128 : isF 128 := .inr (.inr (.inr (.inr (.inr rfl))))
theorem fl_zn (p v : Int) (hp : fl p) : fl (zn p v) := fl_setF _ _ _ isF128 (fl_setF _ _ _ isF2 hp)
theorem fl_cmpP (p r v : Int) (hp : fl p) : fl (cmpP p r v) := fl_setF _ _ _ isF128 (fl_setF _ _ _ isF2 (fl_setF _ _ _ isF1 hp))
theorem fl_addP (p a v : Int) (hp : fl p) : fl (addP p a v) := fl_zn _ _ (fl_setF _ _ _ isF64 (fl_setF _ _ _ isF1 hp))
theorem fl_subP (p a v : Int) (hp : fl p) : fl (subP p a v) := fl_zn _ _ (fl_setF _ _ _ isF64 (fl_setF _ _ _ isF1 hp))
theorem fl_bitP (p a v : Int) (hp : fl p) : fl (bitP p a v) := fl_setF _ _ _ isF64 (fl_setF _ _ _ isF128 (fl_setF _ _ _ isF2 hp))
theorem fl_mainP (what a p v : Int) (hp : fl p) : fl (mainP what a p v) := by
  unfold mainP
  split
  · exact fl_addP _ _ _ hp
  · split
    · exact fl_cmpP _ _ _ hp
    · split
      · exact fl_subP _ _ _ hp
      · exact fl_zn _ _ hp
theorem fl_chP (what p v : Int) (hp : fl p) : fl (chP what p v) := fl_zn _ _ (fl_setF _ _ _ isF1 hp)
set_option maxRecDepth 100000 in
theorem noBU_all : ∀ v, byte v → 0 ≤ noBU v ∧ noBU v < 256 ∧ noBU v / 16 % 4 = 0 := of_byte _ (by decide +kernel)
theorem fl_noBU (v : Int) (h : byte v) : fl (noBU v) := ⟨⟨(noBU_all v h).1, (noBU_all v h).2.1⟩, (noBU_all v h).2.2⟩
theorem wrap_byte (x : Int) : byte (IntKind.u8.wrap x) := by
  rw [IntKind.wrap_u8]
  exact ⟨by omega, by omega⟩
theorem mainA_byte (what a p v : Int) (ha : byte a) (hv : byte v) : byte (mainA what a p v) := by
  unfold mainA
  split
  · exact wrap_byte _
  · split
    · exact wrap_byte _
    · split
      · exact wrap_byte _
      · split
        · exact Al.addR_byte _ _ _
        · split
          · exact hv
          · split
            · exact ha
            · exact Al.subR_byte _ _ _
theorem chV_byte (what p v : Int) (hv : byte v) : byte (chV what p v) := by
  unfold chV
  split
  · exact Al.leftR_byte _ _
  · split
    · exact Al.leftR_byte _ _
    · split
      · exact Al.rightR_byte _ _ hv
      · split
        · exact Al.rightR_byte _ _ hv
        · split
          · exact ⟨by omega, by omega⟩
          · exact ⟨by omega, by omega⟩
theorem mod_byte (x : Int) : byte (x % 256) := ⟨by omega, by omega⟩
theorem mod_u16 (x : Int) : u16 (x % 65536) := ⟨by omega, by omega⟩
theorem byte_u16 {x : Int} (h : byte x) : u16 x := ⟨h.1, by have := h.2; omega⟩
theorem stack_u16 {x : Int} (h : byte x) : u16 (256 + x) := ⟨by have := h.1; omega, by have := h.2; omega⟩
theorem word_u16 {x y : Int} (h : byte x) (g : byte y) : u16 (x + 256 * y) := ⟨by have := h.1; have := g.1; omega, by have := h.2; have := g.2; omega⟩

section
variable {β : Type} [Io β] {n m : Nat} {S : St β}
theorem Ok.up (h : Ok n S) (hn : n ≤ m) : Ok m S := ⟨h.a, h.x, h.y, h.s, h.p, h.bu, h.pc, Io.up h.b hn⟩
theorem Ok.pf (h : Ok n S) : fl S.p := ⟨h.p, h.bu⟩
theorem Ok.mk' {a x y s p pc : Int} {h : Bool} {b : β} (ha : byte a) (hx : byte x) (hy : byte y) (hs : byte s) (hp : fl p) (hpc : u16 pc) (hb : ok n b) : Ok n (⟨a, x, y, s, p, pc, h, b⟩ : St β) := ⟨ha, hx, hy, hs, hp.1, hp.2, hpc, hb⟩
theorem ok_push (v : Int) (h : Ok n S) (hv : byte v) : Ok (n + 1) (push S v) := Ok.mk' h.a h.x h.y (mod_byte _) h.pf h.pc (wb_ok _ _ h.b (stack_u16 h.s) hv)
theorem ok_pull (h : Ok n S) : Ok n (pull S) := Ok.mk' h.a h.x h.y (mod_byte _) h.pf h.pc (rb_ok _ h.b)
theorem pullV_byte (h : Ok n S) : byte (pullV S) := rv_ok _ h.b
theorem ok_next (h : Ok n S) : Ok n (next S) := Ok.mk' h.a h.x h.y h.s h.pf (mod_u16 _) (rb_ok _ h.b)
theorem nextV_byte (h : Ok n S) : byte (nextV S) := rv_ok _ h.b
theorem ok_word (h : Ok n S) : Ok n (word S) := ok_next (ok_next h)
theorem wordV_u16 (h : Ok n S) : u16 (wordV S) := word_u16 (nextV_byte h) (nextV_byte (ok_next h))
theorem pairV_u16 {b : β} (i j : Int) (h : ok n b) : u16 (pairV b i j) := word_u16 (rv_ok _ h) (rv_ok _ (rb_ok _ h))
theorem pairB_ok {b : β} (i j : Int) (h : ok n b) : ok n (pairB b i j) := rb_ok _ (rb_ok _ h)
theorem ok_pushW (v : Int) (h : Ok n S) (hv : u16 v) : Ok (n + 2) (pushW S v) := ok_push _ (ok_push _ h (by obtain ⟨h0, h1⟩ := hv; exact ⟨by omega, by omega⟩)) (mod_byte _)
theorem ok_pullW (h : Ok n S) : Ok n (pullW S) := ok_pull (ok_pull h)
theorem pullWV_u16 (h : Ok n S) : u16 (pullWV S) := word_u16 (pullV_byte h) (pullV_byte (ok_pull h))
theorem ok_withPC (pc : Int) (h : Ok n S) (hp : u16 pc) : Ok n (withPC S pc) := Ok.mk' h.a h.x h.y h.s h.pf hp h.b
theorem ok_withP (p : Int) (h : Ok n S) (hp : Ms.fl p) : Ok n (withP S p) := Ok.mk' h.a h.x h.y h.s hp h.pc h.b
theorem ok_vector (i j : Int) (h : Ok n S) : Ok n (vector S i j) := Ok.mk' h.a h.x h.y h.s h.pf (pairV_u16 _ _ h.b) (pairB_ok _ _ h.b)

theorem added_u16 (w n rd put chg : Int) : u16 (added w n rd put chg).ad := mod_u16 _
theorem adr_u16 (mode : Int) (h : Ok n S) : u16 (adr mode S).ad := by
  unfold adr
  split
  · exact h.pc
  split
  · exact wordV_u16 h
  split
  · exact added_u16 _ _ _ _ _
  split
  · exact added_u16 _ _ _ _ _
  split
  · exact byte_u16 (nextV_byte h)
  split
  · exact byte_u16 (mod_byte _)
  split
  · exact byte_u16 (mod_byte _)
  split
  · exact added_u16 _ _ _ _ _
  · exact pairV_u16 _ _ (ok_next h).b
omit [Io β] in
theorem adrPC_u16 (mode : Int) : u16 (adrPC mode S) := by
  unfold adrPC
  split <;> exact mod_u16 _
theorem adrB_ok (mode : Int) (h : Ok n S) : ok n (adrB mode S) := by
  unfold adrB
  split
  · exact h.b
  split
  · exact (ok_word h).b
  split
  · exact (ok_next h).b
  split <;> exact pairB_ok _ _ (ok_next h).b
theorem ok_main (what mode : Int) (h : Ok n S) : Ok (n + 1) (main what mode S) := by
  unfold main
  split
  · exact Ok.mk' h.a h.x h.y h.s h.pf (adrPC_u16 mode) (wb_ok _ _ (adrB_ok mode h) (adr_u16 mode h) h.a)
  · exact (Ok.mk' (mainA_byte _ _ _ _ h.a (rv_ok _ (adrB_ok mode h))) h.x h.y h.s (fl_mainP _ _ _ _ h.pf) (adrPC_u16 mode) (rb_ok _ (adrB_ok mode h)) : Ok n _).up (by omega)
theorem ok_loads (mode : Int) (isX store : Bool) (h : Ok n S) : Ok (n + 1) (loads mode isX store S) := by
  unfold loads
  split
  · exact Ok.mk' h.a h.x h.y h.s h.pf (adrPC_u16 mode) (wb_ok _ _ (adrB_ok mode h) (adr_u16 mode h) (by split; exact h.x; exact h.y))
  · split
    · exact (Ok.mk' h.a (rv_ok _ (adrB_ok mode h)) h.y h.s (fl_zn _ _ h.pf) (adrPC_u16 mode) (rb_ok _ (adrB_ok mode h)) : Ok n _).up (by omega)
    · exact (Ok.mk' h.a h.x (rv_ok _ (adrB_ok mode h)) h.s (fl_zn _ _ h.pf) (adrPC_u16 mode) (rb_ok _ (adrB_ok mode h)) : Ok n _).up (by omega)
theorem ok_change (what mode : Int) (h : Ok n S) : Ok (n + 1) (change what mode S) :=
  Ok.mk' h.a h.x h.y h.s (fl_chP _ _ _ h.pf) (adrPC_u16 mode) (wb_ok _ _ (rb_ok _ (adrB_ok mode h)) (adr_u16 mode h) (chV_byte _ _ _ (rv_ok _ (adrB_ok mode h))))
theorem ok_single (what : Int) (stack : Bool) (h : Ok n S) : Ok n (single what stack S) := by
  unfold single
  split
  · split
    · exact Ok.mk' h.a h.x h.y h.x h.pf h.pc h.b
    · exact Ok.mk' h.a h.s h.y h.s (fl_zn _ _ h.pf) h.pc h.b
  · split
    · exact Ok.mk' h.x h.x h.y h.s (fl_zn _ _ h.pf) h.pc h.b
    · split
      · exact Ok.mk' h.a h.a h.y h.s (fl_zn _ _ h.pf) h.pc h.b
      · split
        · exact Ok.mk' h.a (mod_byte _) h.y h.s (fl_zn _ _ h.pf) h.pc h.b
        · exact h
theorem ok_second (what mode : Int) (h : Ok n S) : Ok (n + 1) (second what mode S) := by
  unfold second
  split
  · exact ok_loads _ _ _ h
  split
  · exact (Ok.mk' (chV_byte _ _ _ h.a) h.x h.y h.s (fl_chP _ _ _ h.pf) h.pc h.b : Ok n _).up (by omega)
  split
  · exact (ok_single _ _ h).up (by omega)
  split
  · exact ok_loads _ _ _ h
  · exact ok_change _ _ h
theorem ok_branch (which : Int) (must : Bool) (h : Ok n S) : Ok n (branch which must S) := by
  refine Ok.mk' h.a h.x h.y h.s h.pf ?_ (rb_ok _ h.b)
  split <;> exact mod_u16 _
theorem ok_stack (k : Int) (h : Ok n S) : Ok (n + 1) (stack k S) := by
  have hp : byte (S.p + 48) := by
    obtain ⟨h0, h1⟩ := h.p
    have := h.bu
    exact ⟨by omega, by omega⟩
  unfold stack
  split
  · exact ok_push _ h hp
  split
  · exact (Ok.mk' h.a h.x h.y (mod_byte _) (fl_noBU _ (pullV_byte h)) h.pc (ok_pull h).b : Ok n _).up (by omega)
  split
  · exact ok_push _ h h.a
  split
  · exact (Ok.mk' (pullV_byte h) h.x h.y (mod_byte _) (fl_zn _ _ h.pf) h.pc (ok_pull h).b : Ok n _).up (by omega)
  split
  · exact (Ok.mk' h.a h.x (mod_byte _) h.s (fl_zn _ _ h.pf) h.pc h.b : Ok n _).up (by omega)
  split
  · exact (Ok.mk' h.a h.x h.a h.s (fl_zn _ _ h.pf) h.pc h.b : Ok n _).up (by omega)
  split
  · exact (Ok.mk' h.a h.x (mod_byte _) h.s (fl_zn _ _ h.pf) h.pc h.b : Ok n _).up (by omega)
  · exact (Ok.mk' h.a (mod_byte _) h.y h.s (fl_zn _ _ h.pf) h.pc h.b : Ok n _).up (by omega)
theorem ok_flags (k : Int) (h : Ok n S) : Ok n (flags k S) := by
  unfold flags
  split
  · exact Ok.mk' h.y h.x h.y h.s (fl_zn _ _ h.pf) h.pc h.b
  · refine Ok.mk' h.a h.x h.y h.s ?_ h.pc h.b
    split
    · exact fl_setF _ _ _ isF1 h.pf
    split
    · exact fl_setF _ _ _ isF4 h.pf
    split
    · exact fl_setF _ _ _ isF64 h.pf
    · exact fl_setF _ _ _ isF8 h.pf
theorem p48 (h : Ok n S) : byte (S.p + 48) := by
  obtain ⟨h0, h1⟩ := h.p
  have := h.bu
  exact ⟨by omega, by omega⟩
theorem p32 (h : Ok n S) : byte (S.p + 32) := by
  obtain ⟨h0, h1⟩ := h.p
  have := h.bu
  exact ⟨by omega, by omega⟩
theorem ok_jump (what : Int) (h : Ok n S) : Ok (n + 3) (jump what S) := by
  unfold jump
  split
  · exact ok_vector _ _ (ok_withP _ (ok_push _ (ok_pushW _ h (mod_u16 _)) (p48 h)) (fl_setF _ _ _ isF4 h.pf))
  split
  · exact (ok_withPC _ (ok_pushW _ (ok_word h) (mod_u16 _)) (wordV_u16 h)).up (by omega)
  split
  · have h1 := ok_withP (noBU (pullV S)) (ok_pull h) (fl_noBU _ (pullV_byte h))
    exact (ok_withPC _ (ok_pullW h1) (pullWV_u16 h1)).up (by omega)
  · exact (ok_withPC _ (ok_pullW h) (mod_u16 _)).up (by omega)
theorem ok_third (what mode : Int) (h : Ok n S) : Ok (n + 3) (third what mode S) := by
  unfold third
  split
  · exact (ok_branch _ _ h).up (by omega)
  split
  · exact (ok_stack _ h).up (by omega)
  split
  · exact (ok_flags _ h).up (by omega)
  split
  · exact ok_jump _ h
  split
  · exact (ok_withPC _ (ok_word h) (wordV_u16 h)).up (by omega)
  split
  · exact (ok_vector _ _ (ok_word h)).up (by omega)
  split
  · exact (Ok.mk' h.a h.x h.y h.s (fl_bitP _ _ _ h.pf) (adrPC_u16 mode) (rb_ok _ (adrB_ok mode h)) : Ok n _).up (by omega)
  split
  · exact (ok_loads _ _ _ h).up (by omega)
  split
  · exact (ok_loads _ _ _ h).up (by omega)
  · exact (Ok.mk' h.a h.x h.y h.s (fl_cmpP _ _ _ h.pf) (adrPC_u16 _) (rb_ok _ (adrB_ok _ h)) : Ok n _).up (by omega)
theorem ok_done (op : Int) (h : Ok n S) : Ok (n + 3) (done op S) := by
  unfold done
  split
  · exact ok_third _ _ h
  split
  · exact (ok_main _ _ h).up (by omega)
  · exact (ok_second _ _ h).up (by omega)
theorem ok_step (h : Ok n S) : Ok (n + 3) (step S) := by
  unfold step
  split
  · exact h.up (by omega)
  split
  · exact ok_done _ (ok_next h)
  · exact (Ok.mk' h.a h.x h.y h.s h.pf h.pc (rb_ok _ h.b) : Ok n _).up (by omega)
theorem ok_interrupt (v : Int) (h : Ok n S) : Ok (n + 3) (interrupt S v) := by
  unfold interrupt
  split
  · exact h.up (by omega)
  · exact ok_vector _ _ (ok_withP _ (ok_push _ (ok_pushW _ h h.pc) (p32 h)) (fl_setF _ _ _ isF4 h.pf))
theorem ok_reset (h : Ok n S) : Ok n (reset S) := Ok.mk' ⟨by omega, by omega⟩ ⟨by omega, by omega⟩ ⟨by omega, by omega⟩ ⟨by omega, by omega⟩ ⟨⟨by omega, by omega⟩, by omega⟩ (pairV_u16 _ _ h.b) (pairB_ok _ _ h.b)
end

end Ms
end Go.Proofs.YtlnpadekgakghaaDoor
