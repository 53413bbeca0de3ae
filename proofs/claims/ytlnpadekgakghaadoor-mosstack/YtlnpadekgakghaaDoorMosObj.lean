/-
  The document's 6502 in memory. No condition.
-/
import Derived.Test.YtlnpadekgakghaaDoorPokes
import Derived.Test.YtlnpadekgakghaaDoorMosMath
import Derived.Laws.StructEq
import Derived.StillTailTactics
import Derived.Deep.Cut
import Derived.Deep.RegionLaw
import Derived.Deep.RegionHeld3
import Derived.Deep.DeepCutAuto
import Derived.WalkMore
import Derived.BigQuiet
import Derived.OwnWalk
namespace Go.Proofs.YtlnpadekgakghaaDoor
open Go.RowKit
namespace Ms
open Al (byte)

/-- A flat bus: its bytes, and what was written. -/
structure FB where
  m : Int → Int
  w : List (Int × Int)
def upd (m : Int → Int) (a v : Int) : Int → Int := fun i => if i = a then v else m i
instance : Io FB where
  rv b a := b.m a
  rb b _ := b
  wb b a v := ⟨upd b.m a v, b.w ++ [(a, v)]⟩
  ok n b := (∀ i, byte (b.m i)) ∧ (∀ z ∈ b.w, u16 z.1 ∧ byte z.2) ∧ b.w.length ≤ n
  rv_ok a h := h.1 a
  rb_ok _ h := h
  wb_ok a v h ha hv := by
    obtain ⟨h1, h2, h3⟩ := h
    refine ⟨fun i => ?_, fun z hz => ?_, by simp; omega⟩
    · show byte (if i = a then v else _)
      split
      · exact hv
      · exact h1 i
    · rcases List.mem_append.1 hz with h | h
      · exact h2 z h
      · obtain rfl := List.mem_singleton.1 h
        exact ⟨ha, hv⟩
  up h hn := ⟨h.1, h.2.1, Nat.le_trans h.2.2 hn⟩

abbrev S14 := St FB

/-- What lies at each cell of the document's CPU. -/
def cellOf (S : S14) (v : Value) (i : Nat) : Value :=
  if i = 0 then .int .u8 S.a else if i = 1 then .int .u8 S.x else if i = 2 then .int .u8 S.y else if i = 3 then .int .u8 S.s else if i = 4 then .int .u8 S.p
  else if i = 5 then .int .u16 S.pc else if i = 6 then .bool S.h else if i < 65543 then .int .u8 (S.b.m ((i : Int) - 7)) else if i = 65543 then v
  else if i = 65544 then .bool false else if i = 65545 then .slice none 0 0 else .int .i64 0

/-- The document's CPU's cells at block q. -/
def CellsAt (w : World) (q : Nat) (v : Value) (S : S14) : Prop := ∃ cs, Blk w q 40 cs ∧ cs.size = 65548 ∧ ∀ i, i < 65548 → cs[i]? = some (cellOf S v i)
theorem CellsAt.cell {w : World} {q : Nat} {v : Value} {S : S14} (h : CellsAt w q v S) (i : Nat) (hi : i < 65548) : w.cell? ⟨q, i, none⟩ = some (cellOf S v i) := by
  obtain ⟨cs, hb, hs, hc⟩ := h
  rw [hb.cell i, hc i hi]
theorem CellsAt.frozen {w : World} {q : Nat} {v : Value} {S : S14} (h : CellsAt w q v S) (i : Nat) : w.frozen? ⟨q, i, none⟩ = false := by
  obtain ⟨cs, hb, hs, hc⟩ := h
  exact hb.frozen i
/-- The document's CPU at block q, the row of what was written is v's. -/
def RefAt (w : World) (B q : Nat) (v : Value) (S : S14) : Prop := CellsAt w q v S ∧ Pk.PkOwn w B 57 v S.b.w

def foot (q : Nat) (v : Value) : List Nat := q :: v.ownBlock.toList

section
variable {w w' : World} {B q : Nat} {v : Value} {S : S14}
theorem RefAt.cell (h : RefAt w B q v S) (i : Nat) (hi : i < 65548) : w.cell? ⟨q, i, none⟩ = some (cellOf S v i) := by
  obtain ⟨⟨cs, hb, hs, hc⟩, -⟩ := h
  rw [hb.cell i, hc i hi]
theorem RefAt.frozen (h : RefAt w B q v S) (i : Nat) : w.frozen? ⟨q, i, none⟩ = false := by
  obtain ⟨⟨cs, hb, hs, hc⟩, -⟩ := h
  exact hb.frozen i
theorem RefAt.lt (h : RefAt w B q v S) : q < w.heap.size := by
  obtain ⟨⟨cs, hb, hs, hc⟩, -⟩ := h
  exact hb.lt
theorem RefAt.ne (h : RefAt w B q v S) : v.ownBlock ≠ some q := by
  obtain ⟨⟨cs, hb, hs, hc⟩, hp⟩ := h
  exact hp.other hb (by decide)
theorem RefAt.fr {F : List Nat} (h : RefAt w B q v S) (hf : Fr F w w') (hq : ∀ k ∈ foot q v, k ∉ F) : RefAt w' B q v S := by
  obtain ⟨⟨cs, hb, hs, hc⟩, hp⟩ := h
  exact ⟨⟨cs, hb.fr hf (hq q (by simp [foot])), hs, hc⟩, hp.fr hf (fun k hk => hq k (by simp [foot, hk]))⟩
theorem RefAt.put (h : RefAt w B q v S) (i : Nat) (u : Value) (S' : S14) (hb : S'.b.w = S.b.w) (hc : ∀ j, j < 65548 → cellOf S' v j = if j = i then u else cellOf S v j) : RefAt (w.setCell ⟨q, i, none⟩ u) B q v S' := by
  have hne := h.ne
  obtain ⟨⟨cs, hbk, hs, hcs⟩, hp⟩ := h
  refine ⟨⟨_, hbk.put i u, by simpa using hs, fun j hj => ?_⟩, ?_⟩
  · rw [Array.getElem?_setIfInBounds, hc j hj]
    by_cases e : i = j
    · subst e
      rw [if_pos rfl, if_pos (by omega), if_pos rfl]
    · rw [if_neg e, if_neg (by omega)]
      exact hcs j hj
  · rw [hb]
    exact hp.fr ((Fr.refl [q] w).setCell (by simp) u) (by intro k hk e; simp at e; subst e; exact hne hk)
theorem RefAt.regs (h : RefAt w B q v S) : w.cell? ⟨q, 0, none⟩ = some (.int .u8 S.a) ∧ w.cell? ⟨q, 1, none⟩ = some (.int .u8 S.x) ∧ w.cell? ⟨q, 2, none⟩ = some (.int .u8 S.y) ∧ w.cell? ⟨q, 3, none⟩ = some (.int .u8 S.s) ∧ w.cell? ⟨q, 4, none⟩ = some (.int .u8 S.p) ∧ w.cell? ⟨q, 5, none⟩ = some (.int .u16 S.pc) ∧ w.cell? ⟨q, 6, none⟩ = some (.bool S.h) :=
  ⟨h.cell 0 (by omega), h.cell 1 (by omega), h.cell 2 (by omega), h.cell 3 (by omega), h.cell 4 (by omega), h.cell 5 (by omega), h.cell 6 (by omega)⟩
theorem RefAt.mem (h : RefAt w B q v S) (a : Int) (ha : u16 a) : w.cell? ⟨q, 7 + a.toNat, none⟩ = some (.int .u8 (S.b.m a)) := by
  obtain ⟨h0, h1⟩ := ha
  rw [h.cell (7 + a.toNat) (by omega)]
  unfold cellOf
  repeat rw [if_neg (by omega)]
  rw [if_pos (by omega), show ((7 + a.toNat : Nat) : Int) - 7 = a by omega]
end

section
variable {w : World} {B q : Nat} {v : Value} {a x y s p pc : Int} {h : Bool} {b : FB}
theorem put_a (H : RefAt w B q v ⟨a, x, y, s, p, pc, h, b⟩) (u : Int) : RefAt (w.setCell ⟨q, 0, none⟩ (.int .u8 u)) B q v ⟨u, x, y, s, p, pc, h, b⟩ := H.put _ _ _ rfl (by intro j _; unfold cellOf; by_cases e : j = 0 <;> simp [e])
theorem put_x (H : RefAt w B q v ⟨a, x, y, s, p, pc, h, b⟩) (u : Int) : RefAt (w.setCell ⟨q, 1, none⟩ (.int .u8 u)) B q v ⟨a, u, y, s, p, pc, h, b⟩ := H.put _ _ _ rfl (by intro j _; unfold cellOf; by_cases e : j = 1 <;> simp [e])
theorem put_y (H : RefAt w B q v ⟨a, x, y, s, p, pc, h, b⟩) (u : Int) : RefAt (w.setCell ⟨q, 2, none⟩ (.int .u8 u)) B q v ⟨a, x, u, s, p, pc, h, b⟩ := H.put _ _ _ rfl (by intro j _; unfold cellOf; by_cases e : j = 2 <;> simp [e])
theorem put_s (H : RefAt w B q v ⟨a, x, y, s, p, pc, h, b⟩) (u : Int) : RefAt (w.setCell ⟨q, 3, none⟩ (.int .u8 u)) B q v ⟨a, x, y, u, p, pc, h, b⟩ := H.put _ _ _ rfl (by intro j _; unfold cellOf; by_cases e : j = 3 <;> simp [e])
theorem put_p (H : RefAt w B q v ⟨a, x, y, s, p, pc, h, b⟩) (u : Int) : RefAt (w.setCell ⟨q, 4, none⟩ (.int .u8 u)) B q v ⟨a, x, y, s, u, pc, h, b⟩ := H.put _ _ _ rfl (by intro j _; unfold cellOf; by_cases e : j = 4 <;> simp [e])
theorem put_pc (H : RefAt w B q v ⟨a, x, y, s, p, pc, h, b⟩) (u : Int) : RefAt (w.setCell ⟨q, 5, none⟩ (.int .u16 u)) B q v ⟨a, x, y, s, p, u, h, b⟩ := H.put _ _ _ rfl (by intro j _; unfold cellOf; by_cases e : j = 5 <;> simp [e])
theorem put_h (H : RefAt w B q v ⟨a, x, y, s, p, pc, h, b⟩) (u : Bool) : RefAt (w.setCell ⟨q, 6, none⟩ (.bool u)) B q v ⟨a, x, y, s, p, pc, u, b⟩ := H.put _ _ _ rfl (by intro j _; unfold cellOf; by_cases e : j = 6 <;> simp [e])
end

/-- What a call leaves that answers val: the state T, nothing else has turned but its own blocks. -/
def RDone (w : World) (B q : Nat) (v : Value) (T : S14) (val : Value) (e : Ending) (w' : World) : Prop :=
  e = .returned val ∧ ∃ v', RefAt w' B q v' T ∧ Fr (foot q v) w w' ∧ Lies w v v'
theorem foot_in {w w' : World} {q : Nat} {v v' : Value} (_ : w.heap.size ≤ w'.heap.size) (hl : Lies w v v') : ∀ i ∈ foot q v', i ∈ foot q v ∨ w.heap.size ≤ i := by
  intro i hi
  simp only [foot, List.mem_cons, Option.mem_toList] at hi ⊢
  rcases hi with rfl | hi
  · exact .inl (.inl rfl)
  · rcases hl with h | ⟨k, hk, hle⟩
    · exact .inl (.inr (by rw [← h]; exact hi))
    · rw [hk] at hi
      cases hi
      exact .inr hle
theorem Fr.step {w w1 w2 : World} {q : Nat} {v v1 : Value} (h1 : Fr (foot q v) w w1) (l1 : Lies w v v1) (h2 : Fr (foot q v1) w1 w2) : Fr (foot q v) w w2 := h1.trans h2 (foot_in h1.size l1)
theorem rdone_put {w w1 : World} {B q : Nat} {v v1 : Value} {T : S14} (h1 : Fr (foot q v) w w1) (l1 : Lies w v v1) (i : Nat) (u : Value) (H : RefAt (w1.setCell ⟨q, i, none⟩ u) B q v1 T) : RDone w B q v T (.tuple #[]) (.returned (.tuple #[])) (w1.setCell ⟨q, i, none⟩ u) :=
  ⟨rfl, v1, H, h1.setCell (by simp [foot]) u, l1⟩

end Ms
end Go.Proofs.YtlnpadekgakghaaDoor
