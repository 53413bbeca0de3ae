/-
  The program's CPU and its flat bus in memory, and both machines side by side. No condition.
-/
import Derived.Test.YtlnpadekgakghaaDoorMosRef11
import Derived.Test.YtlnpadekgakghaaDoorMkZero
import Derived.Test.YtlnpadekgakghaaDoorMosRow
namespace Go.Proofs.YtlnpadekgakghaaDoor
open Go.RowKit
namespace Ms
set_option linter.unusedVariables false
open Al (byte)

/-- What lies at each cell of the flat bus. -/
def flatOf (b : FB) (v : Value) (i : Nat) : Value := if i < 65536 then .int .u8 (b.m i) else v
def FlatAt (w : World) (f : Nat) (v : Value) (b : FB) : Prop := ∃ cs, Blk w f 37 cs ∧ cs.size = 65537 ∧ ∀ i, i < 65537 → cs[i]? = some (flatOf b v i)
/-- The program's table of opcodes. -/
def Tab (w : World) : Prop := ∀ r, r < 151 → w.cell? ⟨0, r, none⟩ = some (.int .u32 (wd r : Int))
theorem Tab.fr {F : List Nat} {w w' : World} (h : Tab w) (hf : Fr F w w') (hF : 0 ∉ F) : Tab w' := fun r hr => hf.cell (h r hr) hF
theorem Tab.later {w w' : World} (h : Tab w) (hf : Fr [] w w') : Tab w' := h.fr hf (by simp)
theorem Tab.pos {w : World} (h : Tab w) : 0 < w.heap.size := World.block_lt_of_cell? w _ (h 0 (by omega))
def cpuC (S : S14) : Array Value := #[.int .u8 S.a, .int .u8 S.x, .int .u8 S.y, .int .u8 S.s, .int .u8 S.p, .int .u16 S.pc, .bool S.h]
/-- The program's CPU at block p, its bus at block f, the row of what was written is v's. -/
structure ProgAt (w : World) (B p f : Nat) (v : Value) (S : S14) : Prop where
  cpu : Blk w p 50 (cpuC S)
  flat : FlatAt w f v S.b
  row : Pk.PkOwn w B 57 v S.b.w
  tab : Tab w
  pos : 0 < B ∧ 0 < p ∧ 0 < f
def pfoot (p f : Nat) (v : Value) : List Nat := p :: f :: v.ownBlock.toList
/-- What a call leaves that answers val: the state T, nothing else has turned but its own blocks. -/
def PDone (w : World) (B p f : Nat) (v : Value) (T : S14) (val : Value) (e : Ending) (w' : World) : Prop :=
  e = .returned val ∧ ∃ v', ProgAt w' B p f v' T ∧ Fr (pfoot p f v) w w' ∧ Lies w v v'

section
variable {w w' : World} {B p f q : Nat} {v v' u : Value} {S T : S14}
theorem FlatAt.fr {F : List Nat} {b : FB} (h : FlatAt w f v b) (hf : Fr F w w') (hq : f ∉ F) : FlatAt w' f v b := by
  obtain ⟨cs, hb, hs, hc⟩ := h
  exact ⟨cs, hb.fr hf hq, hs, hc⟩
theorem FlatAt.cell {b : FB} (h : FlatAt w f v b) (i : Nat) (hi : i < 65537) : w.cell? ⟨f, i, none⟩ = some (flatOf b v i) := by
  obtain ⟨cs, hb, hs, hc⟩ := h
  rw [hb.cell i, hc i hi]
theorem FlatAt.mem {b : FB} (h : FlatAt w f v b) (a : Int) (ha : u16 a) : w.cell? ⟨f, a.toNat, none⟩ = some (.int .u8 (b.m a)) := by
  obtain ⟨h0, h1⟩ := ha
  rw [h.cell a.toNat (by omega)]
  unfold flatOf
  rw [if_pos (by omega), show ((a.toNat : Nat) : Int) = a by omega]
theorem FlatAt.frozen {b : FB} (h : FlatAt w f v b) (i : Nat) : w.frozen? ⟨f, i, none⟩ = false := by
  obtain ⟨cs, hb, hs, hc⟩ := h
  exact hb.frozen i
theorem FlatAt.lt {b : FB} (h : FlatAt w f v b) : f < w.heap.size := by
  obtain ⟨cs, hb, hs, hc⟩ := h
  exact hb.lt
theorem FlatAt.put {m : Int → Int} {l : List (Int × Int)} (h : FlatAt w f v ⟨m, l⟩) (i x : Int) (hi : u16 i) (l' : List (Int × Int)) : FlatAt (w.setCell ⟨f, i.toNat, none⟩ (.int .u8 x)) f v ⟨upd m i x, l'⟩ := by
  obtain ⟨i0, i1⟩ := hi
  obtain ⟨cs, hb, hs, hc⟩ := h
  refine ⟨_, hb.put i.toNat _, by simpa using hs, fun j hj => ?_⟩
  rw [Array.getElem?_setIfInBounds]
  by_cases e : i.toNat = j
  · subst e
    rw [if_pos rfl, if_pos (by omega)]
    unfold flatOf
    rw [if_pos (by omega)]
    simp only [upd]
    rw [if_pos (by omega)]
  · rw [if_neg e, hc j hj]
    unfold flatOf
    by_cases h8 : j < 65536
    · simp only [h8, upd, if_true]
      rw [if_neg (by omega)]
    · simp only [h8, if_false]
theorem ProgAt.pf (h : ProgAt w B p f v S) : p ≠ f := by
  obtain ⟨cs, hb, -, -⟩ := h.flat
  exact h.cpu.other hb (by decide)
theorem ProgAt.nep (h : ProgAt w B p f v S) : v.ownBlock ≠ some p := h.row.other h.cpu (by decide)
theorem ProgAt.nef (h : ProgAt w B p f v S) : v.ownBlock ≠ some f := by
  obtain ⟨cs, hb, -, -⟩ := h.flat
  exact h.row.other hb (by decide)
theorem ProgAt.fr {F : List Nat} (h : ProgAt w B p f v S) (hf : Fr F w w') (hq : ∀ k ∈ pfoot p f v, k ∉ F) (h0 : 0 ∉ F := by simp) : ProgAt w' B p f v S :=
  ⟨h.cpu.fr hf (hq p (by simp [pfoot])), h.flat.fr hf (hq f (by simp [pfoot])), h.row.fr hf (fun k hk => hq k (by simp [pfoot, hk])), h.tab.fr hf h0, h.pos⟩
theorem ProgAt.nof (h : ProgAt w B p f v S) : 0 ∉ [f] := by have := h.pos; simp; omega
theorem ProgAt.nop (h : ProgAt w B p f v S) : 0 ∉ [p] := by have := h.pos; simp; omega
theorem ProgAt.nopf (h : ProgAt w B p f v S) : 0 ∉ pfoot p f v := by
  have hp := h.pos
  intro hk
  simp only [pfoot, List.mem_cons, Option.mem_toList] at hk
  rcases hk with hk | hk | hk
  · omega
  · omega
  · have := h.row.lt 0 hk; omega
theorem ProgAt.foot_lt (h : ProgAt w B p f v S) : ∀ k ∈ pfoot p f v, k < w.heap.size := by
  intro k hk
  simp only [pfoot, List.mem_cons, Option.mem_toList] at hk
  rcases hk with rfl | rfl | hk
  · exact h.cpu.lt
  · exact h.flat.lt
  · exact (h.row.lt k hk).2
theorem ProgAt.regs (h : ProgAt w B p f v S) : w.cell? ⟨p, 0, none⟩ = some (.int .u8 S.a) ∧ w.cell? ⟨p, 1, none⟩ = some (.int .u8 S.x) ∧ w.cell? ⟨p, 2, none⟩ = some (.int .u8 S.y) ∧ w.cell? ⟨p, 3, none⟩ = some (.int .u8 S.s) ∧ w.cell? ⟨p, 4, none⟩ = some (.int .u8 S.p) ∧ w.cell? ⟨p, 5, none⟩ = some (.int .u16 S.pc) ∧ w.cell? ⟨p, 6, none⟩ = some (.bool S.h) :=
  ⟨h.cpu.cell 0, h.cpu.cell 1, h.cpu.cell 2, h.cpu.cell 3, h.cpu.cell 4, h.cpu.cell 5, h.cpu.cell 6⟩
end

/-- Both machines, with one state, their rows apart. -/
structure Both (w : World) (B p f q : Nat) (v u : Value) (S : S14) : Prop where
  prog : ProgAt w B p f v S
  ref : RefAt w B q u S
  apart : ∀ k, v.ownBlock = some k → u.ownBlock ≠ some k
  qp : 0 < q
def bfoot (p f q : Nat) (v u : Value) : List Nat := pfoot p f v ++ foot q u
section
variable {w w' : World} {B p f q : Nat} {v v' u u' : Value} {S T : S14}
theorem Both.disj (h : Both w B p f q v u S) : ∀ k ∈ pfoot p f v, k ∉ foot q u := by
  intro k hk hm
  obtain ⟨⟨cs, hb, hs, hc⟩, hp⟩ := h.ref
  obtain ⟨ds, hd, -, -⟩ := h.prog.flat
  simp only [pfoot, foot, List.mem_cons, Option.mem_toList] at hk hm
  rcases hk with rfl | rfl | hk
  · rcases hm with e | hm
    · subst e; exact h.prog.cpu.other hb (by decide) rfl
    · exact hp.other h.prog.cpu (by decide) hm
  · rcases hm with e | hm
    · subst e; exact hd.other hb (by decide) rfl
    · exact hp.other hd (by decide) hm
  · rcases hm with e | hm
    · subst e; exact h.prog.row.other hb (by decide) hk
    · exact h.apart k hk hm
theorem Both.fr {F : List Nat} (h : Both w B p f q v u S) (hf : Fr F w w') (hq : ∀ k ∈ bfoot p f q v u, k ∉ F) (h0 : 0 ∉ F := by simp) : Both w' B p f q v u S :=
  ⟨h.prog.fr hf (fun k hk => hq k (List.mem_append_left _ hk)) h0, h.ref.fr hf (fun k hk => hq k (List.mem_append_right _ hk)), h.apart, h.qp⟩
theorem foot0 (hq : 0 < q) (hB : 0 < B) (h : RefAt w B q u S) : 0 ∉ foot q u := by
  intro hk
  simp only [foot, List.mem_cons, Option.mem_toList] at hk
  rcases hk with hk | hk
  · omega
  · have := h.2.lt 0 hk; omega
/-- Both machines did the same. -/
theorem Both.step {w1 w2 : World} {val val' : Value} {e e' : Ending} (h : Both w B p f q v u S) (h1 : PDone w B p f v T val e w1) (h2 : RDone w1 B q u T val' e' w2) :
    e = .returned val ∧ e' = .returned val' ∧ ∃ v2 u2, Both w2 B p f q v2 u2 T ∧ Fr (bfoot p f q v u) w w2 ∧ Lies w v v2 ∧ Lies w u u2 := by
  obtain ⟨rfl, v2, hp, hf, hl⟩ := h1
  obtain ⟨rfl, u2, hr, hg, hm⟩ := h2
  have hlt := h.ref
  have hd := h.disj
  have hdis : ∀ k ∈ pfoot p f v2, k ∉ foot q u := by
    intro k hk hu
    simp only [pfoot, List.mem_cons, Option.mem_toList] at hk
    rcases hk with rfl | rfl | hk
    · exact hd k (by simp [pfoot]) hu
    · exact hd k (by simp [pfoot]) hu
    · rcases hl with e | ⟨j, hj, hle⟩
      · exact hd k (by simp [pfoot, ← e, hk]) hu
      · rw [hj] at hk
        cases hk
        have := foot_lt h.ref k hu
        omega
  refine ⟨rfl, rfl, v2, u2, ⟨hp.fr hg hdis (foot0 h.qp h.prog.pos.1 h.ref), hr, ?_, h.qp⟩, (hf.sub (T := bfoot p f q v u) (fun k hk => .inl (List.mem_append_left _ hk))).trans hg (fun k hk => .inl (List.mem_append_right _ hk)), hl, ?_⟩
  · intro k hk hu
    have hk1 : k ∈ pfoot p f v2 := by simp [pfoot, hk]
    rcases hm with e | ⟨j, hj, hle⟩
    · exact hdis k hk1 (by simp [foot, ← e, hu])
    · rw [hj] at hu
      cases hu
      have := hp.foot_lt k hk1
      omega
  · rcases hm with e | ⟨j, hj, hle⟩
    · exact .inl e
    · exact .inr ⟨j, hj, Nat.le_trans hf.size hle⟩
end

end Ms
end Go.Proofs.YtlnpadekgakghaaDoor
