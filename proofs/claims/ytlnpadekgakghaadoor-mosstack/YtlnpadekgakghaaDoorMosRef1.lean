/-
  Contracts of the document's CPU: read, write. Condition: addresses are addresses.
-/
import Derived.Test.YtlnpadekgakghaaDoorMosObj
namespace Go.Proofs.YtlnpadekgakghaaDoor
open Go.RowKit
namespace Ms
set_option linter.unusedVariables false
open Al (byte)

set_option maxRecDepth 100000 in
set_option maxHeartbeats 2000000 in
theorem rread_any (w : World) (B q : Nat) (v : Value) (S : S14) (i : Int) (H : RefAt w B q v S) (hi : u16 i) :
    Calls Tryd.prog 24 #[.pointer (some ⟨q, 0, none⟩), .int .u16 i] w fun e w' => e = .returned (.int .u8 (S.b.m i)) ∧ w = w' := by
  have cP := H.cell 65544 (by omega)
  have cm := H.mem i hi
  obtain ⟨i0, i1⟩ := hi
  rw [show cellOf S v 65544 = .bool false from rfl] at cP
  clear H
  generalize S.b.m i = M at *
  go_enter Tryd.func24, Tryd.ntmps24
  go_wp2
  go_ret
  exact ⟨rfl, rfl⟩

theorem put_w {w : World} {B q : Nat} {v v' : Value} {a x y s p pc : Int} {h : Bool} {m : Int → Int} {l l' : List (Int × Int)} (H : CellsAt w q v ⟨a, x, y, s, p, pc, h, ⟨m, l⟩⟩) (hP : Pk.PkOwn w B 57 v' l') (hne : v'.ownBlock ≠ some q) :
    RefAt (w.setCell ⟨q, 65543, none⟩ v') B q v' ⟨a, x, y, s, p, pc, h, ⟨m, l'⟩⟩ := by
  obtain ⟨cs, hbk, hs, hcs⟩ := H
  refine ⟨⟨_, hbk.put 65543 v', by simpa using hs, fun j hj => ?_⟩, hP.fr ((Fr.refl [q] w).setCell (by simp) v') (by intro k hk e; simp at e; subst e; exact hne hk)⟩
  rw [Array.getElem?_setIfInBounds]
  by_cases e : 65543 = j
  · subst e
    rw [if_pos rfl, if_pos (by omega)]
    simp [cellOf]
  · rw [if_neg e, hcs j hj]
    unfold cellOf
    simp only [show ¬ j = 65543 from fun h => e h.symm, if_false]
theorem put_m {w : World} {B q : Nat} {v : Value} {a x y s p pc : Int} {h : Bool} {m : Int → Int} {l : List (Int × Int)} (H : RefAt w B q v ⟨a, x, y, s, p, pc, h, ⟨m, l⟩⟩) (i u : Int) (hi : u16 i) :
    RefAt (w.setCell ⟨q, 7 + i.toNat, none⟩ (.int .u8 u)) B q v ⟨a, x, y, s, p, pc, h, ⟨upd m i u, l⟩⟩ := by
  obtain ⟨i0, i1⟩ := hi
  refine H.put _ _ _ rfl fun j _ => ?_
  by_cases e : j = 7 + i.toNat
  · rw [if_pos e]
    unfold cellOf
    repeat rw [if_neg (by omega)]
    rw [if_pos (by omega)]
    simp only [upd]
    rw [if_pos (by omega)]
  · rw [if_neg e]
    unfold cellOf
    by_cases h7 : j < 7
    · have : j = 0 ∨ j = 1 ∨ j = 2 ∨ j = 3 ∨ j = 4 ∨ j = 5 ∨ j = 6 := by omega
      rcases this with rfl | rfl | rfl | rfl | rfl | rfl | rfl <;> rfl
    · by_cases h8 : j < 65543
      · simp only [h8, upd, if_true]
        repeat rw [if_neg (by omega)]
      · simp only [h8, if_false]

theorem infoPoke : (Tryd.prog.info? 57).map (fun i => (i.zero, i.size, i.bytes)) = some (some Pk.zeroV, 2, 4) := by kernel_rfl

set_option maxRecDepth 100000 in
set_option maxHeartbeats 2000000 in
theorem rwrite_any (w : World) (B q : Nat) (v : Value) (S : S14) (i u : Int) (n : Nat) (H : RefAt w B q v S) (hi : u16 i) (hu : byte u) (hO : Ok n S) (hn : n < 1000000000) (hB : B ≤ w.heap.size) :
    Calls Tryd.prog 53 #[.pointer (some ⟨q, 0, none⟩), .int .u16 i, .int .u8 u] w (RDone w B q v ⟨S.a, S.x, S.y, S.s, S.p, S.pc, S.h, Io.wb S.b i u⟩ (.tuple #[])) := by
  obtain ⟨a, x, y, s, p, pc, h, ⟨m, l⟩⟩ := S
  obtain ⟨iz, hz, hz0, hz1, hz2⟩ := info_parts infoPoke
  have cP : w.cell? ⟨q, 65544, none⟩ = some (.bool false) := H.cell 65544 (by omega)
  have cA : w.cell? ⟨q, 65547, none⟩ = some (.int .i64 0) := H.cell 65547 (by omega)
  have cm : w.cell? ⟨q, 7 + i.toNat, none⟩ = some (.int .u8 (m i)) := H.mem i hi
  have fm := H.frozen (7 + i.toNat)
  have hl : l.length ≤ 1000000000 := by have := hO.b.2.2; show l.length ≤ _; exact Nat.le_trans this (by omega)
  have hne := H.ne
  have hlt := H.lt
  have HM : Hid (RefAt (w.setCell ⟨q, 7 + i.toNat, none⟩ (.int .u8 u)) B q v ⟨a, x, y, s, p, pc, h, ⟨upd m i u, l⟩⟩) := Lib.hid (put_m H i u hi)
  have HF : Hid (Fr [q] w (w.setCell ⟨q, 7 + i.toNat, none⟩ (.int .u8 u))) := Lib.hid ((Fr.refl [q] w).setCell (by simp) _)
  have HNE := Lib.hid hne
  have HLT := Lib.hid hlt
  have HLn := Lib.hid hl
  have HBs := Lib.hid hB
  obtain ⟨i0, i1⟩ := hi
  obtain ⟨u0, u1⟩ := hu
  obtain ⟨A, cap, rfl, -⟩ := H.2.slice
  clear hO hn hB hl hne hlt H
  show Calls _ _ _ _ (RDone w B q (.slice A l.length cap) ⟨a, x, y, s, p, pc, h, ⟨upd m i u, l ++ [(i, u)]⟩⟩ (.tuple #[]))
  go_enter Tryd.func53, Tryd.ntmps53
  go_upto_region 3 with fail
  have HP1 : Hid (Pk.PkOwn (w.setCell ⟨q, 7 + i.toNat, none⟩ (.int .u8 u)) B 57 (.slice A l.length cap) l) := Lib.hid HM.out.2
  have hcw : (w.setCell ⟨q, 7 + i.toNat, none⟩ (.int .u8 u)).cell? ⟨q, 65543, none⟩ = some (.slice A l.length cap) := HM.out.cell 65543 (by omega)
  have HB1 : Hid (B ≤ (w.setCell ⟨q, 7 + i.toNat, none⟩ (.int .u8 u)).heap.size) := Lib.hid (Nat.le_trans HBs.out HF.out.size)
  clear cP cA cm fm HBs
  generalize w.setCell _ _ = w1 at *
  go_wp2_with (at_builtin; refine Pk.wpList_pokes _ rfl (.tmp 30) (.tmp 34) 26 rfl B 57 iz Tryd.underlying26 hz hz0 hz1 hz2 _ l _ rfl rfl (HP1.out.fr ((Fr.refl [] w1).alloc _) (by simp)) _ 1 (i, u) rfl (Pk.poke_laid w1 (i, u) 57 _ rfl) HLn.out (by have := HB1.out; simp; omega) ?_)
  intro A' cap' w2 hP hf hl
  have hf' := ((Fr.refl (Value.slice A l.length cap).ownBlock.toList w1).alloc (.cells #[.int .u16 i, .int .u8 u] 57)).tr hf
  have hl' : Lies w1 (.slice A l.length cap) (.slice A' (l.length + 1) cap') := by
    rcases hl with h | ⟨k, hk, hle⟩
    · exact .inl h
    · exact .inr ⟨k, hk, by simp at hle; omega⟩
  have hq : q ∉ (Value.slice A l.length cap).ownBlock.toList := by have := HNE.out; simpa using this
  have hb2 : CellsAt w2 q (.slice A l.length cap) ⟨a, x, y, s, p, pc, h, ⟨upd m i u, l⟩⟩ := by
    obtain ⟨cs, hb, hs, hc⟩ := HM.out.1
    exact ⟨cs, hb.fr hf' hq, hs, hc⟩
  have hne2 : (Value.slice A' (l.length + 1) cap').ownBlock ≠ some q := hl'.other HNE.out (by have := HLT.out; have := HF.out.size; omega)
  have HE : Hid (RDone w B q (.slice A l.length cap) ⟨a, x, y, s, p, pc, h, ⟨upd m i u, l ++ [(i, u)]⟩⟩ (.tuple #[]) (.returned (.tuple #[])) (w2.setCell ⟨q, 65543, none⟩ (.slice A' (l.length + 1) cap'))) := Lib.hid ⟨rfl, _, put_w hb2 hP hne2, by
    refine Fr.setCell ?_ (by simp [foot]) _
    exact ((HF.out.sub (T := foot q (.slice A l.length cap)) (by intro k hk; left; simp at hk; subst hk; simp [foot])).trans hf' (by intro k hk; left; simp [foot]; right; simpa using hk)), by
    rcases hl' with h | ⟨k, hk, hle⟩
    · exact .inl h
    · exact .inr ⟨k, hk, Nat.le_trans HF.out.size hle⟩⟩
  have hcw2 := hb2.cell 65543 (by omega)
  have hfw2 := hb2.frozen 65543
  rw [show cellOf _ _ 65543 = Value.slice A l.length cap from rfl] at hcw2
  clear hP hf hl hf' hl' hq hb2 hne2 hcw HP1 HB1 HM HF HNE HLT
  go_wp2
  (first | go_end0 | refine bodyPost_ret (results_none rfl _ _ _) rfl ?_)
  exact HE.out

end Ms
end Go.Proofs.YtlnpadekgakghaaDoor
