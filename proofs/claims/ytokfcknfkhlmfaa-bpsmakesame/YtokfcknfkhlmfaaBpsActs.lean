/-
  Contract of bps' takeActions (of actions that are there, and that make as many bytes as the patch tells).
-/
import Derived.Test.YtokfcknfkhlmfaaBpsAct
import Derived.Deep.DeepCutAuto
namespace Go.Proofs.Ytokfcknfkhlmfaa
open Go.RowKit
namespace Bps
open Acts (ActOwn ActRd zeroV)

theorem infoA : (Try.prog.info? 82).map (fun i => (i.zero, i.size, i.bytes)) = some (some zeroV, 4, 48) := by kernel_rfl

theorem total_ge (L : List Act) (h : ∀ a ∈ L, 1 ≤ a.len) : L.length ≤ total L := by
  induction L with
  | nil => simp
  | cons a l ih =>
    have h1 := h a (List.mem_cons_self ..)
    have h2 := ih fun x hx => h x (List.mem_cons_of_mem _ hx)
    simp only [List.length_cons, total]
    omega

/-- What holds ahead of each action. -/
structure TakeInv (w : World) (q p g : Nat) (l : List UInt8) (i o : Nat) (s1 s2 : BitVec 32) (M : Value) (L : List Act) (wr : World) (k : Nat) (done rest : List Act) (V : Value) : Prop where
  split : L = done ++ rest
  ok : ∀ a ∈ rest, Ok a
  place : k ≤ l.length
  bytes : l.drop k = rest.flatMap actB
  rdr : Rdr wr p g l k
  pat : Blk wr q 70 (patV i o s1 s2 M V)
  own : ActOwn wr w.heap.size 82 V done
  fr : Fr [p, q] w wr

set_option maxRecDepth 100000 in
set_option maxHeartbeats 2000000 in
theorem takeActions_ok (w : World) (q p g k : Nat) (l : List UInt8) (i o : Nat) (s1 s2 : BitVec 32) (M : Value) (L : List Act) (hP : Blk w q 70 (patV i o s1 s2 M (.slice none 0 0))) (h : Rdr w p g l k) (hk : k ≤ l.length) (hl : l.length ≤ 1000000000) (hd : l.drop k = L.flatMap actB) (hok : ∀ a ∈ L, Ok a) (ho : total L = o) (hom : o ≤ 16777216) :
    Calls Try.prog 42 #[.pointer (some ⟨q, 0, none⟩), .pointer (some ⟨p, 0, none⟩)] w fun e w' => ∃ V, e = .returned (.int .i64 0) ∧ Blk w' q 70 (patV i o s1 s2 M V) ∧ ActOwn w' w.heap.size 82 V L ∧ Fr [p, q] w w' := by
  obtain ⟨i0, hi, hz0, hz1, hz2⟩ := info_parts infoA
  have HI0 : Hid (TakeInv w q p g l i o s1 s2 M L w k [] L (.slice none 0 0)) := Lib.hid ⟨rfl, hok, hk, hd, h, hP, ActOwn.none_ _ _ _, Fr.refl _ _⟩
  have hne : q ≠ p := hP.other h.1 (by decide)
  have hqg : q ≠ g := fun e => by subst e; exact (hP.other h.2 (by decide)) rfl
  have hql := hP.lt
  have hpl := h.1.lt
  have hgl := h.2.lt
  have c1 := hP.cell 1
  simp [patV] at c1
  clear h hP hd hk
  go_enter Try.func42, Try.ntmps42
  go_wp2_with fail
  go_loopw [5] (fun s wr => ∃ k done rest V, s = .int .i64 ((total rest : Nat) : Int) ∧ TakeInv w q p g l i o s1 s2 M L wr k done rest V) (fun s _ => (intOf s).toNat)
  case atStart => exact ⟨k, [], L, _, by rw [ho], HI0.out⟩
  case round =>
    obtain ⟨k, done, rest, V, rfl, hI⟩ := hrel
    have HI := Lib.hid hI
    have HLeft := Lib.hid (left_any wr p g k l hI.rdr hI.place hl)
    clear HI0 hI c1
    cases rest with
    | nil =>
      have hkl : k = l.length := by
        have e := congrArg List.length HI.out.bytes
        have := HI.out.place
        simp at e
        omega
      have e0 : ¬ (0 : Int) < (l.length : Int) - k := by omega
      simp only [total]
      go_wp2_with fail
      refine HLeft.out.mono ?_
      rintro e w1 ⟨rfl, nd, rfl⟩
      clear HLeft
      go_wp2
      go_ret
      have hdr : Fr [] wr (wr.drewN nd) := (Fr.refl [] wr).drewN nd
      have hs := HI.out.split
      rw [List.append_nil] at hs
      rw [hs]
      exact ⟨V, rfl, HI.out.pat.fr hdr (by simp), HI.out.own.fr hdr (by simp), HI.out.fr.tr hdr.nil⟩
    | cons a rest =>
      have ha := HI.out.ok a (List.mem_cons_self ..)
      have hb := HI.out.bytes
      rw [List.flatMap_cons] at hb
      have hpos := ha.pos
      have hk2 : k + (actB a).length ≤ l.length := by
        have e := congrArg List.length hb
        have := HI.out.place
        rw [List.length_drop, List.length_append] at e
        omega
      have hap : 1 ≤ (actB a).length := by unfold actB; rw [List.length_append]; have := Var.putV_pos (headN a); omega
      have hd2 : l.drop (k + (actB a).length) = rest.flatMap actB := by rw [← List.drop_drop, hb, List.drop_left]
      have HD2 := Lib.hid hd2
      have Ha := Lib.hid ha
      have HB := Lib.hid hb
      have htl : total (a :: rest) ≤ 16777216 := by
        have := HI.out.split
        rw [← ho, this, total_append] at hom
        omega
      simp only [total] at htl
      have htot : total (a :: rest) = a.len + total rest := rfl
      rw [htot]
      have hroom : a.len ≤ a.len + total rest := by omega
      have hsub : ((a.len + total rest : Nat) : Int) - (a.len : Int) = (total rest : Int) := by omega
      obtain ⟨tr, htr⟩ : ∃ tr, total rest = tr := ⟨_, rfl⟩
      rw [htr] at htl hroom hsub ⊢
      have HTr := Lib.hid htr
      clear htr
      generalize hRm : a.len + tr = room at *
      have e0 : (0 : Int) < (l.length : Int) - k := by omega
      clear htot hd2 ha hb
      go_wp2_with fail
      refine HLeft.out.mono ?_
      rintro e w1 ⟨rfl, nd, rfl⟩
      have hdr : Fr [] wr (wr.drewN nd) := (Fr.refl [] wr).drewN nd
      have HR1 := Lib.hid (HI.out.rdr.fr hdr (by simp) (by simp))
      have HP1 := Lib.hid (HI.out.pat.fr hdr (by simp))
      have HO1 := Lib.hid (HI.out.own.fr hdr (by simp))
      have HF1 := Lib.hid (HI.out.fr.tr hdr.nil)
      generalize wr.drewN nd = w1 at *
      clear HLeft hdr
      go_wp2_with fail
      refine (takeAction_ok w1 p g k room l (rest.flatMap actB) a Ha.out HR1.out HI.out.place hl HB.out hroom).mono ?_
      rintro e w2 ⟨D, c, rfl, hD1, hD2, hD3, hr2, hf2⟩
      have hs1 : w.heap.size ≤ w1.heap.size := HF1.out.size
      have HR2 := Lib.hid hr2
      have hp2 := HP1.out.fr hf2 (by simp; exact hne)
      have HO2 := Lib.hid (HO1.out.fr hf2 (by simp; omega))
      have HF2 := Lib.hid (HF1.out.trans (S := [p, q]) hf2 (by simp))
      have HD1 := Lib.hid hD1
      have HD2' := Lib.hid hD2
      have HD3 := Lib.hid hD3
      have hs2 : w1.heap.size ≤ w2.heap.size := hf2.size
      obtain ⟨A, cap, rfl, -⟩ := HO2.out.slice
      have HP2 := Lib.hid hp2
      have hql2 : q < w2.heap.size := by omega
      have c5 := hp2.cell 5
      have f5 := hp2.frozen 5
      simp [patV] at c5
      clear hr2 hp2 hf2 hD1 hD2 hD3 HR1 HP1 HF1
      unfold actA
      go_upto_region 7 with fail
      have hal : Fr [] w2 (w2.alloc (.cells #[.int .i64 (a.kind : Int), .int .i64 (a.len : Int), .int .i64 a.move, .slice D a.data.length c] 82)) := (Fr.refl [] w2).alloc _
      have hn3 := Blk.fresh w2 82 #[.int .i64 (a.kind : Int), .int .i64 (a.len : Int), .int .i64 a.move, .slice D a.data.length c]
      obtain ⟨b6, hb6⟩ : ∃ b6, w2.heap.size = b6 := ⟨_, rfl⟩
      rw [hb6] at hn3 ⊢
      have HR3 := Lib.hid (HR2.out.fr hal (by simp) (by simp))
      have hp3 := HP2.out.fr hal (by simp)
      have HO3 := Lib.hid (HO2.out.fr hal (by simp))
      have HF3 := Lib.hid (HF2.out.tr hal.nil)
      have HG : Hid (∀ W, Fr [] w2 W → Acts.Good W w.heap.size (.slice A done.length cap) (a, D, c)) := Lib.hid fun W hW => Acts.good_new HO1.out a hs1 HD1.out HD2'.out HD3.out hW (by simp)
      have HA := Lib.hid hal
      generalize w2.alloc (.cells #[.int .i64 (a.kind : Int), .int .i64 (a.len : Int), .int .i64 a.move, .slice D a.data.length c] 82) = w3 at *
      obtain ⟨y0, y1, y2, y3⟩ := blk4 hn3
      have HP3 := Lib.hid hp3
      have c5 := hp3.cell 5
      have f5 := hp3.frozen 5
      simp [patV] at c5
      have HL := Lib.hid (Acts.act_laid w3 (a, D, c) 82 a.data.length w3.heap.size rfl rfl)
      have hdl : done.length ≤ 16777216 := by
        have h1 := total_ge L (fun a ha => (hok a ha).pos)
        have h2 := congrArg List.length HI.out.split
        rw [List.length_append] at h2
        omega
      obtain ⟨N, hN⟩ : ∃ N, done.length = N := ⟨_, rfl⟩
      rw [hN] at HO3 HG HP3 c5 hdl
      have HN := Lib.hid hN
      have hs3 : w.heap.size ≤ w3.heap.size := HF3.out.size
      have hq1 : q < w3.heap.size := by omega
      have hq2 : ¬ q = w3.heap.size := by omega
      have hq3 : ¬ w3.heap.size = q := by omega
      clear hn3 hp3 HR2 HP2 HO2 HF2 HO1 hal hN
      go_region_law (refine Acts.step_acts _ rfl (.tmp 32) (.tmp 34) 68 rfl w.heap.size 82 i0 Try.underlying68 hi hz0 hz1 hz2 (.slice A N cap) done (N + 1) (by rw [HN.out]) (by rfl) (HO3.out.fr (((Fr.refl [] w3).alloc _).drew) (by simp)) w3.heap.size 1 (a, D, c) (by rfl) HL.out (HG.out _ (HA.out.tr (((Fr.refl [] w3).alloc _).drew))) (by rw [HN.out]; omega) (by simp; omega) ?_; intro A' cap' w4 ho4 hf4; have hf4' := (((Fr.refl [] w3).alloc (.cells #[.int .i64 (a.kind : Int), .int .i64 (a.len : Int), .int .i64 a.move, .slice D a.data.length c] 82)).drew).nil.tr hf4; have hx4 : ∀ k, k < w.heap.size → k ∉ (Value.slice A N cap).ownBlock.toList := (fun k hk hm => by have := HO3.out.fresh k hm; omega); have hp4 := HP3.out.fr hf4' (hx4 q hql); have c5' := hp4.cell 5; have f5' := hp4.frozen 5; simp [patV] at c5'; have HP4 := Lib.hid hp4; have HO4 := Lib.hid ho4; have HR4 := Lib.hid (HR3.out.fr hf4' (hx4 p hpl) (hx4 g hgl)); have HF4 := Lib.hid (HF3.out.trans (S := [p, q]) hf4' (fun k hk => .inr (HO3.out.fresh k hk))); clear hf4 hf4' hx4 hp4 ho4)
      all_goals
        go_wp2
        go_roundw
        case rel =>
          have hst : Fr [q] w4 (w4.setCell ⟨q, 5, none⟩ (.slice A' (N + 1) cap')) := (Fr.refl [q] w4).setCell (by simp) _
          have hb := HP4.out.put 5 (.slice A' (N + 1) cap')
          simp only [patV, List.setIfInBounds_toArray, List.set_cons_zero, List.set_cons_succ] at hb
          refine ⟨k + (actB a).length, done ++ [a], rest, .slice A' (N + 1) cap', by rw [HTr.out], ⟨by rw [HI.out.split]; simp, fun x hx => HI.out.ok x (List.mem_cons_of_mem _ hx), hk2, HD2.out, HR4.out.fr hst (by simp; exact fun e => hne e.symm) (by simp; exact fun e => hqg e.symm), hb, HO4.out.fr hst (by simp; exact .inl hql), HF4.out.trans (S := [p, q]) hst (by simp)⟩⟩
        case measure => simp [intOf]; omega

end Bps
end Go.Proofs.Ytokfcknfkhlmfaa
