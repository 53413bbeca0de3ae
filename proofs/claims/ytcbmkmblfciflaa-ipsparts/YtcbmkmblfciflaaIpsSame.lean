/-
  Contracts of picklockref04.Same, and of the statements' own 'same', at records that are the same.
-/
import Derived.Test.YtcbmkmblfciflaaIpsParse
import Derived.Test.YtcbmkmblfciflaaOctSame
namespace Go.Proofs.Ytcbmkmblfciflaa
open Go.RowKit
namespace Ips

theorem infoD' : (Try.prog.info? 45).map (fun i => (i.zero, i.size, i.bytes)) = some (some (.agg #[.int .i64 0, .int .i64 0, .slice none 0 0]), 3, 40) := by kernel_rfl

set_option maxRecDepth 100000 in
set_option maxHeartbeats 4000000 in
theorem refsame_eq (w : World) (A A' : Option Addr) (n c c' : Nat) (rs : List Rec) (hn : rs.length = n) (h : RecRd w A rs) (h' : RecRd w A' rs) (hl : n ≤ 1000000000) :
    Calls Try.prog 23 #[.slice A n c, .slice A' n c'] w fun e w' => e = .returned (.bool true) ∧ Fr [] w w' := by
  have HR := Lib.hid h
  have HR' := Lib.hid h'
  have HN := Lib.hid hn
  clear h h' hn
  go_enter Try.func23, Try.ntmps23
  go_wp2
  go_loopw [5] (fun i wr => ∃ j : Nat, j ≤ n ∧ i = .int .i64 (j : Int) ∧ Fr [] w wr) (fun i _ => n - (intOf i).toNat)
  case atStart => exact ⟨0, Nat.zero_le _, rfl, Fr.refl _ _⟩
  case round =>
    obtain ⟨j, hj, rfl, hf⟩ := hrel
    by_cases hlt : j < n
    · obtain ⟨b, o, rfl, hc⟩ := (HR.out.later hf (by simp)) (by rw [HN.out]; omega)
      obtain ⟨b', o', rfl, hc'⟩ := (HR'.out.later hf (by simp)) (by rw [HN.out]; omega)
      obtain ⟨D, d, h0, h1, h2, h3, h4⟩ := hc j (by rw [HN.out]; omega)
      obtain ⟨D', d', h0', h1', h2', h3', h4'⟩ := hc' j (by rw [HN.out]; omega)
      clear hc hc' h4 h4'
      generalize (rs[j]'(by rw [HN.out]; omega)) = r at *
      have s1 := fun q => run_str (P := Try.prog) (w := wr.drewN q) 22 9 5 (cap := d) Try.underlying22 Try.underlying5 Try.underlying9 (h3.later (S := []) ((Fr.refl [] wr).drewN q) (by simp))
      have s2 := fun q => run_str (P := Try.prog) (w := wr.drewN q) 22 9 5 (cap := d') Try.underlying22 Try.underlying5 Try.underlying9 (h3'.later (S := []) ((Fr.refl [] wr).drewN q) (by simp))
      have HF := Lib.hid hf
      clear h3 h3' hf
      have e0 : ((r.pos : Int) != (r.pos : Int)) = false := by simp
      have e1 : ((r.run : Int) != (r.run : Int)) = false := by simp
      have hlt' : (j : Int) < n := by omega
      go_wp2
      go_quiet (fail)
      go_wp2
      go_roundw
      case rel => exact ⟨j + 1, by omega, by go_num, HF.out.drewN _⟩
      case measure => simp [intOf]; omega
    · have hlt' : ¬ (j : Int) < n := by omega
      have HF := Lib.hid hf
      clear hf
      go_wp2
      go_ret
      exact ⟨rfl, HF.out⟩

/-- append of one record whose bytes lie anywhere but in the row. -/
theorem wpList_recsL {P : Program} (w : World) {ops : Array Oper} {rest : List Oper} {o : Oper} {a : Act} {Q : Exit → Act → World → Prop} (hgd : o.guard = none) (s x : Operand) (t : TypeId)
    (ho : o.op = .call { callee := .builtin .append, args := #[s, x], argTypes := #[t, t] }) (B : Nat) (T : TypeId) (i : TypeInfo) (ht : P.underlying t = some (.slice T)) (hi : P.info? T = some i) (hz : i.zero = some (.agg #[.int .i64 0, .int .i64 0, .slice none 0 0])) (hz1 : i.size = 3) (hz2 : i.bytes = 40)
    (v : Value) (rs : List Rec) (hs : a.eval s = v) (h : RecOwn w B T v rs) (g : Nat) (c : Nat) (m : Rec × Option Addr × Nat) (hx : a.eval x = .slice (some ⟨g, 0, none⟩) 1 c) (hg : ∀ j u, (recV m)[j]? = some u → w.cell? ((⟨g, 0, none⟩ : Addr).add j) = some u)
    (hm : Good w B v m) (n : Nat) (hn : rs.length = n) (hlen : n ≤ 1000000000) (hB : B ≤ w.heap.size)
    (hK : ∀ A' cap' w', RecOwn w' B T (.slice A' (n + 1) cap') (rs ++ [m.1]) → Fr v.ownBlock.toList w w' → Lies w v (.slice A' (n + 1) cap') → wpList P ops Q rest (a.put o.dst (.slice A' (n + 1) cap')) w') : wpList P ops Q (o :: rest) a w := by
  subst hn
  refine wpList_plain hgd fun K hK' => ?_
  obtain ⟨ms, h1, h2, h3⟩ := h
  have hml : ms.length = rs.length := by rw [← h1]; simp
  obtain ⟨v', w', hrun, h4, h5, _, h6⟩ := run_append_own_at (P := P) w B t o.type T i _ 3 40 ht hi hz hz1 hz2 rfl (by decide) v ms.length (flat ms) h2 ⟨g, 0, none⟩ 1 c (recV m) rfl hg
    (by intro u hu; simp [recV] at hu; rcases hu with rfl | rfl | rfl <;> rfl) (by unfold maxLen; omega) (by omega) hB
  have hf : Fr v.ownBlock.toList w w' := (Fr.refl _ w).grown h5 (fun k hk => .inl (by simp [hk]))
  have hown : RecOwn w' B T v' (rs ++ [m.1]) := by
    refine ⟨ms ++ [m], by simp [h1], by rw [flat_snoc, List.length_append]; exact h4, fun m' hm' => ?_⟩
    have hgood : Good w B v m' := by
      rcases List.mem_append.1 hm' with h | h
      · exact h3 _ h
      · obtain rfl := List.mem_singleton.1 h; exact hm
    obtain ⟨h7, h8, h9⟩ := hgood
    refine ⟨h7.fr hf (fun ad e hk => (h9 ad e).2.2 (by simpa using hk)), h8, fun ad e => ⟨(h9 ad e).1, Nat.lt_of_lt_of_le (h9 ad e).2.1 hf.size, ?_⟩⟩
    rcases h6 with h6 | h6
    · rw [h6]; exact (h9 ad e).2.2
    · rw [h6]; intro hx; injection hx with hx; have := (h9 ad e).2.1; omega
  have hl : Lies w v v' := by
    rcases h6 with h6 | h6
    · exact .inl h6
    · exact .inr ⟨_, h6, Nat.le_refl _⟩
  obtain ⟨A', cap', rfl, -⟩ := hown.slice
  rw [List.length_append, List.length_singleton] at hrun hown hl
  unfold Oper.wp execOp
  simp only [ho, resolve, invoke, builtin, Sem.run_bind, Sem.run_pure, Result.andThen_ok, List.map_toArray, List.map_cons, List.map_nil, hs, hx, hrun]
  exact hK' _ _ (hK A' cap' w' hown hf hl)

set_option maxRecDepth 100000 in
set_option maxHeartbeats 4000000 in
theorem lawsame_eq (w : World) (A A' : Option Addr) (n c c' : Nat) (rs : List Rec) (hn : rs.length = n) (h : RecRd w A rs) (h' : RecRd w A' rs) (hwf : ∀ r ∈ rs, 0 < r.data.length) (hl : n ≤ 100000000) :
    Calls Try.prog 11 #[.slice A n c, .slice A' n c'] w fun e w' => e = .returned (.bool true) ∧ Fr [] w w' := by
  obtain ⟨i0, hi, hz0, hz1, hz2⟩ := info_parts infoD'
  have HR := Lib.hid h
  have HR' := Lib.hid h'
  have HN := Lib.hid hn
  have HW := Lib.hid hwf
  clear h h' hn hwf
  go_enter Try.func11, Try.ntmps11
  go_wp2
  go_loopw [5, 6] (fun u i wr => ∃ j : Nat, j ≤ n ∧ i = .int .i64 (j : Int) ∧ RecOwn wr 0 45 u (rs.take j) ∧ (∀ k, u.ownBlock = some k → w.heap.size ≤ k) ∧ Fr [] w wr) (fun _ i _ => n - (intOf i).toNat)
  case atStart => exact ⟨0, Nat.zero_le _, rfl, RecOwn.none_ _ _ _, by simp [Value.ownBlock], Fr.refl _ _⟩
  case round =>
    obtain ⟨j, hj, rfl, ho, hge, hf⟩ := hrel
    have hlen : (rs.take j).length = j := by simp; have := HN.out; omega
    obtain ⟨A1, cap, rfl, -⟩ := ho.slice
    rw [hlen] at ho hge ⊢
    have HO := Lib.hid ho
    have HF := Lib.hid hf
    by_cases hlt : j < n
    · obtain ⟨b, o, rfl, hc⟩ := HR.out (by rw [HN.out]; omega)
      obtain ⟨D, d, h0, h1, h2, h3, h4⟩ := hc j (by rw [HN.out]; omega)
      clear hc
      have HT : Hid (rs.take (j + 1) = rs.take j ++ [rs[j]'(by rw [HN.out]; omega)]) := Lib.hid (by rw [List.take_succ_eq_append_getElem])
      have hw1 := HW.out _ (List.getElem_mem (show j < rs.length by rw [HN.out]; omega))
      generalize (rs[j]'(by rw [HN.out]; omega)) = r at *
      obtain ⟨db, dO, rfl, hd⟩ := h3 hw1
      have hdb : db < w.heap.size := World.block_lt_of_cell? w _ (hd 0 hw1)
      have hz1' := hf.size
      have g0 := hf.cell h0 (by simp)
      have g1 := hf.cell h1 (by simp)
      have g2 := hf.cell h2 (by simp)
      have HG : Hid (Good (wr.alloc (.cells #[.int .i64 (r.pos : Int), .int .i64 (r.run : Int), .slice (some ⟨db, dO, none⟩) r.data.length d] 45)) 0 (.slice A1 j cap) (r, some ⟨db, dO, none⟩, d)) := by
        refine Lib.hid ⟨h3.later (hf.alloc _) (by simp), by simp, fun ad e => ?_⟩
        cases e
        refine ⟨Nat.zero_le _, by simp; omega, fun e => ?_⟩
        have := hge db e
        omega
      have HGE := Lib.hid hge
      have hlt' : (j : Int) < n := by omega
      clear h0 h1 h2 h3 h4 hd hf ho hge
      go_wp2_with (at_builtin; refine wpList_recsL _ rfl (.tmp 13) (.tmp 18) 28 rfl 0 45 i0 Try.underlying28 hi hz0 hz1 hz2 _ (rs.take j) rfl (HO.out.fr ((Fr.refl [] wr).alloc _) (by simp)) wr.heap.size 1 (r, some ⟨db, dO, none⟩, d) rfl (rec_laid wr (r, some ⟨db, dO, none⟩, d) 45) HG.out j hlen (by omega) (by simp) ?_)
      intro A2 c2 w2 ho2 hf2 hl2
      have HO2 := Lib.hid ho2
      have HF2 : Hid (Fr [] w w2) := Lib.hid ((HF.out.alloc _).trans hf2 (fun k hk => .inr (HGE.out k (by simpa using hk))))
      have HGE2 : Hid (∀ k, (Value.slice A2 (j + 1) c2).ownBlock = some k → w.heap.size ≤ k) := Lib.hid fun k hk => by
        rcases hl2 with h | ⟨k', h, h'⟩
        · exact HGE.out k (h ▸ hk)
        · rw [h] at hk; simp at hk h'; omega
      clear ho2 hf2 hl2
      go_wp2
      go_roundw
      case rel => exact ⟨j + 1, by omega, by go_num, by rw [HT.out]; exact HO2.out, HGE2.out, HF2.out⟩
      case measure => simp [intOf]; omega
    · have hlt' : ¬ (j : Int) < n := by omega
      have ej : j = n := by omega
      subst ej
      have et : rs.take j = rs := List.take_of_length_le (by have := HN.out; omega)
      rw [et] at HO
      clear ho hf hge
      go_wp2_with fail
      obtain ⟨A2, c2, hv, hrd, -⟩ := HO.out.slice
      rw [HN.out] at hv
      cases hv
      refine (refsame_eq wr A1 A' j cap c' rs HN.out hrd (HR'.out.later HF.out (by simp)) (by omega)).mono ?_
      rintro e w2 ⟨rfl, hf2⟩
      have HF2 := Lib.hid hf2
      clear hf2
      go_wp2
      go_ret
      exact ⟨rfl, HF.out.tr HF2.out⟩

end Ips
end Go.Proofs.Ytcbmkmblfciflaa
