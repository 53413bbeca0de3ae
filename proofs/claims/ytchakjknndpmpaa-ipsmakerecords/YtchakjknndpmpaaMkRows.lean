/-
  Contract of ipsmake's rows. Conditions: at most 16777216 bytes.
-/
import Derived.Test.YtchakjknndpmpaaMkRowsMath
import Derived.Test.YtchakjknndpmpaaMkGather
namespace Go.Proofs.Ytchakjknndpmpaa
open Go.RowKit Go.Shelf
namespace Ips

/-- Between two rounds of the loop: s is the size of the heap at the call. -/
structure MidR (w : World) (s : Nat) (A B : Option Addr) (n c m d : Nat) (a b : List UInt8) (pre : List Nat) (W : World) : Prop where
  pr : Pr A B n c m d a b (s + 3) W
  fn : Blk W (s + 2) 60 #[.func (.func 24) #[] #[.pointer (some ⟨s + 1, 0, none⟩)]]
  out : ∃ v, Blk W (s + 1) 44 #[v] ∧ RowsOwn W (s + 6) v (pre.foldl gstep [])
  fr : Fr [] w W

theorem MidR.later {w W W' : World} {s n c m d : Nat} {A B : Option Addr} {a b : List UInt8} {pre : List Nat} {S : List Nat} (h : MidR w s A B n c m d a b pre W) (hs : w.heap.size = s) (hA : Rd w A a) (hB : Rd w B b) (hf : Fr S W W') (hS : ∀ k ∈ S, k = s + 4 ∨ k = s + 5) : MidR w s A B n c m d a b pre W' := by
  obtain ⟨v, h1, h2⟩ := h.out
  have no : ∀ k, k ≠ s + 4 → k ≠ s + 5 → k ∉ S := fun k h1 h2 hm => by rcases hS k hm with h | h <;> omega
  have hw : Fr [] w W' := h.fr.trans hf (fun k hk => by rcases hS k hk with h | h <;> (right; omega))
  refine ⟨⟨h.pr.box.fr hf (no _ (by omega) (by omega)), hA.later hw (by simp), hB.later hw (by simp)⟩, h.fn.fr hf (no _ (by omega) (by omega)), ⟨v, h1.fr hf (no _ (by omega) (by omega)), h2.fr hf ?_⟩, hw⟩
  intro k hk; have := (h2.lt k hk).1; exact no _ (by omega) (by omega)

theorem RowsOwn.base {w : World} {B B' : Nat} {v : Value} {R : List (Nat × Nat)} (h : RowsOwn w B v R) (hB : B' ≤ B) : RowsOwn w B' v R := by
  obtain ⟨h1, h2⟩ := h
  refine ⟨h1, ?_⟩
  rcases h2 with h2 | ⟨g, cap, cur, hv, hg, r⟩
  · exact .inl h2
  · exact .inr ⟨g, cap, cur, hv, by omega, r⟩

/-- The closure, whatever it meets. -/
theorem gather_any (w : World) (B q x m : Nat) (v : Value) (a b : List UInt8) (hb : Blk w q 44 #[v]) (ho : RowsOwn w B v (rowsAt a b x)) (hB : B ≤ w.heap.size) (hx : x < m) (hm : m ≤ 16777216) :
    Calls Try.prog 24 #[.int .i64 (x : Int), .pointer (some ⟨q, 0, none⟩)] w (Gathered w B q v (gstep (rowsAt a b x) x)) := by
  have hi := rows_inv a b x
  have hl := rowsAt_length a b x
  generalize rowsAt a b x = R at *
  rcases List.eq_nil_or_concat R with rfl | ⟨P, ⟨f, t⟩, rfl⟩
  · rw [gstep_nil]
    exact gather_none w B q x v hb ho hB (by omega)
  · rw [List.concat_eq_append] at *
    have h1 := hi.each (f, t) (by simp)
    simp only [List.length_append, List.length_cons, List.length_nil] at h1 hl
    by_cases h : x < lim f
    · rw [gstep_old P f t x h]
      exact gather_old w B q x v P f t hb ho (by omega) (by omega) (by omega) h
    · rw [gstep_new P f t x h]
      exact gather_new w B q x v P f t hb ho hB (by omega) (by omega) (by omega) h

set_option maxRecDepth 100000 in
set_option maxHeartbeats 4000000 in
theorem rows5 (w : World) (A B : Option Addr) (n c m d : Nat) (a b : List UInt8) (hn : a.length = n) (hm : b.length = m) (hm2 : m ≤ 16777216) (hA : Rd w A a) (hB : Rd w B b) :
    Calls Try.prog 17 #[pairV A B n c m d] w fun e w' => ∃ v, e = .returned v ∧ RowsOwn w' w.heap.size v (rowsAt a b m) ∧ Fr [] w w' := by
  unfold pairV
  have HA := Lib.hid hA
  have HB := Lib.hid hB
  clear hA hB
  refine (callsIn_wide (n := 9)).1 ?_
  refine callsIn_of_wp_marks Try.func17 rfl trivial ?_ rfl
  simp only [Try.ntmps17, List.size_toArray, List.length_cons, List.length_nil, Nat.reduceAdd, Nat.reduceSub, Array.replicate_succ, Array.replicate_zero, List.push_toArray, List.append_toArray, List.nil_append, List.cons_append]
  gi_wp2_with (refine ⟨trivial, ?_⟩; gi_at_call 27; refine (callsIn_wide.2 (differing5 _ A B n c m d)).mono ?_; rintro e w' ⟨rfl, rfl⟩)
  obtain ⟨s, hs⟩ : ∃ s, w.heap.size = s := ⟨_, rfl⟩
  rw [hs]
  obtain ⟨W0, hW0⟩ : ∃ W0, W0 = (((w.alloc (Obj.cells #[Value.slice A n c, Value.slice B m d] 39)).alloc (Obj.cells #[Value.slice none 0 0] 44)).alloc (Obj.cells #[Value.func (Fn.func 24) #[] #[Value.pointer (some ⟨s + 1, 0, none⟩)]] 60)).alloc (Obj.cells #[Value.slice A n c, Value.slice B m d] 39) := ⟨_, rfl⟩
  rw [← hW0]
  have m0 : MidR w s A B n c m d a b [] W0 ∧ W0.heap.size = s + 4 := by
    subst hs
    have f1 : Fr [] w (w.alloc (Obj.cells #[Value.slice A n c, Value.slice B m d] 39)) := (Fr.refl [] w).alloc _
    generalize hw1 : w.alloc (Obj.cells #[Value.slice A n c, Value.slice B m d] 39) = w1 at *
    have s1 : w1.heap.size = w.heap.size + 1 := by rw [← hw1]; simp
    have f2 : Fr [] w1 (w1.alloc (Obj.cells #[Value.slice none 0 0] 44)) := (Fr.refl [] w1).alloc _
    have b2 : Blk (w1.alloc (Obj.cells #[Value.slice none 0 0] 44)) w1.heap.size 44 #[Value.slice none 0 0] := Blk.fresh _ _ _
    generalize hw2 : w1.alloc (Obj.cells #[Value.slice none 0 0] 44) = w2 at *
    have s2 : w2.heap.size = w.heap.size + 2 := by rw [← hw2]; simp [s1]
    have f3 : Fr [] w2 (w2.alloc (Obj.cells #[Value.func (Fn.func 24) #[] #[Value.pointer (some ⟨w.heap.size + 1, 0, none⟩)]] 60)) := (Fr.refl [] w2).alloc _
    have b3 : Blk (w2.alloc (Obj.cells #[Value.func (Fn.func 24) #[] #[Value.pointer (some ⟨w.heap.size + 1, 0, none⟩)]] 60)) w2.heap.size 60 #[Value.func (Fn.func 24) #[] #[Value.pointer (some ⟨w.heap.size + 1, 0, none⟩)]] := Blk.fresh _ _ _
    generalize hw3 : w2.alloc (Obj.cells #[Value.func (Fn.func 24) #[] #[Value.pointer (some ⟨w.heap.size + 1, 0, none⟩)]] 60) = w3 at *
    have s3 : w3.heap.size = w.heap.size + 3 := by rw [← hw3]; simp [s2]
    have f4 : Fr [] w3 (w3.alloc (Obj.cells #[Value.slice A n c, Value.slice B m d] 39)) := (Fr.refl [] w3).alloc _
    have b4 : Blk (w3.alloc (Obj.cells #[Value.slice A n c, Value.slice B m d] 39)) w3.heap.size 39 #[Value.slice A n c, Value.slice B m d] := Blk.fresh _ _ _
    have s4 : (w3.alloc (Obj.cells #[Value.slice A n c, Value.slice B m d] 39)).heap.size = w.heap.size + 4 := by simp [s3]
    rw [← hW0] at f4 b4 s4
    rw [s1] at b2
    rw [s2] at b3
    rw [s3] at b4
    have fw : Fr [] w W0 := ((f1.tr f2).tr f3).tr f4
    exact ⟨⟨⟨b4, HA.out.later fw (by simp), HB.out.later fw (by simp)⟩, b3.fr f4 (by simp), ⟨_, (b2.fr f3 (by simp)).fr f4 (by simp), RowsOwn.none_ _ _⟩, fw⟩, s4⟩
  obtain ⟨m0, hz⟩ := m0
  clear hW0
  refine range_keep (gf := 39) (lb := #[.pointer (some ⟨s + 1 + 1 + 1, 0, none⟩)]) rfl (enters_of Try.func39 (by kernel_rfl) rfl) (by decide) (differing_seq A B n c m d a b (s + 3) hn hm (by omega)) rfl
    (MidR w s A B n c m d a b) ?keep ?frame ?new ?start
    (fun x => { tmps := #[.agg #[.slice A n c, .slice B m d], .pointer (some ⟨s, 0, none⟩), .slice none 0 0, .pointer (some ⟨s + 1, 0, none⟩), .pointer (some ⟨s + 1 + 1, 0, none⟩), .int .i64 (x : Int), .func (.func 24) #[] #[.pointer (some ⟨s + 1, 0, none⟩)], .agg #[.slice A n c, .slice B m d], .func (.func 39) #[] #[.pointer (some ⟨s + 1 + 1 + 1, 0, none⟩)], .int .i64 (x : Int), undef, undef, undef, undef], defers := [] }) ?assign ?body ?done
  case keep => exact fun pre W h => h.pr
  case frame => exact fun pre W W' h hf => h.later hs HA.out HB.out hf (by simp)
  case new =>
    intro pre W k o h1 h2 h
    exact h.later hs HA.out HB.out ((Fr.refl [k] W).putObj (by simp) o) (by simp; omega)
  case start =>
    intro o o'
    exact m0.later hs HA.out HB.out (((Fr.refl [] W0).alloc o).alloc o') (by simp)
  case assign =>
    intro l k x W K hK
    have hsem := Oper.semAt_some l
    gi_wp2
    exact hK
  case body =>
    intro k pre x post W hi hall hlt
    have hsem := Oper.semAt_some (W0.heap.size + 1)
    rw [hz] at hsem
    obtain ⟨h1, h2, h3⟩ := df_split a b m pre x post hall
    obtain ⟨v, hv1, hv2⟩ := hi.out
    have HE : Hid ((pre ++ [x]).foldl gstep [] = gstep (rowsAt a b x) x) := Lib.hid (by rw [List.foldl_append, h1]; rfl)
    have HG := Lib.hid (gather_any W (s + 6) (s + 1) x m v a b hv1 (by unfold rowsAt; rw [← h1]; exact hv2) (by omega) h3 hm2)
    have hc := hi.fn.cell 0
    simp at hc
    have HI := Lib.hid hi
    have HV := Lib.hid hv2
    clear hi h1 h2 hall hv1 hv2
    gi_wp2_with (refine ⟨trivial, fun hx => absurd hx (by decide), ?_⟩; gi_at_call 24; refine (CallsIn.inRound _ (callsIn_wide.2 HG.out)).mono ?_; rintro e W' ⟨rfl, v', y1, y2, y3, y4⟩; have Y1 := Lib.hid y1; have Y2 := Lib.hid y2; have Y3 := Lib.hid y3; clear y1 y2 y3 y4)
    have no : ∀ k, k ≠ s + 1 → k < s + 6 → k ∉ (s + 1) :: v.ownBlock.toList := by
      intro k hk hk5 hmem
      simp only [List.mem_cons, Option.mem_toList] at hmem
      rcases hmem with hmem | hmem
      · exact hk hmem
      · have := (HV.out.lt k hmem).1
        omega
    have hw : Fr [] w W' := HI.out.fr.trans Y3.out (by
      intro i hi
      simp only [List.mem_cons, Option.mem_toList] at hi
      rcases hi with hi | hi
      · exact .inr (by omega)
      · have := (HV.out.lt i hi).1
        exact .inr (by omega))
    refine ⟨⟨⟨HI.out.pr.box.fr Y3.out (no _ (by omega) (by omega)), HA.out.later hw (by simp), HB.out.later hw (by simp)⟩, HI.out.fn.fr Y3.out (no _ (by omega) (by omega)), ⟨v', Y1.out, by rw [HE.out]; exact Y2.out⟩, hw⟩, Y3.out.block _ (by omega) (no _ (by omega) (by omega)), Y3.out.block _ (by omega) (no _ (by omega) (by omega))⟩
  case done =>
    intro W hi hK
    obtain ⟨v, hv1, hv2⟩ := hi.out
    have hc := hv1.cell 0
    simp at hc
    have HI := Lib.hid hi
    have HV := Lib.hid hv2
    have HK := Lib.hid hK
    obtain ⟨A2, cap2, rfl, -⟩ := hv2.slice
    clear hi hv2 hK hv1
    generalize hrl : ((df a b m).foldl gstep []).length = rl at *
    clear hrl
    gi_wp2
    refine ⟨by simp, .inl ⟨_, _, rfl, run_takeDeferred HK.out, ?_⟩⟩
    have hf : Fr [W0.heap.size] W (W.putObj W0.heap.size (.deferred none)) := (Fr.refl _ W).putObj (by simp) _
    refine ⟨_, results_tmp rfl _ _ _, _, rfl, RowsOwn.base (B := s + 6) (v := .slice A2 rl cap2) (HV.out.fr hf ?_) (by omega), HI.out.fr.trans hf (by simp; omega)⟩
    intro k hk hm
    have := (HV.out.lt k hk).1
    simp at hm
    omega

end Ips
end Go.Proofs.Ytchakjknndpmpaa
