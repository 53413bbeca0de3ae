/-
  Contract of varnum.Put. No condition.
-/
import Derived.Test.YtokfcknfkhlmfaaVarPut
namespace Go.Proofs.Ytokfcknfkhlmfaa
open Go.RowKit Go.Shelf
namespace Var

/-- Between two rounds of Put's loop: s is the size of the heap at the call. -/
structure Mid (w : World) (s : Nat) (pre : List UInt8) (v : Nat) (W : World) : Prop where
  box : Blk W (s + 1) 48 #[.pointer (some ⟨s, 0, none⟩)]
  num : Blk W (s + 2) 54 #[.int .u64 (v : Int)]
  wr : ∃ x, Wr W (s + 5) s x pre
  fr : Fr [] w W

theorem Mid.later {w W W' : World} {s v k : Nat} {pre : List UInt8} (h : Mid w s pre v W) (hs : w.heap.size = s) (hf : Fr [k] W W') (h1 : s + 3 ≤ k) (h2 : k ≤ s + 4) : Mid w s pre v W' := by
  obtain ⟨x, hx⟩ := h.wr
  refine ⟨h.box.fr hf (by simp; omega), h.num.fr hf (by simp; omega), ⟨x, hx.fr hf (by simp; omega) ?_⟩, h.fr.trans hf (by simp; omega)⟩
  intro j hj
  have := (hx.2.lt j hj).1
  simp
  omega

set_option maxRecDepth 100000 in
set_option maxHeartbeats 2000000 in
theorem put_any (w : World) (u : Nat) (hu : u ≤ most) :
    Calls Try.prog 16 #[.int .u64 (u : Int)] w fun e w' => ∃ g, e = .returned (.slice (some ⟨g, 0, none⟩) (putV u).length (putV u).length) ∧ w.heap.size ≤ g ∧ Blk w' g 5 (bv (putV u)).toArray ∧ Fr [] w w' := by
  have h5 := putV_le5 hu
  unfold most at hu
  have hn : ¬ (4294967296 : Int) < (u : Int) := by omega
  refine (callsIn_wide (n := 9)).1 ?_
  refine callsIn_of_wp_marks Try.func16 rfl trivial ?_ rfl
  simp only [Try.ntmps16, List.size_toArray, List.length_cons, List.length_nil, Nat.reduceAdd, Nat.reduceSub, Array.replicate_succ, Array.replicate_zero, List.push_toArray, List.append_toArray, List.nil_append, List.cons_append]
  gi_wp2_with (refine ⟨trivial, ?_⟩; gi_at_call 31; refine (callsIn_wide.2 (bytesOf_any _ (u : Int))).mono ?_; rintro e w' ⟨rfl, rfl⟩)
  obtain ⟨s, hs⟩ : ∃ s, w.heap.size = s := ⟨_, rfl⟩
  rw [hs]
  have m0 : Mid w s [] u (((w.alloc (Obj.cells #[Value.slice none 0 0] 50)).alloc (Obj.cells #[Value.pointer (some ⟨s, 0, none⟩)] 48)).alloc (Obj.cells #[Value.int IntKind.u64 (u : Int)] 54)) := by
    subst hs
    have f1 : Fr [] w (w.alloc (Obj.cells #[Value.slice none 0 0] 50)) := (Fr.refl [] w).alloc _
    have b1 : Blk (w.alloc (Obj.cells #[Value.slice none 0 0] 50)) w.heap.size 50 #[Value.slice none 0 0] := Blk.fresh _ _ _
    generalize hw1 : w.alloc (Obj.cells #[Value.slice none 0 0] 50) = w1 at f1 b1 ⊢
    have s1 : w1.heap.size = w.heap.size + 1 := by rw [← hw1]; simp
    have f2 : Fr [] w1 (w1.alloc (Obj.cells #[Value.pointer (some ⟨w.heap.size, 0, none⟩)] 48)) := (Fr.refl [] w1).alloc _
    have b2 : Blk (w1.alloc (Obj.cells #[Value.pointer (some ⟨w.heap.size, 0, none⟩)] 48)) w1.heap.size 48 #[.pointer (some ⟨w.heap.size, 0, none⟩)] := Blk.fresh _ _ _
    generalize hw2 : w1.alloc (Obj.cells #[Value.pointer (some ⟨w.heap.size, 0, none⟩)] 48) = w2 at f2 b2 ⊢
    have s2 : w2.heap.size = w.heap.size + 2 := by rw [← hw2]; simp [s1]
    have f3 : Fr [] w2 (w2.alloc (Obj.cells #[Value.int IntKind.u64 (u : Int)] 54)) := (Fr.refl [] w2).alloc _
    have b3 : Blk (w2.alloc (Obj.cells #[Value.int IntKind.u64 (u : Int)] 54)) w2.heap.size 54 #[.int .u64 (u : Int)] := Blk.fresh _ _ _
    rw [s1] at b2
    rw [s2] at b3
    exact ⟨b2.fr f3 (by simp), b3, ⟨_, (b1.fr f2 (by simp)).fr f3 (by simp), Own.none_ _ _⟩, (f1.tr f2).tr f3⟩
  have hz : (((w.alloc (Obj.cells #[Value.slice none 0 0] 50)).alloc (Obj.cells #[Value.pointer (some ⟨s, 0, none⟩)] 48)).alloc (Obj.cells #[Value.int IntKind.u64 (u : Int)] 54)).heap.size = s + 3 := by simp [hs]
  generalize (((w.alloc (Obj.cells #[Value.slice none 0 0] 50)).alloc (Obj.cells #[Value.pointer (some ⟨s, 0, none⟩)] 48)).alloc (Obj.cells #[Value.int IntKind.u64 (u : Int)] 54)) = W0 at m0 hz ⊢
  refine range_law (gf := 51) (lb := #[.pointer (some ⟨s + 1 + 1, 0, none⟩)]) rfl (enters_of Try.func51 (by kernel_rfl) rfl) (by decide) (iter_seq (s + 2) u (by omega)) (by omega) rfl
    (Mid w s) ?cell ?set ?new ?start
    (fun x => { tmps := #[.int .u64 (u : Int), undef, .slice none 0 0, .pointer (some ⟨s + 1, 0, none⟩), .int .u8 (x.toNat : Int), .int .u64 (u : Int), .bool false, .agg #[.slice none 0 0], .pointer (some ⟨s, 0, none⟩), .int .u64 (u : Int), .func (.func 51) #[] #[.pointer (some ⟨s + 1 + 1, 0, none⟩)], .int .u8 (x.toNat : Int), undef, undef, undef, undef, undef], defers := [] }) ?assign ?body ?done
  case cell =>
    intro pre v W h
    exact ⟨by simpa using h.num.cell 0, h.num.frozen 0⟩
  case set =>
    intro pre v v' W h
    have hf : Fr [s + 2] W (W.setCell ⟨s + 2, 0, none⟩ (.int .u64 (v' : Int))) := (Fr.refl [s + 2] W).setCell (by simp) _
    obtain ⟨x, hx⟩ := h.wr
    refine ⟨h.box.fr hf (by simp), by simpa using h.num.put 0 (.int .u64 (v' : Int)), ⟨x, hx.fr hf (by simp) ?_⟩, h.fr.trans hf (by simp; omega)⟩
    intro j hj
    have := (hx.2.lt j hj).1
    simp
    omega
  case new =>
    intro pre v W k o h1 h2 h
    exact h.later hs ((Fr.refl [k] W).putObj (by simp) o) (by omega) (by omega)
  case start =>
    intro o o'
    have hf : Fr [] W0 ((W0.alloc o).alloc o') := ((Fr.refl [] W0).alloc o).alloc o'
    obtain ⟨x, hx⟩ := m0.wr
    exact ⟨m0.box.fr hf (by simp), m0.num.fr hf (by simp), ⟨x, hx.fr hf (by simp) (by simp)⟩, m0.fr.tr hf⟩
  case assign =>
    intro l m x W K hK
    have hsem := Oper.semAt_some l
    gi_wp2
    exact hK
  case body =>
    intro m pre v x W hi hlen hlt
    have hsem := Oper.semAt_some (W0.heap.size + 1)
    rw [hz] at hsem
    obtain ⟨y, hy⟩ := hi.wr
    have hc := hi.box.cell 0
    simp at hc
    have HI := Lib.hid hi
    have HY := Lib.hid hy
    clear hi hy
    gi_wp2_with (refine ⟨trivial, fun hx => absurd hx (by decide), ?_⟩; gi_at_call 32; refine (CallsIn.inRound _ (callsIn_wide.2 (wbyte W (s + 5) s y pre x HY.out (by omega) (by omega)))).mono ?_; rintro e W' ⟨rfl, y', h1, h2, h3⟩; have H1 := Lib.hid h1; have H2 := Lib.hid h2; clear h1 h2 h3)
    have hno : ∀ k, k ≠ s → k < s + 5 → k ∉ foot s y := by
      intro k hk hk5 hm
      simp only [foot, List.mem_cons, Option.mem_toList] at hm
      rcases hm with hm | hm
      · exact hk hm
      · have := (HY.out.2.lt k hm).1
        omega
    refine ⟨⟨HI.out.box.fr H2.out (hno _ (by omega) (by omega)), HI.out.num.fr H2.out (hno _ (by omega) (by omega)), ⟨y', H1.out⟩, HI.out.fr.trans H2.out ?_⟩, H2.out.block _ (by omega) (hno _ (by omega) (by omega)), H2.out.block _ (by omega) (hno _ (by omega) (by omega))⟩
    intro i hi
    simp only [foot, List.mem_cons, Option.mem_toList] at hi
    rcases hi with hi | hi
    · exact .inr (by omega)
    · have := (HY.out.2.lt i hi).1
      exact .inr (by omega)
  case done =>
    intro v W hi hK
    rw [hz] at hK
    obtain ⟨y, hy⟩ := hi.wr
    have hc := hi.box.cell 0
    simp at hc
    have HI := Lib.hid hi
    have HY := Lib.hid hy
    have HK := Lib.hid hK
    clear hi hy hK
    gi_wp2_with (refine ⟨trivial, ?_⟩; gi_at_call 20; refine (callsIn_wide.2 (wdone W (s + 5) s y (putV u) HY.out (by omega))).mono ?_; rintro e W' ⟨rfl, h1, h2⟩; have H1 := Lib.hid h1; have H2 := Lib.hid h2; clear h1 h2)
    have hK2 : W'.heap[s + 3]? = some (.deferred (some [])) := (H2.out.block _ (Array.getElem?_eq_some_iff.1 HK.out).1 (by simp)).trans HK.out
    refine ⟨by simp, .inl ⟨_, _, rfl, run_takeDeferred hK2, ?_⟩⟩
    have hlt : s + 3 < W.heap.size := (Array.getElem?_eq_some_iff.1 HK.out).1
    have hf : Fr [s + 3] W' (W'.putObj (s + 3) (.deferred none)) := (Fr.refl _ W').putObj (by simp) _
    refine ⟨_, results_tmp rfl _ _ _, W.heap.size, rfl, by omega, H1.out.fr hf (by simp; omega), ((HI.out.fr.tr H2.out).trans hf (by simp; omega))⟩

set_option maxHeartbeats 400000 in
theorem put_none (w : World) (u : Nat) (hu : most < u) :
    Calls Try.prog 16 #[.int .u64 (u : Int)] w fun e w' => e = .returned (.slice none 0 0) ∧ w = w' := by
  unfold most at hu
  have hn : (4294967296 : Int) < (u : Int) := by omega
  go_enter Try.func16, Try.ntmps16
  go_wp2
  go_ret
  exact ⟨rfl, rfl⟩

end Var
end Go.Proofs.Ytokfcknfkhlmfaa
