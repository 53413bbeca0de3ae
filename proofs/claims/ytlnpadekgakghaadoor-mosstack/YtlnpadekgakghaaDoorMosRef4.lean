/-
  Contracts of the document's CPU: addresses. Conditions: the state is one that there is.
-/
import Derived.Test.YtlnpadekgakghaaDoorMosRef3
namespace Go.Proofs.YtlnpadekgakghaaDoor
open Go.RowKit
namespace Ms
open Al (byte of_byte)
set_option linter.unusedVariables false

/-- An address as a value, and as cells. -/
def adC (d : Ad) : Array Value := #[.int .u16 d.ad, .bool d.cr, .int .i64 d.rd, .int .i64 d.put, .int .i64 d.chg]
def adV (d : Ad) : Value := .agg (adC d)
theorem infoAd : (Tryd.prog.info? 99).map (·.size) = some 5 := by kernel_rfl
def adSet (w : World) (z : Nat) (d : Ad) : World := ((((w.setCell ⟨z, 0, none⟩ (.int .u16 d.ad)).setCell ⟨z, 1, none⟩ (.bool d.cr)).setCell ⟨z, 2, none⟩ (.int .i64 d.rd)).setCell ⟨z, 3, none⟩ (.int .i64 d.put)).setCell ⟨z, 4, none⟩ (.int .i64 d.chg)
theorem adSet_blk {w : World} {z : Nat} {x0 x1 x2 x3 x4 : Value} (d : Ad) (h : Blk w z 99 #[x0, x1, x2, x3, x4]) : Blk (adSet w z d) z 99 (adC d) :=
  ((((h.put 0 (.int .u16 d.ad)).put 1 (.bool d.cr)).put 2 (.int .i64 d.rd)).put 3 (.int .i64 d.put)).put 4 (.int .i64 d.chg)
theorem adSet_fr {F : List Nat} {a w : World} {z : Nat} (d : Ad) (h : Fr F a w) (hz : z ∈ F ∨ a.heap.size ≤ z) : Fr F a (adSet w z d) :=
  ((((h.setCell hz _).setCell hz _).setCell hz _).setCell hz _).setCell hz _
theorem blk5 {w : World} {z : Nat} {t : TypeId} {x0 x1 x2 x3 x4 : Value} (h : Blk w z t #[x0, x1, x2, x3, x4]) : w.cell? ⟨z, 0, none⟩ = some x0 ∧ w.cell? ⟨z, 1, none⟩ = some x1 ∧ w.cell? ⟨z, 2, none⟩ = some x2 ∧ w.cell? ⟨z, 3, none⟩ = some x3 ∧ w.cell? ⟨z, 4, none⟩ = some x4 := ⟨h.cell 0, h.cell 1, h.cell 2, h.cell 3, h.cell 4⟩
theorem foot_lt {w : World} {B q : Nat} {v : Value} {S : S14} (H : RefAt w B q v S) : ∀ k ∈ foot q v, k < w.heap.size := by
  intro k hk
  simp only [foot, List.mem_cons, Option.mem_toList] at hk
  rcases hk with rfl | hk
  · exact H.lt
  · exact (H.2.lt k hk).2

abbrev zeroAd : Array Value := #[.int .u16 0, .bool false, .int .i64 0, .int .i64 0, .int .i64 0]
/-- An address is told in a block of its own: what has been done besides is as it was. -/
theorem ad_done {w w0 wi : World} {B q z : Nat} {v vi : Value} {T : S14} (hz : w.heap.size ≤ z) (hz0 : z < w0.heap.size) (hzf : z ∉ foot q v) (hw0 : Fr [] w w0) (hf : Fr (foot q v) w0 wi) (hl : Lies w0 v vi) (hr : RefAt wi B q vi T) (hb : Blk w0 z 99 zeroAd) (d : Ad) :
    RDone w B q v T (adV d) (.returned (adV d)) (adSet wi z d) ∧ Blk (adSet wi z d) z 99 (adC d) := by
  have hzi : z ∉ foot q vi := by
    intro hm
    rcases foot_in hf.size hl z hm with h | h
    · exact hzf h
    · omega
  refine ⟨⟨rfl, vi, hr.fr (adSet_fr (F := [z]) d (Fr.refl _ _) (by simp)) ?_, adSet_fr d (hw0.nil.tr (hf.sub (T := foot q v) (fun k hk => .inl hk))) (.inr hz), ?_⟩, adSet_blk d (hb.fr hf hzf)⟩
  · intro k hk hm
    obtain rfl := List.mem_singleton.1 hm
    exact hzi hk
  · rcases hl with h | ⟨k, hk, hle⟩
    · exact .inl h
    · exact .inr ⟨k, hk, Nat.le_trans hw0.size hle⟩

set_option maxRecDepth 100000 in
set_option maxHeartbeats 4000000 in
theorem radded_any (w : World) (x n rd put chg : Int) (hx : u16 x) (hn : byte n) :
    Calls Tryd.prog 93 #[.int .u16 x, .int .u8 n, .int .i64 rd, .int .i64 put, .int .i64 chg] w fun e w' => e = .returned (adV (added x n rd put chg)) ∧ Fr [] w w' := by
  obtain ⟨x0, x1⟩ := hx
  obtain ⟨n0, n1⟩ := hn
  obtain ⟨z, hz⟩ : ∃ z, w.heap.size = z := ⟨_, rfl⟩
  have HB := Blk.fresh w 99 zeroAd
  rw [hz] at HB
  have hf : Fr [] w (w.alloc (.cells zeroAd 99)) := (Fr.refl [] w).alloc _
  obtain ⟨c0, c1, c2, c3, c4⟩ := blk5 HB
  have f0 := HB.frozen 0
  have f1 := HB.frozen 1
  have f2 := HB.frozen 2
  have f3 := HB.frozen 3
  have f4 := HB.frozen 4
  obtain ⟨s, hs⟩ : ∃ s, (x + n) % 65536 = s := ⟨_, rfl⟩
  have ws : IntKind.u16.wrap (x + n) = s := by rw [IntKind.wrap_u16]; exact hs
  obtain ⟨g, hg⟩ : ∃ g, s / 256 = g := ⟨_, rfl⟩
  obtain ⟨i, hi⟩ : ∃ i, x / 256 = i := ⟨_, rfl⟩
  have hg' : s.tdiv 256 = g := by rw [Int.tdiv_eq_ediv_of_nonneg (by omega)]; exact hg
  have hi' : x.tdiv 256 = i := by rw [Int.tdiv_eq_ediv_of_nonneg x0]; exact hi
  have wg : IntKind.u16.wrap g = g := by rw [IntKind.wrap_u16]; omega
  have wi : IntKind.u16.wrap i = i := by rw [IntKind.wrap_u16]; omega
  have hE : added x n rd put chg = ⟨s, g != i, rd, put, chg⟩ := by unfold added; rw [hs, hg, hi]
  rw [hE]
  have HE := Lib.hid (adSet_blk ⟨s, g != i, rd, put, chg⟩ HB)
  have HF : Hid (Fr [] w (adSet (w.alloc (.cells zeroAd 99)) z ⟨s, g != i, rd, put, chg⟩)) := Lib.hid (adSet_fr _ hf (.inr (by omega)))
  have s0 : 0 ≤ s := by omega
  have s1 : s < 65536 := by omega
  clear hE hs hg hi HB hf
  go_enter Tryd.func93, Tryd.ntmps93
  go_upto_region 1 with fail
  generalize w.alloc _ = w0 at *
  clear hz
  unfold adSet at HE HF
  go_wp2
  exact bodyPost_ret (v := adV ⟨s, g != i, rd, put, chg⟩) (results_cell_row Tryd.results93 _ _ z 99 (adC ⟨s, g != i, rd, put, chg⟩) (0, 0) _ rfl HE.out Tryd.underlying99 rfl infoAd) rfl ⟨rfl, HF.out⟩

end Ms
end Go.Proofs.YtlnpadekgakghaaDoor
