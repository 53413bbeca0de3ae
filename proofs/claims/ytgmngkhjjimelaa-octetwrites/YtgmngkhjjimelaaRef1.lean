/-
  Contracts of the document's own answers for layer 1: (*picklockref01.Reader).Bytes. Conditions: lengths up to 1000000000.
-/
import Derived.Test.YtgmngkhjjimelaaPartsLaw
import Derived.Deep.RegionHeld3
import Derived.IntWalk
namespace Go.Proofs.Ytgmngkhjjimelaa
open Go.RowKit

/-- append at a step of a region that draws its order. -/
theorem step_app {P : Program} (w : World) {ops : Array Oper} {o : Oper} {a : Act} {K : Act → World → Prop} {Q : Exit → Act → World → Prop} {E : Prop} (hgd : o.guard = none) (s x : Operand) (t : TypeId)
    (ho : o.op = .call { callee := .builtin .append, args := #[s, x], argTypes := #[t, t] }) (B : Nat) (i : TypeInfo) (ht : P.underlying t = some (.slice 5)) (hi : P.info? 5 = some i) (hz : i.zero = some (.int .u8 0)) (hz1 : i.size = 1) (hz2 : i.bytes = 1)
    (v : Value) (l : List UInt8) (k : Nat) (hk : l.length = k) (hs : a.eval s = v) (hown : Own w B v l) (A : Option Addr) (m c : Nat) (news : List UInt8) (hx : a.eval x = .slice A m c) (hm : news.length = m) (hr : Rd w A news) (hc : A = none → c = 0)
    (hlen : k + m ≤ 2000000000) (hB : B ≤ w.heap.size)
    (h : ∀ A' cap' w', Own w' B (.slice A' (k + m) cap') (l ++ news) → Fr v.ownBlock.toList w w' → Lies w v (.slice A' (k + m) cap') → K (a.put o.dst (.slice A' (k + m) cap')) w') :
    if Region.wanted o (yielded ops a.tmps) = true then Oper.wp P o a w K Q else E := by
  subst hk
  have hw : Region.wanted o (yielded ops a.tmps) = true := by simp [Region.wanted, hgd]
  rw [if_pos hw]
  exact wp_app w s x t ho B i ht hi hz hz1 hz2 v l hs hown A m c news hx hm hr hc hlen hB h

/-- The document's reader at block s, over the own slice at block g of the bytes l, at place k. -/
def RefR (w : World) (B s g n c : Nat) (l : List UInt8) (k : Nat) : Prop :=
  Blk w s 29 #[.slice (some ⟨g, 0, none⟩) n c, .int .i64 (k : Int)] ∧ Own w B (.slice (some ⟨g, 0, none⟩) n c) l ∧ l.length = n

theorem RefR.fr {S : List Nat} {w w' : World} {B s g n c k : Nat} {l : List UInt8} (h : RefR w B s g n c l k) (hf : Fr S w w') (hs : s ∉ S) (hg : g ∉ S) : RefR w' B s g n c l k :=
  ⟨h.1.fr hf hs, h.2.1.fr hf (fun j hj => by simp [Value.ownBlock] at hj; subst hj; exact hg), h.2.2⟩

theorem RefR.ne {w : World} {B s g n c k : Nat} {l : List UInt8} (h : RefR w B s g n c l k) : g ≠ s := fun e => h.2.1.other h.1 (by decide) (by simp [Value.ownBlock, e])

set_option maxHeartbeats 400000 in
theorem ref_neg (w : World) (s : Nat) (n : Int) (hn : n < 0) :
    Calls Try.prog 11 #[.pointer (some ⟨s, 0, none⟩), .int .i64 n] w fun e w' => e = .returned (.tuple #[.slice none 0 0, .int .i64 1]) ∧ w = w' := by
  go_enter Try.func11, Try.ntmps11
  go_wp2
  go_ret2
  exact ⟨rfl, rfl⟩

set_option maxHeartbeats 400000 in
theorem ref_short (w : World) (B s g N c k : Nat) (l : List UInt8) (n : Int) (h : RefR w B s g N c l k) (hk : k ≤ N) (hl : N ≤ 1000000000) (hn : (N : Int) - k < n) :
    Calls Try.prog 11 #[.pointer (some ⟨s, 0, none⟩), .int .i64 n] w fun e w' => e = .returned (.tuple #[.slice none 0 0, .int .i64 2]) ∧ ∃ m, w' = w.drewN m := by
  have h0 := h.1.cell 0
  have h1 := h.1.cell 1
  simp at h0 h1
  clear h
  have hn0 : ¬ n < 0 := by omega
  go_enter Try.func11, Try.ntmps11
  go_wp2
  go_quiet (fail)
  go_wp2
  go_ret2
  exact ⟨rfl, _, rfl⟩

theorem Own.form0 {w : World} {B n c : Nat} {A : Option Addr} {l : List UInt8} (h : Own w B (.slice A n c) l) : (A = none ∧ n = 0 ∧ c = 0) ∨ ∃ g, A = some ⟨g, 0, none⟩ := by
  rcases h.2 with ⟨hv, _⟩ | ⟨g, cap', cur, hv, _⟩
  · cases hv; exact .inl ⟨rfl, rfl, rfl⟩
  · cases hv; exact .inr ⟨g, rfl⟩

theorem Own.base {w : World} {B B' : Nat} {v : Value} {l : List UInt8} (h : Own w B v l) (hB : B' ≤ B) : Own w B' v l := by
  obtain ⟨h1, h2⟩ := h
  refine ⟨h1, ?_⟩
  rcases h2 with h2 | ⟨g, cap, cur, hv, hg, r⟩
  · exact .inl h2
  · exact .inr ⟨g, cap, cur, hv, by omega, r⟩

theorem cut_rd {w : World} {g c k n : Nat} {l : List UInt8} (h : Rd w (some ⟨g, 0, none⟩) l) (hn : k + n ≤ l.length) (hc : l.length ≤ c) : Rd w (if c = k then some (⟨g, 0, none⟩ : Addr) else some ⟨g, k, none⟩) ((l.drop k).take n) := by
  by_cases hk : c = k
  · rw [if_pos hk]
    exact fun h0 => by simp at h0; omega
  · rw [if_neg hk]
    intro h0
    obtain ⟨b, o, e, hx⟩ := h (by simp at h0; omega)
    cases e
    simpa using Rd.cut hx k n h0

set_option maxHeartbeats 1000000 in
theorem ref_ok (w : World) (B s g N c k n : Nat) (l : List UInt8) (h : RefR w B s g N c l k) (hl : N ≤ 1000000000) (hn : k + n ≤ N) :
    Calls Try.prog 11 #[.pointer (some ⟨s, 0, none⟩), .int .i64 (n : Int)] w fun e w' =>
      ∃ A' c', e = .returned (.tuple #[.slice A' n c', .int .i64 0]) ∧ Own w' w.heap.size (.slice A' n c') ((l.drop k).take n) ∧ RefR w' B s g N c l (k + n) ∧ Fr [s] w w' := by
  obtain ⟨i0, hi, hz0, hz1, hz2⟩ := info_parts info5
  have HR := Lib.hid h
  have h0 := h.1.cell 0
  have h1 := h.1.cell 1
  have hfz := h.1.frozen 1
  have hlt := h.1.lt
  simp at h0 h1
  obtain ⟨hc1, hc2⟩ := h.2.1.caps
  clear h
  have hn0 : ¬ (n : Int) < 0 := by omega
  go_enter Try.func11, Try.ntmps11
  go_wp2
  go_quiet (fail)
  go_wp2_with fail
  have HR0 : Hid (RefR (w.drewN nq) B s g N c l k) := HR.out.fr ((Fr.refl [] w).drewN nq) (by simp) (by simp)
  have HF0 : Hid (Fr [] w (w.drewN nq)) := (Fr.refl [] w).drewN nq
  clear HR h0 h1 hfz hlt
  generalize w.drewN nq = w0 at *
  have h0 := HR0.out.1.cell 0
  have h1 := HR0.out.1.cell 1
  have hfz := HR0.out.1.frozen 1
  have hlt := HR0.out.1.lt
  simp at h0 h1
  have hk0 : (0 : Int) ≤ (k : Int) := by omega
  have hk1 : (k : Int) ≤ (k : Int) + (n : Int) := by omega
  have hk2 : (k : Int) + (n : Int) ≤ (c : Int) := by omega
  have hk3 : IntKind.i64.wrap ((k : Int) + (n : Int)) = (k : Int) + (n : Int) := IntWalk.i64_in _ (by omega)
  have hk4 : ((k : Int) + (n : Int)).toNat = k + n := by omega
  have hk5 : (0 : Int) ≤ (k : Int) + (n : Int) := by omega
  · have HRD : Hid (Rd ((w0.alloc (.cells #[] 5)).drew) (if c = k then some (⟨g, 0, none⟩ : Addr) else some ⟨g, k, none⟩) ((l.drop k).take n)) := by
      have h5 : Rd w0 (some ⟨g, 0, none⟩) l := HR0.out.2.1.rd
      exact (cut_rd h5 (by rw [HR0.out.2.2]; exact hn) (by rw [HR0.out.2.2]; exact hc1)).later (((Fr.refl [] w0).alloc _).drew) (by simp)
    have HLN : Hid (((l.drop k).take n).length = n) := take_in l k n (by rw [HR0.out.2.2]; exact hn)
    have HOE : Hid (Own ((w0.alloc (.cells #[] 5)).drew) w0.heap.size (.slice (some ⟨w0.heap.size, 0, none⟩) 0 0) []) := Own.empty w0 _ (Nat.le_refl _)
    have hk6 : k + n - k = n := by omega
    have HCN : Hid ((if c = k then some (⟨g, 0, none⟩ : Addr) else some ⟨g, k, none⟩) = none → c - k = 0) := by
      intro h; split at h <;> cases h
    have HF1 : Hid (Fr [] w0 ((w0.alloc (.cells #[] 5)).drew)) := ((Fr.refl [] w0).alloc _).drew
    have HB1 : Hid (Blk ((w0.alloc (.cells #[] 5)).drew) s 29 #[.slice (some ⟨g, 0, none⟩) N c, .int .i64 (k : Int)]) := HR0.out.1.fr HF1.out (by simp)
    have HSN : Hid (s ∉ (Value.slice (some ⟨w0.heap.size, 0, none⟩) 0 0).ownBlock.toList) := by
      unfold Hid
      simp [Value.ownBlock]
      omega
    go_region_held3 (fun w' => w'.cell? ⟨s, 0, none⟩ = some (.slice (some ⟨g, 0, none⟩) N c) ∧ w'.cell? ⟨s, 1, none⟩ = some (.int .i64 (k : Int))) (first | exact ⟨hs0, hs1⟩ | go_keep)
      ((refine step_app _ (by rfl) (.tmp 21) (.tmp 36) 22 (by rfl) w0.heap.size i0 Try.underlying22 hi hz0 hz1 hz2 (.slice (some ⟨w0.heap.size, 0, none⟩) 0 0) [] 0 rfl (by rfl) HOE.out _ n (c - k) _ (by rfl) HLN.out HRD.out HCN.out (by omega) (by simp) ?_; intro A' c' w1 ho1 hf1 hl1; have hb1 := HB1.out.fr hf1 HSN.out; have hs0 := hb1.cell 0; have hs1 := hb1.cell 1; simp at hs0 hs1; have hfz1 := hb1.frozen 1; have HBK := Lib.hid hb1; have HO1 := Lib.hid ho1; have HF2 := Lib.hid hf1; clear ho1 hf1 hl1 hb1))
    clear hk0 hk1 hk2 hk3 hk4 hk5 hk6 HRD HCN HLN HOE HB1
    generalize (if c = k then some (⟨g, 0, none⟩ : Addr) else some ⟨g, k, none⟩) = A2
    go_wp2
    go_ret2
    have hf : Fr [s] w (w1.setCell ⟨s, 1, none⟩ (.int .i64 ((k : Int) + n))) :=
      (((HF0.out.tr HF1.out).trans HF2.out (by have := HF0.out.size; simp [Value.ownBlock]; omega)).nil).setCell (by simp) _
    have hw1 : Fr [] w0 w1 := HF1.out.trans HF2.out (by simp [Value.ownBlock])
    have hfs : Fr [s] w1 (w1.setCell ⟨s, 1, none⟩ (.int .i64 ((k : Int) + n))) := (Fr.refl [s] w1).setCell (by simp) _
    have ho := HO1.out
    rw [List.nil_append, Nat.zero_add] at ho
    refine ⟨A', c', rfl, ?_, ⟨?_, (HR0.out.2.1.fr hw1 (by simp)).fr hfs (fun j hj => by simp [Value.ownBlock] at hj; subst hj; simpa using HR0.out.ne), HR0.out.2.2⟩, hf⟩
    · have ho2 := ho.fr hfs (fun j hj h => by simp at h; subst h; exact ho.other HBK.out (by decide) hj)
      exact ho2.base HF0.out.size
    · have h4 := HBK.out.put 1 (.int .i64 ((k : Int) + n))
      simp at h4
      exact h4

end Go.Proofs.Ytgmngkhjjimelaa
