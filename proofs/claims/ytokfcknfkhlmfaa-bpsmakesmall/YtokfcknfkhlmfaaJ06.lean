/-
  'for x := range seq { .. }' over an iterator that keeps state of its own in a cell that it captured (block b), and whose body never leaves early: one law for the caller ('range_law'), of no program. Condition: the frame's fence asks nothing.
  Contracts of octet's copied, NewReader, At, Left, take. Conditions: lengths up to 1000000000.
-/
import Derived.Test.YtokfcknfkhlmfaaJ02
import Derived.RangeFuncRecord
import Derived.RangeFuncSeq
import Derived.CallsIn
import Derived.Test.YtokfcknfkhlmfaaJ03
import Derived.BigQuiet
import Derived.Deep.QuietTactic
namespace Go.Proofs.Ytokfcknfkhlmfaa
open Go.RowKit

theorem Fr.putObj {S : List Nat} {a w : World} (h : Fr S a w) {k : Nat} (hk : k ∈ S ∨ a.heap.size ≤ k) (o : Obj) : Fr S a (w.putObj k o) :=
  h.trans (T := [k]) ⟨rfl, rfl, rfl, by simp, fun i _ hi => World.putObj_heap_other (by simpa using hi)⟩ (by simpa using hk)

/-- The iterator gf (what it captured: lb) hands over just 'all', whatever the rounds do, if they leave its own cell; 'st v' is what that cell holds. -/
def SeqOwn {α σ : Type} (P : Program) (gf : Nat) (lb : Array Value) (enc : α → Value) (b : Nat) (st : σ → Value) (v0 : σ) (all : List α) : Prop :=
  ∀ (n l : Nat) (J : List α → σ → World → Prop) (W : World),
    (∀ pre v W, J pre v W → W.cell? ⟨b, 0, none⟩ = some (st v) ∧ W.frozen? ⟨b, 0, none⟩ = false) →
    (∀ pre v v' W, J pre v W → J pre v' (W.setCell ⟨b, 0, none⟩ (st v'))) →
    (∀ pre v x W m, J pre v W → pre.length < all.length → YieldAt Fence.wide m P l #[enc x] W fun e W' => e = .returned (.bool true) ∧ J (pre ++ [x]) v W') →
    J [] v0 W → CallsIn Fence.wide n P gf (#[.func (.yield l) #[] #[]] ++ lb) W fun e W' => (∃ r, e = .returned r) ∧ ∃ v', J all v' W'

theorem range_law {α σ : Type} {P : Program} {n : Nat} {g : Operand} {ps : Array Tmp} {assign body : Code} {Q : Exit → Act → World → Prop} {a : Act} {w : World}
    {gf : Nat} {lb : Array Value} (hg : a.eval g = .func (.func gf) #[] lb) (eg : ∀ args w, (callFunc gf args).run P w = .ok (.enter gf args) w) (h1 : 1 ≤ n)
    {enc : α → Value} {b : Nat} {st : σ → Value} {v0 : σ} {all : List α} (hseq : SeqOwn P gf lb enc b st v0 all) (hb : b < w.heap.size) (hps : ps.size = 1)
    (I : List α → σ → World → Prop)
    (hcell : ∀ pre v W, I pre v W → W.cell? ⟨b, 0, none⟩ = some (st v) ∧ W.frozen? ⟨b, 0, none⟩ = false)
    (hset : ∀ pre v v' W, I pre v W → I pre v' (W.setCell ⟨b, 0, none⟩ (st v')))
    (hnew : ∀ pre v W k o, w.heap.size ≤ k → k ≤ w.heap.size + 1 → I pre v W → I pre v (W.putObj k o))
    (h0 : ∀ o o', I [] v0 ((w.alloc o).alloc o')) (a₁ : α → Act)
    (hassign : ∀ (l m : Nat) (x : α) (W : World) (K : Act → World → Prop), K (a₁ x) W →
      assign.wpIn (Fence.wide.inRound l) m P (Exit.then K (fun _ _ _ => False)) { tmps := (ps.zip #[enc x]).foldl (fun t (p, v) => t.setIfInBounds p v) a.tmps, defers := [] } W)
    (hbody : ∀ (m : Nat) (pre : List α) (v : σ) (x : α) (W : World), I pre v W → pre.length < all.length → w.heap.size + 1 < W.heap.size →
      body.wpIn (Fence.wide.inRound (w.heap.size + 1)) m P (fun e _ W' => e = .normal ∧ I (pre ++ [x]) v W' ∧ W'.heap[w.heap.size]? = W.heap[w.heap.size]? ∧ W'.heap[w.heap.size + 1]? = W.heap[w.heap.size + 1]?) (a₁ x) W)
    (hdone : ∀ (v : σ) (W : World), I all v W → W.heap[w.heap.size]? = some (.deferred (some [])) → Q .normal { a with defers := { target := .collected w.heap.size, args := #[] } :: a.defers } W) :
    (Code.rangeFunc g ps assign body).wpIn Fence.wide n P Q a w := by
  refine wpIn_rangeFunc ?_
  intro fn hfn
  obtain ⟨rec, hrec⟩ : ∃ rec : LoopState → Loop, rec = fun s => { state := s, pending := none, fn, tmps := a.tmps, params := ps, assign, body, defers := w.heap.size } := ⟨_, rfl⟩
  have hpend : ∀ s, (rec s).pending = none := fun s => by rw [hrec]
  have hstate : ∀ s, (rec s).state = s := fun s => by rw [hrec]
  have hturn : ∀ s s', ({ rec s with state := s' } : Loop) = rec s' := fun s s' => by rw [hrec]
  have hL1 : ((w.alloc (.deferred (some []))).alloc (.loop (rec .ready))).heap[w.heap.size + 1]? = some (.loop (rec .ready)) := by
    have := World.alloc_heap_new (w.alloc (.deferred (some []))) (.loop (rec .ready))
    rwa [World.size_alloc] at this
  have hK1 : ((w.alloc (.deferred (some []))).alloc (.loop (rec .ready))).heap[w.heap.size]? = some (.deferred (some [])) :=
    (Below.heap_alloc _ _ _ (by simp)).trans (World.alloc_heap_new w _)
  refine ⟨w.heap.size + 1, [{ target := .collected w.heap.size, args := #[] }], (w.alloc (.deferred (some []))).alloc (.loop (rec .ready)), { target := .fn (.func gf) lb, args := #[.func (.yield (w.heap.size + 1)) #[] #[]] },
    (w.alloc (.deferred (some []))).alloc (.loop (rec .ready)), gf, #[.func (.yield (w.heap.size + 1)) #[] #[]] ++ lb, (w.alloc (.deferred (some []))).alloc (.loop (rec .ready)), ?_, ?_, fun _ _ => trivial, ?_, fun _ => h1, ?_⟩
  · rw [hrec]; exact run_enterLoop_outer _ _ _ _ _
  · simp only [resolve, hg]
    simp [go_sem]
  · simp [invoke, go_sem, eg]
  · refine (hseq (n - 1) (w.heap.size + 1) (fun pre v W => I pre v W ∧ W.heap[w.heap.size + 1]? = some (.loop (rec .ready)) ∧ W.heap[w.heap.size]? = some (.deferred (some []))) _
      (fun pre v W h => hcell pre v W h.1) ?_ ?_ ⟨h0 _ _, hL1, hK1⟩).mono ?_
    · rintro pre v v' W ⟨hi, hl, hk⟩
      exact ⟨hset pre v v' W hi, (Below.heap_setCell W _ _ _ (show w.heap.size + 1 ≠ b by omega)).trans hl, (Below.heap_setCell W _ _ _ (show w.heap.size ≠ b by omega)).trans hk⟩
    · rintro pre v x W m ⟨hi, hl, hk⟩ hlen
      have hlt : w.heap.size + 1 < W.heap.size := (Array.getElem?_eq_some_iff.1 hl).1
      have hy := run_yield (P := P) (args := #[enc x]) hl (by rw [hrec]; simp [hps])
      have hbr := run_beginRound (P := P) hl (hstate _)
      rw [hturn] at hbr
      have hl2 : (W.putObj (w.heap.size + 1) (.loop (rec .busy))).heap[w.heap.size + 1]? = some (.loop (rec .busy)) := World.putObj_heap_same hlt
      have hk2 : (W.putObj (w.heap.size + 1) (.loop (rec .busy))).heap[w.heap.size]? = some (.deferred (some [])) := (World.putObj_heap_other (by omega)).trans hk
      have hi2 := hnew pre v W (w.heap.size + 1) (.loop (rec .busy)) (by omega) (by omega) hi
      rw [hrec] at hy
      refine ⟨fn, _, assign, body, hy, roundIn_of_wpIn hfn (hassign _ m x W _ ⟨_, hbr, ?_⟩)⟩
      refine wpIn_mono (hbody m pre v x _ hi2 hlen (by simpa using hlt)) ?_
      rintro e a3 W3 ⟨rfl, hi3, hk3, hl3⟩
      have hl4 := hl3.trans hl2
      have her := run_endRound (P := P) none hl4
      have e4 : ({ rec .busy with state := if (none : Option Code).isNone then .ready else .done, pending := none } : Loop) = rec .ready := by rw [hrec]; rfl
      rw [e4] at her
      exact ⟨_, _, her, rfl, hnew _ _ _ _ _ (by omega) (by omega) hi3, World.putObj_heap_same (Array.getElem?_eq_some_iff.1 hl4).1, (World.putObj_heap_other (by omega)).trans (hk3.trans hk2)⟩
    · rintro e W2 ⟨⟨r, rfl⟩, v', hi, hl, hk⟩
      have hend := run_endLoop (P := P) hl (by rw [hstate]; simp)
      rw [hturn, hpend] at hend
      exact ⟨none, _, hend, hdone v' _ (hnew _ _ _ _ _ (by omega) (by omega) hi) ((World.putObj_heap_other (by omega)).trans hk)⟩

end Go.Proofs.Ytokfcknfkhlmfaa

namespace Go.Proofs.Ytokfcknfkhlmfaa
open Go.RowKit

theorem size5 : (Try.prog.info? 5).map (·.size) = some 1 := by kernel_rfl

theorem own_full {w : World} {B g n : Nat} {xs : List Value} (h : w.ownsRow B 5 1 (.slice (some ⟨g, 0, none⟩) n n) n xs) : ∃ xs, w.heap[g]? = some (.cells (List.toArray xs) 5 (0, 0)) ∧ xs.length = n := by
  obtain ⟨h1, h2⟩ := h
  rcases h2 with ⟨h2, _⟩ | ⟨g', cap, cur, hv, _, hh, _, _, hs, ht⟩
  · cases h2
  · cases hv
    have e : cur.toList = xs := by rw [← ht, List.take_of_length_le (by simp; omega)]
    subst e
    exact ⟨_, by simpa using hh, by simpa using h1⟩

theorem splice_all {α : Type} (L cs : List α) (h : L.length = cs.length) : splice L 0 cs = cs := by
  simp [splice]; omega

set_option maxHeartbeats 400000 in
theorem copied_len (A : Option Addr) (cap : Nat) (l : List UInt8) (w : World) (hr : Rd w A l) (hl : l.length ≤ 1000000000) :
    Calls Try.prog 38 #[.slice A l.length cap] w fun e w' => e = .returned (.slice (some ⟨w.heap.size, 0, none⟩) l.length l.length) ∧ Blk w' w.heap.size 5 (bv l).toArray ∧ Fr [] w w' := by
  obtain ⟨i0, hi, hz0, hz1, hz2⟩ := info_parts info5
  have HR := Lib.hid hr
  clear hr
  go_enter Try.func38, Try.ntmps38
  go_wp2_with (at_make; refine wpList_make_full _ rfl _ _ 22 rfl w.heap.size 5 i0 (.int .u8 0) 1 Try.underlying22 hi hz0 hz1 _ _ _ _ l.length rfl rfl rfl rfl ?b1 ?b2 ?b3 ?_)
  case b1 => rw [hz2]; omega
  case b2 => unfold maxLen; omega
  case b3 => omega
  intro w1 hown hgrow
  obtain ⟨xs, hh, hlen⟩ := own_full hown
  have HH := Lib.hid hh
  have HG := Lib.hid hgrow
  clear hown hh hgrow
  have HL := Lib.hid hlen
  clear hlen
  go_wp2_with (with_reducible refine wpList_copy_splice rfl (.tmp 7) (.tmp 8) 22 22 rfl 5 Try.underlying22 size5 _ _ _ _ _ _ rfl rfl w.heap.size 0 xs 5 HH.out (bv l) ?c1 ?c2 ?c3 (bv_one l) w.heap.size w1 (Below.refl _ _) (Nat.le_refl _) ?_)
  case c1 => simp [bv_length]
  case c2 =>
    intro h0
    exact (HR.out.fr (Fr.grown (Fr.refl [] w) HG.out (by simp)) (by simp)).cells h0
  case c3 => rw [bv_length, HL.out]; omega
  intro w2 H2 hb2
  go_wp2
  go_ret
  refine ⟨rfl, ?_, ?_⟩
  · have h2 := H2.out
    rw [splice_all xs (bv l) (by rw [bv_length, HL.out])] at h2
    exact h2
  · exact (Fr.grown (Fr.refl [] w) HG.out (by simp)).then_below hb2 (Nat.le_refl _)

theorem copied_any (A : Option Addr) (n cap : Nat) (l : List UInt8) (w : World) (hn : l.length = n) (hr : Rd w A l) (hl : n ≤ 1000000000) :
    Calls Try.prog 38 #[.slice A n cap] w fun e w' => e = .returned (.slice (some ⟨w.heap.size, 0, none⟩) n n) ∧ Blk w' w.heap.size 5 (bv l).toArray ∧ Fr [] w w' := by
  subst hn
  exact copied_len A cap l w hr hl

/-- A reader at block p, its bytes l in block g, its place k. -/
def Rdr (w : World) (p g : Nat) (l : List UInt8) (k : Nat) : Prop :=
  Blk w p 115 #[.slice (some ⟨g, 0, none⟩) l.length l.length, .int .i64 (k : Int)] ∧ Blk w g 5 (bv l).toArray

theorem Rdr.fr {S : List Nat} {w w' : World} {p g k : Nat} {l : List UInt8} (h : Rdr w p g l k) (hf : Fr S w w') (hp : p ∉ S) (hg : g ∉ S) : Rdr w' p g l k := ⟨h.1.fr hf hp, h.2.fr hf hg⟩
theorem Rdr.ne {w : World} {p g k : Nat} {l : List UInt8} (h : Rdr w p g l k) : g ≠ p := h.2.other h.1 (by decide)

set_option maxHeartbeats 400000 in
theorem newReader_len (A : Option Addr) (cap : Nat) (l : List UInt8) (w : World) (hr : Rd w A l) (hl : l.length ≤ 1000000000) :
    Calls Try.prog 39 #[.slice A l.length cap] w fun e w' => ∃ p, e = .returned (.pointer (some ⟨p, 0, none⟩)) ∧ Rdr w' p w.heap.size l 0 ∧ w.heap.size < p ∧ Fr [] w w' := by
  have HR := Lib.hid hr
  clear hr
  go_enter Try.func39, Try.ntmps39
  go_wp2_with (go_at_call 38; refine (copied_any A _ cap l _ rfl HR.out hl).mono ?_; rintro e w1 ⟨rfl, hb, hf⟩; have HB := Lib.hid hb; have HF := Lib.hid hf; clear hb hf)
  go_ret
  refine ⟨w1.heap.size, rfl, ⟨Blk.fresh _ _ _, HB.out.fr (Fr.alloc (Fr.refl [] _) _) (by simp)⟩, HB.out.lt, HF.out.alloc _⟩

theorem newReader_any (A : Option Addr) (n cap : Nat) (l : List UInt8) (w : World) (hn : l.length = n) (hr : Rd w A l) (hl : n ≤ 1000000000) :
    Calls Try.prog 39 #[.slice A n cap] w fun e w' => ∃ p, e = .returned (.pointer (some ⟨p, 0, none⟩)) ∧ Rdr w' p w.heap.size l 0 ∧ w.heap.size < p ∧ Fr [] w w' := by
  subst hn
  exact newReader_len A cap l w hr hl


set_option maxHeartbeats 400000 in
theorem left_any (w : World) (p g k : Nat) (l : List UInt8) (h : Rdr w p g l k) (hk : k ≤ l.length) (hl : l.length ≤ 1000000000) :
    Calls Try.prog 67 #[.pointer (some ⟨p, 0, none⟩)] w fun e w' => e = .returned (.int .i64 ((l.length : Int) - k)) ∧ ∃ n, w' = w.drewN n := by
  have h0 := h.1.cell 0
  have h1 := h.1.cell 1
  simp at h0 h1
  clear h
  go_enter Try.func67, Try.ntmps67
  go_wp2
  go_quiet (fail)
  go_wp2
  go_ret
  exact ⟨rfl, _, rfl⟩

end Go.Proofs.Ytokfcknfkhlmfaa
