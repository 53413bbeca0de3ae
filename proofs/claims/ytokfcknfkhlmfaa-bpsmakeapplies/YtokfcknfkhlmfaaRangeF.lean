/-
  'for x := range seq { .. }' over an iterator that keeps state of its own in a cell that it captured (block b), and whose body never leaves early: one law for the caller ('range_law'), of no program. Condition: the frame's fence asks nothing.
-/
import Derived.Test.YtokfcknfkhlmfaaBase
import Derived.RangeFuncRecord
import Derived.RangeFuncSeq
import Derived.CallsIn
namespace Go.Proofs.Ytokfcknfkhlmfaa
open Go.RowKit

theorem Fr.putObj {S : List Nat} {a w : World} (h : Fr S a w) {k : Nat} (hk : k ∈ S ∨ a.heap.size ≤ k) (o : Obj) : Fr S a (w.putObj k o) :=
  h.trans (T := [k]) ⟨rfl, rfl, rfl, by simp, fun i _ hi => World.putObj_heap_other (by simpa using hi)⟩ (by simpa using hk)

/-- The iterator gf (what it captured: lb) hands over just 'all', whatever the rounds do, if they leave its own cell; 'st v' is what that cell holds. -/
def SeqOwn {α σ : Type} (P : Program) (gf : Nat) (lb : Array Value) (enc : α → Value) (b : Nat) (st : σ → Value) (v0 : σ) (all : List α) : Prop :=
  ∀ (n l : Nat) (J : List α → σ → World → Prop) (W : World),
    (∀ pre v W, J pre v W → W.cell? ⟨b, 0, none⟩ = some (st v) ∧ W.frozen? ⟨b, 0, none⟩ = false) →
    (∀ pre v v' W, J pre v W → J pre v' (W.setCell ⟨b, 0, none⟩ (st v'))) →
    (∀ pre v x W m, J pre v W → pre.length < all.length → YieldAt Fence.wide m P l #[enc x] W fun e W' => e = .returned (.bool true) ∧ J (pre ++ [x]) v W') →
    J [] v0 W → CallsIn Fence.wide n P gf (#[.func (.yield l) #[] #[]] ++ lb) W fun e W' => (∃ r, e = .returned r) ∧ ∃ v', J all v' W'

theorem range_law {α σ : Type} {P : Program} {n : Nat} {g : Operand} {ps : Array Tmp} {assign body : Code} {Q : Exit → Act → World → Prop} {a : Act} {w : World}
    {gf : Nat} {lb : Array Value} (hg : a.eval g = .func (.func gf) #[] lb) (eg : ∀ args w, (callFunc gf args).run P w = .ok (.enter gf args) w) (h1 : 1 ≤ n)
    {enc : α → Value} {b : Nat} {st : σ → Value} {v0 : σ} {all : List α} (hseq : SeqOwn P gf lb enc b st v0 all) (hb : b < w.heap.size) (hps : ps.size = 1)
    (I : List α → σ → World → Prop)
    (hcell : ∀ pre v W, I pre v W → W.cell? ⟨b, 0, none⟩ = some (st v) ∧ W.frozen? ⟨b, 0, none⟩ = false)
    (hset : ∀ pre v v' W, I pre v W → I pre v' (W.setCell ⟨b, 0, none⟩ (st v')))
    (hnew : ∀ pre v W k o, w.heap.size ≤ k → k ≤ w.heap.size + 1 → I pre v W → I pre v (W.putObj k o))
    (h0 : ∀ o o', I [] v0 ((w.alloc o).alloc o')) (a₁ : α → Act)
    (hassign : ∀ (l m : Nat) (x : α) (W : World) (K : Act → World → Prop), K (a₁ x) W →
      assign.wpIn (Fence.wide.inRound l) m P (Exit.then K (fun _ _ _ => False)) { tmps := (ps.zip #[enc x]).foldl (fun t (p, v) => t.setIfInBounds p v) a.tmps, defers := [] } W)
    (hbody : ∀ (m : Nat) (pre : List α) (v : σ) (x : α) (W : World), I pre v W → pre.length < all.length → w.heap.size + 1 < W.heap.size →
      body.wpIn (Fence.wide.inRound (w.heap.size + 1)) m P (fun e _ W' => e = .normal ∧ I (pre ++ [x]) v W' ∧ W'.heap[w.heap.size]? = W.heap[w.heap.size]? ∧ W'.heap[w.heap.size + 1]? = W.heap[w.heap.size + 1]?) (a₁ x) W)
    (hdone : ∀ (v : σ) (W : World), I all v W → W.heap[w.heap.size]? = some (.deferred (some [])) → Q .normal { a with defers := { target := .collected w.heap.size, args := #[] } :: a.defers } W) :
    (Code.rangeFunc g ps assign body).wpIn Fence.wide n P Q a w := by
  refine wpIn_rangeFunc ?_
  intro fn hfn
  obtain ⟨rec, hrec⟩ : ∃ rec : LoopState → Loop, rec = fun s => { state := s, pending := none, fn, tmps := a.tmps, params := ps, assign, body, defers := w.heap.size } := ⟨_, rfl⟩
  have hpend : ∀ s, (rec s).pending = none := fun s => by rw [hrec]
  have hstate : ∀ s, (rec s).state = s := fun s => by rw [hrec]
  have hturn : ∀ s s', ({ rec s with state := s' } : Loop) = rec s' := fun s s' => by rw [hrec]
  have hL1 : ((w.alloc (.deferred (some []))).alloc (.loop (rec .ready))).heap[w.heap.size + 1]? = some (.loop (rec .ready)) := by
    have := World.alloc_heap_new (w.alloc (.deferred (some []))) (.loop (rec .ready))
    rwa [World.size_alloc] at this
  have hK1 : ((w.alloc (.deferred (some []))).alloc (.loop (rec .ready))).heap[w.heap.size]? = some (.deferred (some [])) :=
    (Below.heap_alloc _ _ _ (by simp)).trans (World.alloc_heap_new w _)
  refine ⟨w.heap.size + 1, [{ target := .collected w.heap.size, args := #[] }], (w.alloc (.deferred (some []))).alloc (.loop (rec .ready)), { target := .fn (.func gf) lb, args := #[.func (.yield (w.heap.size + 1)) #[] #[]] },
    (w.alloc (.deferred (some []))).alloc (.loop (rec .ready)), gf, #[.func (.yield (w.heap.size + 1)) #[] #[]] ++ lb, (w.alloc (.deferred (some []))).alloc (.loop (rec .ready)), ?_, ?_, fun _ _ => trivial, ?_, fun _ => h1, ?_⟩
  · rw [hrec]; exact run_enterLoop_outer _ _ _ _ _
  · simp only [resolve, hg]
    simp [go_sem]
  · simp [invoke, go_sem, eg]
  · refine (hseq (n - 1) (w.heap.size + 1) (fun pre v W => I pre v W ∧ W.heap[w.heap.size + 1]? = some (.loop (rec .ready)) ∧ W.heap[w.heap.size]? = some (.deferred (some []))) _
      (fun pre v W h => hcell pre v W h.1) ?_ ?_ ⟨h0 _ _, hL1, hK1⟩).mono ?_
    · rintro pre v v' W ⟨hi, hl, hk⟩
      exact ⟨hset pre v v' W hi, (Below.heap_setCell W _ _ _ (show w.heap.size + 1 ≠ b by omega)).trans hl, (Below.heap_setCell W _ _ _ (show w.heap.size ≠ b by omega)).trans hk⟩
    · rintro pre v x W m ⟨hi, hl, hk⟩ hlen
      have hlt : w.heap.size + 1 < W.heap.size := (Array.getElem?_eq_some_iff.1 hl).1
      have hy := run_yield (P := P) (args := #[enc x]) hl (by rw [hrec]; simp [hps])
      have hbr := run_beginRound (P := P) hl (hstate _)
      rw [hturn] at hbr
      have hl2 : (W.putObj (w.heap.size + 1) (.loop (rec .busy))).heap[w.heap.size + 1]? = some (.loop (rec .busy)) := World.putObj_heap_same hlt
      have hk2 : (W.putObj (w.heap.size + 1) (.loop (rec .busy))).heap[w.heap.size]? = some (.deferred (some [])) := (World.putObj_heap_other (by omega)).trans hk
      have hi2 := hnew pre v W (w.heap.size + 1) (.loop (rec .busy)) (by omega) (by omega) hi
      rw [hrec] at hy
      refine ⟨fn, _, assign, body, hy, roundIn_of_wpIn hfn (hassign _ m x W _ ⟨_, hbr, ?_⟩)⟩
      refine wpIn_mono (hbody m pre v x _ hi2 hlen (by simpa using hlt)) ?_
      rintro e a3 W3 ⟨rfl, hi3, hk3, hl3⟩
      have hl4 := hl3.trans hl2
      have her := run_endRound (P := P) none hl4
      have e4 : ({ rec .busy with state := if (none : Option Code).isNone then .ready else .done, pending := none } : Loop) = rec .ready := by rw [hrec]; rfl
      rw [e4] at her
      exact ⟨_, _, her, rfl, hnew _ _ _ _ _ (by omega) (by omega) hi3, World.putObj_heap_same (Array.getElem?_eq_some_iff.1 hl4).1, (World.putObj_heap_other (by omega)).trans (hk3.trans hk2)⟩
    · rintro e W2 ⟨⟨r, rfl⟩, v', hi, hl, hk⟩
      have hend := run_endLoop (P := P) hl (by rw [hstate]; simp)
      rw [hturn, hpend] at hend
      exact ⟨none, _, hend, hdone v' _ (hnew _ _ _ _ _ (by omega) (by omega) hi) ((World.putObj_heap_other (by omega)).trans hk)⟩

end Go.Proofs.Ytokfcknfkhlmfaa
