/-
  Slices that came in, as bytes and as numbers: plain lemmas.
-/
import Derived.Test.YtgmngkhjjimelaaShown
import Derived.OpenShut
namespace Go.Proofs.Ytgmngkhjjimelaa
open Go.RowKit

theorem row_int {k : IntKind} {w : World} {a : Option Addr} {len cap : Nat} {zs : List Int}
    (h : (a = none ∧ len = 0 ∧ cap = 0 ∧ zs = []) ∨ ∃ x, a = some x ∧ len ≤ cap ∧ cap ≤ maxLen ∧ zs.length = cap ∧ (∀ i, i < zs.length → w.cell? (x.add i) = some (.int k (zs.getD i 0))) ∧ ∀ n ∈ zs, (Lit.int k n).wf = true) :
    ∃ l : List Int, l.length = len ∧ RdI k w a l ∧ (a = none → cap = 0) ∧ len ≤ cap ∧ cap ≤ maxLen ∧ ∀ n ∈ l, (Lit.int k n).wf = true := by
  rcases h with ⟨rfl, rfl, rfl, rfl⟩ | ⟨x, rfl, h1, h2, h3, h4, h5⟩
  · exact ⟨[], rfl, fun h0 => by simp at h0, fun _ => rfl, by omega, by simp [maxLen], by simp⟩
  · refine ⟨zs.take len, by simp; omega, fun h0 => ?_, by simp, h1, h2, fun n hn => h5 n (List.mem_of_mem_take hn)⟩
    obtain ⟨b, o, rfl, hc⟩ := ints_at h4 (by simp at h0; omega)
    refine ⟨b, o, rfl, fun j hj => ?_⟩
    have hj' : j < zs.length := by simp at hj; omega
    rw [hc j hj']
    simp [List.getD, hj']

theorem byte_of {n : Int} (h : (Lit.int .u8 n).wf = true) : ∃ x : UInt8, n = (x.toNat : Int) := by
  have := bounds_u8 h
  refine ⟨UInt8.ofNat n.toNat, ?_⟩
  simp
  omega

theorem row_u8 {w : World} {a : Option Addr} {len cap : Nat} {zs : List Int}
    (h : (a = none ∧ len = 0 ∧ cap = 0 ∧ zs = []) ∨ ∃ x, a = some x ∧ len ≤ cap ∧ cap ≤ maxLen ∧ zs.length = cap ∧ (∀ i, i < zs.length → w.cell? (x.add i) = some (.int .u8 (zs.getD i 0))) ∧ ∀ n ∈ zs, (Lit.int .u8 n).wf = true) :
    ∃ l : List UInt8, l.length = len ∧ Rd w a l ∧ (a = none → cap = 0) ∧ len ≤ cap ∧ cap ≤ maxLen := by
  obtain ⟨l, h1, h2, h3, h4, h5, h6⟩ := row_int h
  refine ⟨l.map fun z => UInt8.ofNat z.toNat, by simpa using h1, fun h0 => ?_, h3, h4, h5⟩
  obtain ⟨b, o, rfl, hc⟩ := h2 (by simpa using h0)
  refine ⟨b, o, rfl, fun j hj => ?_⟩
  have hj' : j < l.length := by simpa using hj
  rw [hc j hj']
  have := bounds_u8 (h6 _ (List.getElem_mem hj'))
  simp
  omega

theorem rd_take {w : World} {A : Option Addr} {l : List UInt8} (h : Rd w A l) (n : Nat) : Rd w A (l.take n) := by
  intro h0
  obtain ⟨b, o, rfl, hc⟩ := h (by simp at h0; omega)
  refine ⟨b, o, rfl, fun j hj => ?_⟩
  rw [hc j (by simp at hj; omega)]
  simp

end Go.Proofs.Ytgmngkhjjimelaa
