/-
  Words for memory, of no program: which blocks a call may have turned ('Fr'), a block known whole ('Blk'), a slice of bytes that is read ('Rd'), one that is owned ('Own'). Plain lemmas; no condition.
-/
import Derived.WalkKit
import Derived.Below
import Derived.Laws.OwnMore
import Derived.Laws.Rows
import Derived.Laws.CopyOwn
import Derived.Laws.IdiomStrings
import Derived.Deep.AppendLies
import Derived.Deep.Draws
import Derived.Lib.Hide
namespace Go.Proofs.YtlnpadekgakghaaDoor
open Go.RowKit

/-- The bytes of a list as values. -/
def bv (l : List UInt8) : List Value := l.map fun x => Value.int .u8 (x.toNat : Int)
theorem bv_length (l : List UInt8) : (bv l).length = l.length := by simp [bv]
theorem bv_append (l m : List UInt8) : bv (l ++ m) = bv l ++ bv m := by simp [bv]
theorem bv_get (l : List UInt8) (j : Nat) (h : j < l.length) : (bv l)[j]? = some (.int .u8 (l[j].toNat : Int)) := by simp [bv, h]
theorem bv_one (l : List UInt8) : ∀ u ∈ bv l, u.oneCell' = true := by
  intro u hu
  obtain ⟨x, _, rfl⟩ := List.mem_map.1 hu
  rfl
theorem bv_take (l : List UInt8) (n : Nat) : bv (l.take n) = (bv l).take n := by simp [bv]
theorem bv_drop (l : List UInt8) (n : Nat) : bv (l.drop n) = (bv l).drop n := by simp [bv]

/-- w' is w but for the blocks of S and for new ones. -/
structure Fr (S : List Nat) (w w' : World) : Prop where
  os : w'.os = w.os
  tape : w'.tape = w.tape
  output : w'.output = w.output
  size : w.heap.size ≤ w'.heap.size
  block : ∀ k, k < w.heap.size → k ∉ S → w'.heap[k]? = w.heap[k]?

theorem Fr.refl (S : List Nat) (w : World) : Fr S w w := ⟨rfl, rfl, rfl, Nat.le_refl _, fun _ _ _ => rfl⟩

theorem Fr.trans {S T : List Nat} {a b c : World} (h : Fr S a b) (k : Fr T b c) (hT : ∀ i ∈ T, i ∈ S ∨ a.heap.size ≤ i) : Fr S a c :=
  ⟨k.os.trans h.os, k.tape.trans h.tape, k.output.trans h.output, Nat.le_trans h.size k.size, fun i hi hS =>
    (k.block i (Nat.lt_of_lt_of_le hi h.size) (fun hiT => by rcases hT i hiT with h1 | h1; exact hS h1; omega)).trans (h.block i hi hS)⟩

theorem Fr.tr {S : List Nat} {a b c : World} (h : Fr S a b) (k : Fr S b c) : Fr S a c := h.trans k fun _ hi => .inl hi

theorem Fr.then_below {S : List Nat} {B : Nat} {a b c : World} (h : Fr S a b) (k : Below B b c) (hB : a.heap.size ≤ B) : Fr S a c :=
  ⟨k.os.trans h.os, k.tape.trans h.tape, k.output.trans h.output, Nat.le_trans h.size k.size, fun i hi hS => (k.block i (by omega)).trans (h.block i hi hS)⟩

theorem Fr.alloc {S : List Nat} {a w : World} (h : Fr S a w) (o : Obj) : Fr S a (w.alloc o) :=
  h.tr ⟨rfl, rfl, rfl, by simp, fun k hk _ => Below.heap_alloc w o k hk⟩

theorem Fr.drew {S : List Nat} {a w : World} (h : Fr S a w) : Fr S a w.drew := ⟨h.os, h.tape, h.output, h.size, h.block⟩
theorem Fr.drewN {S : List Nat} {a w : World} (h : Fr S a w) (n : Nat) : Fr S a (w.drewN n) := ⟨h.os, h.tape, h.output, h.size, h.block⟩

theorem Fr.setCell {S : List Nat} {a w : World} (h : Fr S a w) {p : Addr} (hp : p.block ∈ S ∨ a.heap.size ≤ p.block) (u : Value) : Fr S a (w.setCell p u) :=
  h.trans (T := [p.block]) ⟨rfl, rfl, rfl, by simp [World.setCell], fun k _ hk => Below.heap_setCell w p u k (by simpa using hk)⟩ (by simpa using hp)

theorem Fr.grown {S : List Nat} {a w w' : World} {row : Option Nat} (h : Fr S a w) (hg : w.grownBy w' row) (hr : ∀ k, row = some k → k ∈ S ∨ a.heap.size ≤ k) : Fr S a w' :=
  h.trans (T := row.toList) ⟨hg.os, hg.tape, hg.output, hg.size, fun k hk hn => hg.block k hk (fun e => hn (by simp [← e]))⟩ (fun k hk => hr k (by simpa using hk))

theorem Fr.below {S : List Nat} {w w' : World} (h : Fr S w w') {B : Nat} (hS : ∀ k ∈ S, B ≤ k) (hB : B ≤ w.heap.size) : Below B w w' :=
  ⟨h.os, h.tape, h.output, h.size, fun k hk => h.block k (by omega) (fun hm => by have := hS k hm; omega)⟩

theorem Fr.of_below {B : Nat} {w w' : World} (h : Below B w w') (hB : w.heap.size ≤ B) : Fr [] w w' :=
  ⟨h.os, h.tape, h.output, h.size, fun k hk _ => h.block k (by omega)⟩

theorem Fr.sub {S T : List Nat} {w w' : World} (h : Fr S w w') (hS : ∀ k ∈ S, k ∈ T ∨ w.heap.size ≤ k) : Fr T w w' := (Fr.refl T w).trans h hS

theorem Fr.nil {T : List Nat} {w w' : World} (h : Fr [] w w') : Fr T w w' := h.sub (by simp)

theorem Fr.cell {S : List Nat} {w w' : World} (h : Fr S w w') {p : Addr} {v : Value} (hc : w.cell? p = some v) (hp : p.block ∉ S) : w'.cell? p = some v :=
  (World.cell?_of_block (h.block p.block (World.block_lt_of_cell? w p hc) hp)).trans hc

/-- Block g is just these cells of element type t, none of them frozen. -/
def Blk (w : World) (g : Nat) (t : TypeId) (cs : Array Value) : Prop := w.heap[g]? = some (.cells cs t (0, 0))

section
variable {w w' : World} {g : Nat} {t : TypeId} {cs : Array Value}
theorem Blk.lt (h : Blk w g t cs) : g < w.heap.size := (Array.getElem?_eq_some_iff.1 h).1
theorem Blk.cell (h : Blk w g t cs) (i : Nat) : w.cell? ⟨g, i, none⟩ = cs[i]? := cell_of_row w g i cs t (0, 0) h
theorem Blk.frozen (h : Blk w g t cs) (i : Nat) : w.frozen? ⟨g, i, none⟩ = false := by
  unfold Blk at h
  simp [World.frozen?, h]
theorem Blk.fresh (w : World) (t : TypeId) (cs : Array Value) : Blk (w.alloc (.cells cs t)) w.heap.size t cs := heap_alloc_new w _
theorem Blk.fr {S : List Nat} (h : Blk w g t cs) (hf : Fr S w w') (hg : g ∉ S) : Blk w' g t cs := (hf.block g h.lt hg).trans h
theorem Blk.put (h : Blk w g t cs) (i : Nat) (u : Value) : Blk (w.setCell ⟨g, i, none⟩ u) g t (cs.setIfInBounds i u) := by
  unfold Blk at h ⊢
  simp [World.setCell, Array.getElem?_modify, h]
theorem Blk.other {g' : Nat} {t' : TypeId} {cs' : Array Value} (h : Blk w g t cs) (h' : Blk w g' t' cs') (hne : t ≠ t') : g ≠ g' := by
  rintro rfl
  unfold Blk at h h'
  rw [h] at h'
  injection h' with h'
  injection h' with _ ht
  exact hne ht
end

/-- The slice that begins at A holds the bytes l. -/
def Rd (w : World) (A : Option Addr) (l : List UInt8) : Prop :=
  0 < l.length → ∃ b o, A = some ⟨b, o, none⟩ ∧ ∀ j (hj : j < l.length), w.cell? ⟨b, o + j, none⟩ = some (.int .u8 (l[j].toNat : Int))

theorem Rd.fr {S : List Nat} {w w' : World} {A : Option Addr} {l : List UInt8} (h : Rd w A l) (hf : Fr S w w') (hA : ∀ ad, A = some ad → ad.block ∉ S) : Rd w' A l := by
  intro hl
  obtain ⟨b, o, rfl, hc⟩ := h hl
  exact ⟨b, o, rfl, fun j hj => hf.cell (hc j hj) (by simpa using hA _ rfl)⟩

theorem Rd.later {S : List Nat} {w w' : World} {A : Option Addr} {l : List UInt8} (h : Rd w A l) (hf : Fr S w w') (hS : ∀ k ∈ S, w.heap.size ≤ k) : Rd w' A l := by
  intro hl
  obtain ⟨b, o, rfl, hc⟩ := h hl
  refine ⟨b, o, rfl, fun j hj => hf.cell (hc j hj) fun hm => ?_⟩
  have h1 := World.block_lt_of_cell? w _ (hc j hj)
  have h2 := hS _ hm
  exact absurd h1 (by simpa using h2)

theorem Rd.cells {w : World} {A : Option Addr} {l : List UInt8} (h : Rd w A l) (h0 : 0 < (bv l).length) : ∃ ad, A = some ad ∧ ∀ j v, (bv l)[j]? = some v → w.cell? (ad.add j) = some v := by
  obtain ⟨b, o, rfl, hc⟩ := h (by rwa [bv_length] at h0)
  refine ⟨_, rfl, fun j v hv => ?_⟩
  have hj : j < l.length := by have := (List.getElem?_eq_some_iff.1 hv).1; rwa [bv_length] at this
  rw [bv_get l j hj] at hv
  rw [Addr.add_lit, hc j hj, hv]

theorem Rd.of_below {B : Nat} {w w' : World} {A : Option Addr} {l : List UInt8} (h : Rd w A l) (hf : Below B w w') (hA : ∀ ad, A = some ad → ad.block < B) : Rd w' A l := by
  intro hl
  obtain ⟨b, o, rfl, hc⟩ := h hl
  exact ⟨b, o, rfl, fun j hj => (hf.cell (by simpa using hA _ rfl)).trans (hc j hj)⟩

theorem Rd.cut {w : World} {b o : Nat} {l : List UInt8} (h : ∀ j (hj : j < l.length), w.cell? ⟨b, o + j, none⟩ = some (.int .u8 (l[j].toNat : Int))) (k n : Nat) : Rd w (some ⟨b, o + k, none⟩) ((l.drop k).take n) := by
  intro _
  refine ⟨b, o + k, rfl, fun j hj => ?_⟩
  have hj' : k + j < l.length := by simp at hj; omega
  rw [Nat.add_assoc, h (k + j) hj']
  simp

theorem Blk.rd {w : World} {g : Nat} {t : TypeId} {l : List UInt8} {cs : Array Value} (h : Blk w g t cs) (hl : cs.toList.take l.length = bv l) : ∀ j (hj : j < l.length), w.cell? ⟨g, 0 + j, none⟩ = some (.int .u8 (l[j].toNat : Int)) := by
  intro j hj
  rw [Nat.zero_add, h.cell j]
  have h1 := bv_get l j hj
  rw [← hl, List.getElem?_take_of_lt hj] at h1
  simpa using h1

/-- The slice value v owns a row of bytes from block B on, whose first ones are l. -/
def Own (w : World) (B : Nat) (v : Value) (l : List UInt8) : Prop := w.ownsRow B 5 1 v l.length (bv l)

theorem Own.fr {S : List Nat} {w w' : World} {B : Nat} {v : Value} {l : List UInt8} (h : Own w B v l) (hf : Fr S w w') (hv : ∀ k, v.ownBlock = some k → k ∉ S) : Own w' B v l := by
  obtain ⟨h1, h2⟩ := h
  refine ⟨h1, ?_⟩
  rcases h2 with h2 | ⟨g, cap, cur, rfl, hg, hh, r⟩
  · exact .inl h2
  · exact .inr ⟨g, cap, cur, rfl, hg, (hf.block g (Blk.lt hh) (hv g rfl)).trans hh, r⟩

theorem Own.lt {w : World} {B : Nat} {v : Value} {l : List UInt8} (h : Own w B v l) : ∀ k, v.ownBlock = some k → B ≤ k ∧ k < w.heap.size := World.ownsRow.lt h

theorem Own.slice {w : World} {B : Nat} {v : Value} {l : List UInt8} (h : Own w B v l) : ∃ A cap, v = .slice A l.length cap ∧ Rd w A l ∧ (∀ ad, A = some ad → v.ownBlock = some ad.block) ∧ l.length ≤ cap ∧ cap ≤ maxLen ∧ (A = none → cap = 0) := by
  rcases h.2 with ⟨rfl, h0⟩ | ⟨g, cap, cur, rfl, _, hh, hc, hm, hs, ht⟩
  · refine ⟨none, 0, by rw [h0], fun hl => by omega, by simp, by omega, by simp [maxLen], fun _ => rfl⟩
  · refine ⟨_, cap, rfl, fun _ => ⟨g, 0, rfl, Blk.rd hh ?_⟩, fun ad e => ?_, hc, hm, by simp⟩
    · simpa using ht
    · cases e; rfl

/-- A slice that owns something begins at the head of its block, whose cells are known. -/
theorem Own.head {w : World} {B : Nat} {A : Option Addr} {n cap : Nat} {l : List UInt8} (h : Own w B (.slice A n cap) l) (hn : 0 < n) : ∃ g, A = some ⟨g, 0, none⟩ ∧ n = l.length ∧ (∀ k, k < n → ∃ u, w.cell? ⟨g, k, none⟩ = some u) ∧ (∀ k, w.frozen? ⟨g, k, none⟩ = false) ∧
    ∀ k (x : UInt8), Own (w.setCell ⟨g, k, none⟩ (.int .u8 (x.toNat : Int))) B (.slice A n cap) (l.set k x) := by
  rcases h.2 with ⟨hv, _⟩ | ⟨g, cap', cur, hv, hg, hh, hc, hm, hs, ht⟩
  · cases hv; omega
  · cases hv
    refine ⟨g, rfl, rfl, fun k hk => ?_, fun k => Blk.frozen hh k, fun k x => ?_⟩
    · have h1 := Blk.cell hh k
      rw [h1]
      exact ⟨_, Array.getElem?_eq_getElem (by omega)⟩
    · have h1 := World.ownsRow.stored (show w.ownsRow B 5 1 (.slice (some ⟨g, 0, none⟩) l.length cap) l.length (bv l) from h) k (.int .u8 (x.toNat : Int))
      unfold Own
      rw [List.length_set, show bv (l.set k x) = (bv l).set k (.int .u8 (x.toNat : Int)) from by simp [bv, List.map_set]]
      exact h1.1

theorem Own.other {w : World} {B g : Nat} {v : Value} {l : List UInt8} {t : TypeId} {cs : Array Value} (h : Own w B v l) (hg : Blk w g t cs) (hne : 5 ≠ t) : v.ownBlock ≠ some g := by
  rcases h.2 with ⟨rfl, _⟩ | ⟨g', cap, cur, rfl, _, hh, _⟩
  · simp [Value.ownBlock]
  · intro he
    have e : g' = g := by simpa [Value.ownBlock] using he
    subst e
    exact Blk.other (t := 5) hh hg hne rfl

theorem Own.of_blk {w : World} {B g : Nat} {l : List UInt8} (h : Blk w g 5 (bv l).toArray) (hB : B ≤ g) (hl : l.length ≤ maxLen) : Own w B (.slice (some ⟨g, 0, none⟩) l.length l.length) l :=
  ⟨by simp [bv_length], .inr ⟨g, l.length, _, rfl, hB, h, Nat.le_refl _, hl, by simp [bv_length], by rw [Nat.mul_one]; exact List.take_of_length_le (by simp [bv_length])⟩⟩

theorem Own.none_ (w : World) (B : Nat) : Own w B (.slice none 0 0) [] := World.ownsRow_nil w B 5 1

/-- A slice of bytes as a string. -/
theorem run_str {P : Program} {w : World} (src dst e : TypeId) {A : Option Addr} {cap : Nat} {l : List UInt8} (hs : P.underlying src = some (.slice e)) (he : P.underlying e = some (.int .u8)) (hd : P.underlying dst = some .string) (h : Rd w A l) :
    (convert src dst (.slice A l.length cap)).run P w = .ok (.string ⟨l.toArray⟩) w := by
  by_cases hl : 0 < l.length
  · obtain ⟨b, o, rfl, hc⟩ := h hl
    refine run_convert_bytes_back w src dst e ⟨b, o, none⟩ cap l hs he hd fun j hj => ?_
    have := hc j hj
    simpa [Addr.add_lit] using this
  · obtain rfl : l = [] := List.eq_nil_of_length_eq_zero (by omega)
    rw [run_convert_bytes_string w src dst e A _ cap hs he hd]
    cases A with
    | none => simp [Conv.bytesToString]; rfl
    | some a => simp [Conv.bytesToString, loadCells, loadCellsFrom]; rfl


theorem Own.empty (w : World) (B : Nat) (hB : B ≤ w.heap.size) : Own (w.alloc (.cells #[] 5)) B (.slice (some ⟨w.heap.size, 0, none⟩) 0 0) [] := World.ownsRow_made w #[] 0 hB (by simp [maxLen]) rfl

/-- A slice of integers of kind k that is read. -/
def RdI (k : IntKind) (w : World) (A : Option Addr) (l : List Int) : Prop :=
  0 < l.length → ∃ b o, A = some ⟨b, o, none⟩ ∧ ∀ j (hj : j < l.length), w.cell? ⟨b, o + j, none⟩ = some (.int k l[j])

theorem RdI.later {k : IntKind} {S : List Nat} {w w' : World} {A : Option Addr} {l : List Int} (h : RdI k w A l) (hf : Fr S w w') (hS : ∀ k ∈ S, w.heap.size ≤ k) : RdI k w' A l := by
  intro hl
  obtain ⟨b, o, rfl, hc⟩ := h hl
  refine ⟨b, o, rfl, fun j hj => hf.cell (hc j hj) fun hm => ?_⟩
  have h1 := World.block_lt_of_cell? w _ (hc j hj)
  have h2 := hS _ hm
  exact absurd h1 (by simpa using h2)

end Go.Proofs.YtlnpadekgakghaaDoor
