/-
  Contracts of octet's copied, NewReader, At, Left, take. Conditions: lengths up to 1000000000.
-/
import Derived.Test.YthabiaenaicppaaApp
import Derived.BigQuiet
import Derived.Deep.QuietTactic
namespace Go.Proofs.Ythabiaenaicppaa
open Go.RowKit

theorem size5 : (Try.prog.info? 5).map (·.size) = some 1 := by kernel_rfl

theorem own_full {w : World} {B g n : Nat} {xs : List Value} (h : w.ownsRow B 5 1 (.slice (some ⟨g, 0, none⟩) n n) n xs) : ∃ xs, w.heap[g]? = some (.cells (List.toArray xs) 5 (0, 0)) ∧ xs.length = n := by
  obtain ⟨h1, h2⟩ := h
  rcases h2 with ⟨h2, _⟩ | ⟨g', cap, cur, hv, _, hh, _, _, hs, ht⟩
  · cases h2
  · cases hv
    have e : cur.toList = xs := by rw [← ht, List.take_of_length_le (by simp; omega)]
    subst e
    exact ⟨_, by simpa using hh, by simpa using h1⟩

theorem splice_all {α : Type} (L cs : List α) (h : L.length = cs.length) : splice L 0 cs = cs := by
  simp [splice]; omega

set_option maxHeartbeats 400000 in
theorem copied_len (A : Option Addr) (cap : Nat) (l : List UInt8) (w : World) (hr : Rd w A l) (hl : l.length ≤ 1000000000) :
    Calls Try.prog 48 #[.slice A l.length cap] w fun e w' => e = .returned (.slice (some ⟨w.heap.size, 0, none⟩) l.length l.length) ∧ Blk w' w.heap.size 5 (bv l).toArray ∧ Fr [] w w' := by
  obtain ⟨i0, hi, hz0, hz1, hz2⟩ := info_parts info5
  have HR := Lib.hid hr
  clear hr
  go_enter Try.func48, Try.ntmps48
  go_wp2_with (at_make; refine wpList_make_full _ rfl _ _ 27 rfl w.heap.size 5 i0 (.int .u8 0) 1 Try.underlying27 hi hz0 hz1 _ _ _ _ l.length rfl rfl rfl rfl ?b1 ?b2 ?b3 ?_)
  case b1 => rw [hz2]; omega
  case b2 => unfold maxLen; omega
  case b3 => omega
  intro w1 hown hgrow
  obtain ⟨xs, hh, hlen⟩ := own_full hown
  have HH := Lib.hid hh
  have HG := Lib.hid hgrow
  clear hown hh hgrow
  have HL := Lib.hid hlen
  clear hlen
  go_wp2_with (with_reducible refine wpList_copy_splice rfl (.tmp 7) (.tmp 8) 27 27 rfl 5 Try.underlying27 size5 _ _ _ _ _ _ rfl rfl w.heap.size 0 xs 5 HH.out (bv l) ?c1 ?c2 ?c3 (bv_one l) w.heap.size w1 (Below.refl _ _) (Nat.le_refl _) ?_)
  case c1 => simp [bv_length]
  case c2 =>
    intro h0
    exact (HR.out.fr (Fr.grown (Fr.refl [] w) HG.out (by simp)) (by simp)).cells h0
  case c3 => rw [bv_length, HL.out]; omega
  intro w2 H2 hb2
  go_wp2
  go_ret
  refine ⟨rfl, ?_, ?_⟩
  · have h2 := H2.out
    rw [splice_all xs (bv l) (by rw [bv_length, HL.out])] at h2
    exact h2
  · exact (Fr.grown (Fr.refl [] w) HG.out (by simp)).then_below hb2 (Nat.le_refl _)

theorem copied_any (A : Option Addr) (n cap : Nat) (l : List UInt8) (w : World) (hn : l.length = n) (hr : Rd w A l) (hl : n ≤ 1000000000) :
    Calls Try.prog 48 #[.slice A n cap] w fun e w' => e = .returned (.slice (some ⟨w.heap.size, 0, none⟩) n n) ∧ Blk w' w.heap.size 5 (bv l).toArray ∧ Fr [] w w' := by
  subst hn
  exact copied_len A cap l w hr hl

/-- A reader at block p, its bytes l in block g, its place k. -/
def Rdr (w : World) (p g : Nat) (l : List UInt8) (k : Nat) : Prop :=
  Blk w p 80 #[.slice (some ⟨g, 0, none⟩) l.length l.length, .int .i64 (k : Int)] ∧ Blk w g 5 (bv l).toArray

theorem Rdr.fr {S : List Nat} {w w' : World} {p g k : Nat} {l : List UInt8} (h : Rdr w p g l k) (hf : Fr S w w') (hp : p ∉ S) (hg : g ∉ S) : Rdr w' p g l k := ⟨h.1.fr hf hp, h.2.fr hf hg⟩
theorem Rdr.ne {w : World} {p g k : Nat} {l : List UInt8} (h : Rdr w p g l k) : g ≠ p := h.2.other h.1 (by decide)

set_option maxHeartbeats 400000 in
theorem newReader_len (A : Option Addr) (cap : Nat) (l : List UInt8) (w : World) (hr : Rd w A l) (hl : l.length ≤ 1000000000) :
    Calls Try.prog 36 #[.slice A l.length cap] w fun e w' => ∃ p, e = .returned (.pointer (some ⟨p, 0, none⟩)) ∧ Rdr w' p w.heap.size l 0 ∧ w.heap.size < p ∧ Fr [] w w' := by
  have HR := Lib.hid hr
  clear hr
  go_enter Try.func36, Try.ntmps36
  go_wp2_with (go_at_call 48; refine (copied_any A _ cap l _ rfl HR.out hl).mono ?_; rintro e w1 ⟨rfl, hb, hf⟩; have HB := Lib.hid hb; have HF := Lib.hid hf; clear hb hf)
  go_ret
  refine ⟨w1.heap.size, rfl, ⟨Blk.fresh _ _ _, HB.out.fr (Fr.alloc (Fr.refl [] _) _) (by simp)⟩, HB.out.lt, HF.out.alloc _⟩

theorem newReader_any (A : Option Addr) (n cap : Nat) (l : List UInt8) (w : World) (hn : l.length = n) (hr : Rd w A l) (hl : n ≤ 1000000000) :
    Calls Try.prog 36 #[.slice A n cap] w fun e w' => ∃ p, e = .returned (.pointer (some ⟨p, 0, none⟩)) ∧ Rdr w' p w.heap.size l 0 ∧ w.heap.size < p ∧ Fr [] w w' := by
  subst hn
  exact newReader_len A cap l w hr hl


set_option maxHeartbeats 400000 in
theorem left_any (w : World) (p g k : Nat) (l : List UInt8) (h : Rdr w p g l k) (hk : k ≤ l.length) (hl : l.length ≤ 1000000000) :
    Calls Try.prog 55 #[.pointer (some ⟨p, 0, none⟩)] w fun e w' => e = .returned (.int .i64 ((l.length : Int) - k)) ∧ ∃ n, w' = w.drewN n := by
  have h0 := h.1.cell 0
  have h1 := h.1.cell 1
  simp at h0 h1
  clear h
  go_enter Try.func55, Try.ntmps55
  go_wp2
  go_quiet (fail)
  go_wp2
  go_ret
  exact ⟨rfl, _, rfl⟩

end Go.Proofs.Ythabiaenaicppaa
