/-
  Contracts of octet's writer: Byte, Bytes, Len, Done. Conditions: lengths up to 1000000000.
-/
import Derived.Test.YthabiaenaicppaaOctRead2
import Derived.Maps.AppendAt
namespace Go.Proofs.Ythabiaenaicppaa
open Go.RowKit

/-- A writer at block p, its bytes l in the row of the slice v (from block B on). -/
def Wr (w : World) (B p : Nat) (v : Value) (l : List UInt8) : Prop := Blk w p 61 #[v] ∧ Own w B v l

theorem Wr.ne {w : World} {B p : Nat} {v : Value} {l : List UInt8} (h : Wr w B p v l) : v.ownBlock ≠ some p := h.2.other h.1 (by decide)
theorem Wr.fr {S : List Nat} {w w' : World} {B p : Nat} {v : Value} {l : List UInt8} (h : Wr w B p v l) (hf : Fr S w w') (hp : p ∉ S) (hv : ∀ k, v.ownBlock = some k → k ∉ S) : Wr w' B p v l :=
  ⟨h.1.fr hf hp, h.2.fr hf hv⟩

/-- The blocks that a writer may turn. -/
def foot (p : Nat) (v : Value) : List Nat := p :: v.ownBlock.toList

/-- What a call that writes leaves. -/
def Wrote (w : World) (B p : Nat) (v : Value) (l : List UInt8) (e : Ending) (w' : World) : Prop :=
  e = .returned (.pointer (some ⟨p, 0, none⟩)) ∧ ∃ v', Wr w' B p v' l ∧ Fr (foot p v) w w' ∧ Lies w v v'

theorem wrote_of {w w1 w2 : World} {B p : Nat} {v v' : Value} {l l' : List UInt8} (h : Wr w B p v l) (h1 : Fr v.ownBlock.toList w w1) (hown : Own w1 B v' l') (hat : Lies w v v')
    (h2 : w2 = w1.setCell ⟨p, 0, none⟩ v') : ∃ v', Wr w2 B p v' l' ∧ Fr (foot p v) w w2 ∧ Lies w v v' := by
  subst h2
  have hp : p ∉ v.ownBlock.toList := by have := h.ne; simpa using this
  have hb := h.1.fr h1 hp
  have hlt := h.1.lt
  refine ⟨v', ⟨?_, hown.fr ((Fr.refl [p] w1).setCell (by simp) _) ?_⟩, ?_, hat⟩
  · have := hb.put 0 v'
    simpa using this
  · intro k hk e
    simp at e
    subst e
    exact hat.other h.ne hlt hk
  · exact (h1.sub (T := foot p v) (fun k hk => .inl (by simp [foot]; right; simpa using hk))).setCell (by simp [foot]) _

set_option maxHeartbeats 1000000 in
theorem wbyte (w : World) (B p : Nat) (v : Value) (l : List UInt8) (x : UInt8) (h : Wr w B p v l) (hB : B ≤ w.heap.size) (hl : l.length ≤ 1000000000) :
    Calls Try.prog 22 #[.pointer (some ⟨p, 0, none⟩), .int .u8 (x.toNat : Int)] w (Wrote w B p v (l ++ [x])) := by
  obtain ⟨i0, hi, hz0, hz1, hz2⟩ := info_parts info5
  have HW := Lib.hid h
  have h0 := h.1.cell 0
  simp at h0
  have hown := h.2
  have HO := Lib.hid hown
  obtain ⟨A, cap, rfl, -⟩ := hown.slice
  clear h hown
  go_enter Try.func22, Try.ntmps22
  go_wp2_with (at_builtin; refine wpList_app _ rfl (.tmp 9) (.tmp 11) 27 rfl B i0 Try.underlying27 hi hz0 hz1 hz2 _ l rfl (HO.out.fr ((Fr.refl [] w).alloc _) (by simp)) _ 1 1 [x] rfl rfl (rd_one w x) (by simp) (by omega) (by simp; omega) ?_)
  intro A' cap' w1 hown' hf hat
  have HO' := Lib.hid hown'
  have hf' := ((Fr.refl (Value.slice A l.length cap).ownBlock.toList w).alloc (.cells #[.int .u8 (x.toNat : Int)] 5)).tr hf
  have HF := Lib.hid hf'
  have HA : Hid (Lies w (.slice A l.length cap) (.slice A' (l.length + 1) cap')) := by
    rcases hat with h | ⟨k, hk, hle⟩
    · exact .inl h
    · exact .inr ⟨k, hk, by simp at hle; omega⟩
  clear hown' hf hf' hat
  have hbk := HW.out.1.fr HF.out (by have := HW.out.ne; simpa using this)
  have h1 := hbk.cell 0
  simp at h1
  have h2 := hbk.frozen 0
  clear hbk
  go_wp2
  go_ret
  exact ⟨rfl, wrote_of HW.out HF.out HO'.out HA.out rfl⟩

set_option maxHeartbeats 1000000 in
theorem wbytes (w : World) (B p : Nat) (v : Value) (l : List UInt8) (A : Option Addr) (n c : Nat) (m : List UInt8) (h : Wr w B p v l) (hB : B ≤ w.heap.size) (hl : l.length + n ≤ 1000000000) (hm : m.length = n) (hr : Rd w A m) (hc : A = none → c = 0) :
    Calls Try.prog 21 #[.pointer (some ⟨p, 0, none⟩), .slice A n c] w (Wrote w B p v (l ++ m)) := by
  obtain ⟨i0, hi, hz0, hz1, hz2⟩ := info_parts info5
  have HW := Lib.hid h
  have h0 := h.1.cell 0
  simp at h0
  have hown := h.2
  have HO := Lib.hid hown
  obtain ⟨A0, cap, rfl, -⟩ := hown.slice
  have HM := Lib.hid hm
  have HR := Lib.hid hr
  have HC := Lib.hid hc
  clear h hown hm hr hc
  go_enter Try.func21, Try.ntmps21
  go_wp2_with (at_builtin; refine wpList_app _ rfl (.tmp 9) (.tmp 10) 27 rfl B i0 Try.underlying27 hi hz0 hz1 hz2 _ l rfl HO.out A n c m rfl HM.out HR.out HC.out (by omega) hB ?_)
  intro A' cap' w1 hown' hf hat
  have HO' := Lib.hid hown'
  have HF := Lib.hid hf
  have HA := Lib.hid hat
  clear hown' hf hat
  have hbk := HW.out.1.fr HF.out (by have := HW.out.ne; simpa using this)
  have h1 := hbk.cell 0
  simp at h1
  have h2 := hbk.frozen 0
  clear hbk
  go_wp2
  go_ret
  exact ⟨rfl, wrote_of HW.out HF.out HO'.out HA.out rfl⟩


set_option maxHeartbeats 400000 in
theorem wdone (w : World) (B p : Nat) (v : Value) (l : List UInt8) (h : Wr w B p v l) (hl : l.length ≤ 1000000000) :
    Calls Try.prog 24 #[.pointer (some ⟨p, 0, none⟩)] w fun e w' => e = .returned (.slice (some ⟨w.heap.size, 0, none⟩) l.length l.length) ∧ Blk w' w.heap.size 5 (bv l).toArray ∧ Fr [] w w' := by
  have h0 := h.1.cell 0
  simp at h0
  obtain ⟨A0, cap, rfl, hr, -⟩ := h.2.slice
  have HR := Lib.hid hr
  clear h hr
  go_enter Try.func24, Try.ntmps24
  go_wp2_with (go_at_call 48; refine (copied_any A0 _ cap l _ rfl HR.out hl).mono ?_; rintro e w1 ⟨rfl, hb, hf⟩; have HB := Lib.hid hb; have HF := Lib.hid hf; clear hb hf)
  go_ret
  exact ⟨rfl, HB.out, HF.out⟩

end Go.Proofs.Ythabiaenaicppaa
