/-
  Contracts of bytes.IndexByte (at the byte 0), and of ups' row, measured, newPatch, differ.
-/
import Derived.Test.YtpbjbmmnncohfaaUpsLay
import Derived.Test.YtpbjbmmnncohfaaCrcNext
import Derived.Lib.BytesEntry
import Derived.Laws.StructEq
namespace Go.Proofs.Ytpbjbmmnncohfaa
open Go.RowKit
namespace Ups
open Cp (over)

/-- What is told of a file. -/
def meas (l : List UInt8) : Nat × BitVec 32 := (l.length, sum l)
/-- .. as a value. -/
def mV (A : Nat × BitVec 32) : Value := .agg #[.int .u64 (A.1 : Int), .int .u32 (Crc.u A.2)]

/-- A patch at block p, its mask in the row g. -/
def Pt (w : World) (p g : Nat) (A B : Nat × BitVec 32) (m : List UInt8) : Prop :=
  Blk w p 50 #[.int .u64 (A.1 : Int), .int .u32 (Crc.u A.2), .int .u64 (B.1 : Int), .int .u32 (Crc.u B.2), .slice (some ⟨g, 0, none⟩) m.length m.length] ∧ Blk w g 5 (bv m).toArray
theorem Pt.fr {S : List Nat} {w w' : World} {p g : Nat} {A B : Nat × BitVec 32} {m : List UInt8} (h : Pt w p g A B m) (hf : Fr S w w') (hp : p ∉ S) (hg : g ∉ S) : Pt w' p g A B m := ⟨h.1.fr hf hp, h.2.fr hf hg⟩
theorem Pt.ne {w : World} {p g : Nat} {A B : Nat × BitVec 32} {m : List UInt8} (h : Pt w p g A B m) : g ≠ p := h.2.other h.1 (by decide)

theorem bytesOf_cast (l : List UInt8) : Lib.bytesOf (l.map fun x => (x.toNat : Int)) = l := by
  unfold Lib.bytesOf
  rw [List.map_map]
  conv => rhs; rw [← List.map_id l]
  apply List.map_congr_left
  intro x _
  simp

theorem lead_index : ∀ l : List UInt8, Lib.indexByte l 0 = if (lead l).length < l.length then ((lead l).length : Int) else -1
  | [] => rfl
  | x :: t => by
    rw [Lib.indexByte]
    by_cases h : x = 0
    · subst h
      rw [lead_zero]
      simp
    · have e : (x == 0) = false := by simpa using h
      rw [e, lead_index t, lead_cons x t h]
      simp only [List.length_cons, Bool.false_eq_true, if_false, Nat.add_lt_add_iff_right]
      split
      · rw [if_neg (by simp)]
        omega
      · simp

theorem made_zero (n : Nat) : madeCells #[Value.int .u8 0] n = (bv (List.replicate n 0)).toArray := by
  rw [← Array.toList_inj]
  apply List.ext_getElem
  · simp [madeCells, bv]
  · intro i h1 h2
    simp [madeCells, bv, Nat.mod_one]

theorem make64 (n : Nat) (hn : n ≤ 1000000000) (w : World) : (Instr.makeSlice 22 (.int .u64 (n : Int)) (.int .u64 (n : Int))).run Try.prog w = .ok (.slice (some ⟨w.heap.size, 0, none⟩) n n) (w.alloc (.cells (bv (List.replicate n 0)).toArray 5)) := by
  obtain ⟨i0, hi, hz0, hz1, hz2⟩ := info_parts info5
  have hrun := run_make (P := Try.prog) w 22 5 i0 (.int .u8 0) Try.underlying22 hi hz0 .u64 .u64 (n : Int) (n : Int) (by omega) (by omega) (by rw [hz2]; omega) (by omega)
  simp only [Int.toNat_natCast] at hrun
  rw [hrun, ← made_zero, hz1, Nat.mul_one]
  rfl

set_option maxHeartbeats 1000000 in
set_option maxRecDepth 100000 in
theorem index_any (w : World) (A : Option Addr) (n c : Nat) (l : List UInt8) (hn : l.length = n) (hr : Rd w A l) (z : Int) (hz : Lib.indexByte l 0 = z) :
    Calls Try.prog 47 #[.slice A n c, .int .u8 0] w fun e w' => e = .returned (.int .i64 z) ∧ w' = w := by
  have HI : Hid ((Extern.BytealgIndexByte.indexByte #[.slice A n c, .int .u8 0]).run Try.prog w = .ok (.int .i64 z) w) := by
    subst hz
    by_cases h0 : 0 < l.length
    · obtain ⟨b, o, rfl, hc⟩ := hr h0
      have := Lib.run_indexByteSlice (P := Try.prog) w b o n c (l.map fun x => (x.toNat : Int)) (by simpa using hn) (fun i hi => by rw [hc i (by omega)]; simp [List.getD, show i < l.length by omega]) 0
      rw [bytesOf_cast] at this
      exact this
    · obtain rfl : l = [] := List.eq_nil_of_length_eq_zero (by omega)
      subst hn
      cases A with
      | none => exact Lib.run_indexByteNil (P := Try.prog) w 0 c 0
      | some ad =>
        obtain ⟨b, o, f⟩ := ad
        rfl
  clear hz hr hn
  go_enter Try.func47, Try.ntmps47
  go_wp2
  rw [run_callFunc_extern Try.func54 (by kernel_rfl) (by kernel_rfl) (by kernel_rfl) (e := Extern.BytealgIndexByte.indexByte) (by kernel_rfl), HI.out]
  simp only [Result.andThen]
  rw [Oper.upon_value]
  go_wp2
  go_ret
  exact ⟨rfl, rfl⟩

set_option maxHeartbeats 1000000 in
theorem row_any (w : World) (p g : Nat) (A B : Nat × BitVec 32) (m : List UInt8) (k : Nat) (h : Pt w p g A B m) (hk : k < m.length) (hl : m.length ≤ 1000000000) :
    Calls Try.prog 37 #[.pointer (some ⟨p, 0, none⟩), .int .i64 (k : Int)] w fun e w' => e = .returned (.int .i64 ((lead (m.drop k)).length : Int)) ∧ w' = w := by
  have h4 := h.1.cell 4
  simp at h4
  have hr : Rd w (some ⟨g, k, none⟩) (m.drop k) := by
    have := Rd.cut (h.2.rd (l := m) (by rw [List.take_of_length_le (by simp [bv_length])])) k (m.drop k).length
    rw [List.take_of_length_le (Nat.le_refl _), Nat.zero_add] at this
    exact this
  have HR := Lib.hid hr
  clear h hr
  have HI := Lib.hid (lead_index (m.drop k))
  have HL := Lib.hid (lead_le (m.drop k))
  have HD : Hid ((m.drop k).length = m.length - k) := Lib.hid (by simp)
  rw [List.length_drop] at HI HL
  obtain ⟨q, hq⟩ : ∃ q, (lead (m.drop k)).length = q := ⟨_, rfl⟩
  rw [hq] at HI HL ⊢
  clear hq
  obtain ⟨n, hn⟩ : ∃ n, m.length - k = n := ⟨_, rfl⟩
  rw [hn] at HI HL HD
  obtain ⟨N, hN⟩ : ∃ N, m.length = N := ⟨_, rfl⟩
  rw [hN] at hk hl h4
  have hnk : (N : Int) - k = n := by omega
  have hnk' : N - k = n := by omega
  clear hN hn
  by_cases hqn : q < n
  · have hi : Lib.indexByte (m.drop k) 0 = (q : Int) := by rw [HI.out, if_pos hqn]
    have HZ := Lib.hid hi
    clear hi
    go_enter Try.func37, Try.ntmps37
    go_wp2_with fail
    refine (index_any w _ n n (m.drop k) HD.out HR.out _ HZ.out).mono ?_
    rintro e w1 ⟨rfl, rfl⟩
    go_wp2
    go_ret
    exact ⟨rfl, rfl⟩
  · have hi : Lib.indexByte (m.drop k) 0 = -1 := by rw [HI.out, if_neg hqn]
    have e : q = n := by have := HL.out; omega
    subst e
    have HZ := Lib.hid hi
    clear hi
    go_enter Try.func37, Try.ntmps37
    go_wp2_with fail
    refine (index_any w _ q q (m.drop k) HD.out HR.out _ HZ.out).mono ?_
    rintro e w1 ⟨rfl, rfl⟩
    go_wp2
    go_ret
    exact ⟨rfl, rfl⟩

set_option maxHeartbeats 1000000 in
theorem measured_any (w : World) (A : Option Addr) (n c : Nat) (l : List UInt8) (hn : l.length = n) (hr : Rd w A l) (hm : n ≤ 1000000000) :
    Calls Try.prog 14 #[.slice A n c] w fun e w' => e = .returned (mV (meas l)) ∧ Fr [] w w' := by
  have HR := Lib.hid hr
  have HN := Lib.hid hn
  clear hr hn
  go_enter Try.func14, Try.ntmps14
  go_wp2_with fail
  refine (Crc.sum_any _ A n c l HN.out (HR.out.later (S := []) ((Fr.refl [] w).alloc _) (by simp)) hm).mono ?_
  rintro e w1 ⟨rfl, hf⟩
  have hb := (Blk.fresh w 39 #[Value.int IntKind.u64 0, Value.int IntKind.u32 0]).fr hf (by simp)
  have h0 := hb.cell 0
  have h1 := hb.cell 1
  have f0 := hb.frozen 0
  have f1 := hb.frozen 1
  simp at h0 h1
  have hlt := hb.lt
  have HB := Lib.hid hb
  have HF : Hid (Fr [] w w1) := Lib.hid (((Fr.refl [] w).alloc _).tr hf)
  clear hf hb
  go_wp2
  have hb2 := (HB.out.put 0 (Value.int IntKind.u64 (n : Int))).put 1 (Value.int IntKind.u32 (Crc.u (Crc.next (0#32) l)))
  have c0 := hb2.cell 0
  have c1 := hb2.cell 1
  simp at c0 c1
  have hf2 : Fr [] w (((w1.setCell { block := w.heap.size, off := 0 } (Value.int IntKind.u64 ↑n)).setCell { block := w.heap.size, off := 1 } (Value.int IntKind.u32 (Crc.u (Crc.next (0#32) l))))) := (HF.out.setCell (by simp) _).setCell (by simp) _
  refine bodyPost_ret (v := .agg #[.int .u64 (n : Int), .int .u32 (Crc.u (Crc.next (0#32) l))]) (by simp [results, Try.results14, go_sem, c0, c1]) rfl ⟨?_, hf2⟩
  rw [← HN.out]
  rfl

set_option maxHeartbeats 1000000 in
theorem newPatch_any (w : World) (A B : Nat × BitVec 32) (hA : A.1 ≤ 16777216) (hB : B.1 ≤ 16777216) :
    Calls Try.prog 13 #[mV A, mV B] w fun e w' => ∃ p g, e = .returned (.pointer (some ⟨p, 0, none⟩)) ∧ w.heap.size ≤ p ∧ w.heap.size ≤ g ∧ Pt w' p g A B (List.replicate (max A.1 B.1) 0) ∧ Fr [] w w' := by
  obtain ⟨n, hn⟩ : ∃ n, max A.1 B.1 = n := ⟨_, rfl⟩
  rw [hn]
  have hn' : max (A.1 : Int) (B.1 : Int) = (n : Int) := by omega
  have hmk := make64 n (by omega)
  unfold mV
  clear hn
  go_enter Try.func13, Try.ntmps13
  go_wp2
  go_region
  go_wp2
  go_ret
  refine ⟨w.heap.size + 1 + 1 + 1, w.heap.size + 1 + 1, rfl, by omega, by omega, ⟨?_, ?_⟩, ((((Fr.refl [] w).alloc _).alloc _).alloc _).alloc _ |>.drew⟩
  · rw [List.length_replicate]
    refine (Blk.fr (S := []) ?_ ((Fr.refl [] _).drew) (by simp))
    have := Blk.fresh (((w.alloc (Obj.cells #[Value.int IntKind.u64 ↑A.fst, Value.int IntKind.u32 (Crc.u A.snd)] 39)).alloc (Obj.cells #[Value.int IntKind.u64 ↑B.fst, Value.int IntKind.u32 (Crc.u B.snd)] 39)).alloc (Obj.cells (bv (List.replicate n 0)).toArray 5)) 50 #[Value.int IntKind.u64 ↑A.fst, Value.int IntKind.u32 (Crc.u A.snd), Value.int IntKind.u64 ↑B.fst, Value.int IntKind.u32 (Crc.u B.snd), Value.slice (some { block := w.heap.size + 1 + 1, off := 0 }) n n]
    simpa using this
  · have h1 := Blk.fresh ((w.alloc (Obj.cells #[Value.int IntKind.u64 ↑A.fst, Value.int IntKind.u32 (Crc.u A.snd)] 39)).alloc (Obj.cells #[Value.int IntKind.u64 ↑B.fst, Value.int IntKind.u32 (Crc.u B.snd)] 39)) 5 (bv (List.replicate n 0)).toArray
    have h2 := h1.fr (((Fr.refl [] _).alloc (Obj.cells #[Value.int IntKind.u64 ↑A.fst, Value.int IntKind.u32 (Crc.u A.snd), Value.int IntKind.u64 ↑B.fst, Value.int IntKind.u32 (Crc.u B.snd), Value.slice (some { block := w.heap.size + 1 + 1, off := 0 }) n n] 50)).drew) (by simp)
    simpa using h2

/-- A byte of a row is turned. -/
theorem blk_put {w : World} {g : Nat} {l : List UInt8} (h : Blk w g 5 (bv l).toArray) (k : Nat) (x : UInt8) : Blk (w.setCell ⟨g, k, none⟩ (.int .u8 (x.toNat : Int))) g 5 (bv (l.set k x)).toArray := by
  have h1 := h.put k (.int .u8 (x.toNat : Int))
  rw [List.setIfInBounds_toArray] at h1
  rw [show bv (l.set k x) = (bv l).set k (.int .u8 (x.toNat : Int)) from by simp [bv, List.map_set]]
  exact h1
theorem blk_get {w : World} {g : Nat} {l : List UInt8} (h : Blk w g 5 (bv l).toArray) (k : Nat) (x : UInt8) (hx : l[k]? = some x) : w.cell? ⟨g, k, none⟩ = some (.int .u8 (x.toNat : Int)) := by
  obtain ⟨hk, e⟩ := List.getElem?_eq_some_iff.1 hx
  rw [h.cell k, List.getElem?_toArray, bv_get l k hk, e]
theorem xor_byte (x y : UInt8) : bits .xor .u8 (x.toNat : Int) (y.toNat : Int) = ((x ^^^ y).toNat : Int) := by
  rw [u8_xor_nat _ _ x.toNat_lt y.toNat_lt, UInt8.toNat_xor]

set_option maxHeartbeats 2000000 in
theorem differ_any (w : World) (p g : Nat) (A B : Nat × BitVec 32) (R S : Option Addr) (n c n' c' N : Nat) (a b : List UInt8) (hN : max a.length b.length = N) (hn : a.length = n) (hn' : b.length = n') (h : Pt w p g A B (List.replicate N 0)) (ha : Rd w R a) (hS : ∀ W, Fr [g] w W → Rd W S b) (hl : N ≤ 1000000000) :
    Calls Try.prog 15 #[.pointer (some ⟨p, 0, none⟩), .slice R n c, .slice S n' c'] w fun e w' => e = .returned (.tuple #[]) ∧ Pt w' p g A B (dif a b) ∧ Fr [g] w w' := by
  have h4 := h.1.cell 4
  rw [List.length_replicate] at h4
  simp at h4
  have hne := h.ne
  have HP := Lib.hid h
  have HA := Lib.hid ha
  have HS := Lib.hid hS
  have HN := Lib.hid hN
  have Hn := Lib.hid hn
  have Hn' := Lib.hid hn'
  have hle : n ≤ N := by omega
  have hle' : n' ≤ N := by omega
  have H1 : Hid (a.length = Nat.min n N) := Lib.hid (by rw [hn]; exact (Nat.min_eq_left hle).symm)
  have H2 : Hid (0 + a.length ≤ (List.replicate N (0 : UInt8)).length) := Lib.hid (by rw [List.length_replicate]; omega)
  clear h ha hS hN hn hn'
  go_enter Try.func15, Try.ntmps15
  go_wp2_with (refine Cp.wpList_copyB _ rfl (.tmp 11) (.tmp 12) 22 rfl Try.underlying22 Cp.size5 (some ⟨g, 0, none⟩) R N N n c rfl rfl g 0 (List.replicate N 0) HP.out.2 a H1.out (fun _ => rfl) HA.out H2.out n Hn.out ?_)
  intro w1 hb1 hf1
  have HF1 := Lib.hid hf1
  have HQ : Hid (Pt w1 p g A B (over (List.replicate N 0) 0 a)) := Lib.hid ⟨by rw [over_zeros_length a N (by rw [Hn.out]; exact hle)]; have h1 := HP.out.1.fr hf1 (by simp; exact fun e => hne e.symm); rw [List.length_replicate] at h1; exact h1, hb1⟩
  have HLen : Hid ((over (List.replicate N (0 : UInt8)) 0 a).length = N) := Lib.hid (over_zeros_length a N (by rw [Hn.out]; exact hle))
  have HE : Hid (xored (over (List.replicate N 0) 0 a) b n' = dif a b) := Lib.hid (by rw [← Hn'.out, ← HN.out]; exact xored_dif a b)
  clear hb1 hf1 HA HP
  generalize over (List.replicate N (0 : UInt8)) 0 a = cur at *
  go_wp2
  go_loopw [16] (fun i wr => ∃ k : Nat, k ≤ n' ∧ i = .int .i64 (k : Int) ∧ Pt wr p g A B (xored cur b k) ∧ Fr [g] w1 wr) (fun i _ => n' - (intOf i).toNat)
  case atStart => exact ⟨0, Nat.zero_le _, rfl, by rw [xored_zero]; exact HQ.out, Fr.refl _ _⟩
  case round =>
    obtain ⟨k, hk, rfl, hp, hf⟩ := hrel
    have HPk := Lib.hid hp
    have HFk := Lib.hid hf
    by_cases hlt : k < n'
    · obtain ⟨bb, o, x, rfl, hx, hc⟩ := (HS.out wr (HF1.out.tr hf)).at k (by rw [Hn'.out]; exact hlt)
      have h4' := hp.1.cell 4
      rw [xored_length, HLen.out] at h4'
      simp at h4'
      have hm := blk_get hp.2 k _ (xored_at cur b k (by rw [HLen.out]; omega))
      have hz := hp.2.frozen k
      have HS1 := Lib.hid (xored_succ cur b k (by rw [HLen.out]; omega))
      rw [at0_get b k x hx] at HS1
      generalize at0 cur k = y at *
      have HXor := Lib.hid (xor_byte y x)
      clear hp hf hx
      go_wp2
      go_roundw
      case rel =>
        refine ⟨k + 1, by omega, by go_num, ?_, ?_⟩
        · rw [HXor.out, HS1.out]
          have hs : Fr [g] wr (wr.setCell ⟨g, k, none⟩ (.int .u8 ((y ^^^ x).toNat : Int))) := (Fr.refl [g] wr).setCell (by simp) _
          refine ⟨?_, blk_put HPk.out.2 k (y ^^^ x)⟩
          rw [List.length_set]
          exact HPk.out.1.fr hs (by simp; exact fun e => hne e.symm)
        · exact HFk.out.setCell (by simp) _
      case measure => simp [intOf]; omega
    · obtain rfl : k = n' := by omega
      clear hp hf
      go_wp2
      go_end0
      refine ⟨rfl, ?_, HF1.out.tr HFk.out⟩
      rw [← HE.out]
      exact HPk.out

end Ups
end Go.Proofs.Ytpbjbmmnncohfaa
