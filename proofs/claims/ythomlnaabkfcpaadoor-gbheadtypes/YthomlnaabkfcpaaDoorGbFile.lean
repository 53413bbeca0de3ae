/-
  Contract of the document's File (picklockref10): a file of so many bytes, with a head's three bytes, and the right sum, if it has a head.
-/
import Derived.Test.YthomlnaabkfcpaaDoorGbClone
import Derived.Test.YthomlnaabkfcpaaDoorMakeI
import Derived.Deep.DeepCutAuto
namespace Go.Proofs.YthomlnaabkfcpaaDoor
open Go.RowKit
namespace Gb

theorem xor_u8 (a b : Int) : ∃ y : UInt8, bits .xor .u8 a b = (y.toNat : Int) := by
  have e : bits .xor .u8 a b = IntKind.u8.wrap ((BitVec.ofInt 8 a ^^^ BitVec.ofInt 8 b).toNat : Int) := rfl
  rw [e, IntKind.wrap_u8']
  refine ⟨UInt8.ofNat (((BitVec.ofInt 8 a ^^^ BitVec.ofInt 8 b).toNat : Int) % 256).toNat, ?_⟩
  simp
  omega
theorem blk_put {w : World} {g : Nat} {l : List UInt8} (h : Blk w g 5 (bv l).toArray) (k : Nat) (x : UInt8) : Blk (w.setCell ⟨g, k, none⟩ (.int .u8 (x.toNat : Int))) g 5 (bv (l.set k x)).toArray := by
  have h1 := h.put k (.int .u8 (x.toNat : Int))
  rw [List.setIfInBounds_toArray] at h1
  rw [show bv (l.set k x) = (bv l).set k (.int .u8 (x.toNat : Int)) from by simp [bv, List.map_set]]
  exact h1
theorem blk_at {w : World} {g : Nat} {l : List UInt8} (h : Blk w g 5 (bv l).toArray) (k : Nat) (hk : k < l.length) : w.cell? ⟨g, k, none⟩ = some (.int .u8 (bt l k : Int)) := by
  rw [h.cell k, List.getElem?_toArray, bv_get l k hk, bt_get l k hk]

/-- A file that is made. -/
def Filed (w : World) (n : Nat) (a b c : UInt8) (e : Ending) (w' : World) : Prop :=
  ∃ g l, w.heap.size ≤ g ∧ e = .returned (.slice (some ⟨g, 0, none⟩) n n) ∧ Blk w' g 5 (bv l).toArray ∧ l.length = n ∧ (333 < n → bt l 327 = a.toNat ∧ bt l 328 = b.toNat ∧ bt l 329 = c.toNat ∧ bt l 333 = gsum l) ∧ Fr [] w w'

theorem headed (L : List UInt8) (a b c : UInt8) (h : 333 < L.length) :
    (fun l => bt l 327 = a.toNat ∧ bt l 328 = b.toNat ∧ bt l 329 = c.toNat ∧ bt l 333 = gsum l) (signed (((L.set 327 a).set 328 b).set 329 c)) := by
  have h3 : 333 < (((L.set 327 a).set 328 b).set 329 c).length := by simpa using h
  refine ⟨?_, ?_, ?_, by rw [at_signed _ h3, sum_signed _ h3]⟩
  · unfold signed
    rw [bt_set _ _ _ _ h3, if_neg (by decide), bt_set _ _ _ _ (by simp; omega), if_neg (by decide), bt_set _ _ _ _ (by simp; omega), if_neg (by decide), bt_set _ _ _ _ (by omega), if_pos rfl]
  · unfold signed
    rw [bt_set _ _ _ _ h3, if_neg (by decide), bt_set _ _ _ _ (by simp; omega), if_neg (by decide), bt_set _ _ _ _ (by simp; omega), if_pos rfl]
  · unfold signed
    rw [bt_set _ _ _ _ h3, if_neg (by decide), bt_set _ _ _ _ (by simp; omega), if_pos rfl]

set_option maxRecDepth 100000 in
set_option maxHeartbeats 2000000 in
theorem file_any (w : World) (n : Nat) (x a b c : UInt8) (hn : n ≤ 1000000000) :
    Calls Tryd.prog 9 #[.int .i64 (n : Int), .int .u8 (x.toNat : Int), .agg #[.int .u8 (a.toNat : Int), .int .u8 (b.toNat : Int), .int .u8 (c.toNat : Int)]] w (Filed w n a b c) := by
  have hmk := Mi.make_i64 n hn
  obtain ⟨z, hz⟩ : ∃ z, w.heap.size = z := ⟨_, rfl⟩
  have hb0 := Blk.fresh w 22 #[.int .u8 (a.toNat : Int), .int .u8 (b.toNat : Int), .int .u8 (c.toNat : Int)]
  rw [hz] at hb0
  have HZ0 := Lib.hid hb0
  have HF0 := Lib.hid ((Fr.refl [] w).alloc (.cells #[.int .u8 (a.toNat : Int), .int .u8 (b.toNat : Int), .int .u8 (c.toNat : Int)] 22))
  clear hb0
  go_enter Tryd.func9, Tryd.ntmps9
  go_upto_region 1 with fail
  generalize w.alloc _ = w0 at *
  obtain ⟨g, hg⟩ : ∃ g, w0.heap.size = g := ⟨_, rfl⟩
  have hb1 := Blk.fresh w0 5 (bv (List.replicate n 0)).toArray
  have hal : Fr [] w0 (w0.alloc (.cells (bv (List.replicate n 0)).toArray 5)) := (Fr.refl [] w0).alloc _
  have hzg : z < g := by rw [← hg]; exact HZ0.out.lt
  rw [hg] at hb1
  have HB1 := Lib.hid hb1
  have HZ1 := Lib.hid (HZ0.out.fr hal (by simp))
  have HF1 := Lib.hid (HF0.out.tr hal)
  have hwg : w.heap.size ≤ g := by rw [← hg]; exact HF0.out.size
  clear hb1 hal HZ0 HF0
  go_upto_region 2 with fail
  generalize w0.alloc _ = w1 at *
  clear hg hmk
  go_wp2
  go_loopw [8] (fun s8 wr => ∃ (i : Nat) (L : List UInt8), s8 = .int .i64 (i : Int) ∧ i ≤ n ∧ L.length = n ∧ Blk wr g 5 (bv L).toArray ∧ Blk wr z 22 #[.int .u8 (a.toNat : Int), .int .u8 (b.toNat : Int), .int .u8 (c.toNat : Int)] ∧ Fr [] w wr) (fun s8 _ => n - (intOf s8).toNat)
  case atStart => exact ⟨0, List.replicate n 0, rfl, Nat.zero_le _, List.length_replicate, HB1.out, HZ1.out, HF1.out⟩
  case round =>
    obtain ⟨i, L, rfl, hi, hL, hb, hzb, hf⟩ := hrel
    have HL := Lib.hid hL
    have HB := Lib.hid hb
    have HZ := Lib.hid hzb
    have HF := Lib.hid hf
    by_cases hlt : i < n
    · have h1 : (i : Int) < n := by omega
      have h0 : (0 : Int) ≤ i := by omega
      have c1 := blk_at hb i (by omega)
      have f1 := hb.frozen i
      clear hb hf hL hzb
      go_wp2
      go_roundw
      case rel =>
        generalize hE : bits .xor .u8 _ (x.toNat : Int) = E
        obtain ⟨v, hv⟩ : ∃ v : UInt8, E = (v.toNat : Int) := by rw [← hE]; exact xor_u8 _ _
        subst hv
        exact ⟨i + 1, L.set i v, by go_num, by omega, by rw [List.length_set]; exact HL.out, blk_put HB.out i v, (HZ.out.fr ((Fr.refl [g] wr).setCell (by simp) _) (by simp; omega)), HF.out.setCell (.inr hwg) _⟩
      case measure => simp [intOf]; omega
    · obtain rfl : i = n := by omega
      by_cases hs : i < 334
      · have h2 : (i : Int) < 334 := by omega
        clear hb hf hL hzb
        go_wp2
        go_ret
        exact ⟨g, L, hwg, rfl, HB.out, HL.out, fun h => by omega, HF.out⟩
      · have h2 : ¬ (i : Int) < 334 := by omega
        have h3 : (333 : Int) < i := by omega
        have h4 : (327 : Int) < i := by omega
        have h5 : (328 : Int) < i := by omega
        have h6 : (329 : Int) < i := by omega
        have p0 := hzb.cell 0
        have p1 := hzb.cell 1
        have p2 := hzb.cell 2
        have c7 := blk_at hb 327 (by omega)
        have c8 := blk_at hb 328 (by omega)
        have c9 := blk_at hb 329 (by omega)
        have f7 := hb.frozen 327
        have f8 := hb.frozen 328
        have f9 := hb.frozen 329
        have hne : ¬ g = z := by omega
        have hne' : ¬ z = g := by omega
        clear hb hf hL hzb
        have HB7 := Lib.hid (blk_put (blk_put (blk_put HB.out 327 a) 328 b) 329 c)
        have HF7 := Lib.hid (((HF.out.setCell (p := ⟨g, 327, none⟩) (.inr hwg) (.int .u8 (a.toNat : Int))).setCell (p := ⟨g, 328, none⟩) (.inr hwg) (.int .u8 (b.toNat : Int))).setCell (p := ⟨g, 329, none⟩) (.inr hwg) (.int .u8 (c.toNat : Int)))
        have HL7 : Hid ((((L.set 327 a).set 328 b).set 329 c).length = i) := Lib.hid (by simp only [List.length_set]; exact HL.out)
        have HH := Lib.hid (headed L a b c (by rw [HL.out]; omega))
        go_upto_region 11 with fail
        generalize ((wr.setCell ⟨g, 327, none⟩ _).setCell ⟨g, 328, none⟩ _).setCell ⟨g, 329, none⟩ _ = w7 at *
        generalize ((L.set 327 a).set 328 b).set 329 c = M at *
        clear p0 p1 p2 c7 c8 c9 f7 f8 f9 HB HZ HF
        have c3 := blk_at HB7.out 333 (by rw [HL7.out]; omega)
        have f3 := HB7.out.frozen 333
        go_wp2_with fail
        (with_reducible refine (rsum_any w7 (some ⟨g, 0, none⟩) i i M HL7.out (rd_blk HB7.out) (by omega)).mono ?_)
        rintro e w8 ⟨rfl, rfl⟩
        obtain ⟨s, hs'⟩ : ∃ s : UInt8, (gsum M : Int) = (s.toNat : Int) := ⟨UInt8.ofNat (gsum M), by have := gsum_lt M; simp; omega⟩
        have hsg : signed M = M.set 333 s := by
          unfold signed
          congr 1
          have : gsum M = s.toNat := by omega
          rw [this]; simp
        have HX := Lib.hid (blk_put HB7.out 333 s)
        have HY := Lib.hid (HF7.out.setCell (p := ⟨g, 333, none⟩) (.inr hwg) (.int .u8 (s.toNat : Int)))
        rw [← hsg] at HX
        rw [hs']
        clear hs' hsg
        go_wp2
        go_ret
        exact ⟨g, signed M, hwg, rfl, HX.out, by rw [signed_length]; exact HL7.out, fun _ => HH.out, HY.out⟩

end Gb
end Go.Proofs.YthomlnaabkfcpaaDoor
