/-
  Contract of the document's Put of patches (picklockref04): a record's bytes.
-/
import Derived.Test.YtcbmkmblfciflaaIpsApply
import Derived.Test.YtcbmkmblfciflaaIpsAp
namespace Go.Proofs.Ytcbmkmblfciflaa
open Go.RowKit
namespace Ips

/-- A number's lowest byte, and those above it. -/
def lo (p : Nat) : UInt8 := UInt8.ofNat p
def mid (p : Nat) : UInt8 := UInt8.ofNat (p / 256)
def hi (p : Nat) : UInt8 := UInt8.ofNat (p / 65536)
/-- A record's bytes. -/
def recB (r : Rec) : List UInt8 := [hi r.pos, mid r.pos, lo r.pos] ++ (if 0 < r.run then [0, 0, mid r.run, lo r.run, r.data.headD 0] else [mid r.data.length, lo r.data.length] ++ r.data)

theorem lo_spell (p : Nat) : (p : Int) % 256 = ((lo p).toNat : Int) := by
  simp only [lo, UInt8.toNat_ofNat']
  omega
theorem mid_spell (p : Nat) : (p : Int) / 256 % 256 = ((mid p).toNat : Int) := by
  simp only [mid, UInt8.toNat_ofNat']
  omega
theorem mid_spell' (p : Nat) (h : p < 65536) : (p : Int) / 256 = ((mid p).toNat : Int) := by
  simp only [mid, UInt8.toNat_ofNat']
  omega
theorem hi_spell (p : Nat) (h : p < 16777216) : (p : Int) / 65536 = ((hi p).toNat : Int) := by
  simp only [hi, UInt8.toNat_ofNat']
  omega

/-- What Put answers. -/
def Putted (w : World) (l : List UInt8) (e : Ending) (w' : World) : Prop := ∃ A c, e = .returned (.slice A l.length c) ∧ Own w' w.heap.size (.slice A l.length c) l ∧ Fr [] w w'

set_option maxRecDepth 100000 in
set_option maxHeartbeats 4000000 in
theorem put_run (w : World) (r : Rec) (D : Option Addr) (d : Nat) (hD : Rd w D r.data) (hp : r.pos < 16777216) (hr : r.run < 65536) (hd : 0 < r.data.length) (h0 : 0 < r.run) :
    Calls Try.prog 17 #[.agg #[.int .i64 (r.pos : Int), .int .i64 (r.run : Int), .slice D r.data.length d]] w (Putted w (recB r)) := by
  obtain ⟨i0, hi0, hz0, hz1, hz2⟩ := info_parts info5
  obtain ⟨db, dO, x0, rfl, hx0, hc0⟩ := hD.at 0 hd
  have HB : Hid (recB r = [hi r.pos, mid r.pos, lo r.pos] ++ [0, 0, mid r.run, lo r.run, x0]) := Lib.hid (by
    unfold recB
    rw [if_pos h0]
    cases hd2 : r.data with
    | nil => rw [hd2] at hd; simp at hd
    | cons a l => rw [hd2] at hx0; simp at hx0; subst hx0; rfl)
  have hdb : db < w.heap.size := World.block_lt_of_cell? w _ hc0
  generalize recB r = R at *
  have h0' : 0 < (r.run : Int) := by omega
  have hd' : (0 : Int) < r.data.length := by omega
  have p2 := hi_spell r.pos hp
  have p1 := mid_spell r.pos
  have p0 := lo_spell r.pos
  have q1 := mid_spell' r.run hr
  have q0 := lo_spell r.run
  rw [Nat.add_zero] at hc0
  obtain ⟨w0, hw0⟩ : ∃ w0, w0 = (w.alloc (.cells #[.int .i64 (r.pos : Int), .int .i64 (r.run : Int), .slice (some ⟨db, dO, none⟩) r.data.length d] 45)).alloc (.cells #[.int .u8 ((hi r.pos).toNat : Int), .int .u8 ((mid r.pos).toNat : Int), .int .u8 ((lo r.pos).toNat : Int)] 5) := ⟨_, rfl⟩
  have hF0 : Fr [] w w0 := hw0 ▸ ((Fr.refl [] w).alloc _).alloc _
  have hs0 : w0.heap.size = w.heap.size + 2 := by rw [hw0]; simp
  have HOut : Hid (Own w0 w.heap.size (.slice (some ⟨w.heap.size + 1, 0, none⟩) 3 3) [hi r.pos, mid r.pos, lo r.pos]) := Lib.hid (by
    refine Own.of_blk (l := [hi r.pos, mid r.pos, lo r.pos]) ?_ (by omega) (by simp [maxLen])
    rw [hw0]
    have h := Blk.fresh (w.alloc (.cells #[.int .i64 (r.pos : Int), .int .i64 (r.run : Int), .slice (some ⟨db, dO, none⟩) r.data.length d] 45)) 5 (bv [hi r.pos, mid r.pos, lo r.pos]).toArray
    rw [World.size_alloc] at h
    exact h)
  have c1 : w0.cell? ⟨w.heap.size, 1, none⟩ = some (.int .i64 (r.run : Int)) := by
    rw [hw0]; exact ((Blk.fresh w 45 #[.int .i64 (r.pos : Int), .int .i64 (r.run : Int), .slice (some ⟨db, dO, none⟩) r.data.length d]).fr ((Fr.refl [] _).alloc _) (by simp)).cell 1
  have c2 : w0.cell? ⟨w.heap.size, 2, none⟩ = some (.slice (some ⟨db, dO, none⟩) r.data.length d) := by
    rw [hw0]; exact ((Blk.fresh w 45 #[.int .i64 (r.pos : Int), .int .i64 (r.run : Int), .slice (some ⟨db, dO, none⟩) r.data.length d]).fr ((Fr.refl [] _).alloc _) (by simp)).cell 2
  have c3 := hF0.cell hc0 (by simp)
  have HE0 := Lib.hid hw0
  have HF0 := Lib.hid hF0
  clear hw0 hF0 hD hx0
  go_enter Try.func17, Try.ntmps17
  go_wp2_with fail
  rw [← HE0.out]
  have k1 : IntKind.u8.wrap ((mid r.run).toNat : Int) = ((mid r.run).toNat : Int) := by have := (mid r.run).toNat_lt; rw [IntKind.wrap_u8]; omega
  have k0 : IntKind.u8.wrap (r.run : Int) = ((lo r.run).toNat : Int) := by rw [← q0, IntKind.wrap_u8]
  have HOut2 : Hid (Own (w0.alloc (.cells #[.int .u8 0, .int .u8 0, .int .u8 (IntKind.u8.wrap ((mid r.run).toNat : Int)), .int .u8 (IntKind.u8.wrap (r.run : Int)), .int .u8 (x0.toNat : Int)] 5)).drew w.heap.size (.slice (some ⟨w.heap.size + 1, 0, none⟩) 3 3) [hi r.pos, mid r.pos, lo r.pos]) := Lib.hid (HOut.out.fr ((Fr.refl [] w0).alloc _).drew (by simp))
  have HNew : Hid (Rd (w0.alloc (.cells #[.int .u8 0, .int .u8 0, .int .u8 (IntKind.u8.wrap ((mid r.run).toNat : Int)), .int .u8 (IntKind.u8.wrap (r.run : Int)), .int .u8 (x0.toNat : Int)] 5)).drew (some ⟨w.heap.size + 2, 0, none⟩) [0, 0, mid r.run, lo r.run, x0]) := by
    rw [k1, k0]
    have h := (Blk.fresh w0 5 (bv [0, 0, mid r.run, lo r.run, x0]).toArray).fr (Fr.refl [] _).drew (by simp)
    rw [hs0] at h
    exact Lib.hid (rd_blk h)
  have hBs : w.heap.size ≤ w0.heap.size := by omega
  clear k1 k0
  go_region_law (refine step_app _ rfl (.tmp 19) (.tmp 31) 22 rfl w.heap.size i0 Try.underlying22 hi0 hz0 hz1 hz2 (.slice (some ⟨w.heap.size + 1, 0, none⟩) 3 3) [hi r.pos, mid r.pos, lo r.pos] 3 rfl (by simp [Act.eval]) HOut2.out (some ⟨w.heap.size + 2, 0, none⟩) 5 5 [0, 0, mid r.run, lo r.run, x0] (by simp [Act.eval]) rfl HNew.out (by simp) (by decide) (by simp; omega) ?_; intro A' c' w1 ho1 hf1 _; have HO1 := Lib.hid ho1; have HF1 := Lib.hid hf1; clear ho1 hf1)
  all_goals
    go_simp
    go_wp2
    go_ret
    rw [HB.out]
    exact ⟨A', c', rfl, HO1.out, (HF0.out.tr ((Fr.refl [] w0).alloc _).drew).trans HF1.out (by simp [Value.ownBlock])⟩

set_option maxRecDepth 100000 in
set_option maxHeartbeats 4000000 in
theorem put_data (w : World) (r : Rec) (D : Option Addr) (d : Nat) (hD : Rd w D r.data) (hDn : D = none → d = 0) (hp : r.pos < 16777216) (hd : r.data.length < 65536) (h0 : r.run = 0) :
    Calls Try.prog 17 #[.agg #[.int .i64 (r.pos : Int), .int .i64 (r.run : Int), .slice D r.data.length d]] w (Putted w (recB r)) := by
  obtain ⟨i0, hi0, hz0, hz1, hz2⟩ := info_parts info5
  have HB : Hid (recB r = ([hi r.pos, mid r.pos, lo r.pos] ++ [mid r.data.length, lo r.data.length]) ++ r.data) := Lib.hid (by simp [recB, h0])
  have HL : Hid ((recB r).length = 5 + r.data.length) := Lib.hid (by rw [HB.out]; simp; omega)
  generalize recB r = R at *
  have h0' : ¬ 0 < (r.run : Int) := by omega
  clear h0
  have p2 := hi_spell r.pos hp
  have p1 := mid_spell r.pos
  have p0 := lo_spell r.pos
  have q1 := mid_spell' r.data.length hd
  have q0 := lo_spell r.data.length
  obtain ⟨wb, hwb⟩ : ∃ wb, wb = w.alloc (.cells #[.int .i64 (r.pos : Int), .int .i64 (r.run : Int), .slice D r.data.length d] 45) := ⟨_, rfl⟩
  obtain ⟨w0, hw0⟩ : ∃ w0, w0 = wb.alloc (.cells #[.int .u8 ((hi r.pos).toNat : Int), .int .u8 ((mid r.pos).toNat : Int), .int .u8 ((lo r.pos).toNat : Int)] 5) := ⟨_, rfl⟩
  have hF0 : Fr [] w w0 := by rw [hw0, hwb]; exact ((Fr.refl [] w).alloc _).alloc _
  have hs0 : w0.heap.size = w.heap.size + 2 := by rw [hw0, hwb]; simp
  have HBox : Hid (Blk w0 w.heap.size 45 #[.int .i64 (r.pos : Int), .int .i64 (r.run : Int), .slice D r.data.length d]) := Lib.hid (by
    rw [hw0, hwb]; exact (Blk.fresh w 45 #[.int .i64 (r.pos : Int), .int .i64 (r.run : Int), .slice D r.data.length d]).fr ((Fr.refl [] _).alloc _) (by simp))
  have HOut : Hid (Own w0 w.heap.size (.slice (some ⟨w.heap.size + 1, 0, none⟩) 3 3) [hi r.pos, mid r.pos, lo r.pos]) := Lib.hid (by
    refine Own.of_blk (l := [hi r.pos, mid r.pos, lo r.pos]) ?_ (by omega) (by simp [maxLen])
    rw [hw0, hwb]
    have h := Blk.fresh (w.alloc (.cells #[.int .i64 (r.pos : Int), .int .i64 (r.run : Int), .slice D r.data.length d] 45)) 5 (bv [hi r.pos, mid r.pos, lo r.pos]).toArray
    rw [World.size_alloc] at h
    exact h)
  have HE0 : Hid (w0 = (w.alloc (.cells #[.int .i64 (r.pos : Int), .int .i64 (r.run : Int), .slice D r.data.length d] 45)).alloc (.cells #[.int .u8 ((hi r.pos).toNat : Int), .int .u8 ((mid r.pos).toNat : Int), .int .u8 ((lo r.pos).toNat : Int)] 5)) := Lib.hid (by rw [hw0, hwb])
  have HF0 := Lib.hid hF0
  have HD := Lib.hid hD
  have HDn := Lib.hid hDn
  clear hw0 hwb hF0 hD hDn
  go_enter Try.func17, Try.ntmps17
  have HNew : Hid (∀ W, W = w0 → Rd (W.alloc (.cells #[.int .u8 ((mid r.data.length).toNat : Int), .int .u8 ((lo r.data.length).toNat : Int)] 5)) (some ⟨w.heap.size + 2, 0, none⟩) [mid r.data.length, lo r.data.length]) := Lib.hid fun W e => by
    subst e
    have h := Blk.fresh W 5 (bv [mid r.data.length, lo r.data.length]).toArray
    rw [hs0] at h
    exact rd_blk h
  have HOut2 : Hid (∀ W, W = w0 → Own (W.alloc (.cells #[.int .u8 ((mid r.data.length).toNat : Int), .int .u8 ((lo r.data.length).toNat : Int)] 5)) w.heap.size (.slice (some ⟨w.heap.size + 1, 0, none⟩) 3 3) [hi r.pos, mid r.pos, lo r.pos]) := Lib.hid fun W e => by
    subst e
    exact HOut.out.fr ((Fr.refl [] _).alloc _) (by simp)
  go_wp2_with (at_builtin; refine wpList_appN _ rfl (.tmp 33) (.tmp 43) 22 rfl w.heap.size i0 Try.underlying22 hi0 hz0 hz1 hz2 (.slice (some ⟨w.heap.size + 1, 0, none⟩) 3 3) [hi r.pos, mid r.pos, lo r.pos] 3 rfl rfl (HOut2.out _ HE0.out.symm) (some ⟨w.heap.size + 2, 0, none⟩) 2 2 [mid r.data.length, lo r.data.length] rfl rfl (HNew.out _ HE0.out.symm) (by simp) (by decide) (by simp; omega) ?_)
  intro A1 c1 w1 ho1 hf1 _
  have hf1' : Fr [w.heap.size + 1] w0 w1 := by
    have h := ((Fr.refl [w.heap.size + 1] w0).alloc (.cells #[.int .u8 ((mid r.data.length).toNat : Int), .int .u8 ((lo r.data.length).toNat : Int)] 5))
    rw [HE0.out] at h ⊢
    exact h.tr hf1
  have c2 := (HBox.out.fr hf1' (by simp)).cell 2
  simp at c2
  have HF1 : Hid (Fr [] w w1) := Lib.hid (HF0.out.trans hf1' (by simp))
  have HO1 := Lib.hid ho1
  have hs1 := hf1'.size
  clear ho1 hf1 hf1'
  go_wp2_with (at_builtin; refine wpList_appN _ rfl (.tmp 45) (.tmp 47) 22 rfl w.heap.size i0 Try.underlying22 hi0 hz0 hz1 hz2 (.slice A1 5 c1) ([hi r.pos, mid r.pos, lo r.pos] ++ [mid r.data.length, lo r.data.length]) 5 rfl rfl HO1.out D r.data.length d r.data rfl rfl (HD.out.later HF1.out (by simp)) HDn.out (by omega) (by omega) ?_)
  intro A2 c2' w2 ho2 hf2 _
  have HF2 : Hid (Fr [] w w2) := Lib.hid (HF1.out.trans hf2 (fun k hk => .inr (HO1.out.lt k (by simpa using hk)).1))
  have HO2 := Lib.hid ho2
  clear ho2 hf2
  go_wp2
  go_ret
  refine ⟨A2, c2', by rw [HL.out] <;> rfl, ?_, HF2.out⟩
  rw [HL.out, HB.out]
  exact HO2.out

end Ips
end Go.Proofs.Ytcbmkmblfciflaa
