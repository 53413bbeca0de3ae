/-
  The program's map in memory. No condition.
-/
import Derived.Test.YtgakdlbdbiacgaaNmObj
import Derived.Laws.Bits
namespace Go.Proofs.Ytgakdlbdbiacgaa
open Go.RowKit
namespace Nm

def Hd (w : World) (p g : Nat) (t : TypeId) (S : St) : Prop := Blk w p 60 #[.iface t (.pointer (some ⟨g, 0, none⟩)), .int .i64 S.pg, .int .i64 S.un]
def Ob0 (w : World) (g : Nat) (S : St) : Prop := Blk w g 71 #[.int .i64 S.mir]
def Ob1 (w : World) (g : Nat) (S : St) : Prop := Blk w g 85 #[.int .i64 0, .int .u8 S.c, .int .u8 S.l, .int .u8 S.h, .int .u8 S.p, .int .u8 S.bits, .int .i64 S.cnt]
def Ob2 (w : World) (g : Nat) (S : St) : Prop := Blk w g 76 #[.int .i64 S.mir, .int .u8 S.n]
def Ob3 (w : World) (g : Nat) (S : St) : Prop := Blk w g 78 #[.int .i64 S.mir, .int .u8 S.n]
def Ob4 (w : World) (g : Nat) (S : St) : Prop := Blk w g 82 #[.int .i64 S.mir, .int .u8 S.sel, .int .u8 S.r0, .int .u8 S.r1, .int .u8 S.r2, .int .u8 S.r3, .int .u8 S.r4, .int .u8 S.r5, .int .u8 S.r6, .int .u8 S.r7, .int .u8 S.lat, .int .u8 S.ctr, .bool S.al, .bool S.ask]

/-- The program's map at block p, its mapper at block g. -/
def ProgAt (w : World) (p g : Nat) (S : St) : Prop :=
  (S.mp = 0 ∧ Hd w p g 69 S ∧ Ob0 w g S) ∨ (S.mp = 1 ∧ Hd w p g 72 S ∧ Ob1 w g S) ∨ (S.mp = 2 ∧ Hd w p g 74 S ∧ Ob2 w g S) ∨
  (S.mp = 3 ∧ Hd w p g 77 S ∧ Ob3 w g S) ∨ (S.mp = 4 ∧ Hd w p g 79 S ∧ Ob4 w g S)

theorem ProgAt.fr {F : List Nat} {w w' : World} {p g : Nat} {S : St} (h : ProgAt w p g S) (hf : Fr F w w') (hp : p ∉ F) (hg : g ∉ F) : ProgAt w' p g S := by
  rcases h with ⟨h0, h1, h2⟩ | ⟨h0, h1, h2⟩ | ⟨h0, h1, h2⟩ | ⟨h0, h1, h2⟩ | ⟨h0, h1, h2⟩
  · exact .inl ⟨h0, Blk.fr h1 hf hp, Blk.fr h2 hf hg⟩
  · exact .inr (.inl ⟨h0, Blk.fr h1 hf hp, Blk.fr h2 hf hg⟩)
  · exact .inr (.inr (.inl ⟨h0, Blk.fr h1 hf hp, Blk.fr h2 hf hg⟩))
  · exact .inr (.inr (.inr (.inl ⟨h0, Blk.fr h1 hf hp, Blk.fr h2 hf hg⟩)))
  · exact .inr (.inr (.inr (.inr ⟨h0, Blk.fr h1 hf hp, Blk.fr h2 hf hg⟩)))
theorem ProgAt.ne {w : World} {p g : Nat} {S : St} (h : ProgAt w p g S) : p ≠ g := by
  rcases h with ⟨h0, h1, h2⟩ | ⟨h0, h1, h2⟩ | ⟨h0, h1, h2⟩ | ⟨h0, h1, h2⟩ | ⟨h0, h1, h2⟩
  all_goals exact Blk.other h1 h2 (by decide)
theorem ProgAt.lt {w : World} {p g : Nat} {S : St} (h : ProgAt w p g S) : p < w.heap.size ∧ g < w.heap.size := by
  rcases h with ⟨h0, h1, h2⟩ | ⟨h0, h1, h2⟩ | ⟨h0, h1, h2⟩ | ⟨h0, h1, h2⟩ | ⟨h0, h1, h2⟩
  all_goals exact ⟨Blk.lt h1, Blk.lt h2⟩
/-- The document's map is none of the two blocks. -/
theorem ProgAt.other {w : World} {p g q : Nat} {S T : St} (h : ProgAt w p g S) (h' : RefAt w q T) : p ≠ q ∧ g ≠ q := by
  rcases h with ⟨h0, h1, h2⟩ | ⟨h0, h1, h2⟩ | ⟨h0, h1, h2⟩ | ⟨h0, h1, h2⟩ | ⟨h0, h1, h2⟩
  all_goals exact ⟨Blk.other h1 h' (by decide), Blk.other h2 h' (by decide)⟩

set_option maxRecDepth 100000 in
set_option maxHeartbeats 1000000 in
theorem round_any (w : World) (n by_ : Int) (h0 : 0 < by_) (h1 : by_ ≤ 1000) :
    Calls Try.prog 29 #[.int .i64 n, .int .i64 by_] w fun e w' => e = .returned (.int .i64 (n % by_)) ∧ w = w' := by
  have hz : ¬ by_ = 0 := by omega
  have hz' : (by_ == 0) = false := by rw [beq_eq_false_iff_ne]; exact hz
  obtain ⟨m, hm⟩ : ∃ m, n.tmod by_ = m := ⟨_, rfl⟩
  obtain ⟨k, hk⟩ : ∃ k, n % by_ = k := ⟨_, rfl⟩
  have e1 : n % by_ = m % by_ := by
    have := Int.tmod_add_mul_tdiv n by_
    rw [hm] at this
    rw [← this, Int.add_mul_emod_self_left]
  have b1 : m < by_ := by rw [← hm]; exact Int.tmod_lt_of_pos n h0
  have b2 : -by_ < m := by
    by_cases hn : 0 ≤ n
    · have := Int.emod_nonneg n hz; rw [Int.tmod_eq_emod_of_nonneg hn] at hm; omega
    · have e : n.tmod by_ = -((-n).tmod by_) := by rw [Int.neg_tmod]; omega
      have := Int.tmod_lt_of_pos (-n) h0
      omega
  rw [hk]
  by_cases hneg : m < 0
  · have hmk : m + by_ = k := by
      rw [← hk, e1, ← Int.add_emod_right, Int.emod_eq_of_lt (by omega) (by omega)]
    clear e1 hk
    go_enter Try.func29, Try.ntmps29
    go_wp2
    go_ret
    exact ⟨rfl, rfl⟩
  · obtain rfl : m = k := by rw [← hk, e1, Int.emod_eq_of_lt (by omega) (by omega)]
    clear e1 hk
    go_enter Try.func29, Try.ntmps29
    go_wp2
    go_ret
    exact ⟨rfl, rfl⟩

set_option maxRecDepth 100000 in
set_option maxHeartbeats 1000000 in
theorem spanOf_any (w : World) (a s : Int) (h0 : 32768 ≤ a) (h1 : a < 65536) (hs : a / 8192 - 4 = s) :
    Calls Try.prog 30 #[.int .u16 a] w fun e w' => e = .returned (.int .i64 s) ∧ w = w' := by
  obtain ⟨x, hx⟩ : ∃ x, a - 32768 = x := ⟨_, rfl⟩
  have hx0 : 0 ≤ x := by omega
  have hx1 : x < 32768 := by omega
  have hd : x / 8192 = s := by omega
  have hd' : x.tdiv 8192 = s := by rw [Int.tdiv_eq_ediv_of_nonneg hx0]; exact hd
  clear hs
  go_enter Try.func30, Try.ntmps30
  go_wp2
  go_ret
  exact ⟨rfl, rfl⟩

set_option maxRecDepth 100000 in
set_option maxHeartbeats 1000000 in
theorem fromLast_any (w : World) (s : Int) (h0 : 0 ≤ s) (h1 : s < 8) : Calls Try.prog 63 #[.int .i64 s] w fun e w' => e = .returned (.int .i64 (s - 4)) ∧ w = w' := by
  obtain ⟨x, hx⟩ : ∃ x, s - 4 = x := ⟨_, rfl⟩
  rw [hx]
  go_enter Try.func63, Try.ntmps63
  go_wp2
  go_ret
  exact ⟨rfl, rfl⟩

set_option maxRecDepth 100000 in
set_option maxHeartbeats 1000000 in
theorem twoAndLast_any (w : World) (f s : Int) (h0 : 0 ≤ s) (h1 : s < 8) (h2 : 0 ≤ f) (h3 : f < 100000) : Calls Try.prog 62 #[.int .i64 f, .int .i64 s] w fun e w' => e = .returned (.int .i64 (if s < 2 then f + s else s - 4)) ∧ w = w' := by
  by_cases h : s < 2
  · rw [if_pos h]
    obtain ⟨x, hx⟩ : ∃ x, f + s = x := ⟨_, rfl⟩
    rw [hx]
    go_enter Try.func62, Try.ntmps62
    go_wp2
    go_ret
    exact ⟨rfl, rfl⟩
  · rw [if_neg h]
    have HC := Lib.hid (fromLast_any w s h0 h1)
    obtain ⟨x, hx⟩ : ∃ x, s - 4 = x := ⟨_, rfl⟩
    rw [hx] at HC ⊢
    go_enter Try.func62, Try.ntmps62
    go_wp2_with fail
    (with_reducible refine HC.out.mono ?_)
    rintro e w1 ⟨rfl, rfl⟩
    go_wp2
    go_ret
    exact ⟨rfl, rfl⟩

end Nm
end Go.Proofs.Ytgakdlbdbiacgaa
