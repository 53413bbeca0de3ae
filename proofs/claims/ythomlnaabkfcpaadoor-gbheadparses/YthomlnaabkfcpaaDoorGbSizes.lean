/-
  Contract of gbhead.sizes: how many bytes ROM and RAM have; the table of RAM's sizes holds what its text lays.
-/
import Derived.Test.YthomlnaabkfcpaaDoorGbMath
namespace Go.Proofs.YthomlnaabkfcpaaDoor
open Go.RowKit
namespace Gb

/-- The table of RAM's sizes. -/
def Tab (w : World) : Prop := ∀ r, r < 6 → w.cell? ⟨0, r, none⟩ = some (.int .i64 (ramN r : Int))
theorem Tab.fr {S : List Nat} {w w' : World} (h : Tab w) (hf : Fr S w w') (hS : 0 ∉ S) : Tab w' := fun r hr => hf.cell (h r hr) hS
theorem Tab.later {w w' : World} (h : Tab w) (hf : Fr [] w w') : Tab w' := h.fr hf (by simp)
theorem Tab.drewN {w : World} (h : Tab w) (k : Nat) : Tab (w.drewN k) := h

/-- What sizes tells. -/
def sized (k n r : Nat) : Value := if unfit k n r then .tuple #[.int .i64 0, .int .i64 0, .bool false] else .tuple #[.int .i64 (romN n : Int), .int .i64 (ramN r : Int), .bool true]

set_option maxRecDepth 100000 in
set_option maxHeartbeats 1000000 in
theorem sizes_bad (w : World) (k n r : Nat) (hr : r < 256) (h : unfit k n r) :
    Calls Tryd.prog 18 #[.int .i64 (k : Int), .int .u8 (n : Int), .int .u8 (r : Int)] w fun e w' => e = .returned (.tuple #[.int .i64 0, .int .i64 0, .bool false]) ∧ ∃ q, w' = w.drewN q := by
  unfold unfit at h
  obtain ⟨a, ha⟩ : ∃ a : Int, (k : Int) = a := ⟨_, rfl⟩
  obtain ⟨b, hb⟩ : ∃ b : Int, (n : Int) = b := ⟨_, rfl⟩
  obtain ⟨c, hc⟩ : ∃ c : Int, (r : Int) = c := ⟨_, rfl⟩
  have h' : (8 < b) ∨ (¬ 8 < b ∧ 6 ≤ c) ∨ (¬ 8 < b ∧ ¬ 6 ≤ c ∧ a = 0 ∧ 0 < b) := by omega
  have hw : wrap64 c = c := by unfold wrap64; omega
  rw [ha, hb, hc]
  clear h ha hb hc hr
  rcases h' with h | ⟨h1, h2⟩ | ⟨h1, h2, rfl, h3⟩
  · go_enter Tryd.func18, Tryd.ntmps18
    go_wp2
    exact bodyPost_ret (v := .tuple #[.int .i64 0, .int .i64 0, .bool false]) (by simp [results, Tryd.results18, go_sem]) rfl ⟨rfl, 0, rfl⟩
  · go_enter Tryd.func18, Tryd.ntmps18
    go_wp2
    exact bodyPost_ret (v := .tuple #[.int .i64 0, .int .i64 0, .bool false]) (by simp [results, Tryd.results18, go_sem]) rfl ⟨rfl, 0, rfl⟩
  · go_enter Tryd.func18, Tryd.ntmps18
    go_wp2
    exact bodyPost_ret (v := .tuple #[.int .i64 0, .int .i64 0, .bool false]) (by simp [results, Tryd.results18, go_sem]) rfl ⟨rfl, 0, rfl⟩

set_option maxRecDepth 100000 in
set_option maxHeartbeats 4000000 in
theorem sizes_ok (w : World) (hT : Tab w) (k n r : Nat) (h : ¬ unfit k n r) :
    Calls Tryd.prog 18 #[.int .i64 (k : Int), .int .u8 (n : Int), .int .u8 (r : Int)] w fun e w' => e = .returned (.tuple #[.int .i64 (romN n : Int), .int .i64 (ramN r : Int), .bool true]) ∧ ∃ q, w' = w.drewN q := by
  have h' : n ≤ 8 ∧ r ≤ 5 ∧ (k = 0 → n = 0) := by unfold unfit at h; omega
  obtain ⟨h1, h2, h3⟩ := h'
  have hc := hT r (by omega)
  clear h hT
  have hn : n = 0 ∨ n = 1 ∨ n = 2 ∨ n = 3 ∨ n = 4 ∨ n = 5 ∨ n = 6 ∨ n = 7 ∨ n = 8 := by omega
  have hr : r = 0 ∨ r = 1 ∨ r = 2 ∨ r = 3 ∨ r = 4 ∨ r = 5 := by omega
  clear h1 h2
  by_cases hk : k = 0
  · obtain rfl := h3 hk
    subst hk
    clear hn h3
    rcases hr with rfl | rfl | rfl | rfl | rfl | rfl <;>
      (simp only [ramN] at hc
       go_enter Tryd.func18, Tryd.ntmps18
       go_wp2
       go_quiet (fail)
       go_wp2
       exact bodyPost_ret (v := .tuple #[.int .i64 _, .int .i64 _, .bool true]) (by simp [results, Tryd.results18, go_sem, romN, ramN]) rfl ⟨rfl, _, rfl⟩)
  · obtain ⟨a, ha⟩ : ∃ a : Int, (k : Int) = a := ⟨_, rfl⟩
    have ha0 : (a == 0) = false := by rw [beq_eq_false_iff_ne]; omega
    rw [ha]
    clear ha h3 hk
    rcases hn with rfl | rfl | rfl | rfl | rfl | rfl | rfl | rfl | rfl <;> rcases hr with rfl | rfl | rfl | rfl | rfl | rfl <;>
      (simp only [ramN] at hc
       go_enter Tryd.func18, Tryd.ntmps18
       go_wp2
       go_quiet (fail)
       go_wp2
       exact bodyPost_ret (v := .tuple #[.int .i64 _, .int .i64 _, .bool true]) (by simp [results, Tryd.results18, go_sem, romN, ramN]) rfl ⟨rfl, _, rfl⟩)

theorem sizes_any (w : World) (hT : Tab w) (k n r : Nat) (hr : r < 256) :
    Calls Tryd.prog 18 #[.int .i64 (k : Int), .int .u8 (n : Int), .int .u8 (r : Int)] w fun e w' => e = .returned (sized k n r) ∧ ∃ q, w' = w.drewN q := by
  unfold sized
  by_cases h : unfit k n r
  · rw [if_pos h]; exact sizes_bad w k n r hr h
  · rw [if_neg h]; exact sizes_ok w hT k n r h

end Gb
end Go.Proofs.YthomlnaabkfcpaaDoor
