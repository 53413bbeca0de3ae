/-
  The program's Parse and the document's: one outcome. And files that end ahead of their end. Condition: lengths as of slices.
-/
import Derived.Test.YthabiaenaicppaaIneRefParse3
namespace Go.Proofs.Ythabiaenaicppaa
open Go.RowKit
namespace Ine

theorem rparse_bad (w : World) (A : Option Addr) (n c : Nat) (l : List UInt8) (hn : l.length = n) (hr : Rd w A l) (hb : fault l ≠ 0) :
    Calls Try.prog 11 #[.slice A n c] w (Refused w (fault l)) := by
  unfold fault at hb ⊢
  rw [hn] at hb ⊢
  by_cases h1 : 16777216 < n
  · rw [if_pos h1]; exact rb_large w A n c h1
  rw [if_neg h1] at hb ⊢
  by_cases h2 : n < 16
  · rw [if_pos h2]; exact rb_none w A n c h2
  rw [if_neg h2] at hb ⊢
  by_cases h3 : l.take 4 ≠ mark
  · rw [if_pos h3]; exact rb_name w A n c l hn (by omega) (by omega) hr h3
  rw [if_neg h3] at hb ⊢
  have h3' : l.take 4 = mark := by simpa using h3
  by_cases h4 : bt l 7 / 4 % 4 = 2
  · rw [if_pos h4]; exact rb_form w A n c l hn (by omega) (by omega) hr h3' (.inl h4)
  rw [if_neg h4] at hb ⊢
  by_cases h5 : bt l 6 / 8 % 2 = 1
  · rw [if_pos h5]; exact rb_form w A n c l hn (by omega) (by omega) hr h3' (.inr (.inl h5))
  rw [if_neg h5] at hb ⊢
  by_cases h6 : bt l 4 = 0
  · rw [if_pos h6]; exact rb_form w A n c l hn (by omega) (by omega) hr h3' (.inr (.inr h6))
  rw [if_neg h6] at hb ⊢
  by_cases h7 : 4 < mapper l
  · rw [if_pos h7]; exact rb_mapper w A n c l hn (by omega) (by omega) hr h3' h4 h5 h6 h7
  rw [if_neg h7] at hb ⊢
  by_cases h8 : n < endAt l
  · rw [if_pos h8]; exact rb_cut w A n c l hn (by omega) (by omega) hr h3' h4 h5 h6 (by omega) h8
  rw [if_neg h8] at hb
  exact absurd rfl hb

/-- The cart that is told of bytes: a zero one, where they have a fault. -/
def ctOf (l : List UInt8) : Ct := if fault l = 0 then cartOf l else ⟨0, 0, [], [], false⟩
/-- What both tell. -/
def Outcome (w : World) (l : List UInt8) (e : Ending) (w' : World) : Prop := ∃ v, e = .returned (.tuple #[v, .int .i64 (fault l : Int)]) ∧ CartIn w' v (ctOf l) ∧ Fr [] w w'

theorem zero_in (w : World) : CartIn w zeroCt ⟨0, 0, [], [], false⟩ := ⟨none, 0, none, 0, rfl, rd_nil w, rd_nil w⟩

theorem parse_any (w : World) (A : Option Addr) (n c : Nat) (l : List UInt8) (hn : l.length = n) (hnc : n ≤ c) (hr : Rd w A l) : Calls Try.prog 10 #[.slice A n c] w (Outcome w l) := by
  by_cases hb : fault l = 0
  · refine (parse_ok w A n c l hn hnc hr hb).mono ?_
    rintro e w' ⟨v, rfl, ht⟩
    refine ⟨v, by rw [hb]; rfl, by unfold ctOf; rw [if_pos hb]; exact ht.cart, ?_⟩
    obtain ⟨_, _, _, _, _, _, _, _, h⟩ := ht
    exact h
  · refine (parse_bad w A n c l hn hnc hr hb).mono ?_
    rintro e w' ⟨rfl, hf⟩
    exact ⟨zeroCt, rfl, by unfold ctOf; rw [if_neg hb]; exact zero_in w', hf⟩

theorem rparse_any (w : World) (A : Option Addr) (n c : Nat) (l : List UInt8) (hn : l.length = n) (hnc : n ≤ c) (hcm : c ≤ 9223372036854775807) (hr : Rd w A l) : Calls Try.prog 11 #[.slice A n c] w (Outcome w l) := by
  by_cases hb : fault l = 0
  · refine (rparse_ok w A n c l hn hnc hcm hr hb).mono ?_
    rintro e w' ⟨v, rfl, ht, hf⟩
    exact ⟨v, by rw [hb]; rfl, by unfold ctOf; rw [if_pos hb]; exact ht, hf⟩
  · refine (rparse_bad w A n c l hn hr hb).mono ?_
    rintro e w' ⟨rfl, hf⟩
    exact ⟨zeroCt, rfl, by unfold ctOf; rw [if_neg hb]; exact zero_in w', hf⟩

theorem bt_take (l : List UInt8) (k i : Nat) (h : i < k) : bt (l.take k) i = bt l i := by simp [bt, List.getD, List.getElem?_take_of_lt h]
theorem fault_take (l : List UInt8) (k : Nat) (h16 : 16 ≤ k) (hk : k < endAt l) (hl : k ≤ l.length) (h : fault l = 0) : fault (l.take k) = 2 := by
  obtain ⟨-, h2, h3, h4, -, h6⟩ := fault_cases l h
  obtain ⟨h7, h8, h9⟩ := fault_all l h
  have hlen : (l.take k).length = k := by simp; omega
  have e : endAt (l.take k) = endAt l := by
    unfold endAt start prgB chrB
    rw [bt_take l k 4 (by omega), bt_take l k 5 (by omega), bt_take l k 6 (by omega)]
  have em : mapper (l.take k) = mapper l := by unfold mapper; rw [bt_take l k 7 (by omega), bt_take l k 6 (by omega)]
  unfold fault
  rw [hlen, if_neg (by omega), if_neg (by omega), List.take_take, Nat.min_eq_left (by omega), if_neg (by simpa using h3), bt_take l k 7 (by omega), if_neg h7, bt_take l k 6 (by omega), if_neg h8, bt_take l k 4 (by omega), if_neg h9, em, if_neg (by omega), e, if_pos hk]

end Ine
end Go.Proofs.Ythabiaenaicppaa
