/-
  The document's Parse of a patch that was made; numbers of records. No condition beyond lengths.
-/
import Derived.Test.YtchakjknndpmpaaMkShown
import Derived.Test.YtchakjknndpmpaaOctSame
import Derived.Test.YtchakjknndpmpaaIpsRefParse
import Derived.Test.YtchakjknndpmpaaIpsRefApply
namespace Go.Proofs.Ytchakjknndpmpaa
open Go.RowKit
namespace Ips

theorem recs_count (rs : List Rec) : rs.length ≤ (rs.flatMap recB).length := by
  induction rs with
  | nil => simp
  | cons r rs ih =>
    have := recB_length r
    simp only [List.flatMap_cons, List.length_append, List.length_cons]
    split at this <;> omega
theorem made_count (a b : List UInt8) (rs : List Rec) : rs.length + 8 ≤ (made a b rs).length := by
  have h1 := recs_count rs
  have e1 : patch.length = 5 := rfl
  have e2 : eof.length = 3 := rfl
  simp only [made, List.length_append]
  omega
theorem made_fits {a b : List UInt8} {rs : List Rec} (h : Makes a b rs) : ∀ r ∈ rs, Fits r := fun r hr => (h.ok r hr).2.1

theorem refparseM (w : World) (A : Option Addr) (n c : Nat) (a b : List UInt8) (rs : List Rec) (hM : Makes a b rs) (hn : (made a b rs).length = n) (h : Rd w A (made a b rs)) (hc : n ≤ c) (hl : n ≤ 16777216) (ha : a.length ≤ 16777216) :
    Calls Try.prog 10 #[.slice A n c] w (Parsed w (0, rs, cutOf a b)) := by
  rw [← made_parse a b rs hM ha (by omega)]
  exact refparse_head w A n c _ hn h hc hl (by unfold made; rw [show (5 : Nat) = patch.length from rfl, List.take_left])

theorem refapplyM (w : World) (A A' : Option Addr) (n c m c' : Nat) (cut : Int) (a b : List UInt8) (rs : List Rec) (hM : Makes a b rs) (hcut : cutOf a b = cut) (hn : rs.length = n) (h : RecRd w A rs) (hn2 : n ≤ 16777216) (hm : a.length = m) (hx : m ≤ 16777216) (hX : Rd w A' a) (hc : A' = none → c' = 0) :
    Calls Try.prog 14 #[.slice A n c, .int .i64 cut, .slice A' m c'] w (RefApplied w b) := by
  subst hcut
  have h2 := refapply_any w A A' n c m c' (cutOf a b) rs a hn h (made_fits hM) hn2 hm hx hX hc (by unfold cutOf; split <;> omega)
  rwa [made_makes a b rs hM] at h2

end Ips
end Go.Proofs.Ytchakjknndpmpaa
