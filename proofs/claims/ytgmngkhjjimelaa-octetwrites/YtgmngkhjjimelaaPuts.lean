/-
  The law's puts, opened to their cells.
-/
import Derived.Test.YtgmngkhjjimelaaWritesInv
import Derived.Test.YtgmngkhjjimelaaStructs
import Derived.ProofKit
namespace Go.Proofs.Ytgmngkhjjimelaa
open Go.RowKit Go.Deep Go.ChangeShapes Go.WideShapes Go.ChangeAt

theorem bytes_field {H : Type} {enc : TypeId × Value → H} {w : World} {base : Nat} {spare : Nat → Bool} {held : Bool} {fuel : Nat} {v : Value} {x : DataW H × List MemPlace} (hsp : ∀ b, spare b = true)
    (h : DataW.trod enc Try.prog w base spare held fuel 22 [v] = some x) : ∃ A n c l, v = .slice A n c ∧ Rd w A l ∧ l.length = n ∧ (A = none → c = 0) ∧ n ≤ c ∧ c ≤ maxLen := by
  rcases open_ints Try.underlying22 Try.underlying5 (by kernel_rfl) h with ⟨hcs, _⟩ | ⟨a, n, c, zs, hcs, _, hl, hm, hz, _, hcell, hwz⟩
  · simp at hcs
    exact ⟨none, 0, 0, [], hcs, fun h0 => by simp at h0, rfl, fun _ => rfl, by omega, by simp [maxLen]⟩
  · simp at hcs
    have hz' : zs.length = c := by simpa [hsp] using hz
    obtain ⟨l, h1, h2, h3, h4, h5⟩ := row_u8 (w := w) (a := some a) (len := n) (cap := c) (zs := zs) (.inr ⟨a, rfl, hl, hm, hz', hcell, hwz⟩)
    exact ⟨some a, n, c, l, hcs, h2, h1, h3, h4, h5⟩

/-- The law's puts. -/
theorem row_puts {H : Type} {enc : TypeId × Value → H} {w : World} {base : Nat} {spare : Nat → Bool} {held : Bool} {fuel : Nat} {a : Option Addr} {len cap : Nat} {x : DataW H × List MemPlace} (hsp : ∀ b, spare b = true)
    (h : DataW.trod enc Try.prog w base spare held fuel 44 [.slice a len cap] = some x) : ∃ rs : List PutR, rs.length = len ∧ RdP w a rs ∧ len ≤ cap ∧ cap ≤ maxLen := by
  rcases open_structs Try.underlying44 Try.underlying49 (by kernel_rfl) (by kernel_rfl) h with ⟨rfl, rfl, rfl⟩ | ⟨ad, rfl, hl, hm, hf⟩
  · exact ⟨[], rfl, fun h0 => by simp at h0, by omega, by simp [maxLen]⟩
  · rcases Nat.eq_zero_or_pos len with h0 | h0
    · exact ⟨[], h0.symm, fun h0 => by simp at h0, hl, hm⟩
    obtain ⟨b, o, rfl⟩ : ∃ b o, ad = ⟨b, o, none⟩ := by
      obtain ⟨v0, y0, n0, c0, _⟩ := hf 0 h0 0 _ rfl
      have : (0 * 4 + 0 : Nat) = 0 := rfl
      exact add_some (v := v0) (by simpa using c0)
    have hsz : ∀ i, i < len → ∃ r : PutR, PutAt w b (o + i * 4) r := by
      intro i hi
      obtain ⟨v0, y0, n0, c0, t0⟩ := hf i hi 0 _ rfl
      obtain ⟨v1, y1, n1, c1, t1⟩ := hf i hi 1 _ rfl
      obtain ⟨v2, y2, n2, c2, t2⟩ := hf i hi 2 _ rfl
      obtain ⟨v3, y3, n3, c3, t3⟩ := hf i hi 3 _ rfl
      obtain ⟨z0, e0, _⟩ := DataW.trod_int Try.underlying3 t0
      obtain ⟨z1, e1, _⟩ := DataW.trod_int Try.underlying3 t1
      obtain ⟨z2, e2, _, hw2⟩ := DataW.trod_int Try.underlying36 t2
      obtain ⟨A, n, c, l, rfl, h1, h2, h3, h4, h5⟩ := bytes_field hsp t3
      simp at e0 e1 e2
      subst e0 e1 e2
      have hb := bounds_u64 hw2
      rw [Addr.add_lit] at c0 c1 c2 c3
      refine ⟨⟨z0, z1, z2.toNat, A, n, c, l⟩, ?_, ?_, ?_, ?_, h1, h2, h3, h4, h5, by show z2.toNat < _; omega⟩
      · simpa using c0
      · simpa [Nat.add_assoc] using c1
      · rw [show ((z2.toNat : Nat) : Int) = z2 from by omega]
        simpa [Nat.add_assoc] using c2
      · simpa [Nat.add_assoc] using c3
    haveI : Inhabited PutR := ⟨⟨0, 0, 0, none, 0, 0, []⟩⟩
    obtain ⟨f, hff⟩ := choose_lt hsz
    refine ⟨(List.range len).map f, by simp, fun _ => ⟨b, o, rfl, fun j hj => ?_⟩, hl, hm⟩
    have hj' : j < len := by simpa using hj
    simpa using hff j hj'

end Go.Proofs.Ytgmngkhjjimelaa
