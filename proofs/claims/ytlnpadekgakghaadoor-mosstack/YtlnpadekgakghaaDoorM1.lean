/-
  The arguments of picklocklaw14's laws, opened to their cells.
  The table of opcodes: from what the list gives to what the walks ask of a world.
-/
import Derived.Test.YtlnpadekgakghaaDoorRowBytes
import Derived.Test.YtlnpadekgakghaaDoorPokes
import Derived.Test.YtlnpadekgakghaaDoorMosOk
import Derived.Lib.SmallJoins
import Derived.Test.YtlnpadekgakghaaDoorCards
import Derived.Test.YtlnpadekgakghaaDoorMkObj
import Derived.Lib.LaidTab
namespace Go.Proofs.YtlnpadekgakghaaDoor
open Go.RowKit Go.Deep Go.WideShapes Go.ChangeShapes Al
set_option linter.unusedVariables false
namespace Ms

theorem list2 {α : Type} (l : List α) (h : l.length = 2) : ∃ a b, l = [a, b] := by
  match l, h with
  | [a, b], _ => exact ⟨a, b, rfl⟩
theorem list3 {α : Type} (l : List α) (h : l.length = 3) : ∃ a b c, l = [a, b, c] := by
  match l, h with
  | [a, b, c], _ => exact ⟨a, b, c, rfl⟩
theorem list6 {α : Type} (l : List α) (h : l.length = 6) : ∃ a b c d e f, l = [a, b, c, d, e, f] := by
  match l, h with
  | [a, b, c, d, e, f], _ => exact ⟨a, b, c, d, e, f, rfl⟩
theorem cells1w : Tryd.prog.cellsOf 22 = 1 := by kernel_rfl
theorem cells3b : Tryd.prog.cellsOf 25 = 3 := by kernel_rfl
theorem cellsRegs : Tryd.prog.cellsOf 24 = 6 := by kernel_rfl
theorem cellsRest : Tryd.prog.cellsOf 28 = 2 := by kernel_rfl

theorem u16_of {n : Int} (h : (Lit.int .u16 n).wf = true) : u16 n := by
  have := bounds_u16 h
  exact ⟨this.1, by omega⟩
theorem u8_of {n : Int} (h : (Lit.int .u8 n).wf = true) : byte n := by
  have := bounds_u8 h
  exact ⟨this.1, by omega⟩

section
variable {H : Type} {enc : TypeId × Value → H} {P : Program} {w : World} {base : Nat} {spare : Nat → Bool} {held : Bool}
/-- A slice of structs of one-cell fields, opened: each field's cell, and its reading. -/
theorem open_fields {t e : TypeId} {fs : Array Field} {fuel : Nat} {v : Value} {x : DataW H × List MemPlace} (ht : P.underlying t = some (.slice e)) (he : P.underlying e = some (.struct fs))
    (hone : oneCellFields P fs = true) (hC : P.cellsOf e = fs.size) (h : DataW.trod enc P w base spare held fuel t [v] = some x) :
    v = .slice none 0 0 ∨ ∃ ad len cap, v = .slice (some ad) len cap ∧ len ≤ cap ∧ cap ≤ maxLen ∧
      ∀ i, i < len → ∀ (j : Nat) (f : Field), fs[j]? = some f → ∃ v y n, w.cell? (ad.add (i * fs.size + j)) = some v ∧ DataW.trod enc P w base spare held n f.type [v] = some y := by
  rcases open_slice ht h with ⟨hcs, _⟩ | ⟨ad, l, c, m, n, D, Pl, hcs, _, hl, hm, hmm, _, hi⟩
  · simp at hcs
    exact .inl hcs
  · simp at hcs
    subst hcs
    refine .inr ⟨ad, l, c, rfl, hl, hm, fun i hil j f hj => ?_⟩
    have him : i < m := by rw [hmm]; split <;> omega
    obtain ⟨cs', hc, ht'⟩ := hi i him
    rw [hC] at hc
    obtain ⟨ys, n', _, _, hlen, hyl, hf⟩ := DataW.trod_struct he ht'
    obtain ⟨_, hcl, hat⟩ := World.cells?_some hc
    obtain ⟨ho, hk⟩ := hone_of hone j f hj
    have hjl : j < fs.size := (Array.getElem?_eq_some_iff.1 hj).1
    have h1 := hf j f hj
    rw [ho, hk, List.drop_eq_getElem_cons (by omega), List.getElem?_eq_getElem (by omega)] at h1
    refine ⟨cs'[j]'(by omega), _, n', ?_, h1⟩
    rw [← add_add, hat j hjl, List.getElem?_eq_getElem]

/-- A list out of what there is at each place. -/
theorem list_of {α : Type} (n : Nat) (Q : Nat → α → Prop) (h : ∀ i, i < n → ∃ a, Q i a) : ∃ l : List α, l.length = n ∧ ∀ i (hi : i < l.length), Q i l[i] := by
  induction n with
  | zero => exact ⟨[], rfl, fun i hi => by simp at hi⟩
  | succ n ih =>
    obtain ⟨l, hl, hq⟩ := ih fun i hi => h i (by omega)
    obtain ⟨a, ha⟩ := h n (by omega)
    refine ⟨l ++ [a], by simp [hl], fun i hi => ?_⟩
    rw [List.getElem_append]
    split
    · exact hq i (by assumption)
    · simp at hi
      have e : i = n := by omega
      subst e
      simp only [List.getElem_singleton]
      exact ha

theorem spot_of {ad : Addr} {v : Value} (h : w.cell? (ad.add 0) = some v) : ∃ b o, ad = ⟨b, o, none⟩ := by
  obtain ⟨b, o, sp⟩ := ad
  have hs : sp = none := by simpa [Addr.add] using World.cell?_spot h
  exact ⟨b, o, by rw [hs]⟩
end

section
variable {H : Type} {enc : TypeId × Value → H} {w : World} {base : Nat} {held : Bool}
theorem one_u8 {fuel : Nat} {cs : List Value} {x : DataW H × List MemPlace} (h : DataW.trod enc Tryd.prog w base (fun _ => true) held fuel 5 cs = some x) : ∃ z : Int, cs = [.int .u8 z] ∧ byte z := by
  obtain ⟨z, e, -, hw⟩ := DataW.trod_int Tryd.underlying5 h
  exact ⟨z, e, u8_of hw⟩

theorem row_pokes {fuel : Nat} {v : Value} {x : DataW H × List MemPlace} (h : DataW.trod enc Tryd.prog w base (fun _ => true) held fuel 26 [v] = some x) : ∃ A n c zs, v = .slice A n c ∧ zs.length = n ∧ Pk.PkRd w A zs ∧ (∀ z ∈ zs, u16 z.1 ∧ byte z.2) ∧ n ≤ c ∧ c ≤ maxLen := by
  rcases open_fields Tryd.underlying26 Tryd.underlying57 (by kernel_rfl) (by kernel_rfl) h with rfl | ⟨ad, len, cap, rfl, hl, hm, hf⟩
  · exact ⟨none, 0, 0, [], rfl, rfl, fun h => by simp at h, fun z hz => by simp at hz, by omega, by simp [maxLen]⟩
  · have key : ∀ i, i < len → ∃ z : Int × Int, w.cell? (ad.add (i * 2)) = some (.int .u16 z.1) ∧ w.cell? (ad.add (i * 2 + 1)) = some (.int .u8 z.2) ∧ u16 z.1 ∧ byte z.2 := by
      intro i hi
      obtain ⟨v0, y0, n0, c0, t0⟩ := hf i hi 0 _ rfl
      obtain ⟨v1, y1, n1, c1, t1⟩ := hf i hi 1 _ rfl
      obtain ⟨z0, e0, -, b0⟩ := DataW.trod_int Tryd.underlying22 t0
      obtain ⟨z1, e1, -, b1⟩ := DataW.trod_int Tryd.underlying5 t1
      simp at e0 e1
      subst e0 e1
      exact ⟨(z0, z1), c0, c1, u16_of b0, u8_of b1⟩
    obtain ⟨zs, hzl, hz⟩ := list_of len _ key
    refine ⟨some ad, len, cap, zs, rfl, hzl, fun h0 => ?_, fun z hzm => ?_, hl, hm⟩
    · obtain ⟨c0, _⟩ := hz 0 h0
      rw [Nat.zero_mul] at c0
      obtain ⟨b, o, rfl⟩ := spot_of c0
      refine ⟨b, o, rfl, fun j hj => ?_⟩
      obtain ⟨c0, c1, h1⟩ := hz j hj
      rw [Addr.add_lit] at c0 c1
      exact ⟨c0, by rw [Nat.add_assoc]; exact c1⟩
    · obtain ⟨j, hj, rfl⟩ := List.mem_iff_getElem.1 hzm
      exact (hz j hj).2.2

set_option maxRecDepth 100000 in
theorem open_regs {r : Reach} {b0 : Nat} {v : Value} {d : DataW H} {p : List MemPlace} (hv : Value.okWide Tryd.prog w r b0 24 v) (h : DataW.Trod enc Tryd.prog w base (fun _ => true) held 24 v d p) :
    ∃ a x y s p pc : Int, v = .agg #[.int .u8 a, .int .u8 x, .int .u8 y, .int .u8 s, .int .u8 p, .int .u16 pc] ∧ byte a ∧ byte x ∧ byte y ∧ byte s ∧ byte p ∧ u16 pc := by
  obtain ⟨cs, rfl, hsz⟩ := okWide_struct Tryd.underlying24 hv
  rw [cellsRegs] at hsz
  obtain ⟨cl⟩ := cs
  obtain ⟨v0, v1, v2, v3, v4, v5, rfl⟩ := list6 cl hsz
  obtain ⟨fuel, hf⟩ := h
  obtain ⟨ys, m, -, -, -, hyl, hx⟩ := DataW.trod_struct Tryd.underlying24 hf
  have hlen : ys.length = 6 := hyl
  have h0 := hx 0 _ rfl
  have h1 := hx 1 _ rfl
  have h2 := hx 2 _ rfl
  have h3 := hx 3 _ rfl
  have h4 := hx 4 _ rfl
  have h5 := hx 5 _ rfl
  simp only [Value.cells] at h0 h1 h2 h3 h4 h5
  rw [List.getElem?_eq_getElem (by omega)] at h0 h1 h2 h3 h4 h5
  obtain ⟨a, e0, ba⟩ := one_u8 h0
  obtain ⟨x, e1, bx⟩ := one_u8 h1
  obtain ⟨y, e2, by'⟩ := one_u8 h2
  obtain ⟨s, e3, bs⟩ := one_u8 h3
  obtain ⟨p, e4, bp⟩ := one_u8 h4
  obtain ⟨pc, e5, -, bpc⟩ := DataW.trod_int Tryd.underlying22 h5
  simp at e0 e1 e2 e3 e4 e5
  try rw [Rb.cells1b] at e0 e1 e2 e3 e4
  try rw [cells1w] at e5
  try simp at e0 e1 e2 e3 e4 e5
  subst e0 e1 e2 e3 e4 e5
  exact ⟨a, x, y, s, p, pc, rfl, ba, bx, by', bs, bp, u16_of bpc⟩

set_option maxRecDepth 100000 in
theorem open_rest {r : Reach} {b0 : Nat} {v : Value} {d : DataW H} {p : List MemPlace} (hv : Value.okWide Tryd.prog w r b0 28 v) (h : DataW.Trod enc Tryd.prog w base (fun _ => true) held 28 v d p) :
    ∃ (fl : Int) (A : Option Addr) (n c : Nat) (zs : List (Int × Int)), v = .agg #[.int .u8 fl, .slice A n c] ∧ byte fl ∧ zs.length = n ∧ Pk.PkRd w A zs ∧ (∀ z ∈ zs, u16 z.1 ∧ byte z.2) ∧ n ≤ c ∧ c ≤ maxLen := by
  obtain ⟨cs, rfl, hsz⟩ := okWide_struct Tryd.underlying28 hv
  rw [cellsRest] at hsz
  obtain ⟨cl⟩ := cs
  obtain ⟨v0, v1, rfl⟩ := list2 cl hsz
  obtain ⟨fuel, hf⟩ := h
  obtain ⟨ys, m, -, -, -, hyl, hx⟩ := DataW.trod_struct Tryd.underlying28 hf
  have hlen : ys.length = 2 := hyl
  have h0 := hx 0 _ rfl
  have h1 := hx 1 _ rfl
  simp only [Value.cells] at h0 h1
  rw [List.getElem?_eq_getElem (by omega)] at h0 h1
  obtain ⟨a, e0, ba⟩ := one_u8 h0
  simp at e0
  try rw [Rb.cells1b] at e0
  try simp at e0
  subst e0
  have e1 : DataW.trod enc Tryd.prog w base (fun _ => true) held m 26 [v1] = some ys[1] := h1
  obtain ⟨A, n, c, zs, rfl, g1, g2, g3, g4, g5⟩ := row_pokes e1
  exact ⟨a, A, n, c, zs, rfl, ba, g1, g2, g3, g4, g5⟩

set_option maxRecDepth 100000 in
theorem open_three {r : Reach} {b0 : Nat} {v : Value} {d : DataW H} {p : List MemPlace} (hv : Value.okWide Tryd.prog w r b0 25 v) (h : DataW.Trod enc Tryd.prog w base (fun _ => true) held 25 v d p) :
    ∃ a b c : Int, v = .agg #[.int .u8 a, .int .u8 b, .int .u8 c] ∧ byte a ∧ byte b ∧ byte c := by
  obtain ⟨cs, rfl, hsz, _⟩ : ∃ cs, v = .agg cs ∧ cs.size = Tryd.prog.cellsOf 25 ∧ Row.okWide Tryd.prog w r b0 25 cs := by
    simpa [Value.okWide, Tryd.underlying25] using hv
  rw [cells3b] at hsz
  obtain ⟨cl⟩ := cs
  obtain ⟨fuel, hf⟩ := h
  obtain ⟨c0, c1, c2, rfl⟩ := list3 cl hsz
  simp only [Value.cells] at hf
  obtain ⟨xs, m, -, -, -, hl, hx⟩ := DataW.trod_array Tryd.underlying25 hf
  obtain ⟨y0, y1, y2, rfl⟩ := list3 xs hl
  have h0 := hx 0 (by decide)
  have h1 := hx 1 (by decide)
  have h2 := hx 2 (by decide)
  rw [Rb.cells1b] at h0 h1 h2
  obtain ⟨z0, e0, b0⟩ := one_u8 h0
  obtain ⟨z1, e1, b1⟩ := one_u8 h1
  obtain ⟨z2, e2, b2⟩ := one_u8 h2
  simp at e0 e1 e2
  subst e0 e1 e2
  exact ⟨z0, z1, z2, rfl, b0, b1, b2⟩
end

end Ms
end Go.Proofs.YtlnpadekgakghaaDoor

namespace Go.Proofs.YtlnpadekgakghaaDoor
open Go.RowKit
namespace Ms

theorem gTab : Tryd.prog.globalNamed "picklock/mos.opcodes" = some 0 := by kernel_rfl
theorem gTabType : (Tryd.prog.globals[0]?).map (·.type) = some 79 := by kernel_rfl
theorem cellsTab : Tryd.prog.cellsOf 79 = 151 := by kernel_rfl
theorem cellsU32 : Tryd.prog.cellsOf 63 = 1 := by kernel_rfl
theorem word_at : ∀ r : Fin 151, ([14087, 65702, 327731, 397109, 537347, 589858, 659218, 852068, 921446, 1056706, 1114293, 1376324, 1445702, 1582850, 1638532, 1900660, 1970039, 2109542, 2163110, 2361395, 2425139, 2494517, 2635012, 2687266, 2756626, 2885732, 2949476, 3018854, 3154114, 3211701, 3473732, 3543110, 3681026, 3735940, 3998068, 4067447, 4208134, 4260518, 4522547, 4591925, 4731395, 4784674, 4854034, 4992867, 5046884, 5116262, 5251522, 5309109, 5571140, 5640518, 5777410, 5833348, 6095476, 6164855, 6304006, 6357926, 6619955, 6689333, 6829060, 6882082, 6951442, 7090069, 7144292, 7213670, 7348930, 7406517, 7668548, 7737926, 7875586, 7930756, 8192884, 8262263, 8457382, 8654387, 8719411, 8785203, 8918530, 9050882, 9178724, 9243748, 9309540, 9446338, 9505974, 9702980, 9768004, 9833812, 9968642, 10030213, 10100226, 10292341, 10488610, 10553766, 10619426, 10750771, 10815795, 10881587, 11016706, 11077922, 11147522, 11275108, 11340132, 11405924, 11543746, 11602357, 11799364, 11864388, 11930196, 12069122, 12126596, 12197122, 12323700, 12388724, 12454532, 12584738, 12649894, 12846899, 12911923, 12981045, 13113346, 13174050, 13243650, 13371236, 13436260, 13505382, 13641154, 13698485, 13960516, 14029638, 14166530, 14222724, 14484852, 14553975, 14681634, 14746790, 14943795, 15008819, 15078453, 15210242, 15270946, 15347202, 15468132, 15533156, 15602790, 15738562, 15795381, 16057412, 16127046, 16264450, 16319620, 16581748, 16651383] : List Int).getD r 0 = ((wd r : Nat) : Int) := by decide +kernel
theorem tab_of {W : World} (h : laidMetH Tryd.prog [("picklock/mos.opcodes", Rows.laid_picklock_mos_opcodes)] W) : Tab W := by
  have hT : Lib.TabIs Tryd.prog W "picklock/mos.opcodes" .u32 [14087, 65702, 327731, 397109, 537347, 589858, 659218, 852068, 921446, 1056706, 1114293, 1376324, 1445702, 1582850, 1638532, 1900660, 1970039, 2109542, 2163110, 2361395, 2425139, 2494517, 2635012, 2687266, 2756626, 2885732, 2949476, 3018854, 3154114, 3211701, 3473732, 3543110, 3681026, 3735940, 3998068, 4067447, 4208134, 4260518, 4522547, 4591925, 4731395, 4784674, 4854034, 4992867, 5046884, 5116262, 5251522, 5309109, 5571140, 5640518, 5777410, 5833348, 6095476, 6164855, 6304006, 6357926, 6619955, 6689333, 6829060, 6882082, 6951442, 7090069, 7144292, 7213670, 7348930, 7406517, 7668548, 7737926, 7875586, 7930756, 8192884, 8262263, 8457382, 8654387, 8719411, 8785203, 8918530, 9050882, 9178724, 9243748, 9309540, 9446338, 9505974, 9702980, 9768004, 9833812, 9968642, 10030213, 10100226, 10292341, 10488610, 10553766, 10619426, 10750771, 10815795, 10881587, 11016706, 11077922, 11147522, 11275108, 11340132, 11405924, 11543746, 11602357, 11799364, 11864388, 11930196, 12069122, 12126596, 12197122, 12323700, 12388724, 12454532, 12584738, 12649894, 12846899, 12911923, 12981045, 13113346, 13174050, 13243650, 13371236, 13436260, 13505382, 13641154, 13698485, 13960516, 14029638, 14166530, 14222724, 14484852, 14553975, 14681634, 14746790, 14943795, 15008819, 15078453, 15210242, 15270946, 15347202, 15468132, 15533156, 15602790, 15738562, 15795381, 16057412, 16127046, 16264450, 16319620, 16581748, 16651383] :=
    Lib.tabIs_of_head (rest := []) gTab gTabType Tryd.underlying79 Tryd.underlying63 cellsU32 cellsTab h
  intro r hr
  have h1 := hT.cell gTab r (by simpa using hr)
  rw [h1, word_at ⟨r, hr⟩]

end Ms
end Go.Proofs.YtlnpadekgakghaaDoor
