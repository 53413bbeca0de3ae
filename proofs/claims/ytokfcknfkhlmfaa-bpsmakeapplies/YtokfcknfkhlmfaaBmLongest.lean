/-
  Contract of bpsmake's longest. Conditions: texts of up to 1000000000 bytes.
-/
import Derived.Test.YtokfcknfkhlmfaaBmIndex
import Derived.WalkMore
import Derived.Deep.LoopGhost
namespace Go.Proofs.Ytokfcknfkhlmfaa
open Go.RowKit
namespace Bm

/-- n bytes from p on of a text are those from u on of b; they begin ahead of hi. -/
def Hit (t b : List UInt8) (hi u p n : Nat) : Prop := (n = 0 ∧ p = 0) ∨ (0 < n ∧ p < hi ∧ p + n ≤ t.length ∧ u + n ≤ b.length ∧ (t.drop p).take n = (b.drop u).take n)
/-- As many as from the place behind which f stands. -/
def Most (t b : List UInt8) (f u n : Nat) : Prop := ∀ p0, f = p0 + 1 → alk (t.drop p0) (b.drop u) ≤ n
/-- What longest tells. -/
def Long (t b : List UInt8) (hi f u p n : Nat) : Prop := Hit t b hi u p n ∧ Most t b f u n

/-- Between two looks. -/
structure Lo (t b : List UInt8) (hi f u v p n : Nat) : Prop where
  hv : v ≤ hi
  hv3 : v = 0 ∨ v + 3 ≤ t.length
  hit : Hit t b hi u p n
  low : n < b.length - u
  down : n = 0 ∨ v ≤ p
  most : (v = f ∧ n = 0) ∨ Most t b f u n

theorem Lo.start {t b : List UInt8} {hi f u : Nat} (hf : f ≤ hi) (hf3 : f = 0 ∨ f + 3 ≤ t.length) (hu : u < b.length) : Lo t b hi f u f 0 0 :=
  ⟨hf, hf3, .inl ⟨rfl, rfl⟩, by omega, .inl rfl, .inl ⟨rfl, rfl⟩⟩
theorem Lo.stop {t b : List UInt8} {hi f u p n : Nat} (h : Lo t b hi f u 0 p n) : Long t b hi f u p n := by
  refine ⟨h.hit, ?_⟩
  rcases h.most with ⟨h1, _⟩ | h1
  · intro p0 h2
    omega
  · exact h1
theorem Lo.room {t b : List UInt8} {hi f u v p n : Nat} (h : Lo t b hi f u v p n) (hv : 0 < v) : n < t.length - (v - 1) ∧ v - 1 < t.length := by
  have h3 := h.hv3
  rcases h.hit with ⟨h1, h2⟩ | ⟨h1, h2, h4, _⟩
  · omega
  · rcases h.down with h5 | h5 <;> omega
/-- A place that is no better. -/
theorem Lo.skip {t b : List UInt8} {hi f u v p n v' k : Nat} (h : Lo t b hi f u v p n) (hv : 0 < v) (h1 : v' ≤ v - 1) (h3 : v' = 0 ∨ v' + 3 ≤ t.length) (hk : k ≤ n) (hne : (t.drop (v - 1))[k]? ≠ (b.drop u)[k]?) : Lo t b hi f u v' p n ∧ Most t b f u n := by
  have key : Most t b f u n := ?_
  refine ⟨⟨by have := h.hv; omega, h3, h.hit, h.low, ?_, .inr key⟩, key⟩
  · rcases h.down with h5 | h5
    · exact .inl h5
    · exact .inr (by omega)
  · rcases h.most with ⟨e1, e2⟩ | h5
    · intro p0 hp0
      obtain rfl : k = 0 := by omega
      have : v - 1 = p0 := by omega
      rw [this] at hne
      cases hc : alk (t.drop p0) (b.drop u) with
      | zero => omega
      | succ m =>
        exfalso
        have h6 := alk_take (t.drop p0) (b.drop u) 1 (by omega)
        have h7 := congrArg (fun l => l[0]?) h6
        simp only [List.getElem?_take_of_lt (show 0 < 1 by omega)] at h7
        exact hne h7
    · exact h5
/-- A better place. -/
theorem Lo.better {t b : List UInt8} {hi f u v p n : Nat} (h : Lo t b hi f u v p n) (hv : 0 < v) (heq : (t.drop (v - 1)).take (n + 1) = (b.drop u).take (n + 1)) : Long t b hi f u (v - 1) (alk (t.drop (v - 1)) (b.drop u)) ∧ n + 1 ≤ alk (t.drop (v - 1)) (b.drop u) := by
  obtain ⟨r1, r2⟩ := h.room hv
  have hl := h.low
  have hge := alk_ge (t.drop (v - 1)) (b.drop u) (n + 1) (by rw [List.length_drop]; omega) (by rw [List.length_drop]; omega) heq
  have a1 := alk_le1 (t.drop (v - 1)) (b.drop u)
  have a2 := alk_le2 (t.drop (v - 1)) (b.drop u)
  rw [List.length_drop] at a1 a2
  refine ⟨⟨.inr ⟨by omega, by have := h.hv; omega, by omega, by omega, alk_take _ _ _ (Nat.le_refl _)⟩, ?_⟩, hge⟩
  rcases h.most with ⟨e1, e2⟩ | h5
  · intro p0 hp0
    have : v - 1 = p0 := by omega
    rw [this]
    exact Nat.le_refl _
  · intro p0 hp0
    have := h5 p0 hp0
    omega
theorem Lo.more {t b : List UInt8} {hi f u v v' m : Nat} (hb : Long t b hi f u (v - 1) m) (h1 : v' ≤ v - 1) (hhi : v' ≤ hi) (h3 : v' = 0 ∨ v' + 3 ≤ t.length) (hm : m < b.length - u) : Lo t b hi f u v' (v - 1) m :=
  ⟨hhi, h3, hb.1, hm, .inr h1, .inr hb.2⟩

theorem within_le (l : List UInt8) (i : Nat) : full l (within l) i ≤ i ∧ (full l (within l) i = 0 ∨ full l (within l) i + 3 ≤ l.length) := by
  unfold full
  split
  · have h1 := prev_le l (key4 l i) i
    refine ⟨h1, ?_⟩
    cases h : prev l (key4 l i) i with
    | zero => left; exact h
    | succ p => right; unfold within; rw [h]; have := prev_spec _ _ _ _ h; omega
  · omega
theorem across_le (a b : List UInt8) (i : Nat) : full b (across a b) i ≤ a.length ∧ (full b (across a b) i = 0 ∨ full b (across a b) i + 3 ≤ a.length) := by
  unfold full
  split
  · have h1 := prev_le a (key4 b i) a.length
    refine ⟨h1, ?_⟩
    cases h : prev a (key4 b i) a.length with
    | zero => left; exact h
    | succ p => right; unfold across; rw [h]; have := prev_spec _ _ _ _ h; omega
  · omega

set_option maxRecDepth 100000 in
set_option maxHeartbeats 4000000 in
theorem longest_in (w : World) (x u lk ca cb la lb : Nat) (A D : Option Addr) (a b : List UInt8) (hla : a.length = la) (hlb : b.length = lb) (hca : la ≤ ca) (hcb : lb ≤ cb) (hna : la ≤ 1000000000) (hnb : lb ≤ 1000000000) (hlk : lk ≤ 1000000000) (hA : Rd w A a) (hD : Rd w D b) (hu : u + 4 ≤ lb)
    (h : Idx w x A D ca cb a b) (hlk1 : 1 ≤ lk) :
    Calls Try.prog 74 #[.pointer (some ⟨x, 0, none⟩), .int .i64 0, .int .i64 (u : Int), .int .i64 (lk : Int)] w fun e w' => ∃ p n : Nat, e = .returned (.tuple #[.int .i64 (p : Int), .int .i64 (n : Int)]) ∧ Long a b la (across a b u) u p n ∧ Fr [] w w' := by
  obtain ⟨g0, g1, g2, hI, hr0, hr1, hr2⟩ := h
  rw [hla] at hI hr0
  rw [hlb] at hI hr1 hr2
  have HA := Lib.hid hA
  have HD := Lib.hid hD
  have Hla := Lib.hid hla
  have Hlb := Lib.hid hlb
  obtain ⟨y2, o2, rfl, hcD⟩ := hD (by omega)
  have HRD : Hid (∀ W, Fr [] w W → Rd W (some ⟨y2, o2 + u, none⟩) (b.drop u)) := Lib.hid (by
    intro W hW
    have h1 := Rd.cut hcD u (lb - u)
    rw [List.take_of_length_le (by rw [List.length_drop, hlb]; exact Nat.le_refl _)] at h1
    exact h1.later hW (by simp))
  obtain ⟨c0, c1, c2, c3, c4, c5⟩ := blk6' hI
  obtain ⟨f, hf⟩ : ∃ f, full b (across a b) u = f := ⟨_, rfl⟩
  have cf := hr1.get u (by omega)
  rw [hf] at cf
  have hfa : f = across a b u := by rw [← hf]; unfold full; rw [if_pos (by omega)]
  have hf1 := across_le a b u
  rw [hf, hla] at hf1
  obtain ⟨hf1, hf3⟩ := hf1
  have H0 : Hid (Lo a b la f u f 0 0) := Lib.hid (Lo.start hf1 (by rw [hla]; exact hf3) (by omega))
  have HQ : Hid (∀ W p n, Fr [] w W → Long a b la f u p n → ∃ p' n' : Nat, Ending.returned (.tuple #[.int .i64 (p : Int), .int .i64 (n : Int)]) = .returned (.tuple #[.int .i64 (p' : Int), .int .i64 (n' : Int)]) ∧ Long a b la (across a b u) u p' n' ∧ Fr [] w W) := Lib.hid fun W p n h1 h2 => ⟨p, n, rfl, hfa ▸ h2, h1⟩
  have HI : Hid (∀ W, Fr [] w W → W.cell? ⟨x, 0, none⟩ = some (.slice A la ca) ∧ W.cell? ⟨x, 4, none⟩ = some (.slice (some ⟨g0, 0, none⟩) la la)) := Lib.hid fun W hW => ⟨hW.cell c0 (by simp), hW.cell c4 (by simp)⟩
  have HB : Hid (∀ (W : World) (v : Nat), Fr [] w W → 0 < v → v ≤ la → ∃ v' : Nat, W.cell? ⟨g0, v - 1, none⟩ = some (.int .i32 (v' : Int)) ∧ v' ≤ v - 1 ∧ (v' = 0 ∨ v' + 3 ≤ la)) := Lib.hid (by
    intro W v hW hv hv2
    have h1 := (hr0.fr hW (by simp)).get (v - 1) (by omega)
    have h2 := within_le a (v - 1)
    rw [hla] at h2
    exact ⟨_, h1, h2⟩)
  have iu0 : (0 : Int) ≤ u := by omega
  have iu1 : (u : Int) < lb := by omega
  have iu2 : (u : Int) ≤ cb := by omega
  have iu3 : ¬ cb = u := by omega
  have iu4 : u ≤ cb := by omega
  have iu5 : (u : Int) ≤ lb := by omega
  have iu6 : u ≤ lb := by omega
  have hwf : IntKind.i64.wrap (f : Int) = (f : Int) := by rw [IntKind.wrap_i64]; omega
  clear hA hD hI hr0 hr1 hr2 hcD hf hfa hla hlb c0 c3 c4 c5 hf3
  go_enter Try.func74, Try.ntmps74
  go_wp2_with fail
  go_step3
  go_wp2_with fail
  go_step3
  go_wp2_with fail
  clear c1 c2 cf
  go_loopw [3, 8, 9, 11] (fun s3 s8 s9 s11 wr => ∃ k p n v : Nat, s3 = .int .i64 (k : Int) ∧ s8 = .int .i64 (p : Int) ∧ s9 = .int .i64 (n : Int) ∧ s11 = .int .i64 (v : Int) ∧ k ≤ lk ∧ (k = 0 → Most a b f u n) ∧ Lo a b la f u v p n ∧ Fr [] w wr) (fun s3 _ _ _ _ => (intOf s3).toNat)
  case atStart => exact ⟨lk, 0, 0, f, rfl, rfl, rfl, rfl, Nat.le_refl _, fun h => by omega, H0.out, Fr.refl _ _⟩
  case round =>
    obtain ⟨k, p, n, v, rfl, rfl, rfl, rfl, hk, hk0, hL, hF⟩ := hrel
    have HL := Lib.hid hL
    have HF := Lib.hid hF
    have Hk0 := Lib.hid hk0
    clear hL hF hk0 H0
    by_cases hv0 : v = 0
    · subst hv0
      have HE : Hid (Long a b la f u p n) := Lib.hid HL.out.stop
      go_wp2_with fail
      try rw [Exit.noGoto_ret]
      go_ret2
      exact HQ.out _ p n HF.out HE.out
    · have hvp : 0 < v := by omega
      have hvi : (0 : Int) < v := by omega
      by_cases hk1 : k = 0
      · subst hk1
        have HE : Hid (Long a b la f u p n) := Lib.hid ⟨HL.out.hit, Hk0.out rfl⟩
        go_wp2_with fail
        try rw [Exit.noGoto_ret]
        go_ret2
        exact HQ.out _ p n HF.out HE.out
      · have hkp : 0 < k := by omega
        have hki : (0 : Int) < k := by omega
        obtain ⟨k1, hk2⟩ : ∃ k1, k1 + 1 = k := ⟨k - 1, by omega⟩
        have hk3 : (k : Int) - 1 = (k1 : Int) := by omega
        have hk4 : IntKind.i64.wrap (k1 : Int) = (k1 : Int) := by rw [IntKind.wrap_i64]; omega
        obtain ⟨V, hV⟩ : ∃ V, V + 1 = v := ⟨v - 1, by omega⟩
        have hV2 : v - 1 = V := by omega
        have hV1 : (v : Int) - 1 = (V : Int) := by omega
        have hroom := HL.out.room hvp
        rw [Hla.out, hV2] at hroom
        obtain ⟨hr1, hr2⟩ := hroom
        have hlow := HL.out.low
        rw [Hlb.out] at hlow
        have hvla := HL.out.hv
        have hV3 : IntKind.i64.wrap (V : Int) = (V : Int) := by rw [IntKind.wrap_i64]; omega
        have hV4 : (V : Int) < la := by omega
        have hV5 : (V : Int) ≤ ca := by omega
        have hV6 : ¬ ca = V := by omega
        have hV7 : V ≤ ca := by omega
        have hV8 : (0 : Int) ≤ V := by omega
        have hV9 : (V : Int) ≤ la := by omega
        have hV10 : V ≤ la := by omega
        obtain ⟨y1, o1, rfl, hcA⟩ := HA.out (by rw [Hla.out]; omega)
        have HRA : Hid (∀ W, Fr [] w W → Rd W (some ⟨y1, o1 + V, none⟩) (a.drop V)) := Lib.hid (by
          intro W hW
          have h1 := Rd.cut hcA V (la - V)
          rw [List.take_of_length_le (by rw [List.length_drop, Hla.out]; exact Nat.le_refl _)] at h1
          exact h1.later hW (by simp))
        obtain ⟨ci0, ci4⟩ := HI.out _ HF.out
        clear hcA ci4
        go_wp2_with fail
        clear ci0
        go_loopw [13] (fun s wr => ∃ z : Int, s = .int .i64 z ∧ -1 ≤ z ∧ z ≤ n ∧ (∀ j : Nat, z < j → j ≤ n → (a.drop V)[j]? = (b.drop u)[j]?) ∧ Fr [] w wr) (fun s _ => (intOf s + 1).toNat)
        case atStart => exact ⟨(n : Int), rfl, by omega, by omega, fun j h1 h2 => by omega, HF.out⟩
        case round =>
          obtain ⟨z, rfl, hz1, hz2, hz3, hF2⟩ := hrel
          have HF2 := Lib.hid hF2
          have HZ := Lib.hid hz3
          clear hF2 hz3 HF
          by_cases hz : 0 ≤ z
          · obtain ⟨J, rfl⟩ : ∃ J : Nat, z = J := ⟨z.toNat, by omega⟩
            obtain ⟨b1, q1, x1, e1, hx1, cx1⟩ := (HRA.out _ HF2.out).at J (by rw [List.length_drop, Hla.out]; omega)
            obtain ⟨b2, q2, x2, e2, hx2, cx2⟩ := (HRD.out _ HF2.out).at J (by rw [List.length_drop, Hlb.out]; omega)
            injection e1 with e1
            injection e1 with e11 e12
            injection e2 with e2
            injection e2 with e21 e22
            subst e11 e12 e21 e22
            have i1 : (J : Int) < ((la - V : Nat) : Int) := by omega
            have i2 : (J : Int) < ((lb - u : Nat) : Int) := by omega
            have i3 : J < la - V := by omega
            have i4 : J < lb - u := by omega
            by_cases hxx : x1 = x2
            · subst hxx
              have hne : ((x1.toNat : Int) != (x1.toNat : Int)) = false := by simp
              go_wp2_with fail
              go_quiet (fail)
              go_wp2
              go_roundw
              case rel =>
                refine ⟨(J : Int) - 1, by go_num, by omega, by omega, fun j h1 h2 => ?_, HF2.out.drewN _⟩
                by_cases hj : j = J
                · subst hj; rw [hx1, hx2]
                · exact HZ.out j (by omega) h2
              case measure => simp [intOf]
            · have hne : ((x1.toNat : Int) != (x2.toNat : Int)) = true := by
                simp only [bne_iff_ne, ne_eq]
                intro h
                exact hxx (UInt8.toNat_inj.1 (by omega))
              obtain ⟨v', cv, hv1, hv3⟩ := HB.out _ v HF2.out hvp hvla
              rw [hV2] at cv hv1
              obtain ⟨-, ci4⟩ := HI.out _ HF2.out
              have hwv : IntKind.i64.wrap (v' : Int) = (v' : Int) := by rw [IntKind.wrap_i64]; omega
              have HS : Hid (Lo a b la f u v' p n ∧ Most a b f u n) := Lib.hid (HL.out.skip hvp (by omega) (by rw [Hla.out]; exact hv3) (k := J) (by omega) (by rw [hV2, hx1, hx2]; simpa using hxx))
              go_wp2_with fail
              go_quiet (fail)
              go_wp2
              go_roundw
              case rel => exact ⟨k1, p, n, v', rfl, rfl, rfl, by go_num, by omega, fun _ => HS.out.2, HS.out.1, HF2.out.drewN _⟩
              case measure => simp [intOf]; omega
          · have hzz : z = -1 := by omega
            subst hzz
            have HEq : Hid ((a.drop V).take (n + 1) = (b.drop u).take (n + 1)) := Lib.hid (by
              apply List.ext_getElem?
              intro j
              by_cases hj : j < n + 1
              · rw [List.getElem?_take_of_lt hj, List.getElem?_take_of_lt hj]
                exact HZ.out j (by omega) (by omega)
              · rw [List.getElem?_eq_none (by rw [List.length_take]; omega), List.getElem?_eq_none (by rw [List.length_take]; omega)])
            have hbet := HL.out.better hvp (by rw [hV2]; exact HEq.out)
            rw [hV2] at hbet
            obtain ⟨m, hm⟩ : ∃ m, alk (a.drop V) (b.drop u) = m := ⟨_, rfl⟩
            rw [hm] at hbet
            obtain ⟨hbet, hmn⟩ := hbet
            have HBet := Lib.hid hbet
            have hm2 : m ≤ lb - u := by rw [← hm]; have := alk_le2 (a.drop V) (b.drop u); rwa [List.length_drop, Hlb.out] at this
            obtain ⟨n1, hn1⟩ : ∃ n1, n + 1 = n1 := ⟨_, rfl⟩
            have hn2 : (n : Int) + 1 = (n1 : Int) := by omega
            have hn3 : IntKind.i64.wrap (n1 : Int) = (n1 : Int) := by rw [IntKind.wrap_i64]; omega
            have HC : Hid (Calls Try.prog 72 #[.slice (some ⟨y1, o1 + V, none⟩) (la - V) (ca - V), .slice (some ⟨y2, o2 + u, none⟩) (lb - u) (cb - u), .int .i64 (n1 : Int)] wr fun e w' => e = .returned (.int .i64 (m : Int)) ∧ Fr [] wr w') := Lib.hid (by
              rw [← hm]
              exact alike_any wr _ _ (la - V) (ca - V) (lb - u) (cb - u) n1 (a.drop V) (b.drop u) (by rw [List.length_drop, Hla.out]) (by rw [List.length_drop, Hlb.out]) (HRA.out _ HF2.out) (HRD.out _ HF2.out) (by omega) (by omega) (by omega) (by rw [← hn1]; exact HEq.out))
            clear hm hbet
            go_wp2_with fail
            refine HC.out.mono ?_
            rintro e w3 ⟨rfl, hf3⟩
            have HF3 := Lib.hid (HF2.out.tr hf3)
            clear hf3 HC
            by_cases hml : m = lb - u
            · have e1 : ((m : Int) == ((lb - u : Nat) : Int)) = true := by simp; omega
              go_wp2_with fail
              try rw [Exit.noGoto_ret]
              go_ret2
              have hh := HQ.out w3 V m HF3.out HBet.out
              rw [hml] at hh
              exact hh
            · have e1 : ((m : Int) == ((lb - u : Nat) : Int)) = false := by simp; omega
              obtain ⟨v', cv, hv1, hv3⟩ := HB.out _ v HF3.out hvp hvla
              rw [hV2] at cv hv1
              obtain ⟨-, ci4⟩ := HI.out _ HF3.out
              have hwv : IntKind.i64.wrap (v' : Int) = (v' : Int) := by rw [IntKind.wrap_i64]; omega
              have HS : Hid (Lo a b la f u v' V m) := Lib.hid (by
                have h1 := HBet.out
                rw [← hV2] at h1 ⊢
                exact Lo.more h1 (by omega) (by omega) (by rw [Hla.out]; exact hv3) (by rw [Hlb.out]; omega))
              go_wp2
              go_roundw
              case rel => exact ⟨k1, V, m, v', rfl, rfl, rfl, by go_num, by omega, fun _ => HBet.out.2, HS.out, HF3.out⟩
              case measure => simp [intOf]; omega

set_option maxRecDepth 100000 in
set_option maxHeartbeats 4000000 in
theorem longest_out (w : World) (x u lk ca cb lb : Nat) (A D : Option Addr) (a b : List UInt8) (hlb : b.length = lb) (hcb : lb ≤ cb) (hnb : lb ≤ 1000000000) (hlk : lk ≤ 1000000000) (hD : Rd w D b) (hu : u + 4 ≤ lb)
    (h : Idx w x A D ca cb a b) (hlk1 : 1 ≤ lk) :
    Calls Try.prog 74 #[.pointer (some ⟨x, 0, none⟩), .int .i64 1, .int .i64 (u : Int), .int .i64 (lk : Int)] w fun e w' => ∃ p n : Nat, e = .returned (.tuple #[.int .i64 (p : Int), .int .i64 (n : Int)]) ∧ Long b b u (within b u) u p n ∧ Fr [] w w' := by
  obtain ⟨g0, g1, g2, hI, hr0, hr1, hr2⟩ := h
  rw [hlb] at hI hr1 hr2
  have HD := Lib.hid hD
  have Hlb := Lib.hid hlb
  obtain ⟨y2, o2, rfl, hcD⟩ := hD (by omega)
  have HCD := Lib.hid hcD
  have HRD : Hid (∀ W, Fr [] w W → Rd W (some ⟨y2, o2 + u, none⟩) (b.drop u)) := Lib.hid (by
    intro W hW
    have h1 := Rd.cut hcD u (lb - u)
    rw [List.take_of_length_le (by rw [List.length_drop, hlb]; exact Nat.le_refl _)] at h1
    exact h1.later hW (by simp))
  obtain ⟨c0, c1, c2, c3, c4, c5⟩ := blk6' hI
  obtain ⟨f, hf⟩ : ∃ f, full b (within b) u = f := ⟨_, rfl⟩
  have cf := hr2.get u (by omega)
  rw [hf] at cf
  have hfa : f = within b u := by rw [← hf]; unfold full; rw [if_pos (by omega)]
  have hf1 := within_le b u
  rw [hf, hlb] at hf1
  obtain ⟨hf1, hf3⟩ := hf1
  have H0 : Hid (Lo b b u f u f 0 0) := Lib.hid (Lo.start hf1 (by rw [hlb]; exact hf3) (by omega))
  have HQ : Hid (∀ W p n, Fr [] w W → Long b b u f u p n → ∃ p' n' : Nat, Ending.returned (.tuple #[.int .i64 (p : Int), .int .i64 (n : Int)]) = .returned (.tuple #[.int .i64 (p' : Int), .int .i64 (n' : Int)]) ∧ Long b b u (within b u) u p' n' ∧ Fr [] w W) := Lib.hid fun W p n h1 h2 => ⟨p, n, rfl, hfa ▸ h2, h1⟩
  have HI : Hid (∀ W, Fr [] w W → W.cell? ⟨x, 1, none⟩ = some (.slice (some ⟨y2, o2, none⟩) lb cb) ∧ W.cell? ⟨x, 5, none⟩ = some (.slice (some ⟨g2, 0, none⟩) lb lb)) := Lib.hid fun W hW => ⟨hW.cell c1 (by simp), hW.cell c5 (by simp)⟩
  have HB : Hid (∀ (W : World) (v : Nat), Fr [] w W → 0 < v → v ≤ u → ∃ v' : Nat, W.cell? ⟨g2, v - 1, none⟩ = some (.int .i32 (v' : Int)) ∧ v' ≤ v - 1 ∧ (v' = 0 ∨ v' + 3 ≤ lb)) := Lib.hid (by
    intro W v hW hv hv2
    have h1 := (hr2.fr hW (by simp)).get (v - 1) (by omega)
    have h2 := within_le b (v - 1)
    rw [hlb] at h2
    exact ⟨_, h1, h2⟩)
  have iu0 : (0 : Int) ≤ u := by omega
  have iu1 : (u : Int) < lb := by omega
  have iu2 : (u : Int) ≤ cb := by omega
  have iu3 : ¬ cb = u := by omega
  have iu4 : u ≤ cb := by omega
  have iu5 : (u : Int) ≤ lb := by omega
  have iu6 : u ≤ lb := by omega
  clear hcD
  have hwf : IntKind.i64.wrap (f : Int) = (f : Int) := by rw [IntKind.wrap_i64]; omega
  clear hD hI hr0 hr1 hr2 hf hfa hlb c0 c2 c4 c5 hf3
  go_enter Try.func74, Try.ntmps74
  go_wp2_with fail
  go_step3
  go_wp2_with fail
  go_step3
  go_wp2_with fail
  clear c1 c3 cf
  go_loopw [3, 8, 9, 11] (fun s3 s8 s9 s11 wr => ∃ k p n v : Nat, s3 = .int .i64 (k : Int) ∧ s8 = .int .i64 (p : Int) ∧ s9 = .int .i64 (n : Int) ∧ s11 = .int .i64 (v : Int) ∧ k ≤ lk ∧ (k = 0 → Most b b f u n) ∧ Lo b b u f u v p n ∧ Fr [] w wr) (fun s3 _ _ _ _ => (intOf s3).toNat)
  case atStart => exact ⟨lk, 0, 0, f, rfl, rfl, rfl, rfl, Nat.le_refl _, fun h => by omega, H0.out, Fr.refl _ _⟩
  case round =>
    obtain ⟨k, p, n, v, rfl, rfl, rfl, rfl, hk, hk0, hL, hF⟩ := hrel
    have HL := Lib.hid hL
    have HF := Lib.hid hF
    have Hk0 := Lib.hid hk0
    clear hL hF hk0 H0
    by_cases hv0 : v = 0
    · subst hv0
      have HE : Hid (Long b b u f u p n) := Lib.hid HL.out.stop
      go_wp2_with fail
      try rw [Exit.noGoto_ret]
      go_ret2
      exact HQ.out _ p n HF.out HE.out
    · have hvp : 0 < v := by omega
      have hvi : (0 : Int) < v := by omega
      by_cases hk1 : k = 0
      · subst hk1
        have HE : Hid (Long b b u f u p n) := Lib.hid ⟨HL.out.hit, Hk0.out rfl⟩
        go_wp2_with fail
        try rw [Exit.noGoto_ret]
        go_ret2
        exact HQ.out _ p n HF.out HE.out
      · have hkp : 0 < k := by omega
        have hki : (0 : Int) < k := by omega
        obtain ⟨k1, hk2⟩ : ∃ k1, k1 + 1 = k := ⟨k - 1, by omega⟩
        have hk3 : (k : Int) - 1 = (k1 : Int) := by omega
        have hk4 : IntKind.i64.wrap (k1 : Int) = (k1 : Int) := by rw [IntKind.wrap_i64]; omega
        obtain ⟨V, hV⟩ : ∃ V, V + 1 = v := ⟨v - 1, by omega⟩
        have hV2 : v - 1 = V := by omega
        have hV1 : (v : Int) - 1 = (V : Int) := by omega
        have hroom := HL.out.room hvp
        rw [Hlb.out, hV2] at hroom
        obtain ⟨hr1, hr2⟩ := hroom
        have hlow := HL.out.low
        rw [Hlb.out] at hlow
        have hvla := HL.out.hv
        have hV3 : IntKind.i64.wrap (V : Int) = (V : Int) := by rw [IntKind.wrap_i64]; omega
        have hV4 : (V : Int) < lb := by omega
        have hV5 : (V : Int) ≤ cb := by omega
        have hV6 : ¬ cb = V := by omega
        have hV7 : V ≤ cb := by omega
        have hV8 : (0 : Int) ≤ V := by omega
        have hV9 : (V : Int) ≤ lb := by omega
        have hV10 : V ≤ lb := by omega
        have HRA : Hid (∀ W, Fr [] w W → Rd W (some ⟨y2, o2 + V, none⟩) (b.drop V)) := Lib.hid (by
          intro W hW
          have h1 := Rd.cut HCD.out V (lb - V)
          rw [List.take_of_length_le (by rw [List.length_drop, Hlb.out]; exact Nat.le_refl _)] at h1
          exact h1.later hW (by simp))
        obtain ⟨ci0, ci4⟩ := HI.out _ HF.out
        clear ci4
        go_wp2_with fail
        clear ci0
        go_loopw [13] (fun s wr => ∃ z : Int, s = .int .i64 z ∧ -1 ≤ z ∧ z ≤ n ∧ (∀ j : Nat, z < j → j ≤ n → (b.drop V)[j]? = (b.drop u)[j]?) ∧ Fr [] w wr) (fun s _ => (intOf s + 1).toNat)
        case atStart => exact ⟨(n : Int), rfl, by omega, by omega, fun j h1 h2 => by omega, HF.out⟩
        case round =>
          obtain ⟨z, rfl, hz1, hz2, hz3, hF2⟩ := hrel
          have HF2 := Lib.hid hF2
          have HZ := Lib.hid hz3
          clear hF2 hz3 HF
          by_cases hz : 0 ≤ z
          · obtain ⟨J, rfl⟩ : ∃ J : Nat, z = J := ⟨z.toNat, by omega⟩
            obtain ⟨b1, q1, x1, e1, hx1, cx1⟩ := (HRA.out _ HF2.out).at J (by rw [List.length_drop, Hlb.out]; omega)
            obtain ⟨b2, q2, x2, e2, hx2, cx2⟩ := (HRD.out _ HF2.out).at J (by rw [List.length_drop, Hlb.out]; omega)
            injection e1 with e1
            injection e1 with e11 e12
            injection e2 with e2
            injection e2 with e21 e22
            subst e11 e12 e21 e22
            have i1 : (J : Int) < ((lb - V : Nat) : Int) := by omega
            have i2 : (J : Int) < ((lb - u : Nat) : Int) := by omega
            have i3 : J < lb - V := by omega
            have i4 : J < lb - u := by omega
            by_cases hxx : x1 = x2
            · subst hxx
              have hne : ((x1.toNat : Int) != (x1.toNat : Int)) = false := by simp
              go_wp2_with fail
              go_quiet (fail)
              go_wp2
              go_roundw
              case rel =>
                refine ⟨(J : Int) - 1, by go_num, by omega, by omega, fun j h1 h2 => ?_, HF2.out.drewN _⟩
                by_cases hj : j = J
                · subst hj; rw [hx1, hx2]
                · exact HZ.out j (by omega) h2
              case measure => simp [intOf]
            · have hne : ((x1.toNat : Int) != (x2.toNat : Int)) = true := by
                simp only [bne_iff_ne, ne_eq]
                intro h
                exact hxx (UInt8.toNat_inj.1 (by omega))
              obtain ⟨v', cv, hv1, hv3⟩ := HB.out _ v HF2.out hvp hvla
              rw [hV2] at cv hv1
              obtain ⟨-, ci4⟩ := HI.out _ HF2.out
              have hwv : IntKind.i64.wrap (v' : Int) = (v' : Int) := by rw [IntKind.wrap_i64]; omega
              have HS : Hid (Lo b b u f u v' p n ∧ Most b b f u n) := Lib.hid (HL.out.skip hvp (by omega) (by rw [Hlb.out]; exact hv3) (k := J) (by omega) (by rw [hV2, hx1, hx2]; simpa using hxx))
              go_wp2_with fail
              go_quiet (fail)
              go_wp2
              go_roundw
              case rel => exact ⟨k1, p, n, v', rfl, rfl, rfl, by go_num, by omega, fun _ => HS.out.2, HS.out.1, HF2.out.drewN _⟩
              case measure => simp [intOf]; omega
          · have hzz : z = -1 := by omega
            subst hzz
            have HEq : Hid ((b.drop V).take (n + 1) = (b.drop u).take (n + 1)) := Lib.hid (by
              apply List.ext_getElem?
              intro j
              by_cases hj : j < n + 1
              · rw [List.getElem?_take_of_lt hj, List.getElem?_take_of_lt hj]
                exact HZ.out j (by omega) (by omega)
              · rw [List.getElem?_eq_none (by rw [List.length_take]; omega), List.getElem?_eq_none (by rw [List.length_take]; omega)])
            have hbet := HL.out.better hvp (by rw [hV2]; exact HEq.out)
            rw [hV2] at hbet
            obtain ⟨m, hm⟩ : ∃ m, alk (b.drop V) (b.drop u) = m := ⟨_, rfl⟩
            rw [hm] at hbet
            obtain ⟨hbet, hmn⟩ := hbet
            have HBet := Lib.hid hbet
            have hm2 : m ≤ lb - u := by rw [← hm]; have := alk_le2 (b.drop V) (b.drop u); rwa [List.length_drop, Hlb.out] at this
            obtain ⟨n1, hn1⟩ : ∃ n1, n + 1 = n1 := ⟨_, rfl⟩
            have hn2 : (n : Int) + 1 = (n1 : Int) := by omega
            have hn3 : IntKind.i64.wrap (n1 : Int) = (n1 : Int) := by rw [IntKind.wrap_i64]; omega
            have HC : Hid (Calls Try.prog 72 #[.slice (some ⟨y2, o2 + V, none⟩) (lb - V) (cb - V), .slice (some ⟨y2, o2 + u, none⟩) (lb - u) (cb - u), .int .i64 (n1 : Int)] wr fun e w' => e = .returned (.int .i64 (m : Int)) ∧ Fr [] wr w') := Lib.hid (by
              rw [← hm]
              exact alike_any wr _ _ (lb - V) (cb - V) (lb - u) (cb - u) n1 (b.drop V) (b.drop u) (by rw [List.length_drop, Hlb.out]) (by rw [List.length_drop, Hlb.out]) (HRA.out _ HF2.out) (HRD.out _ HF2.out) (by omega) (by omega) (by omega) (by rw [← hn1]; exact HEq.out))
            clear hm hbet
            go_wp2_with fail
            refine HC.out.mono ?_
            rintro e w3 ⟨rfl, hf3⟩
            have HF3 := Lib.hid (HF2.out.tr hf3)
            clear hf3 HC
            by_cases hml : m = lb - u
            · have e1 : ((m : Int) == ((lb - u : Nat) : Int)) = true := by simp; omega
              go_wp2_with fail
              try rw [Exit.noGoto_ret]
              go_ret2
              have hh := HQ.out w3 V m HF3.out HBet.out
              rw [hml] at hh
              exact hh
            · have e1 : ((m : Int) == ((lb - u : Nat) : Int)) = false := by simp; omega
              obtain ⟨v', cv, hv1, hv3⟩ := HB.out _ v HF3.out hvp hvla
              rw [hV2] at cv hv1
              obtain ⟨-, ci4⟩ := HI.out _ HF3.out
              have hwv : IntKind.i64.wrap (v' : Int) = (v' : Int) := by rw [IntKind.wrap_i64]; omega
              have HS : Hid (Lo b b u f u v' V m) := Lib.hid (by
                have h1 := HBet.out
                rw [← hV2] at h1 ⊢
                exact Lo.more h1 (by omega) (by omega) (by rw [Hlb.out]; exact hv3) (by rw [Hlb.out]; omega))
              go_wp2
              go_roundw
              case rel => exact ⟨k1, V, m, v', rfl, rfl, rfl, by go_num, by omega, fun _ => HBet.out.2, HS.out, HF3.out⟩
              case measure => simp [intOf]; omega

end Bm
end Go.Proofs.Ytokfcknfkhlmfaa
