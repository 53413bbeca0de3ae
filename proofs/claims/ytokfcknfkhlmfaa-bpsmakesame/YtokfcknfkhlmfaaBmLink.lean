/-
  Contract of bpsmake's link: one part of the index. Conditions: texts of up to 1000000000 bytes; the index's rows, the map and the texts lie apart.
-/
import Derived.Test.YtokfcknfkhlmfaaBmAlike
import Derived.Deep.Cut
import Derived.Deep.RegionLaw
import Derived.Deep.RegionHeld3
namespace Go.Proofs.Ytokfcknfkhlmfaa
open Go.RowKit
namespace Bm

/-- An index in memory: the texts, and three rows. -/
def idxV (A D : Option Addr) (ca cb la lb g0 g1 g2 : Nat) : Array Value :=
  #[.slice A la ca, .slice D lb cb, .slice (some ⟨g1, 0, none⟩) lb lb, .slice (some ⟨g2, 0, none⟩) lb lb, .slice (some ⟨g0, 0, none⟩) la la, .slice (some ⟨g2, 0, none⟩) lb lb]

theorem blk6' {w : World} {b : Nat} {x0 x1 x2 x3 x4 x5 : Value} {t : TypeId} (h : Blk w b t #[x0, x1, x2, x3, x4, x5]) : w.cell? ⟨b, 0, none⟩ = some x0 ∧ w.cell? ⟨b, 1, none⟩ = some x1 ∧ w.cell? ⟨b, 2, none⟩ = some x2 ∧ w.cell? ⟨b, 3, none⟩ = some x3 ∧ w.cell? ⟨b, 4, none⟩ = some x4 ∧ w.cell? ⟨b, 5, none⟩ = some x5 := by
  have c0 := h.cell 0
  have c1 := h.cell 1
  have c2 := h.cell 2
  have c3 := h.cell 3
  have c4 := h.cell 4
  have c5 := h.cell 5
  simp at c0 c1 c2 c3 c4 c5
  exact ⟨c0, c1, c2, c3, c4, c5⟩

/-- Between two rounds. -/
structure Lk (w : World) (x M g0 g1 g2 la lb : Nat) (I : Array Value) (F0 F1 F2 : Nat → Nat) (Mf : List UInt8 → Nat × Nat) (W : World) : Prop where
  fr : Fr [g0, g1, g2, M] w W
  ib : Blk W x 133 I
  r0 : IRow W g0 la F0
  r1 : IRow W g1 lb F1
  r2 : IRow W g2 lb F2
  km : KMap W M Mf

theorem Lk.later {w : World} {x M g0 g1 g2 la lb : Nat} {I : Array Value} {F0 F1 F2 : Nat → Nat} {Mf : List UInt8 → Nat × Nat} {W W' : World} (h : Lk w x M g0 g1 g2 la lb I F0 F1 F2 Mf W) (hf : Fr [] W W') : Lk w x M g0 g1 g2 la lb I F0 F1 F2 Mf W' :=
  ⟨h.fr.tr hf.nil, h.ib.fr hf (by simp), h.r0.fr hf (by simp), h.r1.fr hf (by simp), h.r2.fr hf (by simp), h.km.fr hf (by simp)⟩
theorem Lk.fresh {w : World} {x M g0 g1 g2 la lb : Nat} {I : Array Value} {F0 F1 F2 : Nat → Nat} {Mf : List UInt8 → Nat × Nat} {W W' : World} (h : Lk w x M g0 g1 g2 la lb I F0 F1 F2 Mf W) {k : Nat} (hf : Fr [k] W W') (hk : W.heap.size ≤ k) : Lk w x M g0 g1 g2 la lb I F0 F1 F2 Mf W' :=
  h.later (hf.sub (by simp [hk]))
/-- A row's cell is set. -/
theorem Lk.put0 {w : World} {x M g0 g1 g2 la lb : Nat} {I : Array Value} {F0 F1 F2 : Nat → Nat} {Mf : List UInt8 → Nat × Nat} {W : World} (h : Lk w x M g0 g1 g2 la lb I F0 F1 F2 Mf W) (h1 : g0 ≠ g1) (h2 : g0 ≠ g2) (u v : Nat) :
    Lk w x M g0 g1 g2 la lb I (updN F0 u v) F1 F2 Mf (W.setCell ⟨g0, u, none⟩ (.int .i32 (v : Int))) := by
  have hf : Fr [g0] W (W.setCell ⟨g0, u, none⟩ (.int .i32 (v : Int))) := (Fr.refl _ _).setCell (by simp) _
  refine ⟨h.fr.trans hf (by simp), h.ib.fr hf ?_, h.r0.put u v, h.r1.fr hf (by simp; exact fun e => h1 e.symm), h.r2.fr hf (by simp; exact fun e => h2 e.symm), h.km.fr hf (by simp; exact fun e => h.km.other h.r0 e.symm)⟩
  simp
  exact h.ib.other h.r0 (by decide)
theorem Lk.put1 {w : World} {x M g0 g1 g2 la lb : Nat} {I : Array Value} {F0 F1 F2 : Nat → Nat} {Mf : List UInt8 → Nat × Nat} {W : World} (h : Lk w x M g0 g1 g2 la lb I F0 F1 F2 Mf W) (h1 : g0 ≠ g1) (h2 : g1 ≠ g2) (u v : Nat) :
    Lk w x M g0 g1 g2 la lb I F0 (updN F1 u v) F2 Mf (W.setCell ⟨g1, u, none⟩ (.int .i32 (v : Int))) := by
  have hf : Fr [g1] W (W.setCell ⟨g1, u, none⟩ (.int .i32 (v : Int))) := (Fr.refl _ _).setCell (by simp) _
  refine ⟨h.fr.trans hf (by simp), h.ib.fr hf ?_, h.r0.fr hf (by simp; exact h1), h.r1.put u v, h.r2.fr hf (by simp; exact fun e => h2 e.symm), h.km.fr hf (by simp; exact fun e => h.km.other h.r1 e.symm)⟩
  simp
  exact h.ib.other h.r1 (by decide)
theorem Lk.put2 {w : World} {x M g0 g1 g2 la lb : Nat} {I : Array Value} {F0 F1 F2 : Nat → Nat} {Mf : List UInt8 → Nat × Nat} {W : World} (h : Lk w x M g0 g1 g2 la lb I F0 F1 F2 Mf W) (h1 : g0 ≠ g2) (h2 : g1 ≠ g2) (u v : Nat) :
    Lk w x M g0 g1 g2 la lb I F0 F1 (updN F2 u v) Mf (W.setCell ⟨g2, u, none⟩ (.int .i32 (v : Int))) := by
  have hf : Fr [g2] W (W.setCell ⟨g2, u, none⟩ (.int .i32 (v : Int))) := (Fr.refl _ _).setCell (by simp) _
  refine ⟨h.fr.trans hf (by simp), h.ib.fr hf ?_, h.r0.fr hf (by simp; exact h1), h.r1.fr hf (by simp; exact h2), h.r2.put u v, h.km.fr hf (by simp; exact fun e => h.km.other h.r2 e.symm)⟩
  simp
  exact h.ib.other h.r2 (by decide)
/-- The map is written. -/
theorem Lk.mapped {w : World} {x M g0 g1 g2 la lb : Nat} {I : Array Value} {F0 F1 F2 : Nat → Nat} {Mf Mf' : List UInt8 → Nat × Nat} {W W' : World} (h : Lk w x M g0 g1 g2 la lb I F0 F1 F2 Mf W) (hm : KMap W' M Mf') (hf : Fr [M] W W') :
    Lk w x M g0 g1 g2 la lb I F0 F1 F2 Mf' W' :=
  ⟨h.fr.trans hf (by simp), h.ib.fr hf (by simp; exact h.km.other h.ib), h.r0.fr hf (by simp; exact h.km.other h.r0), h.r1.fr hf (by simp; exact h.km.other h.r1), h.r2.fr hf (by simp; exact h.km.other h.r2), hm⟩

/-- A store aside. -/
theorem Lk.aside {w : World} {x M g0 g1 g2 la lb : Nat} {I : Array Value} {F0 F1 F2 : Nat → Nat} {Mf : List UInt8 → Nat × Nat} {W W' : World} (h : Lk w x M g0 g1 g2 la lb I F0 F1 F2 Mf W) {p : Nat} {cs : Array Value} (hp : Blk W p 146 cs) (hs : w.heap.size ≤ p) (hf : Fr [p] W W') :
    Lk w x M g0 g1 g2 la lb I F0 F1 F2 Mf W' :=
  ⟨h.fr.trans hf (by simp [hs]), h.ib.fr hf (by simp; exact h.ib.other hp (by decide)), h.r0.fr hf (by simp; exact Blk.other h.r0 hp (by decide)), h.r1.fr hf (by simp; exact Blk.other h.r1 hp (by decide)), h.r2.fr hf (by simp; exact Blk.other h.r2 hp (by decide)), h.km.fr hf (by simp; exact fun e => h.km.other hp e.symm)⟩

/-- From here on. -/
theorem Lk.here {w : World} {x M g0 g1 g2 la lb : Nat} {I : Array Value} {F0 F1 F2 : Nat → Nat} {Mf : List UInt8 → Nat × Nat} {W : World} (h : Lk w x M g0 g1 g2 la lb I F0 F1 F2 Mf W) : Lk W x M g0 g1 g2 la lb I F0 F1 F2 Mf W := ⟨Fr.refl _ _, h.ib, h.r0, h.r1, h.r2, h.km⟩
theorem Lk.join {w : World} {x M g0 g1 g2 la lb : Nat} {I : Array Value} {F0 F1 F2 : Nat → Nat} {Mf : List UInt8 → Nat × Nat} {W W' : World} (hf : Fr [g0, g1, g2, M] w W) (h : Lk W x M g0 g1 g2 la lb I F0 F1 F2 Mf W') : Lk w x M g0 g1 g2 la lb I F0 F1 F2 Mf W' := ⟨hf.tr h.fr, h.ib, h.r0, h.r1, h.r2, h.km⟩

theorem key4_drop (l : List UInt8) (u : Nat) : (l.drop u).take 4 = key4 l u := rfl
theorem four_of (k : List UInt8) (h : k.length = 4) : ∃ x0 x1 x2 x3, k = [x0, x1, x2, x3] := by
  match k, h with
  | [x0, x1, x2, x3], _ => exact ⟨x0, x1, x2, x3, rfl⟩

theorem infoSl : (Try.prog.info? 22).map (fun i => (i.zero, i.size, i.bytes)) = some (some (.slice none 0 0), 1, 24) := by kernel_rfl
theorem index0 (w : World) (A D : Option Addr) (n c m d : Nat) : (Instr.index 130 (.agg #[.slice A n c, .slice D m d]) (.int .i64 0)).run Try.prog w = .ok (.slice A n c) w := by
  obtain ⟨i, hi, _, h0, _⟩ := info_parts infoSl
  simp [Instr.index, run_underlying Try.underlying130, part, sizeOf, typeInfo, hi, h0, asIntOf]
theorem index1 (w : World) (A D : Option Addr) (n c m d : Nat) : (Instr.index 130 (.agg #[.slice A n c, .slice D m d]) (.int .i64 1)).run Try.prog w = .ok (.slice D m d) w := by
  obtain ⟨i, hi, _, h0, _⟩ := info_parts infoSl
  simp [Instr.index, run_underlying Try.underlying130, part, sizeOf, typeInfo, hi, h0, asIntOf]

/-- What link leaves. -/
def Linked (w : World) (x M g0 g1 g2 la lb : Nat) (I : Array Value) (F0 F1 F2 : Nat → Nat) (e : Ending) (w' : World) : Prop :=
  e = .returned (.tuple #[]) ∧ ∃ Mf, Lk w x M g0 g1 g2 la lb I F0 F1 F2 Mf w'

set_option maxRecDepth 100000 in
set_option maxHeartbeats 4000000 in
theorem link_any (w : World) (x M part g0 g1 g2 ca cb la lb : Nat) (A D : Option Addr) (a b : List UInt8) (f0 f1 f2 : Nat → Nat) (hla : a.length = la) (hlb : b.length = lb) (hca : la ≤ ca) (hcb : lb ≤ cb) (hna : la ≤ 1000000000) (hnb : lb ≤ 1000000000)
    (hA : ∀ W, Fr [g0, g1, g2, M] w W → Rd W A a) (hD : ∀ W, Fr [g0, g1, g2, M] w W → Rd W D b) (h01 : g0 ≠ g1) (h02 : g0 ≠ g2) (h12 : g1 ≠ g2)
    (h : Lk w x M g0 g1 g2 la lb (idxV A D ca cb la lb g0 g1 g2) f0 f1 f2 (fun _ => (0, 0)) w) :
    Calls Try.prog 73 #[.pointer (some ⟨x, 0, none⟩), .int .i64 (part : Int), .map (some M)] w (Linked w x M g0 g1 g2 la lb (idxV A D ca cb la lb g0 g1 g2) (fills a part (within a) f0) (fills b part (across a b) f1) (fills b part (within b) f2)) := by
  have HA := Lib.hid hA
  have HD := Lib.hid hD
  have Hla := Lib.hid hla
  have H01 := Lib.hid h01
  have H02 := Lib.hid h02
  have H12 := Lib.hid h12
  have Hlb := Lib.hid hlb
  have H := Lib.hid h
  have HQ : Hid (∀ W Mf, Lk w x M g0 g1 g2 la lb (idxV A D ca cb la lb g0 g1 g2) (fills a part (within a) f0) (fills b part (across a b) f1) (fills b part (within b) f2) Mf W → Linked w x M g0 g1 g2 la lb (idxV A D ca cb la lb g0 g1 g2) (fills a part (within a) f0) (fills b part (across a b) f1) (fills b part (within b) f2) (.returned (.tuple #[])) W) := Lib.hid fun W Mf h1 => ⟨rfl, Mf, h1⟩
  generalize Linked w x M g0 g1 g2 la lb (idxV A D ca cb la lb g0 g1 g2) (fills a part (within a) f0) (fills b part (across a b) f1) (fills b part (within b) f2) = Q at *
  obtain ⟨c0, c1, c2, c3, c4, c5⟩ := blk6' h.ib
  clear h hA hD hla hlb c2 c3 c4 c5 h01 h02 h12
  go_enter Try.func73, Try.ntmps73
  go_wp2_with fail
  go_loopw [15] (fun s wr => (s = .int .i64 0 ∧ Lk w x M g0 g1 g2 la lb (idxV A D ca cb la lb g0 g1 g2) f0 f1 f2 (seen a b part 0 0) wr) ∨ (s = .int .i64 1 ∧ Lk w x M g0 g1 g2 la lb (idxV A D ca cb la lb g0 g1 g2) (fills a part (within a) f0) f1 f2 (seen a b part la 0) wr) ∨ (s = .int .i64 2 ∧ ∃ Mf, Lk w x M g0 g1 g2 la lb (idxV A D ca cb la lb g0 g1 g2) (fills a part (within a) f0) (fills b part (across a b) f1) (fills b part (within b) f2) Mf wr)) (fun s _ => 2 - (intOf s).toNat)
  case atStart => exact .inl ⟨rfl, by rw [seen_start]; exact H.out⟩
  case round =>
    rcases hrel with ⟨rfl, hL⟩ | ⟨rfl, hL⟩ | ⟨rfl, Mf, hL⟩
    · have HL0 := Lib.hid hL
      have hi0 := index0 wr A D la ca lb cb
      clear hL c0 c1
      go_wp2_with fail
      go_loopw [8] (fun s wr => ∃ u : Nat, s = .int .i64 (u : Int) ∧ u ≤ la ∧ Lk w x M g0 g1 g2 la lb (idxV A D ca cb la lb g0 g1 g2) (fill a part u (within a) f0) f1 f2 (seen a b part u 0) wr) (fun s _ => la - (intOf s).toNat)
      case atStart => exact ⟨0, rfl, Nat.zero_le _, by rw [fill_zero]; exact HL0.out⟩
      case round =>
        obtain ⟨u, rfl, hu, hL⟩ := hrel
        have HL := Lib.hid hL
        clear hL HL0
        obtain ⟨u4, hu4⟩ : ∃ u4, u + 4 = u4 := ⟨_, rfl⟩
        have hu4' : (u : Int) + 4 = (u4 : Int) := by omega
        have hw4 : IntKind.i64.wrap (u4 : Int) = (u4 : Int) := by rw [IntKind.wrap_i64]; omega
        by_cases hlt : u4 ≤ la
        · have i4 : (u4 : Int) ≤ la := by omega
          have iu : (u : Int) < la := by omega
          have iu0 : (0 : Int) ≤ u := by omega
          obtain ⟨y, o, x0, rfl, hx0, cx⟩ := (HA.out _ HL.out.fr).at u (by rw [Hla.out]; omega)
          have hpt := pt_get a u x0 hx0
          by_cases hpp : pt a u = part
          · have hm1 : (wrap64 (x0.toNat : Int)).tmod 16 = (part : Int) := by
              have := x0.toNat_lt
              rw [show wrap64 (x0.toNat : Int) = (x0.toNat : Int) by unfold wrap64; omega, Int.tmod_eq_emod_of_nonneg (by omega)]
              omega
            have hcu : ¬ ca = u := by omega
            have hcu2 : u ≤ ca := by omega
            have hcu3 : (u : Int) ≤ ca := by omega
            obtain ⟨k0, k1, k2, k3, hk⟩ := four_of (key4 a u) (key4_length a u (by rw [Hla.out]; omega))
            have HK := Lib.hid hk
            have HC : Hid (Calls Try.prog 82 #[.slice (some ⟨y, o + u, none⟩) (la - u) (ca - u)] wr fun e w' => e = .returned (.agg #[.int .u8 (k0.toNat : Int), .int .u8 (k1.toNat : Int), .int .u8 (k2.toNat : Int), .int .u8 (k3.toNat : Int)]) ∧ Fr [] wr w') := Lib.hid (by
              obtain ⟨y', o', e', hc'⟩ := HA.out _ HL.out.fr (by rw [Hla.out]; omega)
              injection e' with e'
              injection e' with e1 e2
              subst e1 e2
              have hr' := Rd.cut hc' u (la - u)
              rw [List.take_of_length_le (by rw [List.length_drop, Hla.out]; exact Nat.le_refl _)] at hr'
              have := keyOf_any wr (some ⟨y, o + u, none⟩) (la - u) (ca - u) (a.drop u) (by rw [List.length_drop, Hla.out]) (by omega) hr'
              rw [key4_drop, HK.out] at this
              exact this)
            clear hi0 hx0 hk
            go_wp2_with fail
            refine HC.out.mono ?_
            rintro e w1 ⟨rfl, hf1⟩
            have HL1 := Lib.hid (HL.out.later hf1)
            have Hsz : Hid (w.heap.size ≤ w1.heap.size) := Lib.hid HL1.out.fr.size
            clear hf1
            obtain ⟨s1, hs1⟩ : ∃ s1, w1.heap.size = s1 := ⟨_, rfl⟩
            rw [hs1] at Hsz
            go_upto_region 8 with fail
            have HL2 := Lib.hid (HL1.out.later ((Fr.refl [] w1).alloc (.cells #[.int .u8 (k0.toNat : Int), .int .u8 (k1.toNat : Int), .int .u8 (k2.toNat : Int), .int .u8 (k3.toNat : Int)] 144)))
            have hb2 := Blk.fresh w1 144 #[.int .u8 (k0.toNat : Int), .int .u8 (k1.toNat : Int), .int .u8 (k2.toNat : Int), .int .u8 (k3.toNat : Int)]
            rw [hs1] at hb2
            have HB2 := Lib.hid hb2
            have hz2 : (w1.alloc (.cells #[.int .u8 (k0.toNat : Int), .int .u8 (k1.toNat : Int), .int .u8 (k2.toNat : Int), .int .u8 (k3.toNat : Int)] 144)).heap.size = s1 + 1 := by simp [hs1]
            generalize w1.alloc (.cells #[.int .u8 (k0.toNat : Int), .int .u8 (k1.toNat : Int), .int .u8 (k2.toNat : Int), .int .u8 (k3.toNat : Int)] 144) = w2 at *
            obtain ⟨P, hP⟩ : ∃ P, within a u = P := ⟨_, rfl⟩
            have HP := Lib.hid hP
            have hPle : P ≤ u := by rw [← hP]; exact prev_le _ _ _
            have hlook := HL2.out.km.look (key4 a u) (key4_length a u (by rw [Hla.out]; omega))
            rw [seen_part a b part u 0 _ hpp, HK.out, prev_zero, ← HK.out, show prev a (key4 a u) u = P from hP, HK.out] at hlook
            simp only [keyA, bv, pairA, List.map_cons, List.map_nil, Int.natCast_zero] at hlook
            obtain ⟨d0, d1, d2, d3⟩ := Bps.blk4 hb2
            clear hP hb2 HL1 HL HC cx hpt
            go_upto_region 11 with fail
            have HL3 := Lib.hid (HL2.out.later ((Fr.refl [] w2).alloc (.cells #[.int .i32 (P : Int), .int .i32 0] 146)))
            have HB3 := Lib.hid (HB2.out.fr ((Fr.refl [] w2).alloc (.cells #[.int .i32 (P : Int), .int .i32 0] 146)) (by simp))
            have hp3 := Blk.fresh w2 146 #[.int .i32 (P : Int), .int .i32 0]
            rw [hz2] at hp3
            have HP3 := Lib.hid hp3
            have hz3 : (w2.alloc (.cells #[.int .i32 (P : Int), .int .i32 0] 146)).heap.size = s1 + 2 := by simp [hz2]
            generalize w2.alloc (.cells #[.int .i32 (P : Int), .int .i32 0] 146) = w3 at *
            obtain ⟨_, _, _, _, i4', _⟩ := blk6' HL3.out.ib
            have q0 := hp3.cell 0
            simp at q0
            clear hlook d0 d1 d2 d3 hp3 HB2 HL2
            go_still_tail 11, (by kernel_rfl)
            repeat still_step
            change wpList _ _ _ _ _ w3.drew
            have HL4 : Hid (Lk w x M g0 g1 g2 la lb (idxV (some ⟨y, o, none⟩) D ca cb la lb g0 g1 g2) (fill a part u (within a) f0) f1 f2 (seen a b part u 0) w3.drew) := Lib.hid (HL3.out.later (Fr.refl [] w3).drew)
            have HB4 : Hid (Blk w3.drew s1 144 #[.int .u8 (k0.toNat : Int), .int .u8 (k1.toNat : Int), .int .u8 (k2.toNat : Int), .int .u8 (k3.toNat : Int)]) := HB3
            have HP4 : Hid (Blk w3.drew (s1 + 1) 146 #[.int .i32 (P : Int), .int .i32 0]) := HP3
            have hz4 : w3.drew.heap.size = s1 + 2 := hz3
            clear HL3 HB3 HP3 hz3 i4' q0
            generalize w3.drew = w4 at *
            have e1 := HL4.out.r0.get u (by omega)
            have e2 := Blk.frozen HL4.out.r0 u
            go_upto_region 12 with fail
            have hf5 : Fr [g0] w4 (w4.setCell ⟨g0, u, none⟩ (.int .i32 (P : Int))) := (Fr.refl _ _).setCell (by simp) _
            have HL5 : Hid (Lk w x M g0 g1 g2 la lb (idxV (some ⟨y, o, none⟩) D ca cb la lb g0 g1 g2) (fill a part (u + 1) (within a) f0) f1 f2 (seen a b part u 0) (w4.setCell ⟨g0, u, none⟩ (.int .i32 (P : Int)))) := Lib.hid (by
              rw [← fill_hit a part u (within a) f0 hpp (by rw [Hla.out]; omega), HP.out]
              exact HL4.out.put0 H01.out H02.out u P)
            have HB5 := Lib.hid (HB4.out.fr hf5 (by simp; exact HB4.out.other HL4.out.r0 (by decide)))
            have hp5 := HP4.out.fr hf5 (by simp; exact HP4.out.other HL4.out.r0 (by decide))
            have HP5 := Lib.hid hp5
            have hz5 : (w4.setCell ⟨g0, u, none⟩ (.int .i32 (P : Int))).heap.size = s1 + 2 := by simp [World.setCell, hz4]
            clear hf5 e1 e2 HB4 HP4 HL4
            generalize w4.setCell ⟨g0, u, none⟩ (.int .i32 (P : Int)) = w5 at *
            obtain ⟨U, hU⟩ : ∃ U, u + 1 = U := ⟨_, rfl⟩
            have hU1 : (u : Int) + 1 = (U : Int) := by omega
            have hU2 : IntKind.i32.wrap (u : Int) = (u : Int) := by rw [IntKind.wrap_i32]; omega
            have hU3 : IntKind.i32.wrap (U : Int) = (U : Int) := by rw [IntKind.wrap_i32]; omega
            have t0 := hp5.cell 0
            have t1 := hp5.cell 1
            simp at t0 t1
            have tf0 := hp5.frozen 0
            go_upto_region 13 with fail
            have hf6 : Fr [s1 + 1] w5 (w5.setCell ⟨s1 + 1, 0, none⟩ (.int .i32 (U : Int))) := (Fr.refl _ _).setCell (by simp) _
            have hp6 := hp5.put 0 (.int .i32 (U : Int))
            simp at hp6
            have hb6 := HB5.out.fr hf6 (by simp)
            have HL6 : Hid (Lk w x M g0 g1 g2 la lb (idxV (some ⟨y, o, none⟩) D ca cb la lb g0 g1 g2) (fill a part (u + 1) (within a) f0) f1 f2 (seen a b part u 0) (w5.setCell ⟨s1 + 1, 0, none⟩ (.int .i32 (U : Int)))) := Lib.hid (by
              refine HL5.out.aside HP5.out ?_ hf6
              exact Nat.le_succ_of_le Hsz.out)
            clear t0 t1 tf0 hp5 HL5 HB5 HP5 hf6
            generalize w5.setCell ⟨s1 + 1, 0, none⟩ (.int .i32 (U : Int)) = w6 at *
            obtain ⟨w7, hrun, hkm7, hf7, _⟩ := HL6.out.km.put (key4 a u) (key4_length a u (by rw [Hla.out]; omega)) (U, 0)
            have HL7 : Hid (Lk w x M g0 g1 g2 la lb (idxV (some ⟨y, o, none⟩) D ca cb la lb g0 g1 g2) (fill a part (u + 1) (within a) f0) f1 f2 (seen a b part (u + 1) 0) w7) := Lib.hid (by
              have h7 := HL6.out.mapped hkm7 hf7
              rw [← hU] at h7
              rw [← seen_hit1 a b part u 0 hpp (by rw [Hla.out]; omega), prev_zero]
              exact h7)
            rw [HK.out] at hrun
            simp only [keyA, bv, pairA, List.map_cons, List.map_nil, Int.natCast_zero] at hrun
            obtain ⟨d0, d1, d2, d3⟩ := Bps.blk4 hb6
            have t0 := hp6.cell 0
            have t1 := hp6.cell 1
            simp at t0 t1
            clear hb6 hp6 hkm7 hf7 HL6 hU1 hU2 hU3
            go_wp2
            go_roundw
            case rel => exact ⟨u + 1, by go_num, by omega, HL7.out⟩
            case measure => simp [intOf]; omega
          · have hm1 : ((wrap64 (x0.toNat : Int)).tmod 16 != (part : Int)) = true := by
              have := x0.toNat_lt
              rw [show wrap64 (x0.toNat : Int) = (x0.toNat : Int) by unfold wrap64; omega, Int.tmod_eq_emod_of_nonneg (by omega)]
              simp only [bne_iff_ne, ne_eq]
              omega
            clear hi0 hx0 hpt
            go_wp2
            go_roundw
            case rel => exact ⟨u + 1, by go_num, by omega, by rw [fill_skip a part u _ _ hpp, seen_skip1 a b part u 0 hpp]; exact HL.out⟩
            case measure => simp [intOf]; omega
        · have i4 : ¬ (u4 : Int) ≤ la := by omega
          have HN : Hid (Lk w x M g0 g1 g2 la lb (idxV A D ca cb la lb g0 g1 g2) (fills a part (within a) f0) f1 f2 (seen a b part la 0) wr) := Lib.hid (by
            have h1 := HL.out
            rw [fill_all a part u _ _ (by rw [Hla.out]; omega)] at h1
            have h2 : seen a b part u 0 = seen a b part la 0 := by
              funext k
              unfold seen
              rw [← Hla.out, prev_all a k u (by rw [Hla.out]; omega) (by rw [Hla.out]; omega)]
            rw [h2] at h1
            exact h1)
          clear hi0
          go_wp2
          go_roundw
          case rel => exact .inr (.inl ⟨rfl, HN.out⟩)
          case measure => simp [intOf]
    · have HL0 := Lib.hid hL
      have hi0 := index1 wr A D la ca lb cb
      clear hL c0 c1
      go_wp2_with fail
      go_loopw [8] (fun s wr => ∃ u : Nat, s = .int .i64 (u : Int) ∧ u ≤ lb ∧ Lk w x M g0 g1 g2 la lb (idxV A D ca cb la lb g0 g1 g2) (fills a part (within a) f0) (fill b part u (across a b) f1) (fill b part u (within b) f2) (seen a b part la u) wr) (fun s _ => lb - (intOf s).toNat)
      case atStart => exact ⟨0, rfl, Nat.zero_le _, by rw [fill_zero, fill_zero]; exact HL0.out⟩
      case round =>
        obtain ⟨u, rfl, hu, hL⟩ := hrel
        have HL := Lib.hid hL
        clear hL HL0
        obtain ⟨u4, hu4⟩ : ∃ u4, u + 4 = u4 := ⟨_, rfl⟩
        have hu4' : (u : Int) + 4 = (u4 : Int) := by omega
        have hw4 : IntKind.i64.wrap (u4 : Int) = (u4 : Int) := by rw [IntKind.wrap_i64]; omega
        by_cases hlt : u4 ≤ lb
        · have i4 : (u4 : Int) ≤ lb := by omega
          have iu : (u : Int) < lb := by omega
          have iu0 : (0 : Int) ≤ u := by omega
          obtain ⟨y, o, x0, rfl, hx0, cx⟩ := (HD.out _ HL.out.fr).at u (by rw [Hlb.out]; omega)
          have hpt := pt_get b u x0 hx0
          by_cases hpp : pt b u = part
          · have hm1 : (wrap64 (x0.toNat : Int)).tmod 16 = (part : Int) := by
              have := x0.toNat_lt
              rw [show wrap64 (x0.toNat : Int) = (x0.toNat : Int) by unfold wrap64; omega, Int.tmod_eq_emod_of_nonneg (by omega)]
              omega
            have hcu : ¬ cb = u := by omega
            have hcu2 : u ≤ cb := by omega
            have hcu3 : (u : Int) ≤ cb := by omega
            obtain ⟨k0, k1, k2, k3, hk⟩ := four_of (key4 b u) (key4_length b u (by rw [Hlb.out]; omega))
            have HK := Lib.hid hk
            have HC : Hid (Calls Try.prog 82 #[.slice (some ⟨y, o + u, none⟩) (lb - u) (cb - u)] wr fun e w' => e = .returned (.agg #[.int .u8 (k0.toNat : Int), .int .u8 (k1.toNat : Int), .int .u8 (k2.toNat : Int), .int .u8 (k3.toNat : Int)]) ∧ Fr [] wr w') := Lib.hid (by
              obtain ⟨y', o', e', hc'⟩ := HD.out _ HL.out.fr (by rw [Hlb.out]; omega)
              injection e' with e'
              injection e' with e1 e2
              subst e1 e2
              have hr' := Rd.cut hc' u (lb - u)
              rw [List.take_of_length_le (by rw [List.length_drop, Hlb.out]; exact Nat.le_refl _)] at hr'
              have := keyOf_any wr (some ⟨y, o + u, none⟩) (lb - u) (cb - u) (b.drop u) (by rw [List.length_drop, Hlb.out]) (by omega) hr'
              rw [key4_drop, HK.out] at this
              exact this)
            clear hi0 hx0 hk
            go_wp2_with fail
            refine HC.out.mono ?_
            rintro e w1 ⟨rfl, hf1⟩
            have HL1 := Lib.hid (HL.out.later hf1)
            have Hsz : Hid (w.heap.size ≤ w1.heap.size) := Lib.hid HL1.out.fr.size
            clear hf1
            obtain ⟨s1, hs1⟩ : ∃ s1, w1.heap.size = s1 := ⟨_, rfl⟩
            rw [hs1] at Hsz
            go_upto_region 8 with fail
            have HL2 := Lib.hid (HL1.out.later ((Fr.refl [] w1).alloc (.cells #[.int .u8 (k0.toNat : Int), .int .u8 (k1.toNat : Int), .int .u8 (k2.toNat : Int), .int .u8 (k3.toNat : Int)] 144)))
            have hb2 := Blk.fresh w1 144 #[.int .u8 (k0.toNat : Int), .int .u8 (k1.toNat : Int), .int .u8 (k2.toNat : Int), .int .u8 (k3.toNat : Int)]
            rw [hs1] at hb2
            have HB2 := Lib.hid hb2
            have hz2 : (w1.alloc (.cells #[.int .u8 (k0.toNat : Int), .int .u8 (k1.toNat : Int), .int .u8 (k2.toNat : Int), .int .u8 (k3.toNat : Int)] 144)).heap.size = s1 + 1 := by simp [hs1]
            generalize w1.alloc (.cells #[.int .u8 (k0.toNat : Int), .int .u8 (k1.toNat : Int), .int .u8 (k2.toNat : Int), .int .u8 (k3.toNat : Int)] 144) = w2 at *
            obtain ⟨P0, hP0⟩ : ∃ P, across a b u = P := ⟨_, rfl⟩
            obtain ⟨P1, hP1⟩ : ∃ P, within b u = P := ⟨_, rfl⟩
            have HP0 := Lib.hid hP0
            have HP1 := Lib.hid hP1
            have hlook := HL2.out.km.look (key4 b u) (key4_length b u (by rw [Hlb.out]; omega))
            rw [seen_part a b part la u _ hpp, show prev b (key4 b u) u = P1 from hP1, show prev a (key4 b u) la = P0 by rw [← hP0, ← Hla.out]; rfl, HK.out] at hlook
            simp only [keyA, bv, pairA, List.map_cons, List.map_nil] at hlook
            obtain ⟨d0, d1, d2, d3⟩ := Bps.blk4 hb2
            clear hP0 hP1 hb2 HL1 HL HC cx hpt
            go_upto_region 10 with fail
            have HL3 := Lib.hid (HL2.out.later ((Fr.refl [] w2).alloc (.cells #[.int .i32 (P0 : Int), .int .i32 (P1 : Int)] 146)))
            have HB3 := Lib.hid (HB2.out.fr ((Fr.refl [] w2).alloc (.cells #[.int .i32 (P0 : Int), .int .i32 (P1 : Int)] 146)) (by simp))
            have hp3 := Blk.fresh w2 146 #[.int .i32 (P0 : Int), .int .i32 (P1 : Int)]
            rw [hz2] at hp3
            have HP3 := Lib.hid hp3
            generalize w2.alloc (.cells #[.int .i32 (P0 : Int), .int .i32 (P1 : Int)] 146) = w3 at *
            obtain ⟨_, _, i2', _, _, _⟩ := blk6' HL3.out.ib
            have q0 := hp3.cell 0
            simp at q0
            clear hlook d0 d1 d2 d3 hp3 HB2 HL2
            go_still_tail 9, (by kernel_rfl)
            repeat still_step
            change wpList _ _ _ _ _ w3.drew
            have HL4 : Hid (Lk w x M g0 g1 g2 la lb (idxV A (some ⟨y, o, none⟩) ca cb la lb g0 g1 g2) (fills a part (within a) f0) (fill b part u (across a b) f1) (fill b part u (within b) f2) (seen a b part la u) w3.drew) := Lib.hid (HL3.out.later (Fr.refl [] w3).drew)
            have HB4 : Hid (Blk w3.drew s1 144 #[.int .u8 (k0.toNat : Int), .int .u8 (k1.toNat : Int), .int .u8 (k2.toNat : Int), .int .u8 (k3.toNat : Int)]) := HB3
            have HP4 : Hid (Blk w3.drew (s1 + 1) 146 #[.int .i32 (P0 : Int), .int .i32 (P1 : Int)]) := HP3
            clear HL3 HB3 HP3 i2' q0
            generalize w3.drew = w4 at *
            have e1 := HL4.out.r1.get u (by omega)
            have e2 := Blk.frozen HL4.out.r1 u
            go_upto_region 11 with fail
            have hf8 : Fr [g1] w4 (w4.setCell ⟨g1, u, none⟩ (.int .i32 (P0 : Int))) := (Fr.refl _ _).setCell (by simp) _
            have HL8 : Hid (Lk w x M g0 g1 g2 la lb (idxV A (some ⟨y, o, none⟩) ca cb la lb g0 g1 g2) (fills a part (within a) f0) (fill b part (u + 1) (across a b) f1) (fill b part u (within b) f2) (seen a b part la u) (w4.setCell ⟨g1, u, none⟩ (.int .i32 (P0 : Int)))) := Lib.hid (by
              rw [← fill_hit b part u (across a b) f1 hpp (by rw [Hlb.out]; omega), HP0.out]
              exact HL4.out.put1 H01.out H12.out u P0)
            have HB8 := Lib.hid (HB4.out.fr hf8 (by simp; exact HB4.out.other HL4.out.r1 (by decide)))
            have hp8 := HP4.out.fr hf8 (by simp; exact HP4.out.other HL4.out.r1 (by decide))
            have HP8 := Lib.hid hp8
            clear hf8 e1 e2 HB4 HP4 HL4
            generalize w4.setCell ⟨g1, u, none⟩ (.int .i32 (P0 : Int)) = w8 at *
            obtain ⟨_, _, _, _, _, i5'⟩ := blk6' HL8.out.ib
            have q1 := hp8.cell 1
            simp at q1
            clear hp8
            go_still_tail 11, (by kernel_rfl)
            repeat still_step
            change wpList _ _ _ _ _ w8.drew
            have HL9 : Hid (Lk w x M g0 g1 g2 la lb (idxV A (some ⟨y, o, none⟩) ca cb la lb g0 g1 g2) (fills a part (within a) f0) (fill b part (u + 1) (across a b) f1) (fill b part u (within b) f2) (seen a b part la u) w8.drew) := Lib.hid (HL8.out.later (Fr.refl [] w8).drew)
            have HB9 : Hid (Blk w8.drew s1 144 #[.int .u8 (k0.toNat : Int), .int .u8 (k1.toNat : Int), .int .u8 (k2.toNat : Int), .int .u8 (k3.toNat : Int)]) := HB8
            have HP9 : Hid (Blk w8.drew (s1 + 1) 146 #[.int .i32 (P0 : Int), .int .i32 (P1 : Int)]) := HP8
            clear HL8 HB8 HP8 i5' q1
            generalize w8.drew = w9 at *
            have e1 := HL9.out.r2.get u (by omega)
            have e2 := Blk.frozen HL9.out.r2 u
            go_upto_region 12 with fail
            have hf5 : Fr [g2] w9 (w9.setCell ⟨g2, u, none⟩ (.int .i32 (P1 : Int))) := (Fr.refl _ _).setCell (by simp) _
            have HL5 : Hid (Lk w x M g0 g1 g2 la lb (idxV A (some ⟨y, o, none⟩) ca cb la lb g0 g1 g2) (fills a part (within a) f0) (fill b part (u + 1) (across a b) f1) (fill b part (u + 1) (within b) f2) (seen a b part la u) (w9.setCell ⟨g2, u, none⟩ (.int .i32 (P1 : Int)))) := Lib.hid (by
              rw [← fill_hit b part u (within b) f2 hpp (by rw [Hlb.out]; omega), HP1.out]
              exact HL9.out.put2 H02.out H12.out u P1)
            have HB5 := Lib.hid (HB9.out.fr hf5 (by simp; exact HB9.out.other HL9.out.r2 (by decide)))
            have hp5 := HP9.out.fr hf5 (by simp; exact HP9.out.other HL9.out.r2 (by decide))
            have HP5 := Lib.hid hp5
            clear hf5 e1 e2 HB9 HP9 HL9
            generalize w9.setCell ⟨g2, u, none⟩ (.int .i32 (P1 : Int)) = w5 at *
            obtain ⟨U, hU⟩ : ∃ U, u + 1 = U := ⟨_, rfl⟩
            have hU1 : (u : Int) + 1 = (U : Int) := by omega
            have hU2 : IntKind.i32.wrap (u : Int) = (u : Int) := by rw [IntKind.wrap_i32]; omega
            have hU3 : IntKind.i32.wrap (U : Int) = (U : Int) := by rw [IntKind.wrap_i32]; omega
            have t0 := hp5.cell 0
            have t1 := hp5.cell 1
            simp at t0 t1
            have tf0 := hp5.frozen 1
            go_upto_region 13 with fail
            have hf6 : Fr [s1 + 1] w5 (w5.setCell ⟨s1 + 1, 1, none⟩ (.int .i32 (U : Int))) := (Fr.refl _ _).setCell (by simp) _
            have hp6 := hp5.put 1 (.int .i32 (U : Int))
            simp at hp6
            have hb6 := HB5.out.fr hf6 (by simp)
            have HL6 : Hid (Lk w x M g0 g1 g2 la lb (idxV A (some ⟨y, o, none⟩) ca cb la lb g0 g1 g2) (fills a part (within a) f0) (fill b part (u + 1) (across a b) f1) (fill b part (u + 1) (within b) f2) (seen a b part la u) (w5.setCell ⟨s1 + 1, 1, none⟩ (.int .i32 (U : Int)))) := Lib.hid (by
              refine HL5.out.aside HP5.out ?_ hf6
              exact Nat.le_succ_of_le Hsz.out)
            clear t0 t1 tf0 hp5 HL5 HB5 HP5 hf6
            generalize w5.setCell ⟨s1 + 1, 1, none⟩ (.int .i32 (U : Int)) = w6 at *
            obtain ⟨w7, hrun, hkm7, hf7, _⟩ := HL6.out.km.put (key4 b u) (key4_length b u (by rw [Hlb.out]; omega)) (P0, U)
            have HL7 : Hid (Lk w x M g0 g1 g2 la lb (idxV A (some ⟨y, o, none⟩) ca cb la lb g0 g1 g2) (fills a part (within a) f0) (fill b part (u + 1) (across a b) f1) (fill b part (u + 1) (within b) f2) (seen a b part la (u + 1)) w7) := Lib.hid (by
              have h7 := HL6.out.mapped hkm7 hf7
              rw [← hU] at h7
              rw [← seen_hit2 a b part la u hpp (by rw [Hlb.out]; omega), show prev a (key4 b u) la = P0 by rw [← HP0.out, ← Hla.out]; rfl]
              exact h7)
            rw [HK.out] at hrun
            simp only [keyA, bv, pairA, List.map_cons, List.map_nil] at hrun
            obtain ⟨d0, d1, d2, d3⟩ := Bps.blk4 hb6
            have t0 := hp6.cell 0
            have t1 := hp6.cell 1
            simp at t0 t1
            clear hb6 hp6 hkm7 hf7 HL6 hU1 hU2 hU3
            go_wp2
            go_roundw
            case rel => exact ⟨u + 1, by go_num, by omega, HL7.out⟩
            case measure => simp [intOf]; omega
          · have hm1 : ((wrap64 (x0.toNat : Int)).tmod 16 != (part : Int)) = true := by
              have := x0.toNat_lt
              rw [show wrap64 (x0.toNat : Int) = (x0.toNat : Int) by unfold wrap64; omega, Int.tmod_eq_emod_of_nonneg (by omega)]
              simp only [bne_iff_ne, ne_eq]
              omega
            clear hi0 hx0 hpt
            go_wp2
            go_roundw
            case rel => exact ⟨u + 1, by go_num, by omega, by rw [fill_skip b part u _ _ hpp, fill_skip b part u _ _ hpp, seen_skip2 a b part la u hpp]; exact HL.out⟩
            case measure => simp [intOf]; omega
        · have i4 : ¬ (u4 : Int) ≤ lb := by omega
          have HN : Hid (Lk w x M g0 g1 g2 la lb (idxV A D ca cb la lb g0 g1 g2) (fills a part (within a) f0) (fills b part (across a b) f1) (fills b part (within b) f2) (seen a b part la u) wr) := Lib.hid (by
            have h1 := HL.out
            rw [fill_all b part u _ _ (by rw [Hlb.out]; omega), fill_all b part u _ _ (by rw [Hlb.out]; omega)] at h1
            exact h1)
          clear hi0
          go_wp2
          go_roundw
          case rel => exact .inr (.inr ⟨rfl, _, HN.out⟩)
          case measure => simp [intOf]
    · have HL := Lib.hid hL
      clear hL c0 c1
      go_wp2_with fail
      go_end0
      exact HQ.out _ Mf HL.out

end Bm
end Go.Proofs.Ytokfcknfkhlmfaa
