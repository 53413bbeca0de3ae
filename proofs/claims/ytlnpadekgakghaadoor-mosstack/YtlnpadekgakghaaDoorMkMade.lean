/-
  picklocklaw14.made makes both machines with one state. Condition: the registers are bytes.
-/
import Derived.Test.YtlnpadekgakghaaDoorMkObj
namespace Go.Proofs.YtlnpadekgakghaaDoor
open Go.RowKit
namespace Ms
set_option linter.unusedVariables false
open Al (byte)

def fillV (a x : Int) : Int := Go.bits .xor .u8 (Go.bits .xor .u8 (a * 37 / 4 % 256) (a / 256 % 256)) x
theorem fillV_byte (a x : Int) : byte (fillV a x) := wrap_byte _

set_option maxRecDepth 100000 in
set_option maxHeartbeats 2000000 in
theorem fill_any (w : World) (a x : Int) (h0 : 0 ≤ a) (h1 : a < 65536) (hx : byte x) : Calls Tryd.prog 20 #[.int .i64 a, .int .u8 x] w fun e w' => e = .returned (.int .u8 (fillV a x)) ∧ w = w' := by
  unfold fillV
  obtain ⟨x0, x1⟩ := hx
  obtain ⟨m, hm⟩ : ∃ m, a * 37 = m := ⟨_, rfl⟩
  have m0 : 0 ≤ m := by omega
  have m1 : m < 3000000 := by omega
  obtain ⟨k, hk⟩ : ∃ k, m / 4 = k := ⟨_, rfl⟩
  have k0 : 0 ≤ k := by omega
  have k1 : k < 3000000 := by omega
  obtain ⟨i, hi⟩ : ∃ i, k % 256 = i := ⟨_, rfl⟩
  have wi : IntKind.u8.wrap k = i := by rw [IntKind.wrap_u8]; exact hi
  obtain ⟨j, hj⟩ : ∃ j, a / 256 = j := ⟨_, rfl⟩
  have j0 : 0 ≤ j := by omega
  have j1 : j < 256 := by omega
  have hj2 : j % 256 = j := by omega
  have wj : IntKind.u8.wrap j = j := by rw [IntKind.wrap_u8]; exact hj2
  rw [hm, hk, hi, hj, hj2]
  clear hi hj2
  go_enter Tryd.func20, Tryd.ntmps20
  go_wp2
  go_ret
  exact ⟨rfl, rfl⟩

theorem both_get {pre post : List Value} {Z : Array Value} (h : BothZ pre post Z.toList) (n : Nat) (hs : Z.size = pre.length + n + post.length) :
    (∀ i, i < pre.length → Z[i]? = pre[i]?) ∧ (∀ i, pre.length ≤ i → i < pre.length + n → Z[i]? = some (.int .u8 0)) ∧ (∀ i, Z[pre.length + n + i]? = post[i]?) := by
  obtain ⟨M, hL, hM⟩ := h
  have hn : M.length = n := by
    have := congrArg List.length hL
    simp at this
    omega
  have hg : ∀ i : Nat, Z[i]? = (pre ++ M ++ post)[i]? := fun i => by rw [← hL]; simp
  refine ⟨fun i hi => ?_, fun i h0 h1 => ?_, fun i => ?_⟩
  · rw [hg, List.append_assoc, List.getElem?_append_left hi]
  · rw [hg, List.append_assoc, List.getElem?_append_right h0, List.getElem?_append_left (by omega), List.getElem?_eq_getElem (by omega)]
    exact congrArg some (hM _ (List.getElem_mem _))
  · rw [hg, List.getElem?_append_right (by simp; omega)]
    congr 1
    simp
    omega
def m0 : Int → Int := fun _ => 0
def nil0 : Value := .slice none 0 0
theorem zf_cell (i : Nat) (hi : i < 65537) : Tryd.zeroCells37[i]? = some (flatOf ⟨m0, []⟩ nil0 i) := by
  obtain ⟨-, h1, h2⟩ := both_get zeroF 65536 Tryd.zeroCells37_size
  unfold flatOf
  by_cases h : i < 65536
  · rw [if_pos h]
    exact h1 i (by simp) (by simpa using h)
  · rw [if_neg h]
    obtain rfl : i = 65536 := by omega
    exact h2 0
def S0 : S14 := ⟨0, 0, 0, 0, 0, 0, false, ⟨m0, []⟩⟩
theorem zc_cell (i : Nat) (hi : i < 65548) : Tryd.zeroCells40[i]? = some (cellOf S0 nil0 i) := by
  obtain ⟨h0, h1, h2⟩ := both_get zeroC 65536 Tryd.zeroCells40_size
  by_cases h7 : i < 7
  · rw [h0 i h7]
    have : i = 0 ∨ i = 1 ∨ i = 2 ∨ i = 3 ∨ i = 4 ∨ i = 5 ∨ i = 6 := by omega
    rcases this with rfl | rfl | rfl | rfl | rfl | rfl | rfl <;> rfl
  · by_cases h8 : i < 65543
    · rw [h1 i (by simp; omega) (by simp; omega)]
      unfold cellOf
      repeat rw [if_neg (by omega)]
      rw [if_pos h8]
      rfl
    · have e : i = 65543 ∨ i = 65544 ∨ i = 65545 ∨ i = 65546 ∨ i = 65547 := by omega
      rcases e with rfl | rfl | rfl | rfl | rfl
      · exact h2 0
      · exact h2 1
      · exact h2 2
      · exact h2 3
      · exact h2 4
def Cs (C : Array Value) (S : S14) : Prop := C.size = 65548 ∧ ∀ j, j < 65548 → C[j]? = some (cellOf S nil0 j)
theorem Cs.set {C : Array Value} {S : S14} (h : Cs C S) (i : Nat) (u : Value) (S' : S14) (hc : ∀ j, j < 65548 → cellOf S' nil0 j = if j = i then u else cellOf S nil0 j) : Cs (C.setIfInBounds i u) S' := by
  refine ⟨by simpa using h.1, fun j hj => ?_⟩
  rw [Array.getElem?_setIfInBounds, hc j hj]
  by_cases e : i = j
  · subst e
    rw [if_pos rfl, if_pos (by rw [h.1]; exact hj), if_pos rfl]
  · rw [if_neg e, if_neg (fun h => e h.symm)]
    exact h.2 j hj
theorem ref_cells (a x y s p pc : Int) : Cs ((((((Tryd.zeroCells40.setIfInBounds 0 (.int .u8 a)).setIfInBounds 1 (.int .u8 x)).setIfInBounds 2 (.int .u8 y)).setIfInBounds 3 (.int .u8 s)).setIfInBounds 4 (.int .u8 p)).setIfInBounds 5 (.int .u16 pc)) ⟨a, x, y, s, p, pc, false, ⟨m0, []⟩⟩ := by
  have h0 : Cs Tryd.zeroCells40 S0 := ⟨Tryd.zeroCells40_size, zc_cell⟩
  have h1 := h0.set 0 (.int .u8 a) ⟨a, 0, 0, 0, 0, 0, false, ⟨m0, []⟩⟩ (by intro j _; unfold cellOf S0; by_cases e : j = 0 <;> simp [e])
  have h2 := h1.set 1 (.int .u8 x) ⟨a, x, 0, 0, 0, 0, false, ⟨m0, []⟩⟩ (by intro j _; unfold cellOf; by_cases e : j = 1 <;> simp [e])
  have h3 := h2.set 2 (.int .u8 y) ⟨a, x, y, 0, 0, 0, false, ⟨m0, []⟩⟩ (by intro j _; unfold cellOf; by_cases e : j = 2 <;> simp [e])
  have h4 := h3.set 3 (.int .u8 s) ⟨a, x, y, s, 0, 0, false, ⟨m0, []⟩⟩ (by intro j _; unfold cellOf; by_cases e : j = 3 <;> simp [e])
  have h5 := h4.set 4 (.int .u8 p) ⟨a, x, y, s, p, 0, false, ⟨m0, []⟩⟩ (by intro j _; unfold cellOf; by_cases e : j = 4 <;> simp [e])
  exact h5.set 5 (.int .u16 pc) ⟨a, x, y, s, p, pc, false, ⟨m0, []⟩⟩ (by intro j _; unfold cellOf; by_cases e : j = 5 <;> simp [e])

/-- A bus and a CPU just laid. -/
theorem flat_laid (w : World) (B : Nat) : FlatAt (w.alloc (.cells Tryd.zeroCells37 37)) w.heap.size nil0 ⟨m0, []⟩ :=
  ⟨_, Blk.fresh w _ _, Tryd.zeroCells37_size, zf_cell⟩
theorem both_byte (m : Int → Int) (i v : Int) (h : ∀ j, byte (m j)) (hv : byte v) : ∀ j, byte (upd m i v j) := by
  intro j
  unfold upd
  split
  · exact hv
  · exact h j

/-- What made leaves. -/
def Made (w : World) (B : Nat) (a x y s p pc : Int) (e : Ending) (w' : World) : Prop :=
  ∃ pp f q m, e = .returned (.tuple #[.pointer (some ⟨pp, 0, none⟩), .pointer (some ⟨f, 0, none⟩), .pointer (some ⟨q, 0, none⟩)]) ∧
    Both w' B pp f q nil0 nil0 ⟨a, x, y, s, noBU p, pc, false, ⟨m, []⟩⟩ ∧ (∀ j, byte (m j)) ∧ Fr [] w w' ∧ w.heap.size ≤ pp ∧ w.heap.size ≤ f ∧ w.heap.size ≤ q

theorem prog_putm {w : World} {B p f : Nat} {v : Value} {a x y s pp pc : Int} {h : Bool} {m : Int → Int} {l : List (Int × Int)} (H : ProgAt w B p f v ⟨a, x, y, s, pp, pc, h, ⟨m, l⟩⟩) (i u : Int) (hi : u16 i) : ProgAt (w.setCell ⟨f, i.toNat, none⟩ (.int .u8 u)) B p f v ⟨a, x, y, s, pp, pc, h, ⟨upd m i u, l⟩⟩ :=
  ⟨H.cpu.fr ((Fr.refl [f] w).setCell (by simp) _) (by have := H.pf; simpa using this), H.flat.put i u hi l, H.row.fr ((Fr.refl [f] w).setCell (by simp) _) (by intro k hk e; simp at e; subst e; exact H.nef hk), H.tab.fr ((Fr.refl [f] w).setCell (by simp) _) H.nof, H.pos⟩
/-- Both machines' bytes at a place are set, one behind the other. -/
theorem both_put1 {w : World} {B p f q : Nat} {v u : Value} {a x y s pp pc : Int} {h : Bool} {m : Int → Int} {l : List (Int × Int)} (H : Both w B p f q v u ⟨a, x, y, s, pp, pc, h, ⟨m, l⟩⟩) (i b : Int) (hi : u16 i) :
    ProgAt (w.setCell ⟨f, i.toNat, none⟩ (.int .u8 b)) B p f v ⟨a, x, y, s, pp, pc, h, ⟨upd m i b, l⟩⟩ ∧ RefAt (w.setCell ⟨f, i.toNat, none⟩ (.int .u8 b)) B q u ⟨a, x, y, s, pp, pc, h, ⟨m, l⟩⟩ :=
  ⟨prog_putm H.prog i b hi, H.ref.fr ((Fr.refl [f] w).setCell (by simp) _) (by intro k hk e; simp at e; exact H.disj f (by simp [pfoot]) (by rw [← e]; exact hk))⟩
theorem both_put2 {w : World} {B p f q : Nat} {v u : Value} {a x y s pp pc : Int} {h : Bool} {m m' : Int → Int} {l : List (Int × Int)} (hP : ProgAt w B p f v ⟨a, x, y, s, pp, pc, h, ⟨m', l⟩⟩) (hR : RefAt w B q u ⟨a, x, y, s, pp, pc, h, ⟨m, l⟩⟩) (hdq : (∀ k ∈ pfoot p f v, k ∉ foot q u) ∧ 0 < q) (i b : Int) (hi : u16 i) (hm : upd m i b = m') :
    Both (w.setCell ⟨q, 7 + i.toNat, none⟩ (.int .u8 b)) B p f q v u ⟨a, x, y, s, pp, pc, h, ⟨m', l⟩⟩ := by
  subst hm
  obtain ⟨hd, hq0⟩ := hdq
  exact ⟨hP.fr ((Fr.refl [q] w).setCell (by simp) _) (by intro k hk e; simp at e; exact hd k hk (by rw [e]; simp [foot])) (by simp; omega), put_m hR i b hi, fun k hk hu => hd k (by simp [pfoot, hk]) (by simp [foot, hu]), hq0⟩

set_option maxRecDepth 100000 in
set_option maxHeartbeats 8000000 in
theorem made_any (w : World) (B : Nat) (a x y s p pc fl0 : Int) (A : Option Addr) (l c : Nat) (zs : List (Int × Int)) (hl : zs.length = l) (hz : Pk.PkRd w A zs) (hzb : ∀ z ∈ zs, u16 z.1 ∧ byte z.2) (hc : l ≤ c) (hm : c ≤ maxLen) (hB : B ≤ w.heap.size) (hT : Tab w) (hB0 : 0 < B) (hp : byte p) (hf : byte fl0) :
    Calls Tryd.prog 11 #[.agg #[.int .u8 a, .int .u8 x, .int .u8 y, .int .u8 s, .int .u8 p, .int .u16 pc], .int .u8 fl0, .slice A l c] w (Made w B a x y s p pc) := by
  have HZ := Lib.hid hz
  have HZB := Lib.hid hzb
  have HZL := Lib.hid hl
  have HFb := Lib.hid hf
  obtain ⟨fl00, fl01⟩ := hf
  have hnb := andNot48 p hp
  obtain ⟨g, hg⟩ : ∃ g, w.heap.size = g := ⟨_, rfl⟩
  have hR6 := (Fr.refl [] w).alloc (.cells #[.int .u8 a, .int .u8 x, .int .u8 y, .int .u8 s, .int .u8 p, .int .u16 pc] 24)
  obtain ⟨w1, hw1⟩ : ∃ w1, w.alloc (.cells #[.int .u8 a, .int .u8 x, .int .u8 y, .int .u8 s, .int .u8 p, .int .u16 pc] 24) = w1 := ⟨_, rfl⟩
  rw [hw1] at hR6
  have hs1 : w1.heap.size = g + 1 := by rw [← hw1, ← hg]; simp
  obtain ⟨w2, hw2⟩ : ∃ w2, w1.alloc (.cells Tryd.zeroCells37 37) = w2 := ⟨_, rfl⟩
  have hs2 : w2.heap.size = g + 1 + 1 := by rw [← hw2]; simp [hs1]
  have hflat : FlatAt w2 (g + 1) nil0 ⟨m0, []⟩ := by rw [← hw2, ← hs1]; exact flat_laid w1 B
  obtain ⟨w3, hw3⟩ : ∃ w3, w2.alloc (.cells #[.int .u8 a, .int .u8 x, .int .u8 y, .int .u8 s, .int .u8 (noBU p), .int .u16 pc, .bool false] 50) = w3 := ⟨_, rfl⟩
  have hs3 : w3.heap.size = g + 1 + 1 + 1 := by rw [← hw3]; simp [hs2]
  have hcpu : Blk w3 (g + 1 + 1) 50 (cpuC ⟨a, x, y, s, noBU p, pc, false, ⟨m0, []⟩⟩) := by rw [← hw3, ← hs2]; exact Blk.fresh w2 _ _
  obtain ⟨RC, hRC⟩ : ∃ C, ((((((Tryd.zeroCells40.setIfInBounds 0 (.int .u8 a)).setIfInBounds 1 (.int .u8 x)).setIfInBounds 2 (.int .u8 y)).setIfInBounds 3 (.int .u8 s)).setIfInBounds 4 (.int .u8 (noBU p))).setIfInBounds 5 (.int .u16 pc)) = C := ⟨_, rfl⟩
  have hcs := ref_cells a x y s (noBU p) pc
  rw [hRC] at hcs
  obtain ⟨w4, hw4⟩ : ∃ w4, w3.alloc (.cells RC 40) = w4 := ⟨_, rfl⟩
  have h23 : Fr [] w2 w3 := by rw [← hw3]; exact (Fr.refl [] w2).alloc _
  have h34 : Fr [] w3 w4 := by rw [← hw4]; exact (Fr.refl [] w3).alloc _
  have hw04 : Fr [] w w4 := by
    have h12 : Fr [] w1 w2 := by rw [← hw2]; exact (Fr.refl [] w1).alloc _
    exact ((hR6.tr h12).tr h23).tr h34
  have hs4 : w4.heap.size = g + 1 + 1 + 1 + 1 := by rw [← hw4]; simp [hs3]
  have HB0 : Hid (Both w4 B (g + 1 + 1) (g + 1) (g + 1 + 1 + 1) nil0 nil0 ⟨a, x, y, s, noBU p, pc, false, ⟨m0, []⟩⟩) := Lib.hid ⟨⟨hcpu.fr h34 (by simp), hflat.fr (h23.tr h34) (by simp), Pk.PkOwn.none_ w4 B _, hT.later hw04, hB0, by omega, by omega⟩, ⟨⟨RC, by rw [← hw4, ← hs3]; exact Blk.fresh w3 _ _, hcs.1, hcs.2⟩, Pk.PkOwn.none_ w4 B _⟩, fun k hk => by simp [nil0, Value.ownBlock] at hk, by omega⟩
  have HF0 := Lib.hid hw04
  have HG : Hid (w.heap.size = g) := Lib.hid hg
  have h0b : ∀ j, byte (m0 j) := fun j => ⟨by show (0:Int) ≤ 0; omega, by show (0:Int) < 256; omega⟩
  have HM0 := Lib.hid h0b
  have HW4 : Hid ((((w.alloc (.cells #[.int .u8 a, .int .u8 x, .int .u8 y, .int .u8 s, .int .u8 p, .int .u16 pc] 24)).alloc (.cells Tryd.zeroCells37 37)).alloc (.cells #[.int .u8 a, .int .u8 x, .int .u8 y, .int .u8 s, .int .u8 (noBU p), .int .u16 pc, .bool false] 50)).alloc (.cells RC 40) = w4) := Lib.hid (by rw [hw1, hw2, hw3, hw4])
  have HRC := Lib.hid hRC
  clear hT hR6 hw1 hs1 hw2 hs2 hflat hw3 hs3 hcpu hcs hw4 h23 h34 hw04 hs4 h0b hz hzb hl hp hg hRC
  go_enter Tryd.func11, Tryd.ntmps11
  go_upto_region 4 with fail
  rw [HRC.out, HW4.out, HG.out]
  have HGq : Hid (w.heap.size ≤ g + 1 + 1 + 1) := Lib.hid (by rw [HG.out]; omega)
  have HGp : Hid (w.heap.size ≤ g + 1 + 1) := Lib.hid (by rw [HG.out]; omega)
  have HGf : Hid (w.heap.size ≤ g + 1) := Lib.hid (by rw [HG.out]; omega)
  clear HW4 HRC HG
  generalize g + 1 + 1 + 1 = q at *
  generalize g + 1 + 1 = pp at *
  generalize g + 1 = f at *
  generalize Tryd.zeroCells37 = ZC at *
  go_wp2_with fail
  go_loopw [12] (fun s12 wr => ∃ (i : Nat) (m : Int → Int), s12 = .int .i64 (i : Int) ∧ i ≤ 65536 ∧ Both wr B pp f q nil0 nil0 ⟨a, x, y, s, noBU p, pc, false, ⟨m, []⟩⟩ ∧ (∀ j, byte (m j)) ∧ Fr [] w wr) (fun s12 _ => 65536 - (intOf s12).toNat)
  case atStart => exact ⟨0, m0, rfl, by omega, HB0.out, HM0.out, HF0.out⟩
  case round =>
    obtain ⟨i, m, rfl, hi, hb, hmb, hfr⟩ := hrel
    have HBr := Lib.hid hb
    have HMb := Lib.hid hmb
    have HFr := Lib.hid hfr
    clear hb hmb hfr
    have hi0 : (0 : Int) ≤ i := by omega
    by_cases h1 : i < 65536
    · have h1' : (i : Int) < 65536 := by omega
      obtain ⟨z, hz⟩ : ∃ z : Int, (i : Int) = z := ⟨_, rfl⟩
      rw [hz] at hi0 h1' ⊢
      have HZi := Lib.hid hz
      have hzn : z.toNat = i := by omega
      have HU : Hid (u16 z) := Lib.hid ⟨hi0, h1'⟩
      have hFv := fillV_byte z fl0
      have HFl : Hid (Calls Tryd.prog 20 #[.int .i64 z, .int .u8 fl0] wr.drew fun e w' => e = .returned (.int .u8 (fillV z fl0)) ∧ wr.drew = w') := Lib.hid (fill_any wr.drew z fl0 hi0 h1' HFb.out)
      have HFv := Lib.hid hFv
      generalize fillV z fl0 = F at *
      have HBd : Hid (Both wr.drew B pp f q nil0 nil0 ⟨a, x, y, s, noBU p, pc, false, ⟨m, []⟩⟩) := Lib.hid (HBr.out.fr (Fr.refl [] wr).drew (by simp))
      have HFd : Hid (Fr [] w wr.drew) := Lib.hid HFr.out.drew
      have HIi := Lib.hid h1
      clear hz hzn h1 hi
      go_upto_region 7 with fail
      go_still_tail 8, (by kernel_rfl)
      repeat still_step
      still_call (HFl.out.mono fun e w' h => ⟨h.1, h.2.symm⟩)
      repeat still_step
      try refine wpStill_nil ?_
      change wpList _ _ _ _ _ wr.drew
      obtain ⟨wa, hwa⟩ : ∃ wa, wr.drew = wa := ⟨_, rfl⟩
      rw [hwa] at HBd HFd ⊢
      clear HFl HBr HFr hwa
      have d0 : wa.cell? ⟨f, z.toNat, none⟩ = some (.int .u8 (m z)) := HBd.out.prog.flat.mem z HU.out
      have e0 := HBd.out.prog.flat.frozen z.toNat
      have HP1 := Lib.hid (both_put1 HBd.out z F HU.out)
      have HF1 : Hid (Fr [] w (wa.setCell ⟨f, z.toNat, none⟩ (.int .u8 F))) := Lib.hid (HFd.out.setCell (.inr HGf.out) _)
      have HDj := Lib.hid (And.intro HBd.out.disj HBd.out.qp)
      go_upto_region 8 with fail
      clear d0 e0 HBd HFd
      generalize wa.setCell _ _ = wb at *
      have HPd : Hid (ProgAt wb.drew B pp f nil0 ⟨a, x, y, s, noBU p, pc, false, ⟨upd m z F, []⟩⟩) := Lib.hid (HP1.out.1.fr (Fr.refl [] wb).drew (by simp))
      have HRd : Hid (RefAt wb.drew B q nil0 ⟨a, x, y, s, noBU p, pc, false, ⟨m, []⟩⟩) := Lib.hid (HP1.out.2.fr (Fr.refl [] wb).drew (by simp))
      have HFd : Hid (Fr [] w wb.drew) := Lib.hid HF1.out.drew
      have d0 : wb.cell? ⟨f, z.toNat, none⟩ = some (.int .u8 (upd m z F z)) := HP1.out.1.flat.mem z HU.out
      rw [show upd m z F z = F by unfold upd; rw [if_pos rfl]] at d0
      go_still_tail 11, (by kernel_rfl)
      repeat still_step
      try refine wpStill_nil ?_
      change wpList _ _ _ _ _ wb.drew
      clear d0 HP1 HF1
      generalize wb.drew = wc at *
      have d1 : wc.cell? ⟨q, 7 + z.toNat, none⟩ = some (.int .u8 (m z)) := HRd.out.mem z HU.out
      have e1 := HRd.out.frozen (7 + z.toNat)
      have HB2 := Lib.hid (both_put2 HPd.out HRd.out HDj.out z F HU.out rfl)
      have HF2 : Hid (Fr [] w (wc.setCell ⟨q, 7 + z.toNat, none⟩ (.int .u8 F))) := Lib.hid (HFd.out.setCell (.inr HGq.out) _)
      go_wp2
      go_roundw
      case rel => exact ⟨i + 1, upd m z F, by rw [← HZi.out]; go_num, by have := HIi.out; omega, HB2.out, both_byte m z F HMb.out HFv.out, HF2.out⟩
      case measure => simp [intOf]; have := HIi.out; have := HZi.out; omega
    · obtain rfl : i = 65536 := by omega
      obtain ⟨w5, rfl⟩ : ∃ x, x = wr := ⟨_, rfl⟩
      clear h1 hi HB0 HF0 HM0
      go_wp2_with fail
      go_loopw [13] (fun s13 wr => ∃ (i : Nat) (m : Int → Int), s13 = .int .i64 (i : Int) ∧ i ≤ l ∧ Both wr B pp f q nil0 nil0 ⟨a, x, y, s, noBU p, pc, false, ⟨m, []⟩⟩ ∧ (∀ j, byte (m j)) ∧ Fr [] w wr) (fun s13 _ => l - (intOf s13).toNat)
      case atStart => exact ⟨0, m, rfl, Nat.zero_le _, HBr.out, HMb.out, HFr.out⟩
      case round =>
        clear HBr HMb HFr
        obtain ⟨i, m, rfl, hi, hb, hmb, hfr⟩ := hrel
        have HBr := Lib.hid hb
        have HMb := Lib.hid hmb
        have HFr := Lib.hid hfr
        clear hb hmb hfr
        have hi0 : (0 : Int) ≤ i := by omega
        rcases (show (i < l ∧ i < 80) ∨ (¬ i < l) ∨ (i < l ∧ ¬ i < 80) by omega) with ⟨h1, h2⟩ | h1 | ⟨h1, h2⟩
        · have h1' : (i : Int) < l := by omega
          have h2' : (i : Int) < 80 := by omega
          obtain ⟨ab, ao, rfl, -⟩ := (HZ.out.later HFr.out (by simp)) (by rw [HZL.out]; omega)
          have hil : i < zs.length := by rw [HZL.out]; exact h1
          have HQ : Hid (∀ W, Fr [] w W → W.cell? ⟨ab, ao + i * 2, none⟩ = some (.int .u16 zs[i].1) ∧ W.cell? ⟨ab, ao + i * 2 + 1, none⟩ = some (.int .u8 zs[i].2)) := Lib.hid (fun W hW => by
            obtain ⟨b', o', he, hcs⟩ := (HZ.out.later hW (by simp)) (by rw [HZL.out]; omega)
            cases he
            exact hcs i hil)
          obtain ⟨q0, q1⟩ := HQ.out wr HFr.out
          obtain ⟨hzu, hzv⟩ := HZB.out _ (List.getElem_mem hil)
          generalize zs[i].1 = za at *
          generalize zs[i].2 = F at *
          have HU := Lib.hid hzu
          have HFv := Lib.hid hzv
          obtain ⟨za0, za1⟩ := hzu
          obtain ⟨F0, F1⟩ := hzv
          have HBd : Hid (Both wr.drew B pp f q nil0 nil0 ⟨a, x, y, s, noBU p, pc, false, ⟨m, []⟩⟩) := Lib.hid (HBr.out.fr (Fr.refl [] wr).drew (by simp))
          have HFd : Hid (Fr [] w wr.drew) := Lib.hid HFr.out.drew
          go_upto_region 12 with fail
          go_still_tail 14, (by kernel_rfl)
          repeat still_step
          try refine wpStill_nil ?_
          change wpList _ _ _ _ _ wr.drew
          obtain ⟨wa, hwa⟩ : ∃ wa, wr.drew = wa := ⟨_, rfl⟩
          rw [hwa] at HBd HFd ⊢
          clear HBr HFr hwa q0 q1
          have d0 : wa.cell? ⟨f, za.toNat, none⟩ = some (.int .u8 (m za)) := HBd.out.prog.flat.mem za HU.out
          have e0 := HBd.out.prog.flat.frozen za.toNat
          have HP1 := Lib.hid (both_put1 HBd.out za F HU.out)
          have HF1 : Hid (Fr [] w (wa.setCell ⟨f, za.toNat, none⟩ (.int .u8 F))) := Lib.hid (HFd.out.setCell (.inr HGf.out) _)
          have HDj := Lib.hid (And.intro HBd.out.disj HBd.out.qp)
          go_upto_region 13 with fail
          clear d0 e0 HBd HFd
          generalize wa.setCell _ _ = wb at *
          have HPd : Hid (ProgAt wb.drew B pp f nil0 ⟨a, x, y, s, noBU p, pc, false, ⟨upd m za F, []⟩⟩) := Lib.hid (HP1.out.1.fr (Fr.refl [] wb).drew (by simp))
          have HRd : Hid (RefAt wb.drew B q nil0 ⟨a, x, y, s, noBU p, pc, false, ⟨m, []⟩⟩) := Lib.hid (HP1.out.2.fr (Fr.refl [] wb).drew (by simp))
          have HFd : Hid (Fr [] w wb.drew) := Lib.hid HF1.out.drew
          obtain ⟨q0, q1⟩ := HQ.out wb HF1.out
          go_still_tail 14, (by kernel_rfl)
          repeat still_step
          try refine wpStill_nil ?_
          change wpList _ _ _ _ _ wb.drew
          clear q0 q1 HP1 HF1
          generalize wb.drew = wc at *
          have d1 : wc.cell? ⟨q, 7 + za.toNat, none⟩ = some (.int .u8 (m za)) := HRd.out.mem za HU.out
          have e1 := HRd.out.frozen (7 + za.toNat)
          have HB2 := Lib.hid (both_put2 HPd.out HRd.out HDj.out za F HU.out rfl)
          have HF2 : Hid (Fr [] w (wc.setCell ⟨q, 7 + za.toNat, none⟩ (.int .u8 F))) := Lib.hid (HFd.out.setCell (.inr HGq.out) _)
          go_wp2
          refine ⟨⟨_, _, _, _, _, _, _, _, _, _, _, _, _, _, _, _, _, _, _, _, _, _, _, _, _, _, _, _, _, _, _, _, _, _, _, _, _, _, _, ⟨i + 1, upd m za F, by go_num, by omega, HB2.out, both_byte m za F HMb.out HFv.out, HF2.out⟩, rfl⟩, ?measure⟩
          case measure => simp [intOf]; omega
        all_goals
          go_wp2
          go_ret3
          exact ⟨pp, f, q, m, rfl, HBr.out, HMb.out, HFr.out, HGp.out, HGf.out, HGq.out⟩

end Ms
end Go.Proofs.YtlnpadekgakghaaDoor
