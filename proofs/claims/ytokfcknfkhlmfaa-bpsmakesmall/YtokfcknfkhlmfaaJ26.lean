/-
  Contracts of bpsmake's newMaker, putSum and Create. Conditions: texts of up to 1000000 bytes, meta of up to 100000.
  Contract of bps' (*maker).do, over the contracts of a deed's two functions.
-/
import Derived.Test.YtokfcknfkhlmfaaJ21
import Derived.Test.YtokfcknfkhlmfaaJ24
import Derived.Test.YtokfcknfkhlmfaaJ25
import Derived.Test.YtokfcknfkhlmfaaJ05
import Derived.Test.YtokfcknfkhlmfaaJ23
import Derived.Lib.MinMax
import Derived.Test.YtokfcknfkhlmfaaJ12
import Derived.Test.YtokfcknfkhlmfaaJ19
import Derived.Deep.DeepCutAuto
namespace Go.Proofs.Ytokfcknfkhlmfaa
open Go.RowKit
namespace Bm
open Ups (le4 sum le4_length putL4)

/-- A writer that is new since w. -/
structure Ws (w : World) (q : Nat) (v : Value) (l : List UInt8) (W : World) : Prop where
  wr : Wr W (q + 1) q v l
  fr : Fr [] w W
  hq : w.heap.size ≤ q
  hz : q + 1 ≤ W.heap.size
theorem Ws.later {w : World} {q : Nat} {v : Value} {l : List UInt8} {W W' : World} (h : Ws w q v l W) (hf : Fr [] W W') : Ws w q v l W' := ⟨h.wr.fr hf (by simp) (by simp), h.fr.tr hf, h.hq, Nat.le_trans h.hz hf.size⟩
theorem Ws.wrote {w : World} {q : Nat} {v v' : Value} {l l' : List UInt8} {W W' : World} (h : Ws w q v l W) (hw : Wr W' (q + 1) q v' l') (hf : Fr (foot q v) W W') : Ws w q v' l' W' := by
  refine ⟨hw, h.fr.trans hf ?_, h.hq, Nat.le_trans h.hz hf.size⟩
  intro k hk
  simp only [foot, List.mem_cons, Option.mem_toList] at hk
  right
  have := h.hq
  rcases hk with rfl | hk
  · exact this
  · have := (h.wr.2.lt k hk).1; omega

/-- A writer has more. -/
def Put (w : World) (q : Nat) (l : List UInt8) (e : Ending) (w' : World) : Prop := e = .returned (.tuple #[]) ∧ ∃ v, Ws w q v l w'

set_option maxRecDepth 100000 in
set_option maxHeartbeats 1000000 in
theorem putSum_any (w W : World) (q n c : Nat) (v : Value) (l x : List UInt8) (A : Option Addr) (h : Ws w q v l W) (hl : l.length ≤ 100000000) (hn : x.length = n) (hn2 : n ≤ 1000000000) (hr : Rd W A x) :
    Calls Try.prog 19 #[.pointer (some ⟨q, 0, none⟩), .slice A n c] W (Put w q (l ++ le4 (sum x))) := by
  have HC := Lib.hid (Crc.sum_any W A n c x hn hr hn2)
  have HW := Lib.hid h
  obtain ⟨X, hX⟩ : ∃ X, sum x = X := ⟨_, rfl⟩
  rw [show Crc.next 0#32 x = X from hX] at HC
  rw [hX]
  have hwa : IntKind.u64.wrap (Crc.u X) = Crc.u X := by have := Crc.u_bounds X; rw [IntKind.wrap_u64]; omega
  have HL : Hid (∀ W', Ws w q v l W' → Calls Try.prog 37 #[.pointer (some ⟨q, 0, none⟩), .int .u64 (Crc.u X), .int .i64 4] W' (Wrote W' (q + 1) q v (l ++ le4 X))) := Lib.hid fun W' h1 => by
    rw [← putL4]
    exact wlittleZ W' (q + 1) q v l (Crc.u X) X.toNat 4 rfl h1.wr h1.hz (by omega)
  have HQ : Hid (∀ W v, Ws w q v (l ++ le4 X) W → Put w q (l ++ le4 X) (.returned (.tuple #[])) W) := Lib.hid fun W v h1 => ⟨rfl, v, h1⟩
  generalize Put w q (l ++ le4 X) = Q at *
  clear h hr hX hl
  go_enter Try.func19, Try.ntmps19
  go_wp2_with fail
  refine HC.out.mono ?_
  rintro e w2 ⟨rfl, hf2⟩
  have HW2 := Lib.hid (HW.out.later hf2)
  clear hf2
  go_wp2_with fail
  refine (HL.out w2 HW2.out).mono ?_
  rintro e w3 ⟨rfl, v3, hw3, hf3, -⟩
  have HE := Lib.hid (HQ.out w3 v3 (HW2.out.wrote hw3 hf3))
  clear hw3 hf3
  go_wp2_with fail
  go_end0
  exact HE.out

set_option maxRecDepth 100000 in
set_option maxHeartbeats 1000000 in
theorem newMaker_any (w : World) (A D : Option Addr) (la ca lb cb q : Nat) (hnb : lb ≤ 1000000) :
    Calls Try.prog 17 #[.slice A la ca, .slice D lb cb, .pointer (some ⟨q, 0, none⟩)] w fun e w' => ∃ lk : Nat, e = .returned (.pointer (some ⟨w.heap.size, 0, none⟩)) ∧ 1 ≤ lk ∧ lk ≤ 1000000000 ∧ Blk w' w.heap.size 92 (mkV A D ca cb la lb none lk 0 0 0 0 q) ∧ Fr [] w w' := by
  obtain ⟨M, hM⟩ : ∃ M : Nat, max (lb : Int) 1 = (M : Int) := ⟨max lb 1, by omega⟩
  have hM1 : 1 ≤ M := by omega
  have hM0 : ¬ (M : Int) = 0 := by omega
  obtain ⟨K, hK⟩ : ∃ K : Nat, Int.tdiv 134217728 (M : Int) = (K : Int) := ⟨134217728 / M, by rw [Int.tdiv_eq_ediv_of_nonneg (by decide)]; rfl⟩
  have hK2 : K ≤ 134217728 := by
    have : (K : Int) ≤ 134217728 := by
      rw [← hK, Int.tdiv_eq_ediv_of_nonneg (by decide)]
      exact Int.ediv_le_self _ (by decide)
    omega
  have hKw : IntKind.i64.wrap (K : Int) = (K : Int) := by rw [IntKind.wrap_i64]; omega
  obtain ⟨lk, hlk⟩ : ∃ lk : Nat, max (8 : Int) (K : Int) = (lk : Int) := ⟨max 8 K, by omega⟩
  have hlk1 : 1 ≤ lk := by omega
  have hlk2 : lk ≤ 1000000000 := by omega
  obtain ⟨s, hs⟩ : ∃ s, w.heap.size = s := ⟨_, rfl⟩
  rw [hs]
  go_enter Try.func17, Try.ntmps17
  go_wp2
  go_ret
  refine ⟨lk, rfl, hlk1, hlk2, ?_, (Fr.refl [] w).alloc _⟩
  have := Blk.fresh w 92 (mkV A D ca cb la lb none lk 0 0 0 0 q)
  rw [hs] at this
  exact this

theorem Ws.other {w : World} {q : Nat} {v : Value} {l : List UInt8} {W : World} (h : Ws w q v l W) {k : Nat} {ty : TypeId} {cs : Array Value} (hk : Blk W k ty cs) (h1 : ty ≠ 5) (h2 : ty ≠ 50) : k ∉ foot q v := by
  simp only [foot, List.mem_cons, Option.mem_toList]
  rintro (rfl | h3)
  · exact hk.other h.wr.1 h2 rfl
  · exact h.wr.2.other hk (fun e => h1 e.symm) h3

/-- The patch that Create makes, of what was told. -/
def patO (a b mt : List UInt8) (σ : S8) : Bps.Pat := ⟨a.length, b.length, sum a, sum b, mt, σ.L ++ leftL b σ.told b.length⟩
/-- What Create leaves. -/
def MadeC (w : World) (a b mt : List UInt8) (e : Ending) (w' : World) : Prop :=
  ∃ σ R n, Runs a b σ ∧ σ.u = b.length ∧ (patO a b mt σ).whole.length = n ∧ e = .returned (.tuple #[.slice (some ⟨R, 0, none⟩) n n, .int .i64 0]) ∧ w.heap.size ≤ R ∧ Blk w' R 5 (bv (patO a b mt σ).whole).toArray ∧ Fr [] w w'

/-- What stands ahead of meta, when some sizes are written. -/
def hd (la lb lm i : Nat) : List UInt8 := [66, 80, 83, 49] ++ ([Var.putV la, Var.putV lb, Var.putV lm].take i).flatten
theorem hd_len (la lb lm i : Nat) (ha : la ≤ 1000000) (hb : lb ≤ 1000000) (hm : lm ≤ 1000000) : (hd la lb lm i).length ≤ 19 := by
  have h1 := Var.putV_le5 (u := la) (by unfold Var.most; omega)
  have h2 := Var.putV_le5 (u := lb) (by unfold Var.most; omega)
  have h3 := Var.putV_le5 (u := lm) (by unfold Var.most; omega)
  unfold hd
  rcases (by omega : i = 0 ∨ i = 1 ∨ i = 2 ∨ 3 ≤ i) with rfl | rfl | rfl | h
  · simp
  · simp; omega
  · simp; omega
  · rw [List.take_of_length_le (by simpa using h)]
    simp
    omega

set_option maxRecDepth 100000 in
set_option maxHeartbeats 4000000 in
theorem create_any (w : World) (A D M : Option Addr) (ca cb cm la lb lm : Nat) (a b mt : List UInt8) (hla : a.length = la) (hlb : b.length = lb) (hlm : mt.length = lm) (hca : la ≤ ca) (hcb : lb ≤ cb) (hna : la ≤ 1000000) (hnb : lb ≤ 1000000) (hnm : lm ≤ 100000) (hA : Rd w A a) (hD : Rd w D b) (hM : Rd w M mt) (hMc : M = none → cm = 0) :
    Calls Try.prog 8 #[.slice A la ca, .slice D lb cb, .slice M lm cm] w (MadeC w a b mt) := by
  have HA := Lib.hid hA
  have HD := Lib.hid hD
  have HMt := Lib.hid hM
  have Hla := Lib.hid hla
  have Hlb := Lib.hid hlb
  have Hlm := Lib.hid hlm
  have i1 : ¬ (16777216 : Int) < la := by omega
  have i2 : ¬ (16777216 : Int) < lb := by omega
  have i3 : ¬ (1048576 : Int) < lm := by omega
  obtain ⟨q, hq⟩ : ∃ q, w.heap.size = q := ⟨_, rfl⟩
  have HBy : Hid (∀ W v l (E : Option Addr) (n c : Nat) (x : List UInt8), Ws w q v l W → l.length ≤ 100000000 → x.length = n → n ≤ 1000000 → Rd W E x → (E = none → c = 0) → Calls Try.prog 15 #[.pointer (some ⟨q, 0, none⟩), .slice E n c] W (Wrote W (q + 1) q v (l ++ x))) := Lib.hid fun W v l E n c x h1 h2 h3 h4 h5 h6 =>
    wbytes W (q + 1) q v l E n c x h1.wr h1.hz (by omega) h3 h5 h6
  have hbz : ∀ W : World, (Instr.build 50 #[]).run Try.prog W = .ok (.agg #[.slice none 0 0]) W := fun W => run_build W 50 _ _ (by kernel_rfl)
  generalize hQ : MadeC w a b mt = Q
  have HQ : Hid (∀ W σ R n, Runs a b σ → σ.u = b.length → (patO a b mt σ).whole.length = n → w.heap.size ≤ R → Blk W R 5 (bv (patO a b mt σ).whole).toArray → Fr [] w W → Q (.returned (.tuple #[.slice (some ⟨R, 0, none⟩) n n, .int .i64 0])) W) := Lib.hid fun W σ R n h1 h2 h3 h4 h5 h6 => by rw [← hQ]; exact ⟨σ, R, n, h1, h2, h3, rfl, h4, h5, h6⟩
  clear hA hD hM hla hlb hlm hQ
  go_enter Try.func8, Try.ntmps8
  go_upto_region 4 with fail
  have HW1 : Hid (Ws w q (.slice none 0 0) [] (w.alloc (.cells #[.slice none 0 0] 50))) := Lib.hid (by
    have h1 := Blk.fresh w 50 #[.slice none 0 0]
    rw [hq] at h1
    exact ⟨⟨h1, Own.none_ _ _⟩, (Fr.refl [] w).alloc _, by omega, by simp [hq]⟩)
  have hz1 : (w.alloc (.cells #[.slice none 0 0] 50)).heap.size = q + 1 := by simp [hq]
  generalize w.alloc (.cells #[.slice none 0 0] 50) = w1 at *
  have kc := conv_const w1 (q + 1) hz1 (bv [66, 80, 83, 49]).toArray 4 4
  simp [bv] at kc
  clear hbz
  go_wp2_with fail
  clear kc
  have HC1 : Hid (Calls Try.prog 15 #[.pointer (some ⟨q, 0, none⟩), .slice (some ⟨q + 1, 0, none⟩) 4 4] (w1.alloc (.cells #[.int .u8 66, .int .u8 80, .int .u8 83, .int .u8 49] 5 (4, 5))) (Wrote (w1.alloc (.cells #[.int .u8 66, .int .u8 80, .int .u8 83, .int .u8 49] 5 (4, 5))) (q + 1) q (.slice none 0 0) ([] ++ [66, 80, 83, 49]))) := Lib.hid
    (HBy.out _ _ _ _ 4 4 [66, 80, 83, 49] (HW1.out.later ((Fr.refl [] w1).alloc _)) (by simp) rfl (by omega) (rd_const w1 (q + 1) hz1 [66, 80, 83, 49] 5 (4, 5)) (by simp))
  refine HC1.out.mono ?_
  rintro e w2 ⟨rfl, v2, hw2, hf2, -⟩
  have HW2 : Hid (Ws w q v2 (hd la lb lm 0) w2) := Lib.hid ((HW1.out.later ((Fr.refl [] w1).alloc _)).wrote hw2 hf2)
  clear hw2 hf2 HC1 hz1 HW1
  obtain ⟨pb, hpb⟩ : ∃ pb, w2.heap.size = pb := ⟨_, rfl⟩
  go_upto_region 6 with fail
  have HP3 : Hid (Blk (w2.alloc (.cells #[.slice A la ca, .slice D lb cb, .slice M lm cm] 22)) pb 22 #[.slice A la ca, .slice D lb cb, .slice M lm cm]) := Lib.hid (by
    have h1 := Blk.fresh w2 22 #[.slice A la ca, .slice D lb cb, .slice M lm cm]
    rw [hpb] at h1
    exact h1)
  have HW3 := Lib.hid (HW2.out.later ((Fr.refl [] w2).alloc (.cells #[.slice A la ca, .slice D lb cb, .slice M lm cm] 22)))
  clear HW2
  generalize w2.alloc (.cells #[.slice A la ca, .slice D lb cb, .slice M lm cm] 22) = w3 at *
  have HOne : Hid (∀ (W : World) (i n : Nat) (v : Value), i < 3 → ([la, lb, lm][i]? = some n) → Ws w q v (hd la lb lm i) W → Blk W pb 22 #[.slice A la ca, .slice D lb cb, .slice M lm cm] →
      Calls Try.prog 16 #[.int .u64 (n : Int)] W fun e w' => ∃ V, e = .returned V ∧ Ws w q v (hd la lb lm i) w' ∧ Blk w' pb 22 #[.slice A la ca, .slice D lb cb, .slice M lm cm] ∧
        Calls Try.prog 15 #[.pointer (some ⟨q, 0, none⟩), V] w' fun e w'' => e = .returned (.pointer (some ⟨q, 0, none⟩)) ∧ (∃ v', Ws w q v' (hd la lb lm (i + 1)) w'') ∧ Blk w'' pb 22 #[.slice A la ca, .slice D lb cb, .slice M lm cm]) := Lib.hid (by
    intro W i n v hi hn hW hP
    have hnb' : n ≤ 1000000 := by
      rcases (by omega : i = 0 ∨ i = 1 ∨ i = 2) with rfl | rfl | rfl <;> simp at hn <;> omega
    refine (Var.put_any W n (by unfold Var.most; omega)).mono ?_
    rintro e w' ⟨g, rfl, _, h3, h4⟩
    have hW2 := hW.later h4
    have hP2 := hP.fr h4 (by simp)
    refine ⟨_, rfl, hW2, hP2, ?_⟩
    refine (HBy.out w' v (hd la lb lm i) (some ⟨g, 0, none⟩) _ _ (Var.putV n) hW2 (by have := hd_len la lb lm i (by omega) (by omega) (by omega); omega) rfl (by have := Var.putV_le5 (u := n) (by unfold Var.most; omega); omega) (rd_blk h3) (by simp)).mono ?_
    rintro e w'' ⟨rfl, v', hw, hf, -⟩
    have e1 : hd la lb lm i ++ Var.putV n = hd la lb lm (i + 1) := by
      unfold hd
      rcases (by omega : i = 0 ∨ i = 1 ∨ i = 2) with rfl | rfl | rfl <;> simp at hn <;> subst hn <;> simp [List.append_assoc]
    rw [e1] at hw
    exact ⟨rfl, ⟨v', hW2.wrote hw hf⟩, hP2.fr hf (hW2.other hP2 (by decide) (by decide))⟩)
  go_wp2_with fail
  go_loopw [35] (fun s wr => ∃ i : Nat, s = .int .i64 (i : Int) ∧ i ≤ 3 ∧ (∃ v, Ws w q v (hd la lb lm i) wr) ∧ Blk wr pb 22 #[.slice A la ca, .slice D lb cb, .slice M lm cm]) (fun s _ => 3 - (intOf s).toNat)
  case atStart => exact ⟨0, rfl, by omega, ⟨v2, HW3.out⟩, HP3.out⟩
  case round =>
    obtain ⟨i, rfl, hi, ⟨v, hW⟩, hP⟩ := hrel
    have HW := Lib.hid hW
    have HP := Lib.hid hP
    clear hW hP HW3 HP3
    by_cases hi3 : i < 3
    · obtain ⟨p0, p1, p2⟩ : wr.cell? ⟨pb, 0, none⟩ = some (.slice A la ca) ∧ wr.cell? ⟨pb, 1, none⟩ = some (.slice D lb cb) ∧ wr.cell? ⟨pb, 2, none⟩ = some (.slice M lm cm) := by
        have c0 := HP.out.cell 0
        have c1 := HP.out.cell 1
        have c2 := HP.out.cell 2
        simp at c0 c1 c2
        exact ⟨c0, c1, c2⟩
      have u1 : IntKind.u64.wrap (la : Int) = (la : Int) := by rw [IntKind.wrap_u64]; omega
      have u2 : IntKind.u64.wrap (lb : Int) = (lb : Int) := by rw [IntKind.wrap_u64]; omega
      have u3 : IntKind.u64.wrap (lm : Int) = (lm : Int) := by rw [IntKind.wrap_u64]; omega
      rcases (by omega : i = 0 ∨ i = 1 ∨ i = 2) with rfl | rfl | rfl
      · clear p1 p2
        go_wp2_with fail
        refine (HOne.out wr 0 la v (by omega) rfl HW.out HP.out).mono ?_
        rintro e w4 ⟨V, rfl, hw4, hp4, hc4⟩
        have HC4 := Lib.hid hc4
        clear hw4 hp4 hc4 p0
        go_wp2_with fail
        refine HC4.out.mono ?_
        rintro e w5 ⟨rfl, hw5, hp5⟩
        have HW5 := Lib.hid hw5
        have HP5 := Lib.hid hp5
        clear hw5 hp5 HC4
        go_wp2
        go_roundw
        case rel => exact ⟨1, rfl, by omega, HW5.out, HP5.out⟩
        case measure => simp [intOf]
      · clear p0 p2
        go_wp2_with fail
        refine (HOne.out wr 1 lb v (by omega) rfl HW.out HP.out).mono ?_
        rintro e w4 ⟨V, rfl, hw4, hp4, hc4⟩
        have HC4 := Lib.hid hc4
        clear hw4 hp4 hc4 p1
        go_wp2_with fail
        refine HC4.out.mono ?_
        rintro e w5 ⟨rfl, hw5, hp5⟩
        have HW5 := Lib.hid hw5
        have HP5 := Lib.hid hp5
        clear hw5 hp5 HC4
        go_wp2
        go_roundw
        case rel => exact ⟨2, rfl, by omega, HW5.out, HP5.out⟩
        case measure => simp [intOf]
      · clear p0 p1
        go_wp2_with fail
        refine (HOne.out wr 2 lm v (by omega) rfl HW.out HP.out).mono ?_
        rintro e w4 ⟨V, rfl, hw4, hp4, hc4⟩
        have HC4 := Lib.hid hc4
        clear hw4 hp4 hc4 p2
        go_wp2_with fail
        refine HC4.out.mono ?_
        rintro e w5 ⟨rfl, hw5, hp5⟩
        have HW5 := Lib.hid hw5
        have HP5 := Lib.hid hp5
        clear hw5 hp5 HC4
        go_wp2
        go_roundw
        case rel => exact ⟨3, rfl, by omega, HW5.out, HP5.out⟩
        case measure => simp [intOf]
    · obtain rfl : i = 3 := by omega
      clear HOne HP
      have hhd := hd_len la lb lm 3 (by omega) (by omega) (by omega)
      obtain ⟨l3, hl3⟩ : ∃ l3, hd la lb lm 3 = l3 := ⟨_, rfl⟩
      rw [hl3] at HW hhd
      have Hl3 := Lib.hid hl3
      have HC3 : Hid (Calls Try.prog 15 #[.pointer (some ⟨q, 0, none⟩), .slice M lm cm] wr (Wrote wr (q + 1) q v (l3 ++ mt))) := Lib.hid (HBy.out wr v l3 M lm cm mt HW.out (by omega) Hlm.out (by omega) (HMt.out.later HW.out.fr (by simp)) hMc)
      have hl4 : (l3 ++ mt).length ≤ 200000 := by rw [List.length_append, Hlm.out]; omega
      obtain ⟨l4, hl4e⟩ : ∃ l4, l3 ++ mt = l4 := ⟨_, rfl⟩
      rw [hl4e] at HC3 hl4
      have Hl4e := Lib.hid hl4e
      clear hl3 hl4e
      go_wp2_with fail
      refine HC3.out.mono ?_
      rintro e w4 ⟨rfl, v4, hw4, hf4, -⟩
      have HW4 := Lib.hid (HW.out.wrote hw4 hf4)
      clear hw4 hf4 HC3 HW
      obtain ⟨m, hm⟩ : ∃ m, w4.heap.size = m := ⟨_, rfl⟩
      go_wp2_with fail
      refine (newMaker_any w4 A D la ca lb cb q hnb).mono ?_
      rintro e w5 ⟨lk, rfl, hlk1, hlk2, hb5, hf5⟩
      rw [hm] at hb5 ⊢
      have HM5 : Hid (Ms w m q (q + 1) A D ca cb la lb lk a b none 0 0 0 0 v4 l4 w5) := Lib.hid (by
        have h1 := HW4.out.later hf5
        have h2 := HW4.out.fr.size
        exact ⟨hb5, .inl rfl, h1.wr, h1.fr, by omega, h1.hq, by omega, h1.hz⟩)
      clear hb5 hf5
      go_wp2_with fail
      refine (tellAll_any w w5 m q (q + 1) A D ca cb la lb lk a b v4 l4 Hla.out Hlb.out hca hcb hna hnb hlk2 hlk1 (by omega) HA.out HD.out HM5.out).mono ?_
      rintro e w6 ⟨rfl, σ, kn6, v6, hR, hu, hm6⟩
      have HW6 : Hid (Ws w q v6 (l4 ++ (σ.L ++ leftL b σ.told lb).flatMap Bps.actB) w6) := Lib.hid ⟨hm6.wr, hm6.fr, hm6.hq, hm6.hBW⟩
      have HR := Lib.hid hR
      have Hu := Lib.hid hu
      have hl6 : (l4 ++ (σ.L ++ leftL b σ.told lb).flatMap Bps.actB).length ≤ 3000000 := by
        have h1 := ((runs_inv (by rw [Hla.out]; omega) (by rw [Hlb.out]; omega) hR).left (by rw [Hlb.out]; omega)).size
        rw [hu] at h1
        rw [List.length_append]
        omega
      obtain ⟨l6, hl6e⟩ : ∃ l6, l4 ++ (σ.L ++ leftL b σ.told lb).flatMap Bps.actB = l6 := ⟨_, rfl⟩
      rw [hl6e] at HW6 hl6
      have Hl6e := Lib.hid hl6e
      clear hR hu hm6 hl6e HM5 HW4
      go_wp2_with fail
      refine (putSum_any w w6 q la ca v6 l6 a A HW6.out (by omega) Hla.out (by omega) (HA.out.later HW6.out.fr (by simp))).mono ?_
      rintro e w7 ⟨rfl, v7, hw7⟩
      have HW7 := Lib.hid hw7
      clear hw7 HW6
      go_wp2_with fail
      refine (putSum_any w w7 q lb cb v7 (l6 ++ le4 (sum a)) b D HW7.out (by rw [List.length_append, le4_length]; omega) Hlb.out (by omega) (HD.out.later HW7.out.fr (by simp))).mono ?_
      rintro e w8 ⟨rfl, v8, hw8⟩
      have hl8 : ((l6 ++ le4 (sum a)) ++ le4 (sum b)).length ≤ 4000000 := by rw [List.length_append, List.length_append, le4_length, le4_length]; omega
      obtain ⟨l8, hl8e⟩ : ∃ l8, (l6 ++ le4 (sum a)) ++ le4 (sum b) = l8 := ⟨_, rfl⟩
      rw [hl8e] at hw8 hl8
      have HW8 := Lib.hid hw8
      have Hl8e := Lib.hid hl8e
      clear hw8 hl8e HW7
      obtain ⟨n8, hn8⟩ : ∃ n8, l8.length = n8 := ⟨_, rfl⟩
      have Hn8 := Lib.hid hn8
      rw [hn8] at hl8
      have HD8 := Lib.hid (wdone w8 (q + 1) q v8 l8 HW8.out.wr (by omega))
      rw [hn8] at HD8
      clear hn8
      go_wp2_with fail
      refine HD8.out.mono ?_
      rintro e w9 ⟨rfl, hb9, hf9⟩
      have HW9 := Lib.hid (HW8.out.later hf9)
      have HC9 := Lib.hid (putSum_any w w9 q n8 n8 v8 l8 l8 (some ⟨w8.heap.size, 0, none⟩) HW9.out (by rw [Hn8.out]; omega) Hn8.out (by omega) (rd_blk hb9))
      clear hb9 hf9 HD8 HW8
      go_wp2_with fail
      refine HC9.out.mono ?_
      rintro e w10 ⟨rfl, v10, hw10⟩
      have HWh : Hid (l8 ++ le4 (sum l8) = (patO a b mt σ).whole) := Lib.hid (by
        rw [← Hl8e.out, ← Hl6e.out, ← Hl4e.out, ← Hl3.out]
        unfold patO Bps.Pat.whole Bps.whole Ups.signed Bps.body Bps.inner hd
        simp only [Hla.out, Hlb.out, Hlm.out]
        simp [List.append_assoc])
      obtain ⟨l10, hl10⟩ : ∃ l10, l8 ++ le4 (sum l8) = l10 := ⟨_, rfl⟩
      have hlen10 : l10.length ≤ 5000000 := by rw [← hl10, List.length_append, le4_length, Hn8.out]; omega
      rw [hl10] at hw10 HWh
      have HW10 := Lib.hid hw10
      clear hw10 HC9 HW9 hl10
      obtain ⟨n10, hn10⟩ : ∃ n10, l10.length = n10 := ⟨_, rfl⟩
      have HLe := Lib.hid (wlen w10 (q + 1) q v10 l10 HW10.out.wr)
      have HDo := Lib.hid (wdone w10 (q + 1) q v10 l10 HW10.out.wr (by omega))
      rw [hn10] at HLe HDo hlen10
      have Hn10 := Lib.hid hn10
      have j1 : ¬ (16777216 : Int) < n10 := by omega
      clear hn10
      go_wp2_with fail
      refine HLe.out.mono ?_
      rintro e w11 ⟨rfl, rfl⟩
      go_wp2_with fail
      refine HDo.out.mono ?_
      rintro e w12 ⟨rfl, hb12, hf12⟩
      have HE : Hid (Q (.returned (.tuple #[.slice (some ⟨w10.heap.size, 0, none⟩) n10 n10, .int .i64 0])) w12) := Lib.hid (HQ.out w12 σ w10.heap.size n10 HR.out (by rw [Hu.out, Hlb.out]) (by rw [← HWh.out]; exact Hn10.out) HW10.out.fr.size (by rw [← HWh.out]; exact hb12) (HW10.out.fr.tr hf12))
      clear hb12 hf12
      go_wp2
      exact HE.out

end Bm
end Go.Proofs.Ytokfcknfkhlmfaa

namespace Go.Proofs.Ytokfcknfkhlmfaa
open Go.RowKit
namespace Bps

/-- A maker at block p: the input's slice, what was made, both places; nothing of w0 has turned. -/
def Mkr (w0 w : World) (p : Nat) (X : Option Addr) (xn xc : Nat) (out : List UInt8) (s t : Int) : Prop :=
  ∃ A c, Blk w p 75 #[.slice X xn xc, .slice A out.length c, .int .i64 s, .int .i64 t] ∧ Own w w0.heap.size (.slice A out.length c) out ∧ w0.heap.size ≤ p ∧ Fr [] w0 w

theorem Mkr.later {w0 w w' : World} {p xn xc : Nat} {X : Option Addr} {out : List UInt8} {s t : Int} (h : Mkr w0 w p X xn xc out s t) (hf : Fr [] w w') : Mkr w0 w' p X xn xc out s t := by
  obtain ⟨A, c, h1, h2, h3, h4⟩ := h
  exact ⟨A, c, h1.fr hf (by simp), h2.fr hf (by simp), h3, h4.tr hf⟩
theorem Mkr.fr0 {w0 w : World} {p xn xc : Nat} {X : Option Addr} {out : List UInt8} {s t : Int} (h : Mkr w0 w p X xn xc out s t) : Fr [] w0 w := by
  obtain ⟨A, c, h1, h2, h3, h4⟩ := h
  exact h4
theorem Mkr.lt {w0 w : World} {p xn xc : Nat} {X : Option Addr} {out : List UInt8} {s t : Int} (h : Mkr w0 w p X xn xc out s t) : w0.heap.size ≤ p ∧ p < w.heap.size := by
  obtain ⟨A, c, h1, h2, h3, h4⟩ := h
  exact ⟨h3, h1.lt⟩

/-- What from leaves: the place of the first byte; the places are behind the bytes then. -/
def Placed (w0 : World) (p : Nat) (X : Option Addr) (xn xc : Nat) (out : List UInt8) (z s t : Int) (w : World) (e : Ending) (w' : World) : Prop :=
  e = .returned (.int .i64 z) ∧ Mkr w0 w' p X xn xc out s t ∧ Fr [p] w w'
/-- What bytes leaves. -/
def Given (l : List UInt8) (w : World) (e : Ending) (w' : World) : Prop :=
  ∃ B c, e = .returned (.slice B l.length c) ∧ Rd w' B l ∧ (B = none → c = 0) ∧ l.length ≤ c ∧ c ≤ maxLen ∧ Fr [] w w'

/-- Blocks other than p that hold no bytes are as they were. -/
def Keeps (p : Nat) (w w' : World) : Prop := ∀ k t cs, Blk w k t cs → k ≠ p → 5 ≠ t → Blk w' k t cs
theorem Keeps.tr {p : Nat} {a b c : World} (h : Keeps p a b) (h' : Keeps p b c) : Keeps p a c := fun k t cs hb hk ht => h' k t cs (h k t cs hb hk ht) hk ht
theorem keeps_fr {p : Nat} {w w' : World} {S : List Nat} (hf : Fr S w w') (hS : ∀ k ∈ S, k = p ∨ ∃ B v l, Own w B v l ∧ v.ownBlock = some k) : Keeps p w w' := by
  intro k t cs hb hk ht
  refine hb.fr hf fun hm => ?_
  rcases hS k hm with h | ⟨B, v, l, ho, he⟩
  · exact hk h
  · exact ho.other hb ht he

/-- What do leaves. -/
def Did (w0 w : World) (p : Nat) (X : Option Addr) (xn xc : Nat) (r : Option St) (e : Ending) (w' : World) : Prop :=
  (∀ st, r = some st → e = .returned (.int .i64 0) ∧ Mkr w0 w' p X xn xc st.out st.s st.t ∧ Keeps p w w') ∧ (r = none → e = .returned (.int .i64 5) ∧ Fr [] w0 w')

set_option maxRecDepth 100000 in
set_option maxHeartbeats 2000000 in
theorem do_gen (w0 w : World) (p : Nat) (X : Option Addr) (xn xc : Nat) (x : List UInt8) (st : St) (a : Act) (D : Option Addr) (c : Nat) (ff fb : Nat) (s' t' : Int)
    (hcf : ∀ args W, (callFunc ff args).run Try.prog W = .ok (.enter ff args) W) (hcb : ∀ args W, (callFunc fb args).run Try.prog W = .ok (.enter fb args) W)
    (hM : Mkr w0 w p X xn xc st.out st.s st.t) (ha : Ok a)
    (hfrom : ∀ W, Mkr w0 W p X xn xc st.out st.s st.t → Calls Try.prog ff #[.pointer (some ⟨p, 0, none⟩), actA a D c] W (Placed w0 p X xn xc st.out (at0_ a.kind (moved a st)) s' t' W))
    (hbytes : ∀ W out, Mkr w0 W p X xn xc out s' t' → Calls Try.prog fb #[.pointer (some ⟨p, 0, none⟩), actA a D c] W (Given (src a.kind x a.data out) W))
    (hs : s' = (if a.kind = 2 then (moved a st).s + a.len else (moved a st).s)) (ht : t' = (if a.kind = 3 then (moved a st).t + a.len else (moved a st).t))
    (hz0 : -4000000000000000000 ≤ at0_ a.kind (moved a st)) (hz1 : at0_ a.kind (moved a st) ≤ 4000000000000000000) (hxl : x.length ≤ 16777216) (hol : st.out.length + a.len ≤ 16777216) :
    Calls Try.prog 29 #[.pointer (some ⟨p, 0, none⟩), .agg #[.func (.func ff) #[.pointer (some ⟨p, 0, none⟩)] #[], .func (.func fb) #[.pointer (some ⟨p, 0, none⟩)] #[]], actA a D c] w (Did w0 w p X xn xc (act1 x a st)) := by
  obtain ⟨i0, hi, hzz0, hzz1, hzz2⟩ := info_parts info5
  have hk4 := ha.kind
  have hpos := ha.pos
  have hlm := ha.len
  have hdl : a.data.length ≤ 16777216 := by
    by_cases h1 : a.kind = 1
    · rw [ha.data h1]; omega
    · rw [ha.none_ h1]; simp
  unfold act1
  have HS := Lib.hid hs
  have HT := Lib.hid ht
  have ho1 : (moved a st).out = st.out := moved_out a st
  obtain ⟨st1, hst1⟩ : ∃ st1, moved a st = st1 := ⟨_, rfl⟩
  rw [hst1] at HS HT hz0 hz1 ho1 hfrom ⊢
  have HFr := Lib.hid hfrom
  have HBy := Lib.hid hbytes
  obtain ⟨z, hz⟩ : ∃ z, at0_ a.kind st1 = z := ⟨_, rfl⟩
  have HZ := Lib.hid hz
  rw [hz] at HFr hz0 hz1
  obtain ⟨R, hR⟩ : ∃ R, runs a.kind x a.data st1 a.len = R := ⟨_, rfl⟩
  have HR := Lib.hid hR
  rw [hR]
  have HM := Lib.hid hM
  have hlt := hM.lt
  have Ho1 := Lib.hid ho1
  clear hs ht hst1 hfrom hbytes hz hR hM ho1
  unfold actA at HFr HBy ⊢
  obtain ⟨sz, hsz⟩ : ∃ sz, w.heap.size = sz := ⟨_, rfl⟩
  rw [hsz] at hlt
  obtain ⟨kd, hkd⟩ : ∃ kd, a.kind = kd := ⟨_, rfl⟩
  obtain ⟨ln, hln⟩ : ∃ ln, a.len = ln := ⟨_, rfl⟩
  obtain ⟨mv, hmv⟩ : ∃ mv, a.move = mv := ⟨_, rfl⟩
  obtain ⟨da, hda⟩ : ∃ da, a.data = da := ⟨_, rfl⟩
  rw [hkd] at HFr HBy HZ HR HS HT hk4 ⊢
  rw [hln] at HFr HBy HR hpos hlm HS HT hol ⊢
  rw [hmv] at HFr HBy ⊢
  rw [hda] at HFr HBy HR hdl ⊢
  clear hkd hln hmv hda ha
  go_enter Try.func29, Try.ntmps29
  have hn1 := Blk.fresh w 79 #[.func (.func ff) #[.pointer (some ⟨p, 0, none⟩)] #[], .func (.func fb) #[.pointer (some ⟨p, 0, none⟩)] #[]]
  rw [hsz] at hn1
  have hal1 : Fr [] w (w.alloc (.cells #[.func (.func ff) #[.pointer (some ⟨p, 0, none⟩)] #[], .func (.func fb) #[.pointer (some ⟨p, 0, none⟩)] #[]] 79)) := (Fr.refl [] w).alloc _
  have hsz1 : (w.alloc (.cells #[.func (.func ff) #[.pointer (some ⟨p, 0, none⟩)] #[], .func (.func fb) #[.pointer (some ⟨p, 0, none⟩)] #[]] 79)).heap.size = sz + 1 := by simp [hsz]
  have hn2 := Blk.fresh (w.alloc (.cells #[.func (.func ff) #[.pointer (some ⟨p, 0, none⟩)] #[], .func (.func fb) #[.pointer (some ⟨p, 0, none⟩)] #[]] 79)) 82 #[.int .i64 (kd : Int), .int .i64 (ln : Int), .int .i64 mv, .slice D da.length c]
  rw [hsz1] at hn2
  have hal2 := hal1.alloc (.cells #[.int .i64 (kd : Int), .int .i64 (ln : Int), .int .i64 mv, .slice D da.length c] 82)
  have HN1 := Lib.hid (hn1.fr ((Fr.refl [] _).alloc (.cells #[.int .i64 (kd : Int), .int .i64 (ln : Int), .int .i64 mv, .slice D da.length c] 82)) (by simp))
  have HN2 := Lib.hid hn2
  have HAl := Lib.hid hal2
  clear hn1 hal1 hsz1 hn2 hal2
  go_wp2_with fail
  generalize (w.alloc _).alloc _ = w1 at *
  refine (HFr.out w1 (HM.out.later HAl.out)).mono ?_
  rintro e w2 ⟨rfl, hM2, hf2⟩
  have HM2 := Lib.hid hM2
  have hB1 := HN1.out.fr hf2 (by simp; omega)
  have hB2 := HN2.out.fr hf2 (by simp; omega)
  obtain ⟨y0, y1, y2, y3⟩ := blk4 hB2
  have HKp := Lib.hid ((keeps_fr (p := p) HAl.out (by simp)).tr (keeps_fr hf2 (by simp)))
  have HB1 := Lib.hid hB1
  have HB2 := Lib.hid hB2
  have hw1 : IntKind.i64.wrap (z + (ln : Int)) = z + (ln : Int) := by rw [IntKind.wrap_i64]; omega
  have hsz2 : sz + 1 < w2.heap.size := hB2.lt
  clear hM2 hf2 hB1 hB2 HN1 HN2 HAl HFr
  go_wp2_with fail
  go_loopw [7] (fun i wr => ∃ (j : Nat) (st' : St), j ≤ ln ∧ i = .int .i64 (z + (j : Int)) ∧ runs kd x da st1 j = some st' ∧ Mkr w0 wr p X xn xc st'.out s' t' ∧ Blk wr sz 79 #[.func (.func ff) #[.pointer (some ⟨p, 0, none⟩)] #[], .func (.func fb) #[.pointer (some ⟨p, 0, none⟩)] #[]] ∧ Blk wr (sz + 1) 82 #[.int .i64 (kd : Int), .int .i64 (ln : Int), .int .i64 mv, .slice D da.length c] ∧ Keeps p w wr) (fun i _ => (z + ln - intOf i).toNat)
  case atStart => exact ⟨0, st1, Nat.zero_le _, by simp, rfl, by rw [Ho1.out]; exact HM2.out, HB1.out, HB2.out, HKp.out⟩
  case round =>
    obtain ⟨j, st', hj, rfl, hrun, hM, hB1, hB2, hKp⟩ := hrel
    have HKr := Lib.hid hKp
    have HRun := Lib.hid hrun
    have HM := Lib.hid hM
    obtain ⟨d0, d1⟩ : wr.cell? ⟨sz, 0, none⟩ = some (.func (.func ff) #[.pointer (some ⟨p, 0, none⟩)] #[]) ∧ wr.cell? ⟨sz, 1, none⟩ = some (.func (.func fb) #[.pointer (some ⟨p, 0, none⟩)] #[]) := ⟨by rw [hB1.cell]; rfl, by rw [hB1.cell]; rfl⟩
    obtain ⟨q0, q1, q2, q3⟩ := blk4 hB2
    have HC1 := Lib.hid hB1
    have HC2 := Lib.hid hB2
    clear hrun hM hB1 hB2 HM2 HB1 HB2 hKp HKp
    by_cases hlt2 : j < ln
    · have e1 : z + (j : Int) < z + (ln : Int) := by omega
      obtain ⟨q, hq⟩ : ∃ q, z + (j : Int) = q := ⟨_, rfl⟩
      rw [hq] at e1 ⊢
      obtain ⟨be, hbe⟩ : ∃ be, z + (ln : Int) = be := ⟨_, rfl⟩
      rw [hbe] at e1 ⊢
      have Hq := Lib.hid hq
      have Hbe := Lib.hid hbe
      have hqb : q < 5000000000000000000 := by omega
      go_wp2_with fail
      refine (HBy.out wr st'.out HM.out).mono ?_
      rintro e w3 ⟨B, bc, rfl, hB, hBn, hnc, hcm, hf3⟩
      have HM3 := Lib.hid (HM.out.later hf3)
      have HK3 := Lib.hid (HKr.out.tr (keeps_fr hf3 (by simp)))
      have HC1' := Lib.hid (HC1.out.fr hf3 (by simp))
      have HC2' := Lib.hid (HC2.out.fr hf3 (by simp))
      have hsl : (src kd x da st'.out).length ≤ 33554432 := by
        have := (runs_places hk4 HRun.out).1
        rw [Ho1.out] at this
        unfold src
        split
        · omega
        · split <;> omega
      have HRm := Lib.hid (fun m (hm : ∀ p' : Nat, q = p' → p' + m ≤ (src kd x da st'.out).length) (p' : Nat) (hp : q = p') => runs_more kd hk4 x da st1 st' j p' m HRun.out (by rw [HZ.out, Hq.out, hp]) (hm p' hp))
      have HSt := Lib.hid (fun hb => runs_stuck kd hk4 x da st1 st' j ln q HRun.out (by rw [HZ.out, Hq.out]) hb hlt2)
      obtain ⟨sl, hsl'⟩ : ∃ sl, src kd x da st'.out = sl := ⟨_, rfl⟩
      rw [hsl'] at hB hnc hsl HRm HSt ⊢
      have HSl := Lib.hid hsl'
      obtain ⟨n, hn⟩ : ∃ n, sl.length = n := ⟨_, rfl⟩
      rw [hn] at hnc hsl HRm HSt ⊢
      have Hn := Lib.hid hn
      have HB := Lib.hid hB
      clear hB hf3 HM HC1 HC2 hq hbe hsl' hn
      unfold maxLen at hcm
      by_cases hbad : q < 0 ∨ (n : Int) ≤ q
      · have HN := Lib.hid (HSt.out hbad)
        by_cases hq0 : q < 0
        · go_wp2
          go_ret
          exact ⟨fun st hst => (by rw [← HR.out, HN.out] at hst; cases hst), fun _ => ⟨rfl, HM3.out.fr0⟩⟩
        · have hqn : (n : Int) ≤ q := by omega
          go_wp2
          go_ret
          exact ⟨fun st hst => (by rw [← HR.out, HN.out] at hst; cases hst), fun _ => ⟨rfl, HM3.out.fr0⟩⟩
      · have hq0 : ¬ q < 0 := by omega
        have hqn : ¬ (n : Int) ≤ q := by omega
        have hqn' : q < (n : Int) := by omega
        go_upto_region 7 with fail
        obtain ⟨P, hP⟩ : ∃ P : Nat, q = P := ⟨q.toNat, by omega⟩
        subst hP
        obtain ⟨BE, hBE⟩ : ∃ BE : Nat, be = BE := ⟨be.toNat, by omega⟩
        subst hBE
        obtain ⟨bb, bo, rfl, -⟩ := HB.out (by rw [Hn.out]; omega)
        obtain ⟨hi2, hhi⟩ : ∃ hi2, min BE n = hi2 := ⟨_, rfl⟩
        have hmin : min (BE : Int) (n : Int) = (hi2 : Int) := by omega
        have h1 : (P : Int) ≤ hi2 := by omega
        have h2 : P ≤ hi2 := by omega
        have h3 : (hi2 : Int) ≤ bc := by omega
        have h4 : hi2 ≤ bc := by omega
        have h5 : ¬ bc = P := by omega
        have h6 : (P : Int) ≤ bc := by omega
        have h7 : P ≤ bc := by omega
        obtain ⟨m, hm⟩ : ∃ m, hi2 - P = m := ⟨_, rfl⟩
        have hm0 : 0 < m := by omega
        have hmn : P + m ≤ n := by omega
        have hml : j + m ≤ ln := by have := Hq.out; have := Hbe.out; omega
        obtain ⟨st2, hst2, hout2⟩ := HRm.out m (fun p' hp => by have : P = p' := by omega
                                                                subst this; exact hmn) P rfl
        have hpl := runs_places hk4 HRun.out
        have hol2 : st'.out.length + m ≤ 16777216 := by rw [hpl.1, Ho1.out]; omega
        obtain ⟨A, cA, hK, hOw, hp0, hfr0⟩ := HM3.out
        obtain ⟨N, hN⟩ : ∃ N, st'.out.length = N := ⟨_, rfl⟩
        rw [hN] at hK hOw hol2
        obtain ⟨k0, k1, k2, k3⟩ := blk4 hK
        have g1 := hK.frozen 1
        have HK := Lib.hid hK
        have HOw := Lib.hid hOw
        have HN := Lib.hid hN
        have HF0 := Lib.hid hfr0
        have Hout2 := Lib.hid hout2
        have Hst2 := Lib.hid hst2
        have HNews : Hid (((sl.drop P).take m).length = m) := Lib.hid (by rw [List.length_take, List.length_drop, Hn.out]; omega)
        have HRd : Hid (Rd w3 (some ⟨bb, bo + P, none⟩) ((sl.drop P).take m)) := Lib.hid (by
          obtain ⟨b', o', e, hx⟩ := HB.out (by rw [Hn.out]; omega)
          cases e
          exact Rd.cut hx P m)
        have hs3 : w0.heap.size ≤ w3.heap.size := hfr0.size
        have hnp : ∀ k ∈ (Value.slice A N cA).ownBlock.toList, k ≠ p := by
          intro k hk e
          subst e
          exact hOw.other hK (by decide) (by simpa using hk)
        have hnq : ∀ k ∈ (Value.slice A N cA).ownBlock.toList, k ≠ sz := by
          intro k hk e
          subst e
          exact hOw.other HC1'.out (by decide) (by simpa using hk)
        have hnr : ∀ k ∈ (Value.slice A N cA).ownBlock.toList, k ≠ sz + 1 := by
          intro k hk e
          subst e
          exact hOw.other HC2'.out (by decide) (by simpa using hk)
        have Hnp := Lib.hid hnp
        have Hnq := Lib.hid hnq
        have Hnr := Lib.hid hnr
        have Hpl := Lib.hid hpl
        clear hK hOw hN hout2 hst2 hfr0 HM3 hpl hbad HRm HSt hnp hnq hnr hhi hq0 hqn hqn' hqb e1
        rw [show decide ((P : Int) < 0) = false by simp, show decide ((n : Int) ≤ (P : Int)) = false by simp; omega]
        go_wp2_with (at_builtin; refine wpList_appN _ rfl (.tmp 45) (.tmp 46) 22 rfl w0.heap.size i0 Try.underlying22 hi hzz0 hzz1 hzz2 (.slice A N cA) st'.out N HN.out rfl HOw.out (some ⟨bb, bo + P, none⟩) m (bc - P) ((sl.drop P).take m) rfl HNews.out HRd.out (by simp) (by omega) hs3 ?_)
        intro A4 c4 w4 ho4 hf4 _
        have hK4 := HK.out.fr hf4 (fun hm => Hnp.out p hm rfl)
        have HC4 := Lib.hid (HC1'.out.fr hf4 (fun hm => Hnq.out sz hm rfl))
        have HC5 := Lib.hid (HC2'.out.fr hf4 (fun hm => Hnr.out (sz + 1) hm rfl))
        have HF4 : Hid (Fr [] w0 w4) := Lib.hid (HF0.out.trans hf4 (fun k hk => .inr (HOw.out.lt k (by simpa using hk)).1))
        have HK5 := Lib.hid (HK3.out.tr (keeps_fr (p := p) hf4 (fun k hk => .inr ⟨_, _, _, HOw.out, by simpa using hk⟩)))
        obtain ⟨r0, r1, r2, r3⟩ := blk4 hK4
        have v1 := hK4.frozen 1
        have HK4 := Lib.hid hK4
        have HO4 := Lib.hid ho4
        have hw5 : IntKind.i64.wrap ((P : Int) + (m : Int)) = (P : Int) + (m : Int) := by rw [IntKind.wrap_i64]; omega
        clear ho4 hf4 hK4 HK HOw HC1' HC2' k0 k1 k2 k3 g1
        go_wp2
        go_roundw
        case rel =>
          have hst : Fr [p] w4 (w4.setCell ⟨p, 1, none⟩ (.slice A4 (N + m) c4)) := (Fr.refl [p] w4).setCell (by simp) _
          have hb := HK4.out.put 1 (.slice A4 (N + m) c4)
          simp only [List.setIfInBounds_toArray, List.set_cons_zero, List.set_cons_succ] at hb
          have hnl : st2.out.length = N + m := by rw [Hout2.out, List.length_append, HN.out, HNews.out]
          refine ⟨j + m, st2, hml, ?_, Hst2.out, ⟨A4, c4, by rw [hnl]; exact hb, ?_, hlt.1, HF4.out.setCell (.inr hlt.1) _⟩, HC4.out.fr hst (by simp; omega), HC5.out.fr hst (by simp; omega), HK5.out.tr (keeps_fr hst (by simp))⟩
          · have := Hq.out
            first
            | (congr 1; omega)
            | (go_num; omega)
          · rw [hnl, Hout2.out]
            refine HO4.out.fr hst (fun k hk hm => ?_)
            have := HO4.out.other HK4.out (by decide)
            simp at hm
            subst hm
            exact this hk
        case measure => simp [intOf]; omega
    · obtain rfl : j = ln := by omega
      go_wp2
      go_ret
      have hpl := runs_places hk4 HRun.out
      refine ⟨fun st hst => ⟨rfl, ?_⟩, fun hn => ?_⟩
      · rw [← HR.out, HRun.out] at hst
        cases hst
        rw [hpl.2.1, hpl.2.2, ← HS.out, ← HT.out]
        exact ⟨HM.out, HKr.out⟩
      · rw [← HR.out, HRun.out] at hn
        cases hn

end Bps
end Go.Proofs.Ytokfcknfkhlmfaa
