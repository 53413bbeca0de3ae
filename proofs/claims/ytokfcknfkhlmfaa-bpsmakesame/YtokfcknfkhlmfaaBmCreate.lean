/-
  Contracts of bpsmake's newMaker, putSum and Create. Conditions: texts of up to 1000000 bytes, meta of up to 100000.
-/
import Derived.Test.YtokfcknfkhlmfaaBmTellAll
import Derived.Test.YtokfcknfkhlmfaaM6
import Derived.Test.YtokfcknfkhlmfaaM7
import Derived.Test.YtokfcknfkhlmfaaSumWord
import Derived.Test.YtokfcknfkhlmfaaM5
import Derived.Lib.MinMax
namespace Go.Proofs.Ytokfcknfkhlmfaa
open Go.RowKit
namespace Bm
open Ups (le4 sum le4_length putL4)

/-- A writer that is new since w. -/
structure Ws (w : World) (q : Nat) (v : Value) (l : List UInt8) (W : World) : Prop where
  wr : Wr W (q + 1) q v l
  fr : Fr [] w W
  hq : w.heap.size ≤ q
  hz : q + 1 ≤ W.heap.size
theorem Ws.later {w : World} {q : Nat} {v : Value} {l : List UInt8} {W W' : World} (h : Ws w q v l W) (hf : Fr [] W W') : Ws w q v l W' := ⟨h.wr.fr hf (by simp) (by simp), h.fr.tr hf, h.hq, Nat.le_trans h.hz hf.size⟩
theorem Ws.wrote {w : World} {q : Nat} {v v' : Value} {l l' : List UInt8} {W W' : World} (h : Ws w q v l W) (hw : Wr W' (q + 1) q v' l') (hf : Fr (foot q v) W W') : Ws w q v' l' W' := by
  refine ⟨hw, h.fr.trans hf ?_, h.hq, Nat.le_trans h.hz hf.size⟩
  intro k hk
  simp only [foot, List.mem_cons, Option.mem_toList] at hk
  right
  have := h.hq
  rcases hk with rfl | hk
  · exact this
  · have := (h.wr.2.lt k hk).1; omega

/-- A writer has more. -/
def Put (w : World) (q : Nat) (l : List UInt8) (e : Ending) (w' : World) : Prop := e = .returned (.tuple #[]) ∧ ∃ v, Ws w q v l w'

set_option maxRecDepth 100000 in
set_option maxHeartbeats 1000000 in
theorem putSum_any (w W : World) (q n c : Nat) (v : Value) (l x : List UInt8) (A : Option Addr) (h : Ws w q v l W) (hl : l.length ≤ 100000000) (hn : x.length = n) (hn2 : n ≤ 1000000000) (hr : Rd W A x) :
    Calls Try.prog 19 #[.pointer (some ⟨q, 0, none⟩), .slice A n c] W (Put w q (l ++ le4 (sum x))) := by
  have HC := Lib.hid (Crc.sum_any W A n c x hn hr hn2)
  have HW := Lib.hid h
  obtain ⟨X, hX⟩ : ∃ X, sum x = X := ⟨_, rfl⟩
  rw [show Crc.next 0#32 x = X from hX] at HC
  rw [hX]
  have hwa : IntKind.u64.wrap (Crc.u X) = Crc.u X := by have := Crc.u_bounds X; rw [IntKind.wrap_u64]; omega
  have HL : Hid (∀ W', Ws w q v l W' → Calls Try.prog 37 #[.pointer (some ⟨q, 0, none⟩), .int .u64 (Crc.u X), .int .i64 4] W' (Wrote W' (q + 1) q v (l ++ le4 X))) := Lib.hid fun W' h1 => by
    rw [← putL4]
    exact wlittleZ W' (q + 1) q v l (Crc.u X) X.toNat 4 rfl h1.wr h1.hz (by omega)
  have HQ : Hid (∀ W v, Ws w q v (l ++ le4 X) W → Put w q (l ++ le4 X) (.returned (.tuple #[])) W) := Lib.hid fun W v h1 => ⟨rfl, v, h1⟩
  generalize Put w q (l ++ le4 X) = Q at *
  clear h hr hX hl
  go_enter Try.func19, Try.ntmps19
  go_wp2_with fail
  refine HC.out.mono ?_
  rintro e w2 ⟨rfl, hf2⟩
  have HW2 := Lib.hid (HW.out.later hf2)
  clear hf2
  go_wp2_with fail
  refine (HL.out w2 HW2.out).mono ?_
  rintro e w3 ⟨rfl, v3, hw3, hf3, -⟩
  have HE := Lib.hid (HQ.out w3 v3 (HW2.out.wrote hw3 hf3))
  clear hw3 hf3
  go_wp2_with fail
  go_end0
  exact HE.out

set_option maxRecDepth 100000 in
set_option maxHeartbeats 1000000 in
theorem newMaker_any (w : World) (A D : Option Addr) (la ca lb cb q : Nat) (hnb : lb ≤ 1000000) :
    Calls Try.prog 17 #[.slice A la ca, .slice D lb cb, .pointer (some ⟨q, 0, none⟩)] w fun e w' => ∃ lk : Nat, e = .returned (.pointer (some ⟨w.heap.size, 0, none⟩)) ∧ 1 ≤ lk ∧ lk ≤ 1000000000 ∧ Blk w' w.heap.size 92 (mkV A D ca cb la lb none lk 0 0 0 0 q) ∧ Fr [] w w' := by
  obtain ⟨M, hM⟩ : ∃ M : Nat, max (lb : Int) 1 = (M : Int) := ⟨max lb 1, by omega⟩
  have hM1 : 1 ≤ M := by omega
  have hM0 : ¬ (M : Int) = 0 := by omega
  obtain ⟨K, hK⟩ : ∃ K : Nat, Int.tdiv 134217728 (M : Int) = (K : Int) := ⟨134217728 / M, by rw [Int.tdiv_eq_ediv_of_nonneg (by decide)]; rfl⟩
  have hK2 : K ≤ 134217728 := by
    have : (K : Int) ≤ 134217728 := by
      rw [← hK, Int.tdiv_eq_ediv_of_nonneg (by decide)]
      exact Int.ediv_le_self _ (by decide)
    omega
  have hKw : IntKind.i64.wrap (K : Int) = (K : Int) := by rw [IntKind.wrap_i64]; omega
  obtain ⟨lk, hlk⟩ : ∃ lk : Nat, max (8 : Int) (K : Int) = (lk : Int) := ⟨max 8 K, by omega⟩
  have hlk1 : 1 ≤ lk := by omega
  have hlk2 : lk ≤ 1000000000 := by omega
  obtain ⟨s, hs⟩ : ∃ s, w.heap.size = s := ⟨_, rfl⟩
  rw [hs]
  go_enter Try.func17, Try.ntmps17
  go_wp2
  go_ret
  refine ⟨lk, rfl, hlk1, hlk2, ?_, (Fr.refl [] w).alloc _⟩
  have := Blk.fresh w 92 (mkV A D ca cb la lb none lk 0 0 0 0 q)
  rw [hs] at this
  exact this

theorem Ws.other {w : World} {q : Nat} {v : Value} {l : List UInt8} {W : World} (h : Ws w q v l W) {k : Nat} {ty : TypeId} {cs : Array Value} (hk : Blk W k ty cs) (h1 : ty ≠ 5) (h2 : ty ≠ 50) : k ∉ foot q v := by
  simp only [foot, List.mem_cons, Option.mem_toList]
  rintro (rfl | h3)
  · exact hk.other h.wr.1 h2 rfl
  · exact h.wr.2.other hk (fun e => h1 e.symm) h3

/-- The patch that Create makes, of what was told. -/
def patO (a b mt : List UInt8) (σ : S8) : Bps.Pat := ⟨a.length, b.length, sum a, sum b, mt, σ.L ++ leftL b σ.told b.length⟩
/-- What Create leaves. -/
def MadeC (w : World) (a b mt : List UInt8) (e : Ending) (w' : World) : Prop :=
  ∃ σ R n, Runs a b σ ∧ σ.u = b.length ∧ (patO a b mt σ).whole.length = n ∧ e = .returned (.tuple #[.slice (some ⟨R, 0, none⟩) n n, .int .i64 0]) ∧ w.heap.size ≤ R ∧ Blk w' R 5 (bv (patO a b mt σ).whole).toArray ∧ Fr [] w w'

/-- What stands ahead of meta, when some sizes are written. -/
def hd (la lb lm i : Nat) : List UInt8 := [66, 80, 83, 49] ++ ([Var.putV la, Var.putV lb, Var.putV lm].take i).flatten
theorem hd_len (la lb lm i : Nat) (ha : la ≤ 1000000) (hb : lb ≤ 1000000) (hm : lm ≤ 1000000) : (hd la lb lm i).length ≤ 19 := by
  have h1 := Var.putV_le5 (u := la) (by unfold Var.most; omega)
  have h2 := Var.putV_le5 (u := lb) (by unfold Var.most; omega)
  have h3 := Var.putV_le5 (u := lm) (by unfold Var.most; omega)
  unfold hd
  rcases (by omega : i = 0 ∨ i = 1 ∨ i = 2 ∨ 3 ≤ i) with rfl | rfl | rfl | h
  · simp
  · simp; omega
  · simp; omega
  · rw [List.take_of_length_le (by simpa using h)]
    simp
    omega

set_option maxRecDepth 100000 in
set_option maxHeartbeats 4000000 in
theorem create_any (w : World) (A D M : Option Addr) (ca cb cm la lb lm : Nat) (a b mt : List UInt8) (hla : a.length = la) (hlb : b.length = lb) (hlm : mt.length = lm) (hca : la ≤ ca) (hcb : lb ≤ cb) (hna : la ≤ 1000000) (hnb : lb ≤ 1000000) (hnm : lm ≤ 100000) (hA : Rd w A a) (hD : Rd w D b) (hM : Rd w M mt) (hMc : M = none → cm = 0) :
    Calls Try.prog 8 #[.slice A la ca, .slice D lb cb, .slice M lm cm] w (MadeC w a b mt) := by
  have HA := Lib.hid hA
  have HD := Lib.hid hD
  have HMt := Lib.hid hM
  have Hla := Lib.hid hla
  have Hlb := Lib.hid hlb
  have Hlm := Lib.hid hlm
  have i1 : ¬ (16777216 : Int) < la := by omega
  have i2 : ¬ (16777216 : Int) < lb := by omega
  have i3 : ¬ (1048576 : Int) < lm := by omega
  obtain ⟨q, hq⟩ : ∃ q, w.heap.size = q := ⟨_, rfl⟩
  have HBy : Hid (∀ W v l (E : Option Addr) (n c : Nat) (x : List UInt8), Ws w q v l W → l.length ≤ 100000000 → x.length = n → n ≤ 1000000 → Rd W E x → (E = none → c = 0) → Calls Try.prog 15 #[.pointer (some ⟨q, 0, none⟩), .slice E n c] W (Wrote W (q + 1) q v (l ++ x))) := Lib.hid fun W v l E n c x h1 h2 h3 h4 h5 h6 =>
    wbytes W (q + 1) q v l E n c x h1.wr h1.hz (by omega) h3 h5 h6
  have hbz : ∀ W : World, (Instr.build 50 #[]).run Try.prog W = .ok (.agg #[.slice none 0 0]) W := fun W => run_build W 50 _ _ (by kernel_rfl)
  generalize hQ : MadeC w a b mt = Q
  have HQ : Hid (∀ W σ R n, Runs a b σ → σ.u = b.length → (patO a b mt σ).whole.length = n → w.heap.size ≤ R → Blk W R 5 (bv (patO a b mt σ).whole).toArray → Fr [] w W → Q (.returned (.tuple #[.slice (some ⟨R, 0, none⟩) n n, .int .i64 0])) W) := Lib.hid fun W σ R n h1 h2 h3 h4 h5 h6 => by rw [← hQ]; exact ⟨σ, R, n, h1, h2, h3, rfl, h4, h5, h6⟩
  clear hA hD hM hla hlb hlm hQ
  go_enter Try.func8, Try.ntmps8
  go_upto_region 4 with fail
  have HW1 : Hid (Ws w q (.slice none 0 0) [] (w.alloc (.cells #[.slice none 0 0] 50))) := Lib.hid (by
    have h1 := Blk.fresh w 50 #[.slice none 0 0]
    rw [hq] at h1
    exact ⟨⟨h1, Own.none_ _ _⟩, (Fr.refl [] w).alloc _, by omega, by simp [hq]⟩)
  have hz1 : (w.alloc (.cells #[.slice none 0 0] 50)).heap.size = q + 1 := by simp [hq]
  generalize w.alloc (.cells #[.slice none 0 0] 50) = w1 at *
  have kc := conv_const w1 (q + 1) hz1 (bv [66, 80, 83, 49]).toArray 4 4
  simp [bv] at kc
  clear hbz
  go_wp2_with fail
  clear kc
  have HC1 : Hid (Calls Try.prog 15 #[.pointer (some ⟨q, 0, none⟩), .slice (some ⟨q + 1, 0, none⟩) 4 4] (w1.alloc (.cells #[.int .u8 66, .int .u8 80, .int .u8 83, .int .u8 49] 5 (4, 5))) (Wrote (w1.alloc (.cells #[.int .u8 66, .int .u8 80, .int .u8 83, .int .u8 49] 5 (4, 5))) (q + 1) q (.slice none 0 0) ([] ++ [66, 80, 83, 49]))) := Lib.hid
    (HBy.out _ _ _ _ 4 4 [66, 80, 83, 49] (HW1.out.later ((Fr.refl [] w1).alloc _)) (by simp) rfl (by omega) (rd_const w1 (q + 1) hz1 [66, 80, 83, 49] 5 (4, 5)) (by simp))
  refine HC1.out.mono ?_
  rintro e w2 ⟨rfl, v2, hw2, hf2, -⟩
  have HW2 : Hid (Ws w q v2 (hd la lb lm 0) w2) := Lib.hid ((HW1.out.later ((Fr.refl [] w1).alloc _)).wrote hw2 hf2)
  clear hw2 hf2 HC1 hz1 HW1
  obtain ⟨pb, hpb⟩ : ∃ pb, w2.heap.size = pb := ⟨_, rfl⟩
  go_upto_region 6 with fail
  have HP3 : Hid (Blk (w2.alloc (.cells #[.slice A la ca, .slice D lb cb, .slice M lm cm] 22)) pb 22 #[.slice A la ca, .slice D lb cb, .slice M lm cm]) := Lib.hid (by
    have h1 := Blk.fresh w2 22 #[.slice A la ca, .slice D lb cb, .slice M lm cm]
    rw [hpb] at h1
    exact h1)
  have HW3 := Lib.hid (HW2.out.later ((Fr.refl [] w2).alloc (.cells #[.slice A la ca, .slice D lb cb, .slice M lm cm] 22)))
  clear HW2
  generalize w2.alloc (.cells #[.slice A la ca, .slice D lb cb, .slice M lm cm] 22) = w3 at *
  have HOne : Hid (∀ (W : World) (i n : Nat) (v : Value), i < 3 → ([la, lb, lm][i]? = some n) → Ws w q v (hd la lb lm i) W → Blk W pb 22 #[.slice A la ca, .slice D lb cb, .slice M lm cm] →
      Calls Try.prog 16 #[.int .u64 (n : Int)] W fun e w' => ∃ V, e = .returned V ∧ Ws w q v (hd la lb lm i) w' ∧ Blk w' pb 22 #[.slice A la ca, .slice D lb cb, .slice M lm cm] ∧
        Calls Try.prog 15 #[.pointer (some ⟨q, 0, none⟩), V] w' fun e w'' => e = .returned (.pointer (some ⟨q, 0, none⟩)) ∧ (∃ v', Ws w q v' (hd la lb lm (i + 1)) w'') ∧ Blk w'' pb 22 #[.slice A la ca, .slice D lb cb, .slice M lm cm]) := Lib.hid (by
    intro W i n v hi hn hW hP
    have hnb' : n ≤ 1000000 := by
      rcases (by omega : i = 0 ∨ i = 1 ∨ i = 2) with rfl | rfl | rfl <;> simp at hn <;> omega
    refine (Var.put_any W n (by unfold Var.most; omega)).mono ?_
    rintro e w' ⟨g, rfl, _, h3, h4⟩
    have hW2 := hW.later h4
    have hP2 := hP.fr h4 (by simp)
    refine ⟨_, rfl, hW2, hP2, ?_⟩
    refine (HBy.out w' v (hd la lb lm i) (some ⟨g, 0, none⟩) _ _ (Var.putV n) hW2 (by have := hd_len la lb lm i (by omega) (by omega) (by omega); omega) rfl (by have := Var.putV_le5 (u := n) (by unfold Var.most; omega); omega) (rd_blk h3) (by simp)).mono ?_
    rintro e w'' ⟨rfl, v', hw, hf, -⟩
    have e1 : hd la lb lm i ++ Var.putV n = hd la lb lm (i + 1) := by
      unfold hd
      rcases (by omega : i = 0 ∨ i = 1 ∨ i = 2) with rfl | rfl | rfl <;> simp at hn <;> subst hn <;> simp [List.append_assoc]
    rw [e1] at hw
    exact ⟨rfl, ⟨v', hW2.wrote hw hf⟩, hP2.fr hf (hW2.other hP2 (by decide) (by decide))⟩)
  go_wp2_with fail
  go_loopw [35] (fun s wr => ∃ i : Nat, s = .int .i64 (i : Int) ∧ i ≤ 3 ∧ (∃ v, Ws w q v (hd la lb lm i) wr) ∧ Blk wr pb 22 #[.slice A la ca, .slice D lb cb, .slice M lm cm]) (fun s _ => 3 - (intOf s).toNat)
  case atStart => exact ⟨0, rfl, by omega, ⟨v2, HW3.out⟩, HP3.out⟩
  case round =>
    obtain ⟨i, rfl, hi, ⟨v, hW⟩, hP⟩ := hrel
    have HW := Lib.hid hW
    have HP := Lib.hid hP
    clear hW hP HW3 HP3
    by_cases hi3 : i < 3
    · obtain ⟨p0, p1, p2⟩ : wr.cell? ⟨pb, 0, none⟩ = some (.slice A la ca) ∧ wr.cell? ⟨pb, 1, none⟩ = some (.slice D lb cb) ∧ wr.cell? ⟨pb, 2, none⟩ = some (.slice M lm cm) := by
        have c0 := HP.out.cell 0
        have c1 := HP.out.cell 1
        have c2 := HP.out.cell 2
        simp at c0 c1 c2
        exact ⟨c0, c1, c2⟩
      have u1 : IntKind.u64.wrap (la : Int) = (la : Int) := by rw [IntKind.wrap_u64]; omega
      have u2 : IntKind.u64.wrap (lb : Int) = (lb : Int) := by rw [IntKind.wrap_u64]; omega
      have u3 : IntKind.u64.wrap (lm : Int) = (lm : Int) := by rw [IntKind.wrap_u64]; omega
      rcases (by omega : i = 0 ∨ i = 1 ∨ i = 2) with rfl | rfl | rfl
      · clear p1 p2
        go_wp2_with fail
        refine (HOne.out wr 0 la v (by omega) rfl HW.out HP.out).mono ?_
        rintro e w4 ⟨V, rfl, hw4, hp4, hc4⟩
        have HC4 := Lib.hid hc4
        clear hw4 hp4 hc4 p0
        go_wp2_with fail
        refine HC4.out.mono ?_
        rintro e w5 ⟨rfl, hw5, hp5⟩
        have HW5 := Lib.hid hw5
        have HP5 := Lib.hid hp5
        clear hw5 hp5 HC4
        go_wp2
        go_roundw
        case rel => exact ⟨1, rfl, by omega, HW5.out, HP5.out⟩
        case measure => simp [intOf]
      · clear p0 p2
        go_wp2_with fail
        refine (HOne.out wr 1 lb v (by omega) rfl HW.out HP.out).mono ?_
        rintro e w4 ⟨V, rfl, hw4, hp4, hc4⟩
        have HC4 := Lib.hid hc4
        clear hw4 hp4 hc4 p1
        go_wp2_with fail
        refine HC4.out.mono ?_
        rintro e w5 ⟨rfl, hw5, hp5⟩
        have HW5 := Lib.hid hw5
        have HP5 := Lib.hid hp5
        clear hw5 hp5 HC4
        go_wp2
        go_roundw
        case rel => exact ⟨2, rfl, by omega, HW5.out, HP5.out⟩
        case measure => simp [intOf]
      · clear p0 p1
        go_wp2_with fail
        refine (HOne.out wr 2 lm v (by omega) rfl HW.out HP.out).mono ?_
        rintro e w4 ⟨V, rfl, hw4, hp4, hc4⟩
        have HC4 := Lib.hid hc4
        clear hw4 hp4 hc4 p2
        go_wp2_with fail
        refine HC4.out.mono ?_
        rintro e w5 ⟨rfl, hw5, hp5⟩
        have HW5 := Lib.hid hw5
        have HP5 := Lib.hid hp5
        clear hw5 hp5 HC4
        go_wp2
        go_roundw
        case rel => exact ⟨3, rfl, by omega, HW5.out, HP5.out⟩
        case measure => simp [intOf]
    · obtain rfl : i = 3 := by omega
      clear HOne HP
      have hhd := hd_len la lb lm 3 (by omega) (by omega) (by omega)
      obtain ⟨l3, hl3⟩ : ∃ l3, hd la lb lm 3 = l3 := ⟨_, rfl⟩
      rw [hl3] at HW hhd
      have Hl3 := Lib.hid hl3
      have HC3 : Hid (Calls Try.prog 15 #[.pointer (some ⟨q, 0, none⟩), .slice M lm cm] wr (Wrote wr (q + 1) q v (l3 ++ mt))) := Lib.hid (HBy.out wr v l3 M lm cm mt HW.out (by omega) Hlm.out (by omega) (HMt.out.later HW.out.fr (by simp)) hMc)
      have hl4 : (l3 ++ mt).length ≤ 200000 := by rw [List.length_append, Hlm.out]; omega
      obtain ⟨l4, hl4e⟩ : ∃ l4, l3 ++ mt = l4 := ⟨_, rfl⟩
      rw [hl4e] at HC3 hl4
      have Hl4e := Lib.hid hl4e
      clear hl3 hl4e
      go_wp2_with fail
      refine HC3.out.mono ?_
      rintro e w4 ⟨rfl, v4, hw4, hf4, -⟩
      have HW4 := Lib.hid (HW.out.wrote hw4 hf4)
      clear hw4 hf4 HC3 HW
      obtain ⟨m, hm⟩ : ∃ m, w4.heap.size = m := ⟨_, rfl⟩
      go_wp2_with fail
      refine (newMaker_any w4 A D la ca lb cb q hnb).mono ?_
      rintro e w5 ⟨lk, rfl, hlk1, hlk2, hb5, hf5⟩
      rw [hm] at hb5 ⊢
      have HM5 : Hid (Ms w m q (q + 1) A D ca cb la lb lk a b none 0 0 0 0 v4 l4 w5) := Lib.hid (by
        have h1 := HW4.out.later hf5
        have h2 := HW4.out.fr.size
        exact ⟨hb5, .inl rfl, h1.wr, h1.fr, by omega, h1.hq, by omega, h1.hz⟩)
      clear hb5 hf5
      go_wp2_with fail
      refine (tellAll_any w w5 m q (q + 1) A D ca cb la lb lk a b v4 l4 Hla.out Hlb.out hca hcb hna hnb hlk2 hlk1 (by omega) HA.out HD.out HM5.out).mono ?_
      rintro e w6 ⟨rfl, σ, kn6, v6, hR, hu, hm6⟩
      have HW6 : Hid (Ws w q v6 (l4 ++ (σ.L ++ leftL b σ.told lb).flatMap Bps.actB) w6) := Lib.hid ⟨hm6.wr, hm6.fr, hm6.hq, hm6.hBW⟩
      have HR := Lib.hid hR
      have Hu := Lib.hid hu
      have hl6 : (l4 ++ (σ.L ++ leftL b σ.told lb).flatMap Bps.actB).length ≤ 3000000 := by
        have h1 := ((runs_inv (by rw [Hla.out]; omega) (by rw [Hlb.out]; omega) hR).left (by rw [Hlb.out]; omega)).size
        rw [hu] at h1
        rw [List.length_append]
        omega
      obtain ⟨l6, hl6e⟩ : ∃ l6, l4 ++ (σ.L ++ leftL b σ.told lb).flatMap Bps.actB = l6 := ⟨_, rfl⟩
      rw [hl6e] at HW6 hl6
      have Hl6e := Lib.hid hl6e
      clear hR hu hm6 hl6e HM5 HW4
      go_wp2_with fail
      refine (putSum_any w w6 q la ca v6 l6 a A HW6.out (by omega) Hla.out (by omega) (HA.out.later HW6.out.fr (by simp))).mono ?_
      rintro e w7 ⟨rfl, v7, hw7⟩
      have HW7 := Lib.hid hw7
      clear hw7 HW6
      go_wp2_with fail
      refine (putSum_any w w7 q lb cb v7 (l6 ++ le4 (sum a)) b D HW7.out (by rw [List.length_append, le4_length]; omega) Hlb.out (by omega) (HD.out.later HW7.out.fr (by simp))).mono ?_
      rintro e w8 ⟨rfl, v8, hw8⟩
      have hl8 : ((l6 ++ le4 (sum a)) ++ le4 (sum b)).length ≤ 4000000 := by rw [List.length_append, List.length_append, le4_length, le4_length]; omega
      obtain ⟨l8, hl8e⟩ : ∃ l8, (l6 ++ le4 (sum a)) ++ le4 (sum b) = l8 := ⟨_, rfl⟩
      rw [hl8e] at hw8 hl8
      have HW8 := Lib.hid hw8
      have Hl8e := Lib.hid hl8e
      clear hw8 hl8e HW7
      obtain ⟨n8, hn8⟩ : ∃ n8, l8.length = n8 := ⟨_, rfl⟩
      have Hn8 := Lib.hid hn8
      rw [hn8] at hl8
      have HD8 := Lib.hid (wdone w8 (q + 1) q v8 l8 HW8.out.wr (by omega))
      rw [hn8] at HD8
      clear hn8
      go_wp2_with fail
      refine HD8.out.mono ?_
      rintro e w9 ⟨rfl, hb9, hf9⟩
      have HW9 := Lib.hid (HW8.out.later hf9)
      have HC9 := Lib.hid (putSum_any w w9 q n8 n8 v8 l8 l8 (some ⟨w8.heap.size, 0, none⟩) HW9.out (by rw [Hn8.out]; omega) Hn8.out (by omega) (rd_blk hb9))
      clear hb9 hf9 HD8 HW8
      go_wp2_with fail
      refine HC9.out.mono ?_
      rintro e w10 ⟨rfl, v10, hw10⟩
      have HWh : Hid (l8 ++ le4 (sum l8) = (patO a b mt σ).whole) := Lib.hid (by
        rw [← Hl8e.out, ← Hl6e.out, ← Hl4e.out, ← Hl3.out]
        unfold patO Bps.Pat.whole Bps.whole Ups.signed Bps.body Bps.inner hd
        simp only [Hla.out, Hlb.out, Hlm.out]
        simp [List.append_assoc])
      obtain ⟨l10, hl10⟩ : ∃ l10, l8 ++ le4 (sum l8) = l10 := ⟨_, rfl⟩
      have hlen10 : l10.length ≤ 5000000 := by rw [← hl10, List.length_append, le4_length, Hn8.out]; omega
      rw [hl10] at hw10 HWh
      have HW10 := Lib.hid hw10
      clear hw10 HC9 HW9 hl10
      obtain ⟨n10, hn10⟩ : ∃ n10, l10.length = n10 := ⟨_, rfl⟩
      have HLe := Lib.hid (wlen w10 (q + 1) q v10 l10 HW10.out.wr)
      have HDo := Lib.hid (wdone w10 (q + 1) q v10 l10 HW10.out.wr (by omega))
      rw [hn10] at HLe HDo hlen10
      have Hn10 := Lib.hid hn10
      have j1 : ¬ (16777216 : Int) < n10 := by omega
      clear hn10
      go_wp2_with fail
      refine HLe.out.mono ?_
      rintro e w11 ⟨rfl, rfl⟩
      go_wp2_with fail
      refine HDo.out.mono ?_
      rintro e w12 ⟨rfl, hb12, hf12⟩
      have HE : Hid (Q (.returned (.tuple #[.slice (some ⟨w10.heap.size, 0, none⟩) n10 n10, .int .i64 0])) w12) := Lib.hid (HQ.out w12 σ w10.heap.size n10 HR.out (by rw [Hu.out, Hlb.out]) (by rw [← HWh.out]; exact Hn10.out) HW10.out.fr.size (by rw [← HWh.out]; exact hb12) (HW10.out.fr.tr hf12))
      clear hb12 hf12
      go_wp2
      exact HE.out

end Bm
end Go.Proofs.Ytokfcknfkhlmfaa
