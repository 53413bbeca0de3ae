/-
  Contract of ipsmake's putRow. Conditions: lengths.
-/
import Derived.Test.YtchakjknndpmpaaMkPut
import Derived.Test.YtchakjknndpmpaaMkPlan
namespace Go.Proofs.Ytchakjknndpmpaa
open Go.RowKit
namespace Ips

/-- What putRow leaves. -/
def RowPut (w : World) (B p : Nat) (v : Value) (l a b : List UInt8) (f t : Nat) (e : Ending) (w' : World) : Prop :=
  e = .returned (.tuple #[]) ∧ ∃ rs v', RowDone a b f t rs ∧ Wr w' B p v' (l ++ rs.flatMap recB) ∧ Fr (foot p v) w w' ∧ Lies w v v'

/-- In the midst of putRow: s is the size of the heap at the call. -/
structure PrW (w : World) (B p s g : Nat) (v : Value) (A Bb : Option Addr) (n c m d f t : Nat) (T : List Ch) (l a b : List UInt8) (j : Nat) (rs : List Rec) (u : Value) (W : World) : Prop where
  walk : WalkInv a b f t T j rs
  wr : Wr W B p u (l ++ rs.flatMap recB)
  fr : Fr (foot p v) w W
  lies : Lies w v u
  pbox : Blk W s 39 #[.slice A n c, .slice Bb m d]
  rbox : Blk W (s + 1) 47 #[.int .i64 (f : Int), .int .i64 (t : Int)]
  tab : Blk W g 68 (tflat T).toArray
  high : s + 1 < g

theorem PrW.grown {w W W' : World} {B p s g : Nat} {v : Value} {A Bb : Option Addr} {n c m d f t : Nat} {T : List Ch} {l a b : List UInt8} {j : Nat} {rs : List Rec} {u : Value} (h : PrW w B p s g v A Bb n c m d f t T l a b j rs u W) (hf : Fr [] W W') : PrW w B p s g v A Bb n c m d f t T l a b j rs u W' :=
  ⟨h.walk, h.wr.fr hf (by simp) (by simp), h.fr.tr hf.nil, h.lies, h.pbox.fr hf (by simp), h.rbox.fr hf (by simp), h.tab.fr hf (by simp), h.high⟩

theorem foot_ge {w0 w : World} {B p : Nat} {v : Value} {l : List UInt8} (h : Wr w B p v l) (hB : w0.heap.size ≤ B) (hp : w0.heap.size ≤ p) : ∀ k ∈ foot p v, w0.heap.size ≤ k := by
  intro k hk
  simp only [foot, List.mem_cons, Option.mem_toList] at hk
  rcases hk with rfl | hk
  · exact hp
  · exact Nat.le_trans hB (h.2.lt k hk).1

theorem foot_not {w : World} {B p g : Nat} {v : Value} {l : List UInt8} {t : TypeId} {cs : Array Value} (h : Wr w B p v l) (hg : Blk w g t cs) (hne : 5 ≠ t) (hp : g ≠ p) : g ∉ foot p v := by
  simp only [foot, List.mem_cons, Option.mem_toList]
  rintro (h1 | h1)
  · exact hp h1
  · exact h.2.other hg hne h1

set_option maxRecDepth 100000 in
set_option maxHeartbeats 4000000 in
theorem putRow5 (w0 w : World) (B p : Nat) (v : Value) (l a b : List UInt8) (A Bb : Option Addr) (n c m d f t : Nat) (hw : Fr [] w0 w) (hB : w0.heap.size ≤ B) (hB1 : B ≤ w.heap.size) (hp : w0.heap.size ≤ p) (h : Wr w B p v l) (hl : l.length ≤ 200000000)
    (hn : a.length = n) (hm : b.length = m) (hA : Rd w0 A a) (hBb : Rd w0 Bb b) (hft : f < t) (ht : t ≤ m) (hm2 : m ≤ 16777216) (hwd : t ≤ f + 65535) (hf : f ≠ 4542278) (hd : m ≤ d) (hd2 : d ≤ maxLen) :
    Calls Try.prog 18 #[pairV A Bb n c m d, .pointer (some ⟨p, 0, none⟩), .agg #[.int .i64 (f : Int), .int .i64 (t : Int)]] w (RowPut w B p v l a b f t) := by
  obtain ⟨s, hs⟩ : ∃ s, w.heap.size = s := ⟨_, rfl⟩
  have hps : p < s := by have := h.1.lt; omega
  have hFA : Fr [] w ((w.alloc (.cells #[.slice A n c, .slice Bb m d] 39)).alloc (.cells #[.int .i64 (f : Int), .int .i64 (t : Int)] 47)) := ((Fr.refl [] w).alloc _).alloc _
  have HP : Hid (Calls Try.prog 28 #[.agg #[.slice A n c, .slice Bb m d], .agg #[.int .i64 (f : Int), .int .i64 (t : Int)]] ((w.alloc (.cells #[.slice A n c, .slice Bb m d] 39)).alloc (.cells #[.int .i64 (f : Int), .int .i64 (t : Int)] 47)) (Planned ((w.alloc (.cells #[.slice A n c, .slice Bb m d] 39)).alloc (.cells #[.int .i64 (f : Int), .int .i64 (t : Int)] 47)) a b f t)) :=
    Lib.hid (plan5 _ A Bb n c m d a b f t hn hm (hA.later (hw.tr hFA) (by simp)) (hBb.later (hw.tr hFA) (by simp)) (by omega) ht hm2 hwd)
  have b0 : Blk ((w.alloc (.cells #[.slice A n c, .slice Bb m d] 39)).alloc (.cells #[.int .i64 (f : Int), .int .i64 (t : Int)] 47)) s 39 #[.slice A n c, .slice Bb m d] := by
    have h := (Blk.fresh w 39 #[.slice A n c, .slice Bb m d]).fr ((Fr.refl [] _).alloc (.cells #[.int .i64 (f : Int), .int .i64 (t : Int)] 47)) (by simp)
    rwa [hs] at h
  have b1 : Blk ((w.alloc (.cells #[.slice A n c, .slice Bb m d] 39)).alloc (.cells #[.int .i64 (f : Int), .int .i64 (t : Int)] 47)) (s + 1) 47 #[.int .i64 (f : Int), .int .i64 (t : Int)] := by
    have h := Blk.fresh (w.alloc (.cells #[.slice A n c, .slice Bb m d] 39)) 47 #[.int .i64 (f : Int), .int .i64 (t : Int)]
    rwa [World.size_alloc, hs] at h
  have HW := Lib.hid h
  have HFA := Lib.hid hFA
  have HB0 := Lib.hid b0
  have HB1 := Lib.hid b1
  have HQ : Hid (∀ W rs v', RowDone a b f t rs → Wr W B p v' (l ++ rs.flatMap recB) → Fr (foot p v) w W → Lies w v v' → RowPut w B p v l a b f t (.returned (.tuple #[])) W) := Lib.hid fun W rs v' h1 h2 h3 h4 => ⟨rfl, rs, v', h1, h2, h3, h4⟩
  have sz : ((w.alloc (.cells #[.slice A n c, .slice Bb m d] 39)).alloc (.cells #[.int .i64 (f : Int), .int .i64 (t : Int)] 47)).heap.size = s + 2 := by simp [hs]
  have HSZ := Lib.hid sz
  unfold pairV
  generalize RowPut w B p v l a b f t = Q at *
  clear h hFA b0 b1 sz
  go_enter Try.func18, Try.ntmps18
  go_wp2_with fail
  refine HP.out.mono ?_
  rintro e w1 ⟨g, T, al, re, rfl, hI, htab, hg, hf1⟩
  obtain ⟨N, hN⟩ : ∃ N, t - f + 1 = N := ⟨_, rfl⟩
  rw [hN]
  have HI := Lib.hid hI
  have hgs : s + 1 < g := by have := HSZ.out; omega
  have HM1 : Hid (PrW w B p s g v A Bb n c m d f t T l a b f [] v w1) := Lib.hid ⟨walk_start a b f t T al re hI hf, by simpa using HW.out.fr (HFA.out.tr hf1) (by simp) (by simp), (HFA.out.tr hf1).nil, Lies.refl _ _, HB0.out.fr hf1 (by simp), HB1.out.fr hf1 (by simp), htab, hgs⟩
  have hC0 : cst T f f ≤ 65540 := HM1.out.walk.few
  clear hI htab hg hf1 HP HB0 HB1 HFA HSZ
  have r0 : w1.cell? ⟨s + 1, 0, none⟩ = some (.int .i64 (f : Int)) := by simpa using HM1.out.rbox.cell 0
  go_wp2_with fail
  clear r0
  go_loopw [7] (fun s7 wr => ∃ (j : Nat) (rs : List Rec) (u : Value), s7 = .int .i64 (j : Int) ∧ PrW w B p s g v A Bb n c m d f t T l a b j rs u wr) (fun s7 _ => t - (intOf s7).toNat)
  case atStart => exact ⟨f, [], v, rfl, HM1.out⟩
  case round =>
    obtain ⟨j, rs, u, rfl, hM⟩ := hrel
    have r0 : wr.cell? ⟨s + 1, 0, none⟩ = some (.int .i64 (f : Int)) := by simpa using hM.rbox.cell 0
    have r1 : wr.cell? ⟨s + 1, 1, none⟩ = some (.int .i64 (t : Int)) := by simpa using hM.rbox.cell 1
    have HM := Lib.hid hM
    have hlow := hM.walk.low
    have hhigh := hM.walk.high
    clear hM HM1
    by_cases hjt : j < t
    · have hjt' : (j : Int) < t := by omega
      obtain ⟨hx1, hx2, hx3⟩ := walk_step a b f t T al re j rs HI.out HM.out.walk hjt (by omega) (by omega)
      have hlenT := HI.out.len
      obtain ⟨t0, t1, t2⟩ := tab_cells HM.out.tab f j (by omega)
      have hcs : cst T f j = (chAt T f j).cost := rfl
      rw [hcs] at t2
      generalize chAt T f j = x at *
      obtain ⟨k, hk⟩ : ∃ k, j - f = k := ⟨_, rfl⟩
      rw [hk] at t0 t1 t2
      have hk' : (j : Int) - (f : Int) = (k : Int) := by omega
      have hkN : (k : Int) < N := by omega
      have hk0 : (0 : Int) ≤ k := by omega
      have hk4 : (k : Int) ≤ 65536 := by omega
      obtain ⟨q, hq⟩ : ∃ q, wr.heap.size = q := ⟨_, rfl⟩
      have HM2 : Hid (PrW w B p s g v A Bb n c m d f t T l a b j rs u (wr.alloc (.cells #[.int .i64 (x.kind : Int), .int .i64 (x.stop : Int), .int .i64 (x.cost : Int)] 68))) := Lib.hid (HM.out.grown ((Fr.refl [] wr).alloc _))
      have HQ2 : Hid (Blk (wr.alloc (.cells #[.int .i64 (x.kind : Int), .int .i64 (x.stop : Int), .int .i64 (x.cost : Int)] 68)) q 68 #[.int .i64 (x.kind : Int), .int .i64 (x.stop : Int), .int .i64 (x.cost : Int)]) := Lib.hid (by have h := Blk.fresh wr 68 #[.int .i64 (x.kind : Int), .int .i64 (x.stop : Int), .int .i64 (x.cost : Int)]; rwa [hq] at h)
      rcases hx3 with ⟨hkz, hw'⟩ | ⟨hk12, hok, hw'⟩
      · have hkz' : ((x.kind : Int) != 0) = false := by rw [hkz]; rfl
        have HV := Lib.hid hw'
        clear hw' hkz hcs hlenT
        go_wp2
        go_roundw
        case rel => exact ⟨x.stop, rs, u, rfl, { HM2.out with walk := HV.out }⟩
        case measure => simp [intOf]; omega
      · have hkz' : ((x.kind : Int) != 0) = true := by rcases hk12 with h | h <;> rw [h] <;> rfl
        have HV := Lib.hid hw'
        have hfs : s ≤ wr.heap.size := by rw [← hs]; exact HM.out.fr.size
        have hlr := HM.out.walk.cost
        have HR : Hid (Calls Try.prog 30 #[.agg #[.slice A n c, .slice Bb m d], .int .i64 (x.kind : Int), .int .i64 (j : Int), .int .i64 (x.stop : Int)] (wr.alloc (.cells #[.int .i64 (x.kind : Int), .int .i64 (x.stop : Int), .int .i64 (x.cost : Int)] 68)) (Recorded (wr.alloc (.cells #[.int .i64 (x.kind : Int), .int .i64 (x.stop : Int), .int .i64 (x.cost : Int)] 68)) Bb (recOf b j x))) := Lib.hid (by
          have hfw : Fr [] w0 (wr.alloc (.cells #[.int .i64 (x.kind : Int), .int .i64 (x.stop : Int), .int .i64 (x.cost : Int)] 68)) := (hw.trans HM.out.fr (fun i hi => .inr (foot_ge HW.out hB hp i hi))).alloc _
          exact mrec5 _ A Bb n c m d j b x hk12 hm (hBb.later hfw (by simp)) hx1 (by omega) hd hd2 hm2)
        have HFits := Lib.hid hok.2.1
        generalize recOf b j x = r at *
        have p0 : (wr.alloc (.cells #[.int .i64 (x.kind : Int), .int .i64 (x.stop : Int), .int .i64 (x.cost : Int)] 68)).cell? ⟨s, 0, none⟩ = some (.slice A n c) := by simpa using HM2.out.pbox.cell 0
        have p1 : (wr.alloc (.cells #[.int .i64 (x.kind : Int), .int .i64 (x.stop : Int), .int .i64 (x.cost : Int)] 68)).cell? ⟨s, 1, none⟩ = some (.slice Bb m d) := by simpa using HM2.out.pbox.cell 1
        clear hw' hok hcs hlenT
        go_wp2_with fail
        refine HR.out.mono ?_
        rintro e w3 ⟨D, dc, rfl, hD, hDc, hDB, hf3⟩
        have HM3 := Lib.hid (HM2.out.grown hf3)
        have HQ3 := Lib.hid (HQ2.out.fr hf3 (by simp))
        have HD3 := Lib.hid (hD.fr hf3 (by simp))
        have HDc := Lib.hid hDc
        have HDB := Lib.hid hDB
        have HF3 : Hid (Fr [] wr w3) := Lib.hid (((Fr.refl [] wr).alloc _).tr hf3)
        clear hD hDc hDB hf3 HR HM2 HQ2 p0 p1 t0 t1 t2
        have HPt : Hid (Calls Try.prog 29 #[.pointer (some ⟨p, 0, none⟩), .agg #[.int .i64 (r.pos : Int), .int .i64 (r.run : Int), .slice D r.data.length dc]] w3 (PutDone w3 B p u (l ++ rs.flatMap recB ++ recB r))) := Lib.hid (by
          refine put5 w3 B p u _ r D dc HM3.out.wr (by have := HF3.out.size; omega) (by rw [List.length_append]; omega) HD3.out ?_ HDc.out HFits.out
          intro ad had hin
          obtain ⟨a0, e1, e2⟩ := HDB.out ad had
          have h1 := foot_ge (w0 := w0) HM3.out.wr hB hp _ hin
          obtain ⟨bb, bo, e3, hcc⟩ := hBb (by omega)
          rw [e3] at e1
          cases e1
          have h2 := World.block_lt_of_cell? w0 _ (hcc 0 (by omega))
          simp only at e2 h2
          omega)
        go_wp2_with fail
        refine HPt.out.mono ?_
        rintro e w4 ⟨rfl, u4, hw4, hf4, hl4⟩
        have hqp : p < q := by omega
        have HQ4 := Lib.hid (HQ3.out.fr hf4 (foot_not HM3.out.wr HQ3.out (by decide) (by omega)))
        have HM4 : Hid (PrW w B p s g v A Bb n c m d f t T l a b x.stop (rs ++ [r]) u4 w4) := Lib.hid (by
          have hh := HM3.out.high
          refine ⟨HV.out, ?_, foot_trans HM3.out.fr HM3.out.lies hf4, HM3.out.lies.trans hl4 HM3.out.fr.size, HM3.out.pbox.fr hf4 (foot_not HM3.out.wr HM3.out.pbox (by decide) (by omega)), HM3.out.rbox.fr hf4 (foot_not HM3.out.wr HM3.out.rbox (by decide) (by omega)), HM3.out.tab.fr hf4 (foot_not HM3.out.wr HM3.out.tab (by decide) (by omega)), hh⟩
          rw [List.flatMap_append, ← List.append_assoc]
          simpa using hw4)
        have q1 : w4.cell? ⟨q, 1, none⟩ = some (.int .i64 (x.stop : Int)) := by simpa using HQ4.out.cell 1
        clear hw4 hf4 hl4 HPt HM3 HQ3
        go_wp2
        go_roundw
        case rel => exact ⟨x.stop, rs ++ [r], u4, rfl, HM4.out⟩
        case measure => simp [intOf]; omega
    · obtain rfl : j = t := by omega
      go_wp2
      go_end0
      exact HQ.out _ rs u (walk_end a b f j T al re rs HI.out HM.out.walk hf) HM.out.wr HM.out.fr HM.out.lies

end Ips
end Go.Proofs.Ytchakjknndpmpaa
