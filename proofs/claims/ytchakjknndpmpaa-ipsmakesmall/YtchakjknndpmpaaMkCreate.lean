/-
  Contract of ipsmake's Create. Conditions: at most 16777216 bytes each.
-/
import Derived.Test.YtchakjknndpmpaaMkPutRow
import Derived.Test.YtchakjknndpmpaaMkRows
namespace Go.Proofs.Ytchakjknndpmpaa
open Go.RowKit
namespace Ips

/-- What Create answers. -/
def Created (w : World) (a b : List UInt8) (e : Ending) (w' : World) : Prop :=
  ∃ rs g, Makes a b rs ∧ e = .returned (.tuple #[.slice (some ⟨g, 0, none⟩) (made a b rs).length (made a b rs).length, .int .i64 0]) ∧ Own w' w.heap.size (.slice (some ⟨g, 0, none⟩) (made a b rs).length (made a b rs).length) (made a b rs) ∧ Fr [] w w'

/-- In the midst of Create: s is the size of the heap at the call. -/
structure CrW (w : World) (s : Nat) (A B : Option Addr) (n c m d : Nat) (V : Value) (R : List (Nat × Nat)) (a b : List UInt8) (k e : Nat) (rs : List Rec) (u : Value) (W : World) : Prop where
  done : RowsDone a b (R.take k) e rs
  le : e ≤ m
  wr : Wr W s (s + 1) u (patch ++ rs.flatMap recB)
  pbox : Blk W s 39 #[.slice A n c, .slice B m d]
  rows : RowsOwn W s V R
  fr : Fr [] w W

theorem rows_apart {w : World} {B B' p : Nat} {u V : Value} {l : List UInt8} {R : List (Nat × Nat)} (h : Wr w B p u l) (hV : RowsOwn w B' V R) : ∀ k, V.ownBlock = some k → k ∉ foot p u := by
  intro k hk hin
  rcases hV.2 with ⟨rfl, _⟩ | ⟨g, cap, cur, rfl, _, hh, _⟩
  · simp [Value.ownBlock] at hk
  · have e : g = k := by simpa [Value.ownBlock] using hk
    subst e
    exact foot_not (t := 47) h hh (by decide) (by rintro rfl; exact Blk.other (t := 47) hh h.1 (by decide) rfl) hin

theorem CrW.grown {w W W' : World} {s : Nat} {A B : Option Addr} {n c m d : Nat} {V : Value} {R : List (Nat × Nat)} {a b : List UInt8} {k e : Nat} {rs : List Rec} {u : Value} (h : CrW w s A B n c m d V R a b k e rs u W) (hf : Fr [] W W') : CrW w s A B n c m d V R a b k e rs u W' :=
  ⟨h.done, h.le, h.wr.fr hf (by simp) (by simp), h.pbox.fr hf (by simp), h.rows.fr hf (by simp), h.fr.tr hf⟩

set_option maxRecDepth 100000 in
set_option maxHeartbeats 4000000 in
theorem create5 (w : World) (A B : Option Addr) (n c m d : Nat) (a b : List UInt8) (hn : a.length = n) (hm : b.length = m) (hn2 : n ≤ 16777216) (hm2 : m ≤ 16777216) (hA : Rd w A a) (hB : Rd w B b) (hd : m ≤ d) (hd2 : d ≤ maxLen) :
    Calls Try.prog 9 #[.slice A n c, .slice B m d] w (Created w a b) := by
  obtain ⟨s, hs⟩ : ∃ s, w.heap.size = s := ⟨_, rfl⟩
  have hn' : ¬ (16777216 : Int) < n := by omega
  have hm' : ¬ (16777216 : Int) < m := by omega
  have HA := Lib.hid hA
  have HB := Lib.hid hB
  obtain ⟨w0, hw0⟩ : ∃ w0, w0 = (w.alloc (.cells #[.slice A n c, .slice B m d] 39)).alloc (.cells #[.slice none 0 0] 42) := ⟨_, rfl⟩
  have f0 : Fr [] w w0 := hw0 ▸ ((Fr.refl [] w).alloc _).alloc _
  have b0 : Blk w0 s 39 #[.slice A n c, .slice B m d] := by
    have h := (Blk.fresh w 39 #[.slice A n c, .slice B m d]).fr ((Fr.refl [] _).alloc (.cells #[.slice none 0 0] 42)) (by simp)
    rwa [hs, ← hw0] at h
  have b1 : Blk w0 (s + 1) 42 #[.slice none 0 0] := by
    have h := Blk.fresh (w.alloc (.cells #[.slice A n c, .slice B m d] 39)) 42 #[.slice none 0 0]
    rwa [World.size_alloc, hs, ← hw0] at h
  have s0 : w0.heap.size = s + 2 := by rw [hw0]; simp [hs]
  have kc := conv_const ((w.alloc (.cells #[.slice A n c, .slice B m d] 39)).alloc (.cells #[.slice none 0 0] 42)) (s + 1 + 1) (by simp [hs]) #[.int .u8 80, .int .u8 65, .int .u8 84, .int .u8 67, .int .u8 72] 5 5
  simp only [List.size_toArray, List.length_cons, List.length_nil, Nat.reduceAdd, Nat.zero_add] at kc
  have HQ : Hid (∀ W rs g, Makes a b rs → Own W w.heap.size (.slice (some ⟨g, 0, none⟩) (made a b rs).length (made a b rs).length) (made a b rs) → Fr [] w W → Created w a b (.returned (.tuple #[.slice (some ⟨g, 0, none⟩) (made a b rs).length (made a b rs).length, .int .i64 0])) W) := Lib.hid fun W rs g h1 h2 h3 => ⟨rs, g, h1, rfl, h2, h3⟩
  have HF0 := Lib.hid f0
  have HB0 := Lib.hid b0
  have HB1 := Lib.hid b1
  have HW0 := Lib.hid hw0
  have HS0 := Lib.hid s0
  generalize Created w a b = Q at *
  clear hA hB f0 b0 b1 hw0 s0
  go_enter Try.func9, Try.ntmps9
  go_wp2_with fail
  rw [← HW0.out]
  clear kc
  have f1 : Fr [] w0 (w0.alloc (.cells #[.int .u8 80, .int .u8 65, .int .u8 84, .int .u8 67, .int .u8 72] 5 (5, 6))) := (Fr.refl [] w0).alloc _
  refine (wbytes _ s (s + 1) (.slice none 0 0) [] (some ⟨s + 1 + 1, 0, none⟩) 5 5 patch ⟨HB1.out.fr f1 (by simp), Own.none_ _ _⟩ (by have := HS0.out; simp; omega) (by simp) rfl (rd_const w0 (s + 1 + 1) (by have := HS0.out; omega) patch 5 _) (by simp)).mono ?_
  rintro e w1 ⟨rfl, u1, hw1, hf1, hl1⟩
  have HG1 : Hid (Fr [] w w1) := Lib.hid ((HF0.out.tr f1).trans hf1 (by simp [foot, Value.ownBlock]; omega))
  have HP1 := Lib.hid ((HB0.out.fr f1 (by simp)).fr hf1 (by simp [foot, Value.ownBlock]))
  have HU1 := Lib.hid hw1
  clear hw1 hf1 hl1 f1 HB0 HB1 HF0 HW0 HS0
  have p0 : w1.cell? ⟨s, 0, none⟩ = some (.slice A n c) := by simpa using HP1.out.cell 0
  have p1 : w1.cell? ⟨s, 1, none⟩ = some (.slice B m d) := by simpa using HP1.out.cell 1
  have HRows : Hid (Calls Try.prog 17 #[.agg #[.slice A n c, .slice B m d]] w1 fun e w' => ∃ v, e = .returned v ∧ RowsOwn w' w1.heap.size v (rowsAt a b m) ∧ Fr [] w1 w') := Lib.hid (rows5 w1 A B n c m d a b hn hm hm2 (HA.out.later HG1.out (by simp)) (HB.out.later HG1.out (by simp)))
  go_wp2_with fail
  refine HRows.out.mono ?_
  rintro e w2 ⟨V, rfl, hV, hf2⟩
  have HInv := Lib.hid (rows_inv a b m)
  have hRl := rowsAt_length a b m
  have hV' : RowsOwn w2 s V (rowsAt a b m) := hV.base (by have := HG1.out.size; omega)
  have hM2 : CrW w s A B n c m d V (rowsAt a b m) a b 0 0 [] u1 w2 := ⟨rows_start a b, Nat.zero_le _, by simpa using HU1.out.fr hf2 (by simp) (by simp), HP1.out.fr hf2 (by simp), hV', HG1.out.tr hf2⟩
  generalize rowsAt a b m = R at *
  obtain ⟨Ar, cap, rfl, hcap, hcm, hcn, -⟩ := hV'.slice
  have HM2 := Lib.hid hM2
  clear hV hV' hf2 hM2 HRows HU1 HP1 HG1 p0 p1
  obtain ⟨K, hK⟩ : ∃ K, R.length = K := ⟨_, rfl⟩
  rw [hK] at hRl HM2 hcap ⊢
  go_wp2_with fail
  go_loopw [30] (fun s30 wr => ∃ (k e : Nat) (rs : List Rec) (u : Value), s30 = .int .i64 (k : Int) ∧ k ≤ K ∧ CrW w s A B n c m d (.slice Ar K cap) R a b k e rs u wr) (fun s30 _ => K - (intOf s30).toNat)
  case atStart => exact ⟨0, 0, [], u1, rfl, Nat.zero_le _, HM2.out⟩
  case round =>
    obtain ⟨k, e, rs, u, rfl, hkK, hM⟩ := hrel
    have HM := Lib.hid hM
    have hfs : s ≤ wr.heap.size := by rw [← hs]; exact hM.fr.size
    have hlen := rows_few a b _ e m rs hM.done hM.le
    clear hM HM2
    by_cases hlt : k < K
    · have hlt' : (k : Int) < K := by omega
      have hk0 : (0 : Int) ≤ k := by omega
      have hk4 : (k : Int) ≤ 16777216 := by omega
      have hkR : k < R.length := by omega
      obtain ⟨Ax, cx, ex, -, -, -, hcell0⟩ := HM.out.rows.slice
      obtain ⟨g, hg, hcell⟩ := hcell0 (by omega)
      injection ex with e1 e2 e3
      clear e2
      subst e1 e3 hg
      obtain ⟨d0, d1, -⟩ := hcell k hkR
      have hrow := HInv.out.each R[k] (List.getElem_mem hkR)
      have hsp : R = R.take k ++ R[k] :: R.drop (k + 1) := by rw [← List.drop_eq_getElem_cons hkR, List.take_append_drop]
      have htk : R.take (k + 1) = R.take k ++ [R[k]] := by rw [List.take_succ_eq_append_getElem hkR]
      have HLim := Lib.hid (lim_ge R[k].1)
      generalize R[k] = x at *
      obtain ⟨f, t⟩ := x
      simp only at d0 d1 hrow
      have HSp := Lib.hid hsp
      have HTk := Lib.hid htk
      have HPR : Hid (Calls Try.prog 18 #[.agg #[.slice A n c, .slice B m d], .pointer (some ⟨s + 1, 0, none⟩), .agg #[.int .i64 (f : Int), .int .i64 (t : Int)]] (wr.alloc (.cells #[.int .i64 (f : Int), .int .i64 (t : Int)] 47)) (RowPut (wr.alloc (.cells #[.int .i64 (f : Int), .int .i64 (t : Int)] 47)) s (s + 1) u (patch ++ rs.flatMap recB) a b f t)) := Lib.hid (by
        have hM3 := HM.out.grown ((Fr.refl [] wr).alloc (.cells #[.int .i64 (f : Int), .int .i64 (t : Int)] 47))
        have hlim := HLim.out
        simp only at hlim
        exact putRow5 w _ s (s + 1) u _ a b A B n c m d f t hM3.fr (by omega) (by simp; omega) (by omega) hM3.wr (by rw [List.length_append]; have : patch.length = 5 := rfl; omega) hn hm HA.out HB.out (by omega) (by omega) hm2 (by omega) hrow.2.2.2 hd hd2)
      have p0 : (wr.alloc (.cells #[.int .i64 (f : Int), .int .i64 (t : Int)] 47)).cell? ⟨s, 0, none⟩ = some (.slice A n c) := by simpa using (HM.out.pbox.fr ((Fr.refl [] wr).alloc _) (by simp)).cell 0
      have p1 : (wr.alloc (.cells #[.int .i64 (f : Int), .int .i64 (t : Int)] 47)).cell? ⟨s, 1, none⟩ = some (.slice B m d) := by simpa using (HM.out.pbox.fr ((Fr.refl [] wr).alloc _) (by simp)).cell 1
      clear hsp htk hcell hcell0 hkR
      go_wp2_with fail
      refine HPR.out.mono ?_
      rintro e' w3 ⟨rfl, rs', u3, hdone, hw3, hf3, hl3⟩
      have HM3 : Hid (CrW w s A B n c m d (.slice (some ⟨g, 0, none⟩) K cap) R a b (k + 1) t (rs ++ rs') u3 w3) := Lib.hid (by
        have hM3 := HM.out.grown ((Fr.refl [] wr).alloc (.cells #[.int .i64 (f : Int), .int .i64 (t : Int)] 47))
        refine ⟨by rw [HTk.out]; exact rows_step a b R _ _ f t e rs rs' m HInv.out HSp.out hM3.done hdone, by omega, ?_, hM3.pbox.fr hf3 (foot_not hM3.wr hM3.pbox (by decide) (by omega)), hM3.rows.fr hf3 (rows_apart hM3.wr hM3.rows), hM3.fr.trans hf3 (fun i hi => .inr (foot_ge hM3.wr (by omega) (by omega) i hi))⟩
        rw [List.flatMap_append, ← List.append_assoc]
        exact hw3)
      clear hdone hw3 hf3 hl3 HPR p0 p1 d0 d1
      go_wp2
      go_roundw
      case rel => exact ⟨k + 1, t, rs ++ rs', u3, by go_num, by omega, HM3.out⟩
      case measure => simp [intOf]; omega
    · obtain rfl : k = K := by omega
      have HMk : Hid (Makes a b rs) := Lib.hid (by
        have h := HM.out.done
        rw [List.take_of_length_le (by omega)] at h
        exact rows_end a b m e R rs hm HInv.out h)
      have kc := conv_const wr wr.heap.size rfl #[.int .u8 69, .int .u8 79, .int .u8 70] 3 3
      simp only [List.size_toArray, List.length_cons, List.length_nil, Nat.reduceAdd, Nat.zero_add] at kc
      have hlt' : ¬ (k : Int) < k := by omega
      go_wp2_with fail
      clear kc
      have f1 : Fr [] wr (wr.alloc (.cells #[.int .u8 69, .int .u8 79, .int .u8 70] 5 (3, 4))) := (Fr.refl [] wr).alloc _
      have hMk := HM.out.grown f1
      refine (wbytes _ s (s + 1) u (patch ++ rs.flatMap recB) (some ⟨wr.heap.size, 0, none⟩) 3 3 eof hMk.wr (by simp; omega) (by rw [List.length_append]; have : patch.length = 5 := rfl; omega) rfl (rd_const wr _ rfl eof 5 _) (by simp)).mono ?_
      rintro e' w4 ⟨rfl, u4, hw4, hf4, hl4⟩
      have HG4 : Hid (Fr [] w w4) := Lib.hid (hMk.fr.trans hf4 (fun i hi => .inr (foot_ge hMk.wr (by omega) (by omega) i hi)))
      have HU4 := Lib.hid hw4
      have h4s : s ≤ w4.heap.size := by rw [← hs]; exact HG4.out.size
      clear hw4 hf4 hl4 hMk f1
      by_cases hmn : m < n
      · have hmn' : (m : Int) < n := by omega
        have HMade : Hid (patch ++ rs.flatMap recB ++ eof ++ putB m (cnt 3) = made a b rs) := Lib.hid (by
          unfold made tl
          rw [if_pos (by omega), put3, hm]
          simp [List.append_assoc])
        go_wp2_with fail
        refine (wbigZ w4 s (s + 1) u4 _ _ m 3 rfl HU4.out (by omega) (by rw [List.length_append, List.length_append]; have : patch.length = 5 := rfl; have : eof.length = 3 := rfl; omega)).mono ?_
        rintro e' w5 ⟨rfl, u5, hw5, hf5, hl5⟩
        rw [HMade.out] at hw5
        have HG5 : Hid (Fr [] w w5) := Lib.hid (HG4.out.trans hf5 (fun i hi => .inr (foot_ge HU4.out (by omega) (by omega) i hi)))
        have HU5 := Lib.hid hw5
        have hL := made_length a b rs HMk.out
        have hD := D_le a b b.length
        clear hw5 hf5 hl5
        go_wp2_with fail
        refine (wdone w5 s (s + 1) u5 _ HU5.out (by omega)).mono ?_
        rintro e' w6 ⟨rfl, hb6, hf6⟩
        have HQ6 := Lib.hid (HQ.out w6 rs w5.heap.size HMk.out (Own.of_blk hb6 HG5.out.size (by unfold maxLen; omega)) (HG5.out.tr hf6))
        clear hb6 hf6
        go_wp2
        exact HQ6.out
      · have hmn' : ¬ (m : Int) < n := by omega
        have HMade : Hid (patch ++ rs.flatMap recB ++ eof = made a b rs) := Lib.hid (by
          unfold made tl
          rw [if_neg (by omega)]
          simp [List.append_assoc])
        have HU5 : Hid (Wr w4 s (s + 1) u4 (made a b rs)) := Lib.hid (by rw [← HMade.out]; exact HU4.out)
        have hL := made_length a b rs HMk.out
        have hD := D_le a b b.length
        go_wp2_with fail
        refine (wdone w4 s (s + 1) u4 _ HU5.out (by omega)).mono ?_
        rintro e' w6 ⟨rfl, hb6, hf6⟩
        have HQ6 := Lib.hid (HQ.out w6 rs w4.heap.size HMk.out (Own.of_blk hb6 HG4.out.size (by unfold maxLen; omega)) (HG4.out.tr hf6))
        clear hb6 hf6
        go_wp2
        exact HQ6.out

end Ips
end Go.Proofs.Ytchakjknndpmpaa
