/-
  Contract of picklocklaw04.made: the patch of records that came in, each cut to what it may be.
-/
import Derived.Test.YtcbmkmblfciflaaFarLaw
import Derived.Deep.DeepCutAuto
import Derived.Deep.LoopGhost
namespace Go.Proofs.Ytcbmkmblfciflaa
open Go.RowKit
namespace Ips

/-- The slice that begins at A holds records as they came in: two numbers, and bytes. -/
def RecIn (w : World) (A : Option Addr) (zs : List (Int × Int × List UInt8)) : Prop :=
  0 < zs.length → ∃ b o, A = some ⟨b, o, none⟩ ∧ ∀ j (hj : j < zs.length), ∃ D d,
    w.cell? ⟨b, o + j * 3, none⟩ = some (.int .i64 zs[j].1) ∧ w.cell? ⟨b, o + j * 3 + 1, none⟩ = some (.int .i64 zs[j].2.1) ∧
    w.cell? ⟨b, o + j * 3 + 2, none⟩ = some (.slice D zs[j].2.2.length d) ∧ Rd w D zs[j].2.2 ∧ (D = none → d = 0) ∧ zs[j].2.2.length ≤ d ∧ d ≤ maxLen

theorem RecIn.at {w : World} {A : Option Addr} {zs : List (Int × Int × List UInt8)} (h : RecIn w A zs) (j : Nat) (hj : j < zs.length) : ∃ b o z D d, A = some ⟨b, o, none⟩ ∧ zs[j]? = some z ∧
    w.cell? ⟨b, o + j * 3, none⟩ = some (.int .i64 z.1) ∧ w.cell? ⟨b, o + j * 3 + 1, none⟩ = some (.int .i64 z.2.1) ∧ w.cell? ⟨b, o + j * 3 + 2, none⟩ = some (.slice D z.2.2.length d) ∧ Rd w D z.2.2 ∧ (D = none → d = 0) ∧ z.2.2.length ≤ d ∧ d ≤ maxLen := by
  obtain ⟨b, o, rfl, hc⟩ := h (by omega)
  obtain ⟨D, d, h0, h1, h2, h3, h4, h5, h6⟩ := hc j hj
  exact ⟨b, o, zs[j], D, d, rfl, List.getElem?_eq_getElem hj, h0, h1, h2, h3, h4, h5, h6⟩
theorem RecIn.later {w w' : World} {A : Option Addr} {zs : List (Int × Int × List UInt8)} (h : RecIn w A zs) (hf : Fr [] w w') : RecIn w' A zs := by
  intro hl
  obtain ⟨b, o, rfl, hc⟩ := h hl
  refine ⟨b, o, rfl, fun j hj => ?_⟩
  obtain ⟨D, d, h0, h1, h2, h3, h4⟩ := hc j hj
  exact ⟨D, d, hf.cell h0 (by simp), hf.cell h1 (by simp), hf.cell h2 (by simp), h3.later hf (by simp), h4⟩

/-- What made makes of a record's fields. -/
def posOf (z : Int) : Nat := ((bits .and .i64 z 16777215).tmod 3000).toNat
def runOf (z : Int) : Nat := ((bits .and .i64 z 16777215).tmod 300).toNat
def datOf (l : List UInt8) : List UInt8 := if l.length = 0 then [7] else l.take 200
def raw (z : Int × Int × List UInt8) : Rec := ⟨posOf z.1, runOf z.2.1, datOf z.2.2⟩
def norm (z : Int × Int × List UInt8) : Rec := if 0 < runOf z.2.1 then ⟨posOf z.1, runOf z.2.1, [(datOf z.2.2).headD 0]⟩ else raw z

theorem posOf_spell (z : Int) : (bits .and .i64 z 16777215).tmod 3000 = (posOf z : Int) ∧ posOf z < 3000 := by
  obtain ⟨p, h1, h2⟩ := below_of z 3000 (by omega)
  unfold posOf
  rw [h1]
  omega
theorem runOf_spell (z : Int) : (bits .and .i64 z 16777215).tmod 300 = (runOf z : Int) ∧ runOf z < 300 := by
  obtain ⟨p, h1, h2⟩ := below_of z 300 (by omega)
  unfold runOf
  rw [h1]
  omega
theorem datOf_len (l : List UInt8) : 0 < (datOf l).length ∧ (datOf l).length ≤ 200 := by
  unfold datOf
  split
  · simp
  · simp; omega
theorem recB_norm (z : Int × Int × List UInt8) : recB (norm z) = recB (raw z) := by
  unfold norm
  split
  · rename_i h; simp [recB, raw, h]
  · rfl
theorem norm_fits (z : Int × Int × List UInt8) : Fits (norm z) ∧ (norm z).pos < 3000 ∧ (norm z).pos + span (norm z) ≤ 4000 := by
  have h1 := (posOf_spell z.1).2
  have h2 := (runOf_spell z.2.1).2
  have h3 := datOf_len z.2.2
  unfold norm
  split
  · exact ⟨⟨⟨by simp, fun _ => rfl⟩, by simp; omega, by simp; omega, by simp⟩, h1, by simp [span]; omega⟩
  · exact ⟨⟨⟨h3.1, fun h => absurd h (by assumption)⟩, by simp [raw]; omega, by simp [raw]; omega, by simp [raw]; omega⟩, h1, by simp [span, raw]; omega⟩
theorem recB_raw_len (z : Int × Int × List UInt8) : (recB (raw z)).length ≤ 205 := by
  rw [recB_length]
  have := datOf_len z.2.2
  split
  · omega
  · simp [raw]; omega

/-- All records' bytes. -/
def allB (zs : List (Int × Int × List UInt8)) : List UInt8 := (zs.map norm).flatMap recB
theorem allB_snoc (zs : List (Int × Int × List UInt8)) (z : Int × Int × List UInt8) : allB (zs ++ [z]) = allB zs ++ recB (raw z) := by
  simp [allB, recB_norm]
theorem allB_len (zs : List (Int × Int × List UInt8)) : (allB zs).length ≤ 205 * zs.length := by
  induction zs with
  | nil => simp [allB]
  | cons z zs ih =>
    have h1 := recB_raw_len z
    have e : allB (z :: zs) = recB (raw z) ++ allB zs := by simp [allB, recB_norm]
    rw [e, List.length_append, List.length_cons]
    omega

theorem put_any (w : World) (r : Rec) (D : Option Addr) (d : Nat) (hD : Rd w D r.data) (hDn : D = none → d = 0) (hp : r.pos < 16777216) (hr : r.run < 65536) (hd : 0 < r.data.length) (hd2 : r.data.length < 65536) :
    Calls Try.prog 17 #[.agg #[.int .i64 (r.pos : Int), .int .i64 (r.run : Int), .slice D r.data.length d]] w (Putted w (recB r)) := by
  by_cases h0 : 0 < r.run
  · exact put_run w r D d hD hp hr hd h0
  · exact put_data w r D d hD hDn hp hd2 (by omega)

/-- What holds ahead of each record in made. -/
structure MI (w : World) (v : Value) (cu : Bool) (ct : Int) (zs : List (Int × Int × List UInt8)) (u i : Value) (wr : World) (j : Nat) : Prop where
  le : j ≤ zs.length
  le20 : j ≤ 20
  num_ : i = .int .i64 (j : Int)
  ap : Ap wr (w.heap.size + 1) u (patch ++ allB (zs.take j))
  box : Blk wr w.heap.size 34 #[v, .bool cu, .int .i64 ct]
  fr : Fr [] w wr

/-- The bytes of the patch. -/
def madeB (zs : List (Int × Int × List UInt8)) (cu : Bool) (ct : Int) : List UInt8 :=
  (patch ++ allB (zs.take 20)) ++ eof ++ (if cu then [hi ((bits .and .i64 ct 16777215).tmod 3001).toNat, mid ((bits .and .i64 ct 16777215).tmod 3001).toNat, lo ((bits .and .i64 ct 16777215).tmod 3001).toNat] else [])

theorem next_take (zs : List (Int × Int × List UInt8)) (j : Nat) (z : Int × Int × List UInt8) (h : zs[j]? = some z) : zs.take (j + 1) = zs.take j ++ [z] := by
  obtain ⟨hj, rfl⟩ := List.getElem?_eq_some_iff.1 h
  rw [List.take_succ_eq_append_getElem hj]

theorem laid3 {w : World} {q : Nat} {T : TypeId} {x y z a b c : Value} (h : Blk w q T #[a, b, c]) : Blk (((w.setCell ⟨q, 0, none⟩ x).setCell ⟨q, 1, none⟩ y).setCell ⟨q, 2, none⟩ z) q T #[x, y, z] := by
  have h1 := ((h.put 0 x).put 1 y).put 2 z
  simpa using h1
theorem datOf_some (l : List UInt8) (t : Nat) (ht : t = min l.length 200) (h0 : t ≠ 0) : datOf l = l.take t := by
  unfold datOf
  rw [if_neg (by omega), ht]
  rcases Nat.le_total l.length 200 with h | h
  · rw [Nat.min_eq_left h, List.take_of_length_le h, List.take_of_length_le (Nat.le_refl _)]
  · rw [Nat.min_eq_right h]

set_option maxRecDepth 100000 in
set_option maxHeartbeats 8000000 in
theorem made_any (w : World) (A : Option Addr) (n c : Nat) (cu : Bool) (ct : Int) (zs : List (Int × Int × List UInt8)) (hn : zs.length = n) (h : RecIn w A zs) (hc : n ≤ c) (hcm : c ≤ maxLen) :
    Calls Try.prog 12 #[.agg #[.slice A n c, .bool cu, .int .i64 ct], .int .i64 3000] w (Putted w (madeB zs cu ct)) := by
  obtain ⟨i0, hi0, hz0, hz1, hz2⟩ := info_parts info5
  have HR := Lib.hid h
  have HN := Lib.hid hn
  unfold maxLen at hcm
  obtain ⟨wb, hwb⟩ : ∃ wb, wb = w.alloc (.cells #[.slice A n c, .bool cu, .int .i64 ct] 34) := ⟨_, rfl⟩
  have HWB := Lib.hid hwb
  have hsb : wb.heap.size = w.heap.size + 1 := by rw [hwb]; simp
  have HBox : Hid (Blk wb w.heap.size 34 #[.slice A n c, .bool cu, .int .i64 ct]) := Lib.hid (by rw [hwb]; exact Blk.fresh _ _ _)
  have HFb : Hid (Fr [] w wb) := Lib.hid (by rw [hwb]; exact (Fr.refl [] w).alloc _)
  have kc := conv_const wb (w.heap.size + 1) hsb (bv patch).toArray 5 5
  rw [hwb] at kc
  simp [bv, patch] at kc
  have HPat : Hid (Rd (wb.alloc (.cells (bv patch).toArray 5 (5, 6))) (some ⟨w.heap.size + 1, 0, none⟩) patch) := Lib.hid (rd_const wb _ hsb patch 5 _)
  clear h hn hwb
  go_enter Try.func12, Try.ntmps12
  go_wp2_with fail
  clear kc
  rw [← HWB.out]
  have HI0 : Hid (MI w (.slice A n c) cu ct zs (.slice (some ⟨w.heap.size + 1, 0, none⟩) 5 5) (.int .i64 0) (wb.alloc (.cells (bv patch).toArray 5 (5, 6))) 0) := Lib.hid ⟨Nat.zero_le _, by omega, rfl, .inr ⟨w.heap.size + 1, by simp [allB, patch], by simpa [allB] using HPat.out, by omega, by simp; omega⟩, HBox.out.fr ((Fr.refl [] _).alloc _) (by simp), HFb.out.alloc _⟩
  go_loopg [5, 6] 20 (fun gk u i wr => ∃ j, gk = 20 - j ∧ MI w (.slice A n c) cu ct zs u i wr j)
  case atStart => exact ⟨0, rfl, HI0.out⟩
  case round =>
    obtain ⟨j, hgk, HI⟩ := hrel
    have hi1 := HI.num_
    subst hi1
    have hj := HI.le
    have hj20 := HI.le20
    have hlen : (patch ++ allB (zs.take j)).length ≤ 5 + 205 * 20 := by
      have := allB_len (zs.take j)
      rw [List.length_append]
      simp [patch] at this ⊢
      omega
    obtain ⟨A5, c5, hv, -⟩ := HI.ap.slice (by unfold maxLen; omega)
    subst hv
    have b0 := HI.box.cell 0
    have b1 := HI.box.cell 1
    have b2 := HI.box.cell 2
    simp at b0 b1 b2
    have HJ := Lib.hid HI
    clear HI HI0 HPat
    obtain ⟨L, hL⟩ : ∃ L, L = (patch ++ allB (zs.take j)).length := ⟨_, rfl⟩
    rw [← hL] at hlen ⊢
    have HLL := Lib.hid hL
    clear hL
    by_cases hlt : j < n
    · have hlt' : (j : Int) < n := by omega
      by_cases h20 : j < 20
      · have h20' : (j : Int) < 20 := by omega
        obtain ⟨b, o, z, D, d, hA, hzj, q0, q1, q2, hD, hDn, hdl, hdm⟩ := HR.out.at j (by rw [HN.out]; exact hlt)
        subst hA
        have HT := Lib.hid (next_take zs j z hzj)
        have HFr := Lib.hid HJ.out.fr
        obtain ⟨hp1, hp2⟩ := posOf_spell z.1
        obtain ⟨hr1, hr2⟩ := runOf_spell z.2.1
        obtain ⟨t, ht, htn⟩ : ∃ t : Nat, min (z.2.2.length : Int) 200 = (t : Int) ∧ t ≤ z.2.2.length ∧ t ≤ 200 ∧ t = min z.2.2.length 200 := ⟨min z.2.2.length 200, by omega, by omega, by omega, rfl⟩
        have HD := Lib.hid (hD.later HFr.out (by simp))
        have HDn := Lib.hid hDn
        have HTt := Lib.hid htn.2.2
        have ht1 := htn.1
        have ht2 := htn.2.1
        unfold maxLen at hdm
        have o0 : ∀ w', Fr [] wr w' → w'.cell? ⟨b, o + j * 3, none⟩ = some (.int .i64 z.1) := fun w' hf => (HFr.out.tr hf).cell q0 (by simp)
        have o1 : ∀ w', Fr [] wr w' → w'.cell? ⟨b, o + j * 3 + 1, none⟩ = some (.int .i64 z.2.1) := fun w' hf => (HFr.out.tr hf).cell q1 (by simp)
        have o2 : ∀ w', Fr [] wr w' → w'.cell? ⟨b, o + j * 3 + 2, none⟩ = some (.slice D z.2.2.length d) := fun w' hf => (HFr.out.tr hf).cell q2 (by simp)
        have o3 : ∀ w', Fr [] wr w' → w'.cell? ⟨w.heap.size, 0, none⟩ = some (.slice (some ⟨b, o, none⟩) n c) := fun w' hf => hf.cell b0 (by simp)
        have j0 : (0 : Int) ≤ (j : Int) := by omega
        have j2 : (0 : Int) ≤ (t : Int) := by omega
        have j3 : (t : Int) ≤ (d : Int) := by omega
        have HL0 : Hid ((z.2.2.take t).length = t) := Lib.hid (by rw [List.length_take]; omega)
        have HRA : Hid (∀ w', Fr [] wr w' → Rd w' D (z.2.2.take t)) := Lib.hid fun w' hf => rd_take (HD.out.later hf (by simp)) t
        clear hD hDn htn q0 q1 q2 hzj hdl
        go_upto_region 5 with fail
        go_cut [7] (fun s7 wx => ∃ q A2 c2, s7 = .pointer (some ⟨q, 0, none⟩) ∧ Blk wx q 45 #[.int .i64 (posOf z.1 : Int), .int .i64 (runOf z.2.1 : Int), .slice A2 t c2] ∧ Own wx wr.heap.size (.slice A2 t c2) (z.2.2.take t) ∧ wr.heap.size ≤ q ∧ Fr [] wr wx)
        case first =>
          have HOA : Hid (Own ((wr.alloc (.cells #[] 5)).drew) wr.heap.size (.slice (some ⟨wr.heap.size, 0, none⟩) 0 0) []) := Lib.hid (Own.empty wr _ (Nat.le_refl _))
          have HOB : Hid (Own (((wr.alloc (.cells #[] 5)).alloc (.cells #[.int .i64 0, .int .i64 0, .slice none 0 0] 45)).drew) wr.heap.size (.slice (some ⟨wr.heap.size, 0, none⟩) 0 0) []) := Lib.hid ((Own.empty wr _ (Nat.le_refl _)).fr ((Fr.refl [] _).alloc _).drew (by simp))
          have HOC : Hid (Own (((wr.alloc (.cells #[.int .i64 0, .int .i64 0, .slice none 0 0] 45)).alloc (.cells #[] 5)).drew) wr.heap.size (.slice (some ⟨wr.heap.size + 1, 0, none⟩) 0 0) []) := Lib.hid (by
            have h := Own.empty (wr.alloc (.cells #[.int .i64 0, .int .i64 0, .slice none 0 0] 45)) wr.heap.size (by simp)
            rw [World.size_alloc] at h
            exact h.fr (Fr.refl [] _).drew (by simp))
          have HZB : Hid (Blk (((wr.alloc (.cells #[] 5)).alloc (.cells #[.int .i64 0, .int .i64 0, .slice none 0 0] 45)).drew) (wr.heap.size + 1) 45 #[.int .i64 0, .int .i64 0, .slice none 0 0]) := Lib.hid (by
            have h := Blk.fresh (wr.alloc (.cells #[] 5)) 45 #[.int .i64 0, .int .i64 0, .slice none 0 0]
            rw [World.size_alloc] at h
            exact h)
          have HZC : Hid (Blk (((wr.alloc (.cells #[.int .i64 0, .int .i64 0, .slice none 0 0] 45)).alloc (.cells #[] 5)).drew) wr.heap.size 45 #[.int .i64 0, .int .i64 0, .slice none 0 0]) := Lib.hid ((Blk.fresh wr _ _).fr ((Fr.refl [] _).alloc _).drew (by simp))
          go_region_held3 (fun w' => Fr [] wr w') (first | exact (Fr.refl [] wr).drew | exact ((Fr.refl [] wr).alloc _).drew | exact (((Fr.refl [] wr).alloc _).alloc _).drew | exact HF2.out | exact HF2.out.alloc _ | exact ((HF2.out.setCell (.inr (by simp)) _).setCell (.inr (by simp)) _).setCell (.inr (by simp)) _ | exact (((HF2.out.alloc _).setCell (.inr (by simp)) _).setCell (.inr (by simp)) _).setCell (.inr (by simp)) _ | assumption)
            (first
            | (refine step_app _ rfl (.tmp 39) (.tmp 54) 22 rfl wr.heap.size i0 Try.underlying22 hi0 hz0 hz1 hz2 (.slice (some ⟨wr.heap.size, 0, none⟩) 0 0) [] 0 rfl (by rfl) HOA.out D t d (z.2.2.take t) (by rfl) HL0.out (HRA.out _ ((Fr.refl [] wr).alloc _).drew) HDn.out (by omega) (by simp) ?_; intro A2 c2 w2 ho2 hf2 hl2; have HO2 := Lib.hid ho2; have HF2 : Hid (Fr [] wr w2) := Lib.hid ((((Fr.refl [] wr).alloc _).drew).trans hf2 (by simp [Value.ownBlock])); clear ho2 hf2 hl2)
            | (refine step_app _ rfl (.tmp 39) (.tmp 54) 22 rfl wr.heap.size i0 Try.underlying22 hi0 hz0 hz1 hz2 (.slice (some ⟨wr.heap.size, 0, none⟩) 0 0) [] 0 rfl (by rfl) HOB.out D t d (z.2.2.take t) (by rfl) HL0.out (HRA.out _ (((Fr.refl [] wr).alloc _).alloc _).drew) HDn.out (by omega) (by simp; omega) ?_; intro A2 c2 w2 ho2 hf2 hl2; have HO2 := Lib.hid ho2; have HZ2 := Lib.hid (HZB.out.fr hf2 (by simp [Value.ownBlock])); have y0 := HZ2.out.cell 0; have y1 := HZ2.out.cell 1; have y2 := HZ2.out.cell 2; have x0 := HZ2.out.frozen 0; have x1 := HZ2.out.frozen 1; have x2 := HZ2.out.frozen 2; simp at y0 y1 y2; have HF2 : Hid (Fr [] wr w2) := Lib.hid (((((Fr.refl [] wr).alloc _).alloc _).drew).trans hf2 (by simp [Value.ownBlock])); clear ho2 hf2 hl2)
            | (refine step_app _ rfl (.tmp 39) (.tmp 54) 22 rfl wr.heap.size i0 Try.underlying22 hi0 hz0 hz1 hz2 (.slice (some ⟨wr.heap.size + 1, 0, none⟩) 0 0) [] 0 rfl (by rfl) HOC.out D t d (z.2.2.take t) (by rfl) HL0.out (HRA.out _ (((Fr.refl [] wr).alloc _).alloc _).drew) HDn.out (by omega) (by simp; omega) ?_; intro A2 c2 w2 ho2 hf2 hl2; have HO2 := Lib.hid ho2; have HZ2 := Lib.hid (HZC.out.fr hf2 (by simp [Value.ownBlock])); have y0 := HZ2.out.cell 0; have y1 := HZ2.out.cell 1; have y2 := HZ2.out.cell 2; have x0 := HZ2.out.frozen 0; have x1 := HZ2.out.frozen 1; have x2 := HZ2.out.frozen 2; simp at y0 y1 y2; have HF2 : Hid (Fr [] wr w2) := Lib.hid (((((Fr.refl [] wr).alloc _).alloc _).drew).trans hf2 (by simp [Value.ownBlock])); clear ho2 hf2 hl2))
          all_goals
            have ho := HO2.out
            rw [List.nil_append, Nat.zero_add] at ho
            go_wp2_with fail
            go_meet
            first
            | exact ⟨w2.heap.size, A2, c2, rfl, Blk.fresh _ _ _, ho.fr ((Fr.refl [] w2).alloc _) (by simp), HF2.out.size, HF2.out.alloc _⟩
            | exact ⟨_, A2, c2, rfl, laid3 HZ2.out, ho.fr (fr3 w2 _ _ _ _) (fun k hk hm => by have h := ho.other HZ2.out (by decide); simp at hm; subst hm; exact h hk), by omega, HF2.out.trans (fr3 w2 _ _ _ _) (by simp)⟩
        case rest =>
          obtain ⟨q, A2, c2, rfl, hb, ho, hq, hf⟩ := hcut
          have d0 := hb.cell 0
          have d1 := hb.cell 1
          have d2 := hb.cell 2
          have f2 := hb.frozen 2
          simp at d0 d1 d2
          have HB := Lib.hid hb
          have HO := Lib.hid ho
          have HFc := Lib.hid hf
          have hql := hb.lt
          clear hb ho hf o0 o1 o2 o3 b0 b1 b2 hp1 hr1 ht j0 j2 j3
          by_cases ht0 : t = 0
          · subst ht0
            have HDat : Hid (datOf z.2.2 = [7]) := Lib.hid (by have := HTt.out; unfold datOf; rw [if_pos (by omega)])
            have HFW : Hid (Fr [] wr ((wc.setCell ⟨q, 2, none⟩ (.slice (some ⟨wc.heap.size, 0, none⟩) 1 1)).alloc (.cells #[.int .u8 7] 5))) := Lib.hid ((HFc.out.setCell (.inr hq) _).alloc _)
            have HRd : Hid (Rd ((wc.setCell ⟨q, 2, none⟩ (.slice (some ⟨wc.heap.size, 0, none⟩) 1 1)).alloc (.cells #[.int .u8 7] 5)) (some ⟨wc.heap.size, 0, none⟩) (raw z).data) := Lib.hid (by
              show Rd _ _ (datOf z.2.2)
              rw [HDat.out]
              have h := rd_one' (wc.setCell ⟨q, 2, none⟩ (.slice (some ⟨wc.heap.size, 0, none⟩) 1 1)) 7 7 rfl
              rw [show (wc.setCell ⟨q, 2, none⟩ (.slice (some ⟨wc.heap.size, 0, none⟩) 1 1)).heap.size = wc.heap.size by simp [World.setCell]] at h
              exact h)
            have HNn : Hid ((some ⟨wc.heap.size, 0, none⟩ : Option Addr) = none → 1 = 0) := Lib.hid (by simp)
            have hrd : ([7] : List UInt8).length = 1 := rfl
            have HLd : Hid ((raw z).data.length = 1) := Lib.hid (by show (datOf z.2.2).length = 1; rw [HDat.out]; rfl)
            have hqn : ¬ q = wc.heap.size := by omega
            have hqn' : ¬ wc.heap.size = q := by omega
            clear hrd
            go_wp2_with fail
            have HPut := Lib.hid (put_any ((wc.setCell ⟨q, 2, none⟩ (.slice (some ⟨wc.heap.size, 0, none⟩) 1 1)).alloc (.cells #[.int .u8 7] 5)) (raw z) (some ⟨wc.heap.size, 0, none⟩) 1 HRd.out HNn.out (by show posOf z.1 < _; omega) (by show runOf z.2.1 < _; omega) (datOf_len z.2.2).1 (by have := (datOf_len z.2.2).2; show (datOf z.2.2).length < _; omega))
            rw [HLd.out] at HPut
            refine HPut.out.mono ?_
            rintro e w4 ⟨A4, c4, rfl, ho4, hf4⟩
            have HO4 := Lib.hid ho4
            have HF4 : Hid (Fr [] wr w4) := Lib.hid (HFW.out.tr hf4)
            have HN4 : Hid (A4 = none → c4 = 0) := Lib.hid (by rcases ho4.form0 with ⟨_, _, h⟩ | ⟨g, h⟩; exact fun _ => h; exact fun e => by rw [h] at e; cases e)
            have hs4 := HF4.out.size
            have hs5 := HFr.out.size
            have hs6 := HJ.out.box.lt
            have HAp4 : Hid (Ap w4 (w.heap.size + 1) (.slice A5 L c5) (patch ++ allB (zs.take j))) := Lib.hid (by have h := HJ.out.ap.fr HF4.out (by simp); rw [← HLL.out] at h; exact h)
            have HRL := Lib.hid (recB_raw_len z)
            clear ho4 hf4
            generalize hrl : (recB (raw z)).length = rl at *
            have HRl := Lib.hid hrl
            have hrl2 : rl ≤ 205 := HRL.out
            clear hrl
            go_wp2_with (at_builtin; refine wpList_ap _ rfl (.tmp 63) (.tmp 65) 22 rfl (w.heap.size + 1) i0 Try.underlying22 hi0 hz0 hz1 hz2 _ (patch ++ allB (zs.take j)) rfl HAp4.out A4 rl c4 (recB (raw z)) rfl HRl.out HO4.out.rd HN4.out (L + rl) (by rw [HLL.out]) (by omega) (by omega) ?_)
            intro A6 c6 w6 ho6 hf6
            have HO6 : Hid (Ap w6 (w.heap.size + 1) (.slice A6 (L + rl) c6) (patch ++ allB (zs.take (j + 1)))) := Lib.hid (by rw [HT.out, allB_snoc, ← List.append_assoc]; exact ho6)
            have HF6 : Hid (Fr [] w w6) := Lib.hid ((HFr.out.tr HF4.out).trans hf6 (fun k hk => .inr (by have := HAp4.out.lt k hk; omega)))
            have HB6 : Hid (Blk w6 w.heap.size 34 #[.slice (some ⟨b, o, none⟩) n c, .bool cu, .int .i64 ct]) := Lib.hid ((HJ.out.box.fr HF4.out (by simp)).fr hf6 (fun hm => by have := HAp4.out.lt _ hm; omega))
            clear ho6 hf6
            go_wp2
            go_roundg (20 - (j + 1))
            case rel => exact ⟨j + 1, rfl, by have := HN.out; omega, by omega, by go_num, HO6.out, HB6.out, HF6.out⟩
            case measure => omega
          · have ht0' : ¬ (t : Int) = 0 := by omega
            have HDat : Hid (datOf z.2.2 = z.2.2.take t) := Lib.hid (datOf_some _ t HTt.out ht0)
            have HFW := HFc
            have HRd : Hid (Rd wc A2 (raw z).data) := Lib.hid (by show Rd _ _ (datOf z.2.2); rw [HDat.out]; exact HO.out.rd)
            have HNn : Hid (A2 = none → c2 = 0) := Lib.hid (by rcases HO.out.form0 with ⟨_, _, h⟩ | ⟨g, h⟩; exact fun _ => h; exact fun e => by rw [h] at e; cases e)
            have HLd : Hid ((raw z).data.length = t) := Lib.hid (by show (datOf z.2.2).length = t; rw [HDat.out]; exact HL0.out)
            go_wp2_with fail
            have HPut := Lib.hid (put_any wc (raw z) A2 c2 HRd.out HNn.out (by show posOf z.1 < _; omega) (by show runOf z.2.1 < _; omega) (datOf_len z.2.2).1 (by have := (datOf_len z.2.2).2; show (datOf z.2.2).length < _; omega))
            rw [HLd.out] at HPut
            refine HPut.out.mono ?_
            rintro e w4 ⟨A4, c4, rfl, ho4, hf4⟩
            have HO4 := Lib.hid ho4
            have HF4 : Hid (Fr [] wr w4) := Lib.hid (HFW.out.tr hf4)
            have HN4 : Hid (A4 = none → c4 = 0) := Lib.hid (by rcases ho4.form0 with ⟨_, _, h⟩ | ⟨g, h⟩; exact fun _ => h; exact fun e => by rw [h] at e; cases e)
            have hs4 := HF4.out.size
            have hs5 := HFr.out.size
            have hs6 := HJ.out.box.lt
            have HAp4 : Hid (Ap w4 (w.heap.size + 1) (.slice A5 L c5) (patch ++ allB (zs.take j))) := Lib.hid (by have h := HJ.out.ap.fr HF4.out (by simp); rw [← HLL.out] at h; exact h)
            have HRL := Lib.hid (recB_raw_len z)
            clear ho4 hf4
            generalize hrl : (recB (raw z)).length = rl at *
            have HRl := Lib.hid hrl
            have hrl2 : rl ≤ 205 := HRL.out
            clear hrl
            go_wp2_with (at_builtin; refine wpList_ap _ rfl (.tmp 63) (.tmp 65) 22 rfl (w.heap.size + 1) i0 Try.underlying22 hi0 hz0 hz1 hz2 _ (patch ++ allB (zs.take j)) rfl HAp4.out A4 rl c4 (recB (raw z)) rfl HRl.out HO4.out.rd HN4.out (L + rl) (by rw [HLL.out]) (by omega) (by omega) ?_)
            intro A6 c6 w6 ho6 hf6
            have HO6 : Hid (Ap w6 (w.heap.size + 1) (.slice A6 (L + rl) c6) (patch ++ allB (zs.take (j + 1)))) := Lib.hid (by rw [HT.out, allB_snoc, ← List.append_assoc]; exact ho6)
            have HF6 : Hid (Fr [] w w6) := Lib.hid ((HFr.out.tr HF4.out).trans hf6 (fun k hk => .inr (by have := HAp4.out.lt k hk; omega)))
            have HB6 : Hid (Blk w6 w.heap.size 34 #[.slice (some ⟨b, o, none⟩) n c, .bool cu, .int .i64 ct]) := Lib.hid ((HJ.out.box.fr HF4.out (by simp)).fr hf6 (fun hm => by have := HAp4.out.lt _ hm; omega))
            clear ho6 hf6
            go_wp2
            go_roundg (20 - (j + 1))
            case rel => exact ⟨j + 1, rfl, by have := HN.out; omega, by omega, by go_num, HO6.out, HB6.out, HF6.out⟩
            case measure => omega
      · have h20' : ¬ (j : Int) < 20 := by omega
        have HTk : Hid (zs.take j = zs.take 20) := Lib.hid (by rw [show j = 20 by omega])
        have HAp : Hid (Ap wr (w.heap.size + 1) (.slice A5 L c5) (patch ++ allB (zs.take 20))) := Lib.hid (by have h := HJ.out.ap; rw [← HLL.out, HTk.out] at h; exact h)
        have HL3 : Hid ((patch ++ allB (zs.take 20)).length + eof.length = L + 3) := Lib.hid (by rw [HLL.out, HTk.out]; rfl)
        have HFr := Lib.hid HJ.out.fr
        have hsz := HJ.out.box.lt
        go_wp2_with (at_builtin; refine wpList_apS _ rfl (.tmp 67) (.const (.string ⟨#[69, 79, 70]⟩)) 22 9 rfl (w.heap.size + 1) i0 Try.underlying22 Try.underlying9 hi0 hz0 hz1 hz2 _ (patch ++ allB (zs.take 20)) rfl HAp.out eof rfl (by decide) (L + 3) HL3.out (by omega) (by omega) ?_)
        intro A6 c6 w6 ho6 hf6
        have hbx := HJ.out.box.fr hf6 (fun hm => by have := HAp.out.lt _ hm; omega)
        have HF6 : Hid (Fr [] w w6) := Lib.hid (HFr.out.trans hf6 (fun k hk => .inr (by have := HAp.out.lt k hk; omega)))
        have e1 := hbx.cell 1
        have e2 := hbx.cell 2
        simp at e1 e2
        have HO6 := Lib.hid ho6
        have hs6 := hf6.size
        clear ho6 hf6 hbx
        cases cu with
        | false =>
          go_wp2
          go_ret
          have hl : (madeB zs false ct).length = L + 3 := by unfold madeB; simp only [Bool.false_eq_true, if_false, List.append_nil]; rw [List.length_append]; exact HL3.out
          refine ⟨A6, c6, by rw [hl] <;> rfl, ?_, HF6.out⟩
          rw [hl]
          have h := HO6.out.base (show w.heap.size ≤ w.heap.size + 1 by omega)
          unfold madeB
          simpa using h
        | true =>
          obtain ⟨C, hC, hC2⟩ := below_of ct 3001 (by omega)
          have p2 := hi_spell C (by omega)
          have p1 := mid_spell' C (by omega)
          have p1' := mid_spell C
          have p0 := lo_spell C
          have HMB : Hid (madeB zs true ct = ((patch ++ allB (zs.take 20)) ++ eof) ++ [hi C, mid C, lo C]) := Lib.hid (by unfold madeB; rw [hC]; simp)
          have HLo : Hid (((patch ++ allB (zs.take 20)) ++ eof).length = L + 3) := Lib.hid (by rw [List.length_append]; exact HL3.out)
          have HNew : Hid (Rd (w6.alloc (.cells #[.int .u8 ((hi C).toNat : Int), .int .u8 ((mid C).toNat : Int), .int .u8 ((lo C).toNat : Int)] 5)) (some ⟨w6.heap.size, 0, none⟩) [hi C, mid C, lo C]) := Lib.hid (rd_blk (t := 5) (Blk.fresh w6 5 (bv [hi C, mid C, lo C]).toArray))
          go_wp2_with (at_builtin; refine wpList_appN _ rfl (.tmp 77) (.tmp 86) 22 rfl (w.heap.size + 1) i0 Try.underlying22 hi0 hz0 hz1 hz2 (.slice A6 (L + 3) c6) ((patch ++ allB (zs.take 20)) ++ eof) (L + 3) HLo.out rfl (HO6.out.fr ((Fr.refl [] w6).alloc _) (by simp)) (some ⟨w6.heap.size, 0, none⟩) 3 3 [hi C, mid C, lo C] rfl rfl HNew.out (by simp) (by omega) (by simp; omega) ?_)
          intro A7 c7 w7 ho7 hf7 _
          have HF7 : Hid (Fr [] w w7) := Lib.hid ((HF6.out.alloc _).trans hf7 (fun k hk => .inr (by have := HO6.out.lt k (by simpa using hk); omega)))
          have HO7 := Lib.hid ho7
          clear ho7 hf7
          go_wp2
          go_ret
          have hl : (madeB zs true ct).length = L + 3 + 3 := by rw [HMB.out, List.length_append, HLo.out]; rfl
          refine ⟨A7, c7, by rw [hl] <;> rfl, ?_, HF7.out⟩
          rw [hl, HMB.out]
          simp only [List.append_assoc]
          exact HO7.out.base (show w.heap.size ≤ w.heap.size + 1 by omega)
    · have hlt' : ¬ (j : Int) < n := by omega
      have HTk : Hid (zs.take j = zs.take 20) := Lib.hid (by rw [List.take_of_length_le (by rw [HN.out]; omega), List.take_of_length_le (by rw [HN.out]; omega)])
      have HAp : Hid (Ap wr (w.heap.size + 1) (.slice A5 L c5) (patch ++ allB (zs.take 20))) := Lib.hid (by have h := HJ.out.ap; rw [← HLL.out, HTk.out] at h; exact h)
      have HL3 : Hid ((patch ++ allB (zs.take 20)).length + eof.length = L + 3) := Lib.hid (by rw [HLL.out, HTk.out]; rfl)
      have HFr := Lib.hid HJ.out.fr
      have hsz := HJ.out.box.lt
      go_wp2_with (at_builtin; refine wpList_apS _ rfl (.tmp 67) (.const (.string ⟨#[69, 79, 70]⟩)) 22 9 rfl (w.heap.size + 1) i0 Try.underlying22 Try.underlying9 hi0 hz0 hz1 hz2 _ (patch ++ allB (zs.take 20)) rfl HAp.out eof rfl (by decide) (L + 3) HL3.out (by omega) (by omega) ?_)
      intro A6 c6 w6 ho6 hf6
      have hbx := HJ.out.box.fr hf6 (fun hm => by have := HAp.out.lt _ hm; omega)
      have HF6 : Hid (Fr [] w w6) := Lib.hid (HFr.out.trans hf6 (fun k hk => .inr (by have := HAp.out.lt k hk; omega)))
      have e1 := hbx.cell 1
      have e2 := hbx.cell 2
      simp at e1 e2
      have HO6 := Lib.hid ho6
      have hs6 := hf6.size
      clear ho6 hf6 hbx
      cases cu with
      | false =>
        go_wp2
        go_ret
        have hl : (madeB zs false ct).length = L + 3 := by unfold madeB; simp only [Bool.false_eq_true, if_false, List.append_nil]; rw [List.length_append]; exact HL3.out
        refine ⟨A6, c6, by rw [hl] <;> rfl, ?_, HF6.out⟩
        rw [hl]
        have h := HO6.out.base (show w.heap.size ≤ w.heap.size + 1 by omega)
        unfold madeB
        simpa using h
      | true =>
        obtain ⟨C, hC, hC2⟩ := below_of ct 3001 (by omega)
        have p2 := hi_spell C (by omega)
        have p1 := mid_spell' C (by omega)
        have p1' := mid_spell C
        have p0 := lo_spell C
        have HMB : Hid (madeB zs true ct = ((patch ++ allB (zs.take 20)) ++ eof) ++ [hi C, mid C, lo C]) := Lib.hid (by unfold madeB; rw [hC]; simp)
        have HLo : Hid (((patch ++ allB (zs.take 20)) ++ eof).length = L + 3) := Lib.hid (by rw [List.length_append]; exact HL3.out)
        have HNew : Hid (Rd (w6.alloc (.cells #[.int .u8 ((hi C).toNat : Int), .int .u8 ((mid C).toNat : Int), .int .u8 ((lo C).toNat : Int)] 5)) (some ⟨w6.heap.size, 0, none⟩) [hi C, mid C, lo C]) := Lib.hid (rd_blk (t := 5) (Blk.fresh w6 5 (bv [hi C, mid C, lo C]).toArray))
        go_wp2_with (at_builtin; refine wpList_appN _ rfl (.tmp 77) (.tmp 86) 22 rfl (w.heap.size + 1) i0 Try.underlying22 hi0 hz0 hz1 hz2 (.slice A6 (L + 3) c6) ((patch ++ allB (zs.take 20)) ++ eof) (L + 3) HLo.out rfl (HO6.out.fr ((Fr.refl [] w6).alloc _) (by simp)) (some ⟨w6.heap.size, 0, none⟩) 3 3 [hi C, mid C, lo C] rfl rfl HNew.out (by simp) (by omega) (by simp; omega) ?_)
        intro A7 c7 w7 ho7 hf7 _
        have HF7 : Hid (Fr [] w w7) := Lib.hid ((HF6.out.alloc _).trans hf7 (fun k hk => .inr (by have := HO6.out.lt k (by simpa using hk); omega)))
        have HO7 := Lib.hid ho7
        clear ho7 hf7
        go_wp2
        go_ret
        have hl : (madeB zs true ct).length = L + 3 + 3 := by rw [HMB.out, List.length_append, HLo.out]; rfl
        refine ⟨A7, c7, by rw [hl] <;> rfl, ?_, HF7.out⟩
        rw [hl, HMB.out]
        simp only [List.append_assoc]
        exact HO7.out.base (show w.heap.size ≤ w.heap.size + 1 by omega)

end Ips
end Go.Proofs.Ytcbmkmblfciflaa
