/-
  Contract of ips.Apply. Condition: x has at most 1000000000 bytes.
-/
import Derived.Test.YtchakjknndpmpaaIpsApplyMath
namespace Go.Proofs.Ytchakjknndpmpaa
open Go.RowKit
namespace Ips

theorem made_zero (n : Nat) : (madeCells #[Value.int .u8 0] n).toList = bv (List.replicate n 0) := by
  apply List.ext_getElem
  · simp [madeCells, bv]
  · intro i h1 h2
    simp [madeCells, bv, Nat.mod_one]

theorem own_made {w : World} {B g n : Nat} {xs : List Value} (h : w.ownsRow B 5 1 (.slice (some ⟨g, 0, none⟩) n n) n xs) : Blk w g 5 xs.toArray := by
  obtain ⟨h1, h2⟩ := h
  rcases h2 with ⟨h2, _⟩ | ⟨g', cap, cur, hv, _, hh, _, _, hs, ht⟩
  · cases h2
  · cases hv
    have e : cur.toList = xs := by rw [← ht, List.take_of_length_le (by simp; omega)]
    subst e
    simpa [Blk] using hh

/-- What Apply answers. -/
def Applied (w : World) (o : Int × List UInt8) (e : Ending) (w' : World) : Prop :=
  ∃ A c, e = .returned (.tuple #[.slice A o.2.length c, .int .i64 o.1]) ∧ Rd w' A o.2 ∧ (A = none → c = 0) ∧ o.2.length ≤ c ∧ c ≤ 1000000000 ∧ Fr [] w w'

theorem Applied.none_ {w w' : World} {O : Int × List UInt8} (e : Int) (hO : O = (e, [])) (hf : Fr [] w w') : Applied w O (.returned (.tuple #[.slice none 0 0, .int .i64 e])) w' := by
  subst hO
  exact ⟨none, 0, rfl, rd_nil _, fun _ => rfl, by simp, by simp, hf⟩

set_option maxRecDepth 100000 in
set_option maxHeartbeats 1000000 in
theorem apply_bad (w : World) (A A' : Option Addr) (n c m c' : Nat) (l x : List UInt8) (hn : l.length = n) (h : Rd w A l) (he : (parse l).1 ≠ 0) :
    Calls Try.prog 12 #[.slice A n c, .slice A' m c'] w (Applied w (applied l x)) := by
  have HO : Hid (applied l x = ((parse l).1, [])) := Lib.hid (by simp [applied, he])
  have HC := Lib.hid (parse_any w A n c l hn h)
  generalize applied l x = O at *
  generalize parse l = Z at *
  obtain ⟨e, rs, cut⟩ := Z
  have he' : (e != 0) = true := by simpa using he
  clear h hn he
  go_enter Try.func12, Try.ntmps12
  go_wp2_with fail
  refine HC.out.mono ?_
  rintro e1 w1 ⟨A1, c1, rfl, hr, hf⟩
  have HF := Lib.hid hf
  clear hr hf
  go_wp2
  go_ret2
  exact .none_ e HO.out HF.out

/-- A record, out of memory. -/
theorem RecRd.at {w : World} {A : Option Addr} {rs : List Rec} (h : RecRd w A rs) (j : Nat) (hj : j < rs.length) : ∃ b o r D c, A = some ⟨b, o, none⟩ ∧ rs[j]? = some r ∧
    w.cell? ⟨b, o + j * 3, none⟩ = some (.int .i64 (r.pos : Int)) ∧ w.cell? ⟨b, o + j * 3 + 1, none⟩ = some (.int .i64 (r.run : Int)) ∧ w.cell? ⟨b, o + j * 3 + 2, none⟩ = some (.slice D r.data.length c) ∧ Rd w D r.data := by
  obtain ⟨b, o, rfl, hc⟩ := h (by omega)
  obtain ⟨D, c, h0, h1, h2, h3, _⟩ := hc j hj
  exact ⟨b, o, rs[j], D, c, rfl, List.getElem?_eq_getElem hj, h0, h1, h2, h3⟩

theorem take_next (rs : List Rec) (j : Nat) (r : Rec) (h : rs[j]? = some r) : rs.take (j + 1) = rs.take j ++ [r] := by
  obtain ⟨hj, rfl⟩ := List.getElem?_eq_some_iff.1 h
  rw [List.take_succ_eq_append_getElem hj]

/-- What holds in Apply's first loop. -/
structure App1 (w1 : World) (m k : Nat) (rs : List Rec) (i z : Value) (wr : World) (j : Nat) : Prop where
  le : j ≤ k
  num_ : i = .int .i64 (j : Int)
  most : z = .int .i64 (reach m (rs.take j) : Nat)
  fr : Fr [] w1 wr

/-- What holds in Apply's second loop: g is the output's block, o its bytes at first. -/
structure App2 (w w1 : World) (g N k : Nat) (o : List UInt8) (rs : List Rec) (i : Value) (wr : World) (j : Nat) : Prop where
  le : j ≤ k
  num_ : i = .int .i64 (j : Int)
  row : Blk wr g 5 (bv (layAll (rs.take j) o)).toArray
  fr : Fr [g] w1 wr

theorem cutTo_none (o : List UInt8) (cut : Int) (h : ¬ (0 ≤ cut ∧ cut < o.length)) : cutTo cut o = o := by simp only [cutTo]; rw [if_neg h]
theorem cutTo_some (o : List UInt8) (cut : Int) (h : 0 ≤ cut ∧ cut < o.length) : cutTo cut o = o.take cut.toNat := by simp only [cutTo]; rw [if_pos h]

set_option maxRecDepth 100000 in
set_option maxHeartbeats 8000000 in
theorem apply_good (w : World) (A A' : Option Addr) (n c m c' : Nat) (l x : List UInt8) (hn : l.length = n) (h : Rd w A l) (hm : x.length = m) (hx : m ≤ 1000000000) (hX : Rd w A' x) (he : (parse l).1 = 0) :
    Calls Try.prog 12 #[.slice A n c, .slice A' m c'] w (Applied w (applied l x)) := by
  obtain ⟨i0, hi, hz0, hz1, hz2⟩ := info_parts info5
  have HO : Hid (applied l x = if 16777216 < reach x.length (parse l).2.1 then (6, []) else (0, cutTo (parse l).2.2 (layAll (parse l).2.1 (pad x (reach x.length (parse l).2.1))))) := Lib.hid (by simp [applied, he])
  have HC := Lib.hid (parse_any w A n c l hn h)
  have HFit := Lib.hid (parse_fits l)
  have hfew := parse_few l
  have hcut := parse_cut l
  generalize applied l x = O at *
  generalize parse l = Z at *
  obtain ⟨e, rs, cut⟩ := Z
  subst he hm
  simp only at hfew hcut HO HFit
  clear h hn
  have HX := Lib.hid hX
  clear hX
  generalize hk : rs.length = k at *
  have HK := Lib.hid hk
  clear hk
  generalize hm : x.length = m at *
  have HM := Lib.hid hm
  clear hm
  go_enter Try.func12, Try.ntmps12
  go_wp2_with fail
  refine HC.out.mono ?_
  rintro e1 w1 ⟨A1, c1, rfl, hr, hf⟩
  have HR := Lib.hid hr
  have HF := Lib.hid hf
  have HX1 := Lib.hid (HX.out.later hf (by simp))
  clear hr hf
  simp only [HK.out]
  go_wp2_with fail
  go_loopw [9, 28] (fun z i wr => ∃ j, App1 w1 m k rs i z wr j) (fun _ i _ => k - (intOf i).toNat)
  case atStart => exact ⟨0, Nat.zero_le _, rfl, rfl, Fr.refl _ _⟩
  case round =>
    obtain ⟨j, HI⟩ := hrel
    have hi1 := HI.num_
    have hi2 := HI.most
    subst hi1 hi2
    have hj := HI.le
    have HI' := Lib.hid HI
    clear HI
    have hR1 : reach m (rs.take j) ≤ 1000000000 := reach_le _ _ _ hx (fun r hr => by
      have := HFit.out r (List.mem_of_mem_take hr)
      obtain ⟨_, h1, h2, h3⟩ := this
      unfold span
      omega)
    by_cases hlt : j < k
    · have hlt' : (j : Int) < k := by omega
      obtain ⟨b, o, r, D, d, rfl, hrj, q0, q1, q2, _⟩ := (HR.out.later HI'.out.fr (by simp)).at j (by rw [HK.out]; exact hlt)
      obtain ⟨_, f1, f2, f3⟩ := HFit.out r (List.mem_of_getElem? hrj)
      have HT := Lib.hid (take_next rs j r hrj)
      clear hrj
      generalize hXe : reach m (rs.take j) = X at *
      have HXe := Lib.hid hXe
      clear hXe
      go_wp2_with fail
      refine (behind_any _ r.pos r.run r.data.length d D (by omega) (by omega) (by omega)).mono ?_
      rintro e2 w2 ⟨rfl, hf2⟩
      have HF2 := Lib.hid hf2
      clear hf2
      go_wp2
      go_roundw
      case rel =>
        refine ⟨j + 1, by omega, by go_num, ?_, HI'.out.fr.tr (((Fr.refl [] wr).alloc _).tr HF2.out)⟩
        rw [HT.out, reach_snoc, HXe.out]
        unfold span
        congr 1
        omega
      case measure => simp [intOf]; omega
    · have hlt' : ¬ (j : Int) < k := by omega
      obtain rfl : j = k := by omega
      have hge := reach_ge m rs
      have HRE := Lib.hid (reach_mem m rs)
      have hta : rs.take j = rs := List.take_of_length_le (by rw [HK.out]; exact Nat.le_refl _)
      rw [hta] at hR1 HI' ⊢
      clear hta
      generalize hXe : reach m rs = X at *
      clear hXe
      by_cases hbig : 16777216 < X
      · have hbig' : 16777216 < (X : Int) := by omega
        go_wp2
        go_ret2
        exact .none_ 6 (by rw [HO.out, if_pos hbig]) (HF.out.tr HI'.out.fr)
      · have hbig' : ¬ 16777216 < (X : Int) := by omega
        have HO' : Hid (O = (0, cutTo cut (layAll rs (pad x X)))) := Lib.hid (by rw [HO.out, if_neg hbig])
        go_wp2_with (at_make; refine wpList_make_full _ rfl _ _ 22 rfl 0 5 i0 (.int .u8 0) 1 Try.underlying22 hi hz0 hz1 _ _ _ _ X rfl rfl rfl rfl ?b1 ?b2 ?b3 ?_)
        case b1 => omega
        case b2 => unfold maxLen; omega
        intro w2 hown hgrow
        have HB2 : Hid (Blk w2 wr.heap.size 5 (bv (List.replicate X 0)).toArray) := Lib.hid (by have h1 := own_made hown; rw [made_zero] at h1; exact h1)
        have HF2 : Hid (Fr [] w1 w2) := Lib.hid (HI'.out.fr.tr (Fr.grown (Fr.refl [] wr) hgrow (by simp)))
        have hgw : w1.heap.size ≤ wr.heap.size := HI'.out.fr.size
        clear hown hgrow
        generalize wr.heap.size = g at *
        have HX2 := Lib.hid (HX1.out.later HF2.out (by simp))
        have HMin : Hid (x.length = Nat.min m X) := Lib.hid (by rw [HM.out]; exact (Nat.min_eq_left hge).symm)
        have HFt : Hid (0 + x.length ≤ (List.replicate X (0 : UInt8)).length) := Lib.hid (by rw [HM.out]; simp; exact hge)
        go_wp2_with (refine wpList_copyB _ rfl (.tmp 41) (.tmp 42) 22 rfl Try.underlying22 size5 (some ⟨g, 0, none⟩) A' X X m c' rfl rfl g 0 (List.replicate X 0) HB2.out x HMin.out (fun _ => rfl) HX2.out HFt.out m HM.out ?_)
        intro w3 hb3 hf3
        have HP : Hid (over (List.replicate X 0) 0 x = pad x X) := Lib.hid (by simp [over, pad])
        have HA0 : Hid (App2 w w1 g X j (pad x X) rs (.int .i64 0) w3 0) := Lib.hid ⟨Nat.zero_le _, rfl, by rw [HP.out] at hb3; exact hb3, HF2.out.nil.tr hf3⟩
        have HPL : Hid ((pad x X).length = X) := Lib.hid (by rw [pad_length, HM.out]; omega)
        clear hb3 hf3
        generalize pad x X = o1 at *
        go_wp2_with fail
        go_loopw [46] (fun i wr => ∃ q, App2 w w1 g X j o1 rs i wr q) (fun i _ => j - (intOf i).toNat)
        case atStart => exact ⟨0, HA0.out⟩
        case round =>
          obtain ⟨q, HI2⟩ := hrel
          have hi1 := HI2.num_
          subst hi1
          have hq := HI2.le
          have HJ := Lib.hid HI2
          clear HI2
          have HLL : Hid (∀ q, (layAll (rs.take q) o1).length = X) := Lib.hid fun q => by
            rw [layAll_length _ _ (fun r hr => (HFit.out r (List.mem_of_mem_take hr)).1) (fun r hr => by rw [HPL.out]; exact HRE.out r (List.mem_of_mem_take hr)), HPL.out]
          by_cases hlt2 : q < j
          · have hlt2' : (q : Int) < j := by omega
            obtain ⟨b, o, r, D, d, e, hrj, q0, q1, q2, hD⟩ := (HR.out.later HJ.out.fr (by simp; omega)).at q (by rw [HK.out]; exact hlt2)
            subst e
            obtain ⟨hwf, f1, f2, f3⟩ := HFit.out r (List.mem_of_getElem? hrj)
            have HT := Lib.hid (take_next rs q r hrj)
            have HRr := Lib.hid (HRE.out r (List.mem_of_getElem? hrj))
            have HDD := Lib.hid hD
            have HWf := Lib.hid hwf
            have hgl := HJ.out.row.lt
            clear hrj hD hwf
            go_wp2_with fail
            refine (lay_any _ r D d g X (layAll (rs.take q) o1) (HDD.out.later (S := []) ((Fr.refl [] wr).alloc _) (by simp)) (HJ.out.row.fr ((Fr.refl [] wr).alloc _) (by simp)) (HLL.out q) HWf.out HRr.out (by omega)).mono ?_
            rintro e3 w4 ⟨rfl, hb4, hf4⟩
            have HB4 := Lib.hid hb4
            have HF4 := Lib.hid hf4
            clear hb4 hf4
            go_wp2
            go_roundw
            case rel => exact ⟨q + 1, by omega, by go_num, by rw [HT.out, layAll_snoc]; exact HB4.out, HJ.out.fr.tr (((Fr.refl [g] wr).alloc _).tr HF4.out)⟩
            case measure => simp [intOf]; omega
          · have hlt2' : ¬ (q : Int) < j := by omega
            obtain rfl : q = j := by omega
            have HFin : Hid (Fr [] w wr) := Lib.hid (HF.out.trans HJ.out.fr (by have := HF.out.size; simp; omega))
            have HLF : Hid ((layAll rs o1).length = X) := Lib.hid (by have h1 := HLL.out q; rwa [List.take_of_length_le (by rw [HK.out]; exact Nat.le_refl _)] at h1)
            have HRow : Hid (Blk wr g 5 (bv (layAll rs o1)).toArray) := Lib.hid (by have h1 := HJ.out.row; rwa [List.take_of_length_le (by rw [HK.out]; exact Nat.le_refl _)] at h1)
            rcases (show cut = -1 ∨ ∃ K : Nat, cut = K by rcases Int.lt_or_le cut 0 with h | h; exact .inl (by omega); exact .inr ⟨cut.toNat, by omega⟩) with rfl | ⟨K, rfl⟩
            · go_wp2
              go_ret2
              rw [HO'.out, cutTo_none _ _ (by omega)]
              exact ⟨some ⟨g, 0, none⟩, X, by rw [HLF.out] <;> rfl, rd_blk HRow.out, by simp, by rw [HLF.out]; exact Nat.le_refl _, by omega, HFin.out⟩
            · have hk1 : ((K : Int) != -1) = true := by simp
              by_cases hK : K < X
              · have hK' : (K : Int) < X := by omega
                have hK2 : (K : Int) ≤ X := by omega
                have hK0 : (0 : Int) ≤ K := by omega
                go_wp2
                go_ret2
                have hlen : ((layAll rs o1).take K).length = K := by rw [List.length_take, HLF.out]; omega
                rw [HO'.out, cutTo_some _ _ (by rw [HLF.out]; omega), Int.toNat_natCast]
                exact ⟨some ⟨g, 0, none⟩, X, by rw [hlen] <;> rfl, rd_take (rd_blk HRow.out) K, by simp, by rw [hlen]; omega, by omega, HFin.out⟩
              · have hK' : ¬ (K : Int) < X := by omega
                go_wp2
                go_ret2
                rw [HO'.out, cutTo_none _ _ (by rw [HLF.out]; omega)]
                exact ⟨some ⟨g, 0, none⟩, X, by rw [HLF.out] <;> rfl, rd_blk HRow.out, by simp, by rw [HLF.out]; exact Nat.le_refl _, by omega, HFin.out⟩

/-- ips.Apply, whatever it is handed. -/
theorem apply_any (w : World) (A A' : Option Addr) (n c m c' : Nat) (l x : List UInt8) (hn : l.length = n) (h : Rd w A l) (hm : x.length = m) (hx : m ≤ 1000000000) (hX : Rd w A' x) :
    Calls Try.prog 12 #[.slice A n c, .slice A' m c'] w (Applied w (applied l x)) := by
  by_cases he : (parse l).1 = 0
  · exact apply_good w A A' n c m c' l x hn h hm hx hX he
  · exact apply_bad w A A' n c m c' l x hn h he

end Ips
end Go.Proofs.Ytchakjknndpmpaa
