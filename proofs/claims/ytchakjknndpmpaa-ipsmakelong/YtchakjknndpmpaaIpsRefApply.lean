/-
  Contracts of the document's Apply and End of patches (picklockref04).
-/
import Derived.Test.YtchakjknndpmpaaIpsApply
namespace Go.Proofs.Ytchakjknndpmpaa
open Go.RowKit
namespace Ips

theorem over_set (y : List UInt8) (p t : Nat) (B : List UInt8) (x : UInt8) (hx : B[t]? = some x) (h : p + B.length ≤ y.length) : (over y p (B.take t)).set (p + t) x = over y p (B.take (t + 1)) := by
  obtain ⟨ht, rfl⟩ := List.getElem?_eq_some_iff.1 hx
  have hl : (B.take t).length = t := by simp; omega
  have hl1 : (B.take (t + 1)).length = t + 1 := by simp; omega
  have hp : (y.take p).length = p := by simp; omega
  unfold over
  rw [hl, hl1, List.set_append_right _ _ (by omega), hp, Nat.add_sub_cancel_left, List.set_append_right _ _ (by omega), hl, Nat.sub_self, List.drop_eq_getElem_cons (show p + t < y.length by omega), List.set_cons_zero, List.take_succ_eq_append_getElem ht, List.append_assoc, List.singleton_append, Nat.add_assoc]

theorem bytes_run (r : Rec) (x : UInt8) (t : Nat) (h0 : 0 < r.run) (ht : t < r.run) (hx : r.data[0]? = some x) : (bytesOf r)[t]? = some x := by
  unfold bytesOf
  rw [if_pos h0]
  cases hd : r.data with
  | nil => rw [hd] at hx; simp at hx
  | cons a l => rw [hd] at hx; simp at hx; subst hx; simp [ht]
theorem bytes_data (r : Rec) (h0 : ¬ 0 < r.run) : bytesOf r = r.data := by unfold bytesOf; rw [if_neg h0]

/-- What holds in the document's Apply ahead of each record. -/
structure DA1 (w : World) (k : Nat) (x : List UInt8) (rs : List Rec) (u i : Value) (wr : World) (j : Nat) : Prop where
  le : j ≤ k
  num_ : i = .int .i64 (j : Int)
  own : Own wr w.heap.size u ((rs.take j).foldl layD x)
  fr : Fr [] w wr
/-- .. and while noughts are laid. -/
structure DA2 (w : World) (E : Nat) (o : List UInt8) (u : Value) (wr : World) (q : Nat) : Prop where
  low : o.length ≤ q
  high : q = o.length ∨ q ≤ E
  own : Own wr w.heap.size u (pad o q)
  fr : Fr [] w wr
/-- .. and while the record's bytes are laid. -/
structure DA3 (w : World) (s pos : Nat) (y B : List UInt8) (u i : Value) (wr : World) (t : Nat) : Prop where
  le : t ≤ s
  num_ : i = .int .i64 (t : Int)
  own : Own wr w.heap.size u (over y pos (B.take t))
  fr : Fr [] w wr

/-- What the document's Apply answers. -/
def RefApplied (w : World) (o : List UInt8) (e : Ending) (w' : World) : Prop := ∃ B d, e = .returned (.slice B o.length d) ∧ Rd w' B o ∧ Fr [] w w'

/-- A slice's length. -/
def lenV : Value → Nat
  | .slice _ n _ => n
  | _ => 0

/-- A record's cells, wherever nothing that was there has turned. -/
def RecAt (w : World) (b a : Nat) (r : Rec) (D : Option Addr) (d : Nat) : Prop :=
  w.cell? ⟨b, a, none⟩ = some (.int .i64 (r.pos : Int)) ∧ w.cell? ⟨b, a + 1, none⟩ = some (.int .i64 (r.run : Int)) ∧ w.cell? ⟨b, a + 2, none⟩ = some (.slice D r.data.length d) ∧ Rd w D r.data

set_option maxRecDepth 100000 in
set_option maxHeartbeats 8000000 in
theorem refapply_any (w : World) (A A' : Option Addr) (n c m c' : Nat) (cut : Int) (rs : List Rec) (x : List UInt8) (hn : rs.length = n) (h : RecRd w A rs) (hfit : ∀ r ∈ rs, Fits r) (hn2 : n ≤ 16777216) (hm : x.length = m) (hx : m ≤ 16777216) (hX : Rd w A' x) (hc : A' = none → c' = 0) (hcut : cut < 16777216) :
    Calls Try.prog 14 #[.slice A n c, .int .i64 cut, .slice A' m c'] w (RefApplied w (cutTo cut (rs.foldl layD x))) := by
  obtain ⟨i0, hi, hz0, hz1, hz2⟩ := info_parts info5
  have HR := Lib.hid h
  have HN := Lib.hid hn
  have HM := Lib.hid hm
  have HX := Lib.hid (hX.later (S := []) ((Fr.refl [] w).alloc (.cells #[] 5)) (by simp))
  have HC := Lib.hid hc
  have HFit := Lib.hid hfit
  have HLen : Hid (∀ j, ((rs.take j).foldl layD x).length ≤ 20000000) := Lib.hid fun j => by
    rw [layD_all _ _ (fun r hr => (hfit r (List.mem_of_mem_take hr)).1)]
    have hw : ∀ r ∈ rs.take j, Wf r := fun r hr => (hfit r (List.mem_of_mem_take hr)).1
    have hre : reach x.length (rs.take j) ≤ 20000000 := reach_le _ _ _ (by omega) (fun r hr => by
      obtain ⟨_, h1, h2, h3⟩ := hfit r (List.mem_of_mem_take hr); unfold span; omega)
    rw [layAll_length _ _ hw (fun r hr => by rw [pad_length]; have := reach_mem x.length (rs.take j) r hr; omega), pad_length]
    omega
  clear h hn hm hX hc hfit
  go_enter Try.func14, Try.ntmps14
  go_wp2_with (at_builtin; refine wpList_app _ rfl (.tmp 11) (.tmp 12) 22 rfl w.heap.size i0 Try.underlying22 hi hz0 hz1 hz2 (.slice (some ⟨w.heap.size, 0, none⟩) 0 0) [] rfl (Own.empty w _ (Nat.le_refl _)) A' m c' x rfl HM.out HX.out HC.out (by simp; omega) (by simp) ?_)
  intro A1 c1 w1 ho1 hf1 _
  have HO1 : Hid (DA1 w n x rs (.slice A1 m c1) (.int .i64 0) w1 0) := Lib.hid ⟨Nat.zero_le _, rfl, by simpa using ho1, ((Fr.refl [] w).alloc _).trans hf1 (by simp [Value.ownBlock])⟩
  clear ho1 hf1
  go_wp2_with fail
  go_loopw [7, 8] (fun u i wr => ∃ j, DA1 w n x rs u i wr j) (fun _ i _ => n - (intOf i).toNat)
  case atStart => exact ⟨0, by simpa using HO1.out⟩
  case round =>
    obtain ⟨j, HI⟩ := hrel
    have hi1 := HI.num_
    subst hi1
    have hj := HI.le
    have hlen := HLen.out j
    obtain ⟨A2, c2, rfl, -⟩ := HI.own.slice
    have HI' := Lib.hid HI
    clear HI
    by_cases hlt : j < n
    · have hlt' : (j : Int) < n := by omega
      obtain ⟨b, o, r, D, d, rfl, hrj, q0, q1, q2, hD⟩ := HR.out.at j (by rw [HN.out]; exact hlt)
      obtain ⟨hwf, f1, f2, f3⟩ := HFit.out r (List.mem_of_getElem? hrj)
      have HT : Hid ((rs.take (j + 1)).foldl layD x = layD ((rs.take j).foldl layD x) r) := Lib.hid (by rw [take_next rs j r hrj, List.foldl_append]; rfl)
      have HQ : Hid (∀ w', Fr [] w w' → RecAt w' b (o + j * 3) r D d) := Lib.hid fun w' hf => ⟨hf.cell q0 (by simp), hf.cell q1 (by simp), hf.cell q2 (by simp), hD.later hf (by simp)⟩
      have HWf := Lib.hid hwf
      clear hrj q0 q1 q2 hD hwf
      have HOwn := Lib.hid HI'.out.own
      have HFr := Lib.hid HI'.out.fr
      have HLn := Lib.hid (HLen.out (j + 1))
      rw [HT.out, layD_length _ _ HWf.out] at HLn
      clear HI' HO1
      generalize (rs.take j).foldl layD x = y at *
      obtain ⟨s, hs⟩ : ∃ s, s = span r := ⟨_, rfl⟩
      have hs1 : max (r.run : Int) (r.data.length : Int) = (s : Int) := by rw [hs]; unfold span; omega
      have hs2 : max r.run r.data.length = s := by rw [hs]; rfl
      have hsb : s < 65536 := by omega
      have HS := Lib.hid hs
      rw [← hs] at HLn
      have hs0 : 0 < s := by rw [hs]; exact span_pos r HWf.out
      clear hs
      obtain ⟨q0, q1, q2, -⟩ := HQ.out wr HFr.out
      go_wp2_with fail
      go_quiet (fail)
      clear hs2 q0 q1 q2
      have HA2 : Hid (DA2 w (r.pos + s) y (.slice A2 y.length c2) (wr.drewN nq) y.length) := Lib.hid ⟨Nat.le_refl _, .inl rfl, by rw [pad_self _ _ (Nat.le_refl _)]; exact HOwn.out.fr ((Fr.refl [] wr).drewN nq) (by simp), HFr.out.drewN nq⟩
      clear HOwn HFr
      go_wp2_with fail
      go_loopw [7] (fun u wr => ∃ q, DA2 w (r.pos + s) y u wr q) (fun u _ => r.pos + s - lenV u)
      case atStart => exact ⟨_, HA2.out⟩
      case round =>
        obtain ⟨q, HI2⟩ := hrel
        have hq1 := HI2.low
        have hq2 := HI2.high
        have hpl : (pad y q).length = q := by rw [pad_length]; omega
        obtain ⟨A3, c3, hv, -⟩ := HI2.own.slice
        rw [hpl] at hv
        subst hv
        obtain ⟨q0, q1, q2, -⟩ := HQ.out wr HI2.fr
        have HJ := Lib.hid HI2
        have HPL := Lib.hid hpl
        clear HI2 hpl
        by_cases hlt2 : q < r.pos + s
        · have hlt2' : (q : Int) < r.pos + s := by omega
          have hq3 : q ≤ 20000000 := by omega
          go_wp2_with (at_builtin; refine wpList_appN _ rfl (.tmp 42) (.tmp 43) 22 rfl w.heap.size i0 Try.underlying22 hi hz0 hz1 hz2 _ (pad y q) q HPL.out rfl (HJ.out.own.fr ((Fr.refl [] wr).alloc _) (by simp)) (some ⟨wr.heap.size, 0, none⟩) 1 1 [0] rfl rfl (rd_one' wr 0 0 rfl) (by simp) (by omega) (by have := HJ.out.fr.size; simp; omega) ?_)
          intro A4 c4 w4 ho4 hf4 _
          have HO4 : Hid (DA2 w (r.pos + s) y (.slice A4 (q + 1) c4) w4 (q + 1)) := Lib.hid ⟨by omega, .inr (by omega), by rw [← pad_snoc y q hq1]; exact ho4, (HJ.out.fr.alloc _).trans hf4 (fun k hk => .inr (by have := HJ.out.own.lt k (by simpa using hk); omega))⟩
          clear ho4 hf4
          go_wp2_with fail
          go_roundw
          case rel => exact ⟨q + 1, HO4.out⟩
          case measure => simp [lenV]; omega
        · have hlt2' : ¬ (q : Int) < r.pos + s := by omega
          have hq : q = max y.length (r.pos + s) := by omega
          have hq3 : q ≤ 20000000 := by have := HLn.out; omega
          have HY : Hid (pad y q = pad y (r.pos + s)) := Lib.hid (by
            rcases Nat.le_total y.length (r.pos + s) with h | h
            · rw [hq, Nat.max_eq_right h]
            · rw [hq, Nat.max_eq_left h, pad_self _ _ h, pad_self _ _ (Nat.le_refl _)])
          have HTT : Hid (layD y r = over (pad y q) r.pos (bytesOf r)) := Lib.hid (by rw [HY.out, HS.out]; rfl)
          obtain ⟨g, hg, -⟩ := HJ.out.own.head (by omega)
          subst hg
          have HA3 : Hid (DA3 w s r.pos (pad y q) (bytesOf r) (.slice (some ⟨g, 0, none⟩) q c3) (.int .i64 0) wr 0) := Lib.hid ⟨Nat.zero_le _, rfl, by have h1 := HJ.out.own; simpa [over] using h1, HJ.out.fr⟩
          have HBL : Hid ((bytesOf r).length = s) := Lib.hid (by rw [bytesOf_length r HWf.out, HS.out])
          clear HJ HA2 hq2 hq
          go_wp2_with fail
          clear q0 q1 q2
          go_loopw [10] (fun i wr => ∃ t, DA3 w s r.pos (pad y q) (bytesOf r) (.slice (some ⟨g, 0, none⟩) q c3) i wr t) (fun i _ => s - (intOf i).toNat)
          case atStart => exact ⟨0, HA3.out⟩
          case round =>
            obtain ⟨t, HI3⟩ := hrel
            have hi1 := HI3.num_
            subst hi1
            have ht := HI3.le
            have HK := Lib.hid HI3
            clear HI3
            by_cases hlt3 : t < s
            · have hlt3' : (t : Int) < s := by omega
              obtain ⟨q0, q1, q2, hD⟩ := HQ.out wr HK.out.fr
              have hol : (over (pad y q) r.pos ((bytesOf r).take t)).length = q := by rw [over_length _ _ _ (by have := HPL.out; have := HBL.out; simp; omega)]; exact HPL.out
              obtain ⟨g', e, -, hcell, hfz, hput⟩ := HK.out.own.head (by omega)
              cases e
              obtain ⟨u0, hu0⟩ := hcell (r.pos + t) (by omega)
              have hz := hfz (r.pos + t)
              have HPut := Lib.hid hput
              clear hcell hfz hput hol
              have ti : ((r.pos : Int) + t).toNat = r.pos + t := by omega
              have tb : (r.pos : Int) + t < q := by omega
              by_cases hrun : 0 < r.run
              · have hrun' : 0 < (r.run : Int) := by omega
                obtain ⟨db, dO, x0, rfl, hx0, hc0⟩ := hD.at 0 (by have := HWf.out.1; omega)
                have hd1 : 0 < r.data.length := HWf.out.1
                have hd1' : (0 : Int) < r.data.length := by omega
                have HB0 : Hid ((bytesOf r)[t]? = some x0) := Lib.hid (bytes_run r x0 t hrun (by have := HWf.out.2 hrun; omega) hx0)
                rw [Nat.add_zero] at hc0
                clear hx0
                go_wp2_with fail
                go_region
                have HO5 : Hid (DA3 w s r.pos (pad y q) (bytesOf r) (.slice (some ⟨g, 0, none⟩) q c3) (.int .i64 ((t + 1 : Nat) : Int)) (wr.setCell ⟨g, r.pos + t, none⟩ (.int .u8 (x0.toNat : Int))).drew (t + 1)) := Lib.hid ⟨by omega, rfl, by
                    have h1 := HPut.out (r.pos + t) x0
                    rw [over_set _ _ _ _ _ HB0.out (by have := HPL.out; have := HBL.out; omega)] at h1
                    exact h1.fr (Fr.refl [] _).drew (by simp), (HK.out.fr.setCell (.inr (by have := HK.out.own.lt g rfl; simp; omega)) _).drew⟩
                go_wp2_with fail
                go_roundw
                case rel => exact ⟨t + 1, by have h1 := HO5.out; simpa using h1⟩
                case measure => simp [intOf]; omega
              · have hrun' : ¬ 0 < (r.run : Int) := by omega
                have hsd : s = r.data.length := by have h1 := HBL.out; rw [bytes_data r hrun] at h1; omega
                obtain ⟨db, dO, x0, rfl, hx0, hc0⟩ := hD.at t (by omega)
                have hd1 : (t : Int) < r.data.length := by omega
                have HB0 : Hid ((bytesOf r)[t]? = some x0) := Lib.hid (by rw [bytes_data r hrun]; exact hx0)
                clear hx0 hsd
                go_wp2_with fail
                go_region
                have HO5 : Hid (DA3 w s r.pos (pad y q) (bytesOf r) (.slice (some ⟨g, 0, none⟩) q c3) (.int .i64 ((t + 1 : Nat) : Int)) (wr.setCell ⟨g, r.pos + t, none⟩ (.int .u8 (x0.toNat : Int))).drew (t + 1)) := Lib.hid ⟨by omega, rfl, by
                    have h1 := HPut.out (r.pos + t) x0
                    rw [over_set _ _ _ _ _ HB0.out (by have := HPL.out; have := HBL.out; omega)] at h1
                    exact h1.fr (Fr.refl [] _).drew (by simp), (HK.out.fr.setCell (.inr (by have := HK.out.own.lt g rfl; simp; omega)) _).drew⟩
                go_wp2_with fail
                go_roundw
                case rel => exact ⟨t + 1, by have h1 := HO5.out; simpa using h1⟩
                case measure => simp [intOf]; omega
            · have hlt3' : ¬ (t : Int) < s := by omega
              obtain rfl : t = s := by omega
              have HFin : Hid (Own wr w.heap.size (.slice (some ⟨g, 0, none⟩) q c3) (layD y r)) := Lib.hid (by
                have h1 := HK.out.own
                rw [List.take_of_length_le (by rw [HBL.out]; exact Nat.le_refl _)] at h1
                rw [HTT.out]; exact h1)
              go_wp2_with fail
              go_roundw
              case rel => exact ⟨j + 1, by omega, by go_num, by rw [HT.out]; exact HFin.out, HK.out.fr⟩
              case measure => simp [intOf]; omega
    · have hlt' : ¬ (j : Int) < n := by omega
      obtain rfl : j = n := by omega
      have hta : rs.take j = rs := List.take_of_length_le (by rw [HN.out]; exact Nat.le_refl _)
      rw [hta] at hlen ⊢
      have HOwn : Hid (Own wr w.heap.size (.slice A2 (rs.foldl layD x).length c2) (rs.foldl layD x)) := Lib.hid (by have h1 := HI'.out.own; rw [hta] at h1; exact h1)
      have HFr := Lib.hid HI'.out.fr
      clear hta HI' HO1
      obtain ⟨y, hy⟩ : ∃ y, y = rs.foldl layD x := ⟨_, rfl⟩
      rw [← hy] at hlen HOwn ⊢
      have HY := Lib.hid hy
      clear hy
      by_cases hc0 : 0 ≤ cut
      · obtain ⟨K, rfl⟩ := Int.eq_ofNat_of_zero_le hc0
        by_cases hK : K < y.length
        · have hK' : (K : Int) < y.length := by omega
          have hcap := HOwn.out.caps
          have hK2 : (K : Int) ≤ c2 := by omega
          have hl : (y.take K).length = K := by simp; omega
          have HCut : Hid (cutTo (K : Int) y = y.take K) := Lib.hid (by rw [cutTo_some _ _ ⟨hc0, hK'⟩, Int.toNat_natCast])
          have HL := Lib.hid hl
          clear hl
          go_wp2
          go_ret
          rw [← HY.out, HCut.out]
          exact ⟨A2, c2, by rw [HL.out] <;> rfl, rd_take HOwn.out.rd K, HFr.out⟩
        · have hK' : ¬ (K : Int) < y.length := by omega
          have HCut : Hid (cutTo (K : Int) y = y) := Lib.hid (cutTo_none _ _ (by omega))
          go_wp2
          go_ret
          rw [← HY.out, HCut.out]
          exact ⟨A2, c2, rfl, HOwn.out.rd, HFr.out⟩
      · have HCut : Hid (cutTo cut y = y) := Lib.hid (cutTo_none _ _ (by omega))
        go_wp2
        go_ret
        rw [← HY.out, HCut.out]
        exact ⟨A2, c2, rfl, HOwn.out.rd, HFr.out⟩

set_option maxRecDepth 100000 in
set_option maxHeartbeats 2000000 in
theorem refend_any (w : World) (A : Option Addr) (n c : Nat) (rs : List Rec) (hn : rs.length = n) (h : RecRd w A rs) (hfit : ∀ r ∈ rs, Fits r) (hn2 : n ≤ 16777216) :
    Calls Try.prog 11 #[.slice A n c] w fun e w' => e = .returned (.int .i64 (reach 0 rs : Nat)) ∧ Fr [] w w' := by
  have HR := Lib.hid h
  have HN := Lib.hid hn
  have HFit := Lib.hid hfit
  clear h hn hfit
  go_enter Try.func11, Try.ntmps11
  go_wp2_with fail
  go_loopw [3, 4] (fun z i wr => ∃ j, App1 w 0 n rs i z wr j) (fun _ i _ => n - (intOf i).toNat)
  case atStart => exact ⟨0, Nat.zero_le _, rfl, rfl, Fr.refl _ _⟩
  case round =>
    obtain ⟨j, HI⟩ := hrel
    have hi1 := HI.num_
    have hi2 := HI.most
    subst hi1 hi2
    have hj := HI.le
    have HI' := Lib.hid HI
    clear HI
    have hR1 : reach 0 (rs.take j) ≤ 1000000000 := reach_le _ _ _ (by omega) (fun r hr => by
      have := HFit.out r (List.mem_of_mem_take hr)
      obtain ⟨_, h1, h2, h3⟩ := this
      unfold span
      omega)
    by_cases hlt : j < n
    · have hlt' : (j : Int) < n := by omega
      obtain ⟨b, o, r, D, d, rfl, hrj, q0, q1, q2, _⟩ := (HR.out.later HI'.out.fr (by simp)).at j (by rw [HN.out]; exact hlt)
      obtain ⟨_, f1, f2, f3⟩ := HFit.out r (List.mem_of_getElem? hrj)
      have HT := Lib.hid (take_next rs j r hrj)
      clear hrj
      generalize hXe : reach 0 (rs.take j) = X at *
      have HXe := Lib.hid hXe
      clear hXe
      go_wp2_with fail
      go_quiet (fail)
      go_wp2
      go_roundw
      case rel =>
        refine ⟨j + 1, by omega, by go_num, ?_, HI'.out.fr.drewN _⟩
        rw [HT.out, reach_snoc, HXe.out]
        unfold span
        congr 1
        omega
      case measure => simp [intOf]; omega
    · have hlt' : ¬ (j : Int) < n := by omega
      obtain rfl : j = n := by omega
      have hta : rs.take j = rs := List.take_of_length_le (by rw [HN.out]; exact Nat.le_refl _)
      rw [hta]
      go_wp2
      go_ret
      exact ⟨rfl, HI'.out.fr⟩

end Ips
end Go.Proofs.Ytchakjknndpmpaa
