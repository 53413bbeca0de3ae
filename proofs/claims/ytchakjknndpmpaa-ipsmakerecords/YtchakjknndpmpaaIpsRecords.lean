/-
  Contracts of ips' source: records, cut. Conditions: lengths up to 1000000000.
-/
import Derived.Test.YtchakjknndpmpaaIpsSource
namespace Go.Proofs.Ytchakjknndpmpaa
open Go.RowKit
namespace Ips

theorem infoR : (Try.prog.info? 55).map (fun i => (i.zero, i.size, i.bytes)) = some (some (.agg #[.int .i64 0, .int .i64 0, .slice none 0 0]), 3, 40) := by kernel_rfl

/-- What records answers: a panic, or the records, in a row of its own. -/
def RecsPost (w : World) (p g : Nat) (l : List UInt8) (o : Int ⊕ (List Rec × Nat)) (e : Ending) (w' : World) : Prop :=
  (∀ x, o = .inl x → e = .panicked (pan x) ∧ Fr [p] w w') ∧
  ∀ rs k', o = .inr (rs, k') → ∃ A c, e = .returned (.slice A rs.length c) ∧ RecOwn w' w.heap.size 55 (.slice A rs.length c) rs ∧ Rdr w' p g l k' ∧ Fr [p] w w'

theorem RecsPost.fail {w : World} {p g : Nat} {l : List UInt8} {o : Int ⊕ (List Rec × Nat)} {e : Ending} {w' : World} (x : Int) (ho : o = .inl x) (he : e = .panicked (pan x)) (hf : Fr [p] w w') : RecsPost w p g l o e w' := by
  subst ho
  refine ⟨fun y hy => ?_, fun r k' h => (nomatch h)⟩
  cases hy
  exact ⟨he, hf⟩
theorem RecsPost.ok {w : World} {p g : Nat} {l : List UInt8} {o : Int ⊕ (List Rec × Nat)} {e : Ending} {w' : World} (rs : List Rec) (k' : Nat) (ho : o = .inr (rs, k')) (A : Option Addr) (c : Nat)
    (he : e = .returned (.slice A rs.length c)) (hb : RecOwn w' w.heap.size 55 (.slice A rs.length c) rs) (hr : Rdr w' p g l k') (hf : Fr [p] w w') : RecsPost w p g l o e w' := by
  subst ho
  refine ⟨fun y hy => (nomatch hy), fun r k' h => ?_⟩
  cases h
  exact ⟨A, c, he, hb, hr, hf⟩

/-- A reader's place, out of memory. -/
def placeAt (w : World) (p : Nat) : Nat := match w.cell? ⟨p, 1, none⟩ with
  | some (.int _ z) => z.toNat
  | _ => 0
theorem placeAt_of {w : World} {p g k : Nat} {l : List UInt8} (h : Rdr w p g l k) : placeAt w p = k := by
  have := h.1.cell 1
  simp at this
  simp [placeAt, this]

set_option maxHeartbeats 400000 in
theorem records_short (w : World) (p g k f : Nat) (l : List UInt8) (h : Rdr w p g l k) (hk : k ≤ l.length) (hl : l.length ≤ 1000000000) (hf : l.length < f + k) (h3 : l.length < k + 3) :
    Calls Try.prog 37 #[srcV p] w (RecsPost w p g l (recs l f k)) := by
  have HR := Lib.hid (h.fr (Fr.alloc (Fr.refl [] w) (.cells #[.pointer (some ⟨p, 0, none⟩)] 80)) (by simp) (by simp))
  clear h
  have HA := Lib.hid (recs_short l f k hf h3)
  generalize recs l f k = O at *
  unfold srcV
  go_enter Try.func37, Try.ntmps37
  go_wp2_with fail
  refine (number_short _ p g k 3 l HR.out hk hl h3 (by omega)).mono ?_
  rintro e w1 ⟨rfl, hf⟩
  have HF := Lib.hid hf
  clear hf
  go_wp2
  exact ⟨rfl, .fail 2 HA.out rfl (((Fr.refl [] w).alloc _).tr HF.out).nil⟩

/-- What holds ahead of each record. -/
structure Inv (w : World) (p g : Nat) (l : List UInt8) (O : Int ⊕ (List Rec × Nat)) (u i : Value) (wr : World) (f k : Nat) (acc : List Rec) : Prop where
  place : k + 3 ≤ l.length
  fuel : l.length < f + k
  rest : O = pre acc (recs l f k)
  few : acc.length ≤ k
  num_ : i = .int .i64 (num l k 3 : Nat)
  own : RecOwn wr w.heap.size 55 u acc
  rdr : Rdr wr p g l (k + 3)
  fr : Fr [p] w wr
  src : Blk wr w.heap.size 80 #[.pointer (some ⟨p, 0, none⟩)]

set_option maxHeartbeats 1000000 in
theorem records_long (w : World) (p g k f : Nat) (l : List UInt8) (h : Rdr w p g l k) (hl : l.length ≤ 1000000000) (hf : l.length < f + k) (h3 : k + 3 ≤ l.length) :
    Calls Try.prog 37 #[srcV p] w (RecsPost w p g l (recs l f k)) := by
  obtain ⟨i0, hi, hz0, hz1, hz2⟩ := info_parts infoR
  have HR := Lib.hid (h.fr (Fr.alloc (Fr.refl [] w) (.cells #[.pointer (some ⟨p, 0, none⟩)] 80)) (by simp) (by simp))
  have hplt := h.1.lt
  have hglt := h.2.lt
  clear h
  have HA : Hid (recs l f k = pre [] (recs l f k)) := Lib.hid (pre_nil _).symm
  have HF0 := Lib.hid hf
  clear hf
  obtain ⟨f0, hf0⟩ : ∃ f0, f0 = f := ⟨_, rfl⟩
  obtain ⟨k0, hk0⟩ : ∃ k0, k0 = k := ⟨_, rfl⟩
  have HA0 : Hid (recs l f k = pre [] (recs l f0 k0)) := Lib.hid (by rw [hf0, hk0]; exact HA.out)
  have HF1 : Hid (l.length < f0 + k0) := Lib.hid (by rw [hf0, hk0]; exact HF0.out)
  have h31 : k0 + 3 ≤ l.length := by omega
  rw [← hk0] at HR
  generalize recs l f k = O at *
  clear HA HF0 hf0 hk0 h3
  unfold srcV
  go_enter Try.func37, Try.ntmps37
  go_wp2_with fail
  refine (number_ok _ p g k0 3 l HR.out hl h31 (by omega)).mono ?_
  rintro e w1 ⟨rfl, hr, hf⟩
  have HF := Lib.hid (((Fr.refl [p] w).alloc _).tr hf)
  have HS := Lib.hid ((Blk.fresh w _ _).fr hf (by simp; omega))
  have H1 := Lib.hid hr
  clear hr hf
  go_wp2_with fail
  go_loopw [3, 4] (fun u i wr => ∃ f k acc, Inv w p g l O u i wr f k acc) (fun _ _ wr => l.length - placeAt wr p)
  case atStart => exact ⟨f0, k0, [], h31, HF1.out, HA0.out, by simp, rfl, RecOwn.none_ _ _ _, H1.out, HF.out, HS.out⟩
  case round =>
    obtain ⟨f, k, acc, HI⟩ := hrel
    obtain ⟨A, cap, rfl, -⟩ := HI.own.slice
    have hi1 := HI.num_
    subst hi1
    have hc := src_cell HI.src
    by_cases he : num l k 3 = 4542278
    · have HO := Lib.hid (HI.rest.trans (by rw [recs_end l f k HI.fuel HI.place he]; rfl : _ = Sum.inr (acc ++ [], k + 3)))
      have HI' := Lib.hid HI
      clear HI
      rw [he]
      go_wp2_with fail
      go_ret
      rw [List.append_nil] at HO
      exact .ok acc (k + 3) HO.out A cap rfl HI'.out.own HI'.out.rdr HI'.out.fr
    · have hn : ¬ ((num l k 3 : Nat) : Int) = 4542278 := by omega
      have HI' := Lib.hid HI
      clear HI
      have HC := Lib.hid (record_any wr p g (k + 3) (num l k 3) l HI'.out.rdr HI'.out.place hl)
      have HE := Lib.hid he
      clear he
      generalize hN : num l k 3 = N at *
      have HN := Lib.hid hN
      clear hN
      cases hra : recAt l (k + 3) N with
      | inl x =>
        rw [hra] at HC
        have HX := Lib.hid hra
        clear hra
        go_wp2_with fail
        refine HC.out.mono ?_
        rintro e w2 hp
        obtain ⟨rfl, hf⟩ := hp.1 x rfl
        have HF2 := Lib.hid hf
        clear hf hp
        unfold pan
        go_wp2
        refine ⟨rfl, .fail x ?_ rfl (HI'.out.fr.tr HF2.out)⟩
        rw [HI'.out.rest, recs_fail l f k x HI'.out.fuel HI'.out.place (by rw [HN.out]; exact HE.out) (by rw [HN.out]; exact HX.out)]
        rfl
      | inr o =>
        obtain ⟨r, k'⟩ := o
        rw [hra] at HC
        have HX := Lib.hid hra
        clear hra
        go_wp2_with fail
        refine HC.out.mono ?_
        rintro e w2 hp
        obtain ⟨g', c', rfl, hg, hb, hr, hf⟩ := hp.2 r k' rfl
        have HO2 := Lib.hid (HI'.out.own.fr hf (by simp; omega))
        have HG := Lib.hid (good_new (c := c') HI'.out.own r hg HI'.out.fr.size hb ((Fr.refl [] w2).alloc (.cells #[.int .i64 (r.pos : Int), .int .i64 (r.run : Int), .slice (some ⟨g', 0, none⟩) r.data.length c'] 55)) (by simp))
        have HF2 := Lib.hid (HI'.out.fr.tr hf)
        have HS2 := Lib.hid (HI'.out.src.fr hf (by simp; omega))
        have H2 := Lib.hid hr
        have hle := hf.size
        have hle1 := HI'.out.fr.size
        have hal : acc.length ≤ 1000000000 := by have := HI'.out.few; have := HI'.out.place; omega
        clear hp hg hb hr hf
        go_wp2_with (at_builtin; refine wpList_recs _ rfl (.tmp 11) (.tmp 15) 52 rfl w.heap.size 55 i0 Try.underlying52 hi hz0 hz1 hz2 _ acc rfl (HO2.out.fr ((Fr.refl [] w2).alloc _) (by simp)) w2.heap.size 1 (r, some ⟨g', 0, none⟩, c') rfl (rec_laid w2 (r, some ⟨g', 0, none⟩, c') 55) HG.out hal (by simp; omega) ?_)
        intro A' cap' w3 ho3 hf3
        have hS3 : ∀ k ∈ (Value.slice A acc.length cap).ownBlock.toList, w.heap.size ≤ k := HO2.out.fresh
        have hf3' : Fr (Value.slice A acc.length cap).ownBlock.toList w2 w3 := ((Fr.refl _ w2).alloc _).tr hf3
        have HNS : Hid (w.heap.size ∉ (Value.slice A acc.length cap).ownBlock.toList) := Lib.hid fun hm => by
          obtain ⟨ms, _, ho, _⟩ := HO2.out
          rcases ho.2 with ⟨e, _⟩ | ⟨g1, cp, cur, e, _, hh, _⟩
          · rw [e] at hm; simp [Value.ownBlock] at hm
          · rw [e] at hm
            have e1 : w.heap.size = g1 := by simpa [Value.ownBlock] using hm
            exact Blk.other (t := 55) hh HS2.out (by decide) e1.symm
        have HS3 := Lib.hid (HS2.out.fr hf3' HNS.out)
        have hc3 := src_cell HS3.out
        have H3 := Lib.hid (H2.out.fr hf3' (fun hm => by have := hS3 _ hm; omega) (fun hm => by have := hS3 _ hm; omega))
        have HF3 := Lib.hid (HF2.out.trans hf3' (fun i hi => .inr (hS3 i hi)))
        have HO3 := Lib.hid ho3
        have hk' := recAt_lt l _ _ _ _ HX.out
        clear hS3 hf3 hf3' ho3 HNS hle
        by_cases h4 : l.length < k' + 3
        · go_wp2_with fail
          refine (number_short _ p g k' 3 l H3.out hk'.2.1 hl h4 (by omega)).mono ?_
          rintro e w4 ⟨rfl, hf⟩
          have HF4 := Lib.hid hf
          clear hf
          unfold pan
          go_wp2
          refine ⟨rfl, .fail 2 ?_ rfl (HF3.out.tr HF4.out.nil)⟩
          obtain ⟨f', hf', e'⟩ := recs_next l f k k' r HI'.out.fuel HI'.out.place (by rw [HN.out]; exact HE.out) (by rw [HN.out]; exact HX.out)
          rw [HI'.out.rest, e', recs_short l f' k' hf' h4]
          rfl
        · have h4' : k' + 3 ≤ l.length := by omega
          go_wp2_with fail
          refine (number_ok _ p g k' 3 l H3.out hl h4' (by omega)).mono ?_
          rintro e w4 ⟨rfl, hr, hf⟩
          have HF4 := Lib.hid hf
          have H4 := Lib.hid hr
          clear hf hr
          go_wp2_with fail
          go_roundw
          case rel =>
            obtain ⟨f', hf', e'⟩ := recs_next l f k k' r HI'.out.fuel HI'.out.place (by rw [HN.out]; exact HE.out) (by rw [HN.out]; exact HX.out)
            exact ⟨f', k', acc ++ [r], h4', hf', by rw [HI'.out.rest, e', pre_pre], by have := HI'.out.few; simp; omega, rfl, HO3.out.fr HF4.out (by simp; omega), H4.out, HF3.out.tr HF4.out, HS3.out.fr HF4.out (by simp; omega)⟩
          case measure =>
            rw [placeAt_of H4.out, placeAt_of HI'.out.rdr]
            have := HI'.out.place
            omega

theorem records_any (w : World) (p g k f : Nat) (l : List UInt8) (h : Rdr w p g l k) (hk : k ≤ l.length) (hl : l.length ≤ 1000000000) (hf : l.length < f + k) :
    Calls Try.prog 37 #[srcV p] w (RecsPost w p g l (recs l f k)) := by
  by_cases h3 : l.length < k + 3
  · exact records_short w p g k f l h hk hl hf h3
  · exact records_long w p g k f l h hl hf (by omega)

/-- What cut answers: a panic, or the length to which is cut. -/
def CutPost (w : World) (p : Nat) (o : Int × List Rec × Int) (e : Ending) (w' : World) : Prop :=
  (o.1 = 0 → e = .returned (.int .i64 o.2.2)) ∧ (o.1 ≠ 0 → e = .panicked (pan o.1)) ∧ Fr [p] w w'

set_option maxHeartbeats 1000000 in
theorem cut_any (w : World) (p g k : Nat) (l : List UInt8) (rs : List Rec) (h : Rdr w p g l k) (hk : k ≤ l.length) (hl : l.length ≤ 1000000000) :
    Calls Try.prog 38 #[srcV p] w (CutPost w p (tailOf l rs k)) := by
  have HR := Lib.hid (h.fr (Fr.alloc (Fr.refl [] w) (.cells #[.pointer (some ⟨p, 0, none⟩)] 80)) (by simp) (by simp))
  have hplt := h.1.lt
  clear h
  by_cases h1 : l.length = k
  · have HA : Hid (tailOf l rs k = (0, rs, -1)) := Lib.hid (by simp [tailOf, h1])
    generalize tailOf l rs k = O at *
    have h1' : ((l.length : Int) - k) = 0 := by omega
    unfold srcV
    go_enter Try.func38, Try.ntmps38
    go_wp2_with fail
    refine (left_any _ p g k l HR.out hk hl).mono ?_
    rintro e w1 ⟨rfl, m, rfl⟩
    rw [h1']
    go_wp2
    go_ret
    rw [HA.out]
    exact ⟨fun _ => rfl, fun h => absurd rfl h, ((Fr.refl [p] w).alloc _).drewN _⟩
  · obtain ⟨d, hd⟩ : ∃ d : Nat, l.length = k + d := ⟨l.length - k, by omega⟩
    have h1' : ((l.length : Int) - k) = d := by omega
    have hd0 : ¬ (d : Int) = 0 := by omega
    by_cases h2 : k + 3 < l.length
    · have HA : Hid (tailOf l rs k = (3, [], 0)) := Lib.hid (by simp [tailOf, h1, h2])
      generalize tailOf l rs k = O at *
      have hd3 : 3 < (d : Int) := by omega
      unfold srcV
      go_enter Try.func38, Try.ntmps38
      go_wp2_with fail
      refine (left_any _ p g k l HR.out hk hl).mono ?_
      rintro e w1 ⟨rfl, m, rfl⟩
      rw [h1']
      go_wp2
      rw [HA.out]
      exact ⟨rfl, fun h => absurd h (by decide), fun _ => rfl, ((Fr.refl [p] w).alloc _).drewN _⟩
    · have hd3 : ¬ 3 < (d : Int) := by omega
      by_cases h3 : l.length < k + 3
      · have HA : Hid (tailOf l rs k = (2, [], 0)) := Lib.hid (by simp [tailOf, h1, h2, h3])
        generalize tailOf l rs k = O at *
        unfold srcV
        go_enter Try.func38, Try.ntmps38
        go_wp2_with fail
        refine (left_any _ p g k l HR.out hk hl).mono ?_
        rintro e w1 ⟨rfl, m, rfl⟩
        rw [h1']
        go_wp2_with fail
        refine (number_short _ p g k 3 l (HR.out.fr ((Fr.refl [] _).drewN m) (by simp) (by simp)) hk hl h3 (by omega)).mono ?_
        rintro e w2 ⟨rfl, hf⟩
        have HF := Lib.hid hf
        clear hf
        unfold pan
        go_wp2
        rw [HA.out]
        exact ⟨rfl, fun h => absurd h (by decide), fun _ => rfl, (((Fr.refl [p] w).alloc _).drewN _).tr HF.out.nil⟩
      · have HA : Hid (tailOf l rs k = (0, rs, ((num l k 3 : Nat) : Int))) := Lib.hid (by simp [tailOf, h1, h2, h3])
        generalize tailOf l rs k = O at *
        unfold srcV
        go_enter Try.func38, Try.ntmps38
        go_wp2_with fail
        refine (left_any _ p g k l HR.out hk hl).mono ?_
        rintro e w1 ⟨rfl, m, rfl⟩
        rw [h1']
        go_wp2_with fail
        refine (number_ok _ p g k 3 l (HR.out.fr ((Fr.refl [] _).drewN m) (by simp) (by simp)) hl (by omega) (by omega)).mono ?_
        rintro e w2 ⟨rfl, hr, hf⟩
        have HF := Lib.hid hf
        clear hf hr
        go_wp2
        go_ret
        rw [HA.out]
        exact ⟨fun _ => rfl, fun h => absurd rfl h, (((Fr.refl [p] w).alloc _).drewN _).tr HF.out⟩

end Ips
end Go.Proofs.Ytchakjknndpmpaa
