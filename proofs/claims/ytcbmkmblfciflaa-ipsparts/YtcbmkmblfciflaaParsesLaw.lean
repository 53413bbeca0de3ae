/-
  picklocklaw04.IpsParses returns true for every input: a patch's records, and where it cuts, are what the document says. No condition.
-/
import Derived.Test.YtcbmkmblfciflaaShown
import Derived.Test.YtcbmkmblfciflaaIpsAp
import Derived.Test.YtcbmkmblfciflaaIpsSame
import Derived.Test.YtcbmkmblfciflaaIpsRefParse
namespace Go.Proofs.Ytcbmkmblfciflaa
open Go.RowKit
namespace Ips

/-- The document's Parse, whatever it is handed. -/
theorem refparse_any (w : World) (A : Option Addr) (n c : Nat) (l : List UInt8) (hn : l.length = n) (h : Rd w A l) (hc : n ≤ c) :
    Calls Try.prog 10 #[.slice A n c] w (Parsed w (parse l)) := by
  by_cases hl : 16777216 < n
  · exact refparse_long w A n c l hn hl
  · by_cases hp : l.take 5 = patch
    · exact refparse_head w A n c l hn h hc (by omega) hp
    · exact refparse_nohead w A n c l hn h hc (by omega) hp

set_option maxRecDepth 100000 in
set_option maxHeartbeats 2000000 in
theorem parses_walk (a0 : Option Addr) (cap0 : Nat) (l : List UInt8) (ah : Bool) (w : World) (hr : Rd w a0 l) (hc : a0 = none → cap0 = 0) (hlc : l.length ≤ cap0) (_hcm : cap0 ≤ maxLen) :
    Calls Try.prog 3 #[.slice a0 l.length cap0, .bool ah] w fun e w' => e = .returned (.bool true) ∧ Below w.heap.size w w' := by
  obtain ⟨i0, hi, hz0, hz1, hz2⟩ := info_parts info5
  have HR := Lib.hid hr
  have HC := Lib.hid hc
  have HL := Lib.hid (take_len l 2000 (by omega))
  have hcnt : (min (l.length : Int) 2000).toNat ≤ 2000 := by omega
  unfold maxLen at _hcm
  clear hr hc
  go_enter Try.func3, Try.ntmps3
  go_wp2_with (first
    | (go_at_call 8; refine (shown_any _).mono ?_; rintro e w1 ⟨rfl, hf1⟩; have HF1 := Lib.hid hf1; have hs1 := hf1.size; clear hf1)
    | (at_builtin; refine wpList_app _ rfl (.tmp 13) (.tmp 18) 22 rfl w.heap.size i0 Try.underlying22 hi hz0 hz1 hz2 (.slice (some ⟨w1.heap.size, 0, none⟩) 0 0) [] rfl (Own.empty w1 _ hs1) a0 _ cap0 (l.take (min (l.length : Int) 2000).toNat) rfl HL.out (rd_take (HR.out.later (HF1.out.alloc _) (by simp)) _) HC.out (by simp; omega) (by simp; omega) ?_))
  intro A1 c1 w2 ho2 hf2 hlies
  have HF2 : Hid (Fr [] w w2) := (HF1.out.alloc _).trans hf2 (by simp [Value.ownBlock]; omega)
  have HM : Hid ((l.take (min (l.length : Int) 2000).toNat).length = (min (l.length : Int) 2000).toNat) := HL.out
  have HO2 := Lib.hid ho2
  have hs2 := HF2.out.size
  clear ho2 hf2 HL HR HC hlc hs1 hlies
  generalize (min (l.length : Int) 2000).toNat = n at *
  generalize l.take n = m at *
  cases ah with
  | false =>
    have hcap : n ≤ c1 := HO2.out.caps.1
    have HRp : Hid (Rd w2 A1 m) := Lib.hid HO2.out.rd
    have HMp := HM
    have HFp := HF2
    clear HO2
    go_wp2_with fail
    refine (parse_any w2 A1 n c1 m HMp.out HRp.out).mono ?_
    rintro e w3 ⟨A3, c3, rfl, hr3, hf3⟩
    have HF3 := Lib.hid hf3
    have HR3 := Lib.hid hr3
    clear hr3 hf3
    have HC2 := Lib.hid (refparse_any w3 A1 n c1 m HMp.out (HRp.out.later HF3.out (by simp)) hcap)
    have HW := Lib.hid (parse_fits m)
    have hfew := parse_few m
    generalize parse m = Z at *
    obtain ⟨e, rs, cut⟩ := Z
    simp only at HR3 HW hfew
    go_wp2_with fail
    refine HC2.out.mono ?_
    rintro e' w4 ⟨A4, c4, rfl, hr4, hf4⟩
    have HF4 := Lib.hid hf4
    have HR4 := Lib.hid hr4
    simp only at HR4
    clear hr4 hf4
    generalize hk : rs.length = k at *
    have HK := Lib.hid hk
    clear hk
    go_wp2_with fail
    refine (lawsame_eq w4 A3 A4 k c3 c4 rs HK.out (HR3.out.later HF4.out (by simp)) HR4.out (fun r hr => (HW.out r hr).1.1) (by omega)).mono ?_
    rintro e' w5 ⟨rfl, hf5⟩
    have HF5 := Lib.hid hf5
    clear hf5
    go_wp2
    go_ret
    exact ⟨rfl, (((HFp.out.tr HF3.out).tr HF4.out).tr HF5.out).below (by simp) (Nat.le_refl _)⟩
  | true =>
    have HR2 : Hid (Rd w2 A1 m) := Lib.hid HO2.out.rd
    have HN2 : Hid (A1 = none → c1 = 0) := Lib.hid (by obtain ⟨A', c', hv, _, _, _, _, h⟩ := HO2.out.slice; cases hv; exact h)
    clear HO2
    have kc := conv_const w2 w2.heap.size rfl (bv patch).toArray 5 5
    have HAp : Hid (Ap (w2.alloc (.cells (bv patch).toArray 5 (5, 6))) w.heap.size (.slice (some ⟨w2.heap.size, 0, none⟩) 5 5) patch) := Lib.hid (.inr ⟨w2.heap.size, rfl, rd_const w2 _ rfl patch 5 _, hs2, by simp⟩)
    simp [bv, patch] at kc
    have HR2' : Hid (Rd (w2.alloc (.cells (bv patch).toArray 5 (5, 6))) A1 m) := Lib.hid (HR2.out.later (S := []) ((Fr.refl [] w2).alloc _) (by simp))
    go_wp2_with (at_builtin; refine wpList_ap _ rfl (.tmp 22) (.tmp 23) 22 rfl w.heap.size i0 Try.underlying22 hi hz0 hz1 hz2 _ patch rfl HAp.out A1 n c1 m rfl HM.out HR2'.out HN2.out (5 + n) rfl (by omega) (by simp; omega) ?_)
    intro A9 c9 w9 ho9 hf9
    clear kc
    have hl9 : (patch ++ m).length = 5 + n := by rw [List.length_append, HM.out]; rfl
    have HFp : Hid (Fr [] w w9) := Lib.hid ((HF2.out.alloc _).trans hf9 (by simp [Value.ownBlock]; omega))
    obtain ⟨A', c', hv, hr9, _, hc9, _⟩ := ho9.slice (by rw [hl9]; unfold maxLen; omega)
    rw [hl9] at hv hc9
    cases hv
    have HRp := Lib.hid hr9
    have HMp := Lib.hid hl9
    have hcap := hc9
    clear hr9 hl9 hc9 ho9 hf9
    generalize 5 + n = n9 at *
    generalize patch ++ m = m9 at *
    go_wp2_with fail
    refine (parse_any w9 A9 n9 c9 m9 HMp.out HRp.out).mono ?_
    rintro e w3 ⟨A3, c3, rfl, hr3, hf3⟩
    have HF3 := Lib.hid hf3
    have HR3 := Lib.hid hr3
    clear hr3 hf3
    have HC2 := Lib.hid (refparse_any w3 A9 n9 c9 m9 HMp.out (HRp.out.later HF3.out (by simp)) hcap)
    have HW := Lib.hid (parse_fits m9)
    have hfew := parse_few m9
    generalize parse m9 = Z at *
    obtain ⟨e, rs, cut⟩ := Z
    simp only at HR3 HW hfew
    go_wp2_with fail
    refine HC2.out.mono ?_
    rintro e' w4 ⟨A4, c4, rfl, hr4, hf4⟩
    have HF4 := Lib.hid hf4
    have HR4 := Lib.hid hr4
    simp only at HR4
    clear hr4 hf4
    generalize hk : rs.length = k at *
    have HK := Lib.hid hk
    clear hk
    go_wp2_with fail
    refine (lawsame_eq w4 A3 A4 k c3 c4 rs HK.out (HR3.out.later HF4.out (by simp)) HR4.out (fun r hr => (HW.out r hr).1.1) (by omega)).mono ?_
    rintro e' w5 ⟨rfl, hf5⟩
    have HF5 := Lib.hid hf5
    clear hf5
    go_wp2
    go_ret
    exact ⟨rfl, (((HFp.out.tr HF3.out).tr HF4.out).tr HF5.out).below (by simp) (Nat.le_refl _)⟩

end Ips
end Go.Proofs.Ytcbmkmblfciflaa
