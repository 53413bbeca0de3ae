/-
  Contract of ines.Build, the rest: of a cart that a file has the file is told. Condition: lengths up to 100000000.
-/
import Derived.Test.YthabiaenaicppaaIneBuild
namespace Go.Proofs.Ythabiaenaicppaa
open Go.RowKit
namespace Ine

set_option maxRecDepth 100000 in
set_option maxHeartbeats 4000000 in
theorem build_ok (w : World) (m r : Int) (P : Option Addr) (np cp : Nat) (C : Option Addr) (nc cc : Nat) (ram : Bool) (pl cl : List UInt8) (x1 x2 x3 : UInt8) (hpl : pl.length = np) (hcl : cl.length = nc) (hrp : Rd w P pl) (hr : Rd w C cl) (hPn : P = none → cp = 0) (hCn : C = none → cc = 0) (hb : May m r np nc cl ram) (hn : np ≤ 100000000) (hnc : nc ≤ 100000000)
    (h1 : x1.toNat = np / 16384) (h2 : x2.toNat = if ram then 0 else nc / 8192) (h3 : (x3.toNat : Int) = m * 16 + r) :
    Calls Try.prog 13 #[cV m r P np cp C nc cc ram] w (Built w (fileOf x1 x2 x3 pl (if ram then [] else cl))) := by
  have HD : Hid (∀ W, Fr [] w W → Does W (cartFs (cV m r P np cp C nc cc ram)) (cartBs m r np nc cl ram)) := Lib.hid fun W hW => does_cart W m r P np cp C nc cc ram cl (by omega) (by omega) hcl (hr.later hW (by simp))
  have HT := Lib.hid ((told_cart (cV m r P np cp C nc cc ram) m r np nc cl ram).1 hb)
  have HC := Lib.hid (fun W => cfaults_any W m r P np cp C nc cc ram)
  have HLn : Hid ((cartFs (cV m r P np cp C nc cc ram)).length = 5 ∧ (cartFs (cV m r P np cp C nc cc ram)).length = (cartBs m r np nc cl ram).length) := Lib.hid ⟨rfl, rfl⟩
  have HSt := Lib.hid (fun W => stored_any W m r P np cp C nc cc ram)
  have HFl := Lib.hid (fun W => flags_any W m r P np cp C nc cc ram hb.1 hb.2.1)
  obtain ⟨sl, hsl⟩ : ∃ sl, (if ram then [] else cl) = sl := ⟨_, rfl⟩
  obtain ⟨SC, sn, sc, hS, hsn, hsr, hsc, hs2⟩ : ∃ SC sn sc, (if ram then Value.slice none 0 0 else .slice C nc cc) = .slice SC sn sc ∧ sl.length = sn ∧ Rd w SC sl ∧ (SC = none → sc = 0) ∧ x2.toNat = sn / 8192 := by
    cases ram
    · exact ⟨C, nc, cc, rfl, by rw [← hsl]; exact hcl, by rw [← hsl]; exact hr, hCn, h2⟩
    · exact ⟨none, 0, 0, rfl, by rw [← hsl]; rfl, by rw [← hsl]; exact rd_nil w, fun _ => rfl, h2⟩
  have hsnb : sn ≤ 100000000 := by
    rw [← hsn, ← hsl]
    cases ram
    · show cl.length ≤ _; omega
    · show 0 ≤ _; omega
  rw [hS] at HSt
  rw [hsl]
  generalize cartFs (cV m r P np cp C nc cc ram) = fs at *
  generalize cartBs m r np nc cl ram = bs at *
  obtain ⟨q1, hq1⟩ : ∃ q : Int, (np : Int) / 16384 = q := ⟨_, rfl⟩
  obtain ⟨q2, hq2⟩ : ∃ q : Int, (sn : Int) / 8192 = q := ⟨_, rfl⟩
  have hx1 : q1 = (x1.toNat : Int) := by omega
  have hx2 : q2 = (x2.toNat : Int) := by omega
  have hxb1 := x1.toNat_lt
  have hxb2 := x2.toNat_lt
  have kw1 : IntKind.u8.wrap q1 = q1 := by rw [IntKind.wrap_u8]; omega
  have kw2 : IntKind.u8.wrap q2 = q2 := by rw [IntKind.wrap_u8]; omega
  obtain ⟨q3, hq3⟩ : ∃ q : Int, m * 16 + r = q := ⟨_, rfl⟩
  rw [hq3] at HFl h3
  have HX1 := Lib.hid hx1
  have HX2 := Lib.hid hx2
  have HX3 := Lib.hid h3
  have HPl := Lib.hid hpl
  have HSn := Lib.hid hsn
  have HRP := Lib.hid hrp
  have HRS := Lib.hid hsr
  have HPn := Lib.hid hPn
  have HSc := Lib.hid hsc
  clear hb hr hcl h1 h2 h3 hsl hS hx1 hx2 hxb1 hxb2 hpl hsn hrp hsr hPn hsc hs2 hCn hq3
  obtain ⟨u, hu⟩ : ∃ u, w.heap.size = u := ⟨_, rfl⟩
  have hbu := Blk.fresh w 32 #[.int .i64 m, .int .i64 r, .slice P np cp, .slice C nc cc, .bool ram]
  rw [hu] at hbu
  have HU0 := Lib.hid hbu
  have HF0 := Lib.hid ((Fr.refl [] w).alloc (.cells #[.int .i64 m, .int .i64 r, .slice P np cp, .slice C nc cc, .bool ram] 32))
  have hbz : ∀ W : World, (Instr.build 61 #[]).run Try.prog W = .ok (.agg #[.slice none 0 0]) W := fun W => run_build W 61 _ _ (by kernel_rfl)
  clear hbu
  unfold cV at *
  go_enter Try.func13, Try.ntmps13
  go_wp2_with fail
  generalize w.alloc _ = w0 at *
  (with_reducible refine (HC.out w0).mono ?_)
  rintro e w1 ⟨g, rfl, ht, hf1⟩
  have HTb := Lib.hid ht
  have HF1 := Lib.hid (HF0.out.tr hf1)
  have HU1 := Lib.hid (HU0.out.fr hf1 (by simp))
  clear ht hf1 HF0 HU0
  go_wp2_with fail
  (with_reducible refine (firstOf_any w1 g 5 fs bs HLn.out.1 (by decide) HLn.out.2 HTb.out (HD.out w1 HF1.out)).mono ?_)
  rintro e w2 ⟨rfl, hf2⟩
  rw [HT.out]
  have HF2 := Lib.hid (HF1.out.tr hf2)
  have hU2 := HU1.out.fr hf2 (by simp)
  obtain ⟨c0, c1, c2, c3, c4⟩ := blk5 hU2
  have HU2 := Lib.hid hU2
  clear hf2 hU2 HF1 HU1 HTb HD HT HC HLn
  go_wp2_with fail
  (with_reducible refine (HSt.out w2).mono ?_)
  rintro e w3 ⟨rfl, hf3⟩
  have HF3 := Lib.hid (HF2.out.tr hf3)
  have hU3 := HU2.out.fr hf3 (by simp)
  clear c0 c1 c2 c3 c4
  obtain ⟨c0, c1, c2, c3, c4⟩ := blk5 hU3
  have HU3 := Lib.hid hU3
  clear hf3 hU3 HF2 HU2 HSt
  go_wp2_with fail
  (with_reducible refine (HFl.out w3).mono ?_)
  rintro e w4 ⟨rfl, hf4⟩
  have HF4 := Lib.hid (HF3.out.tr hf4)
  have HU4 := Lib.hid (HU3.out.fr hf4 (by simp))
  clear hf4 HF3 HU3 HFl c0 c1 c2 c3 c4
  obtain ⟨q, hq⟩ : ∃ q, w4.heap.size = q := ⟨_, rfl⟩
  go_upto_region 7 with fail
  have huq : u < q := by have := HU4.out.lt; omega
  have huw : w.heap.size ≤ q := by have := HF4.out.size; omega
  have hw5 := Blk.fresh w4 61 #[.slice none 0 0]
  have hal : Fr [] w4 (w4.alloc (.cells #[.slice none 0 0] 61)) := (Fr.refl [] w4).alloc _
  have hs5 : (w4.alloc (.cells #[.slice none 0 0] 61)).heap.size = q + 1 := by simp [hq]
  rw [hq] at hw5
  have HW5 : Hid (Ws w q (.slice none 0 0) [] (w4.alloc (.cells #[.slice none 0 0] 61))) := Lib.hid ⟨⟨hw5, Own.none_ _ _⟩, HF4.out.tr hal, huw, by rw [hs5]; exact Nat.le_refl _⟩
  have HU5 := Lib.hid (HU4.out.fr hal (by simp))
  have hu5 := HU5.out.lt
  generalize w4.alloc (.cells #[.slice none 0 0] 61) = w5 at *
  clear hw5 hal HF4 HU4 hbz
  have kc := conv_const w5 (q + 1) hs5 #[.int .u8 78, .int .u8 69, .int .u8 83, .int .u8 26] 4 4
  simp only [List.size_toArray, List.length_cons, List.length_nil, Nat.reduceAdd, Nat.zero_add] at kc
  have kd := conv_const w5.drew (q + 1) hs5 #[.int .u8 78, .int .u8 69, .int .u8 83, .int .u8 26] 4 4
  simp only [List.size_toArray, List.length_cons, List.length_nil, Nat.reduceAdd, Nat.zero_add] at kd
  have ke : (convert 27 27 (.slice (some ⟨q + 1, 0, none⟩) 4 4)).run Try.prog ((w5.alloc (.cells #[.int .u8 78, .int .u8 69, .int .u8 83, .int .u8 26] 5)).drew) = .ok (.slice (some ⟨q + 1, 0, none⟩) 4 4) ((w5.alloc (.cells #[.int .u8 78, .int .u8 69, .int .u8 83, .int .u8 26] 5 (4, 5))).drew) := kd
  have HS5 := Lib.hid hs5
  have C1 : Hid (∀ W, Fr [] w5 W → Rd W (some ⟨q + 1, 0, none⟩) mark → Calls Try.prog 21 #[.pointer (some ⟨q, 0, none⟩), .slice (some ⟨q + 1, 0, none⟩) 4 4] W (Wrote W (q + 1) q (.slice none 0 0) ([] ++ mark))) := Lib.hid fun W hf hr =>
    wbytes W (q + 1) q (.slice none 0 0) [] (some ⟨q + 1, 0, none⟩) 4 4 mark (HW5.out.later hf).1 (HW5.out.later hf).2.2.2 (by simp) rfl hr (by simp)
  have CB : Hid (∀ W v L (z : Int) (x : UInt8), z = (x.toNat : Int) → Ws w q v L W → L.length ≤ 1000 → Calls Try.prog 22 #[.pointer (some ⟨q, 0, none⟩), .int .u8 z] W (Wrote W (q + 1) q v (L ++ [x]))) := Lib.hid fun W v L z x hz hW hL =>
    wbyteZ W (q + 1) q v L z x hz hW.1 hW.2.2.2 (by omega)
  have d2 := (blk5 HU5.out).2.2.1
  have kt1 : (np : Int).tdiv 16384 = q1 := by rw [Int.tdiv_eq_ediv_of_nonneg (by omega)]; exact hq1
  have kt2 : (sn : Int).tdiv 8192 = q2 := by rw [Int.tdiv_eq_ediv_of_nonneg (by omega)]; exact hq2
  have ki1 : IntKind.i64.wrap q1 = q1 := by rw [IntKind.wrap_i64]; omega
  have ki2 : IntKind.i64.wrap q2 = q2 := by rw [IntKind.wrap_i64]; omega
  go_cut [38] (fun _ wx => ∃ v, Ws w q v ((([] ++ mark) ++ [x1]) ++ [x2]) wx ∧ Blk wx u 32 #[.int .i64 m, .int .i64 r, .slice P np cp, .slice C nc cc, .bool ram])
  case first =>
    go_region_law (go_simp; first
      | (go_at_call_of 22 (Value.int IntKind.u8 q2); (with_reducible refine (CB.out w7 v7 _ q2 x2 HX2.out HW7.out (by simp [mark])).mono ?_); rintro e w8 ⟨rfl, v8, hw8, hf8, hl8⟩; have HW8 := Lib.hid (HW7.out.wrote hw8 hf8); have HU8 := Lib.hid (HW7.out.keeps hf8 HU7.out huq); clear hw8 hf8 hl8)
      | (go_at_call_of 22 (Value.int IntKind.u8 q1); (with_reducible refine (CB.out w6 v6 _ q1 x1 HX1.out HW6.out (by simp [mark])).mono ?_); rintro e w7 ⟨rfl, v7, hw7, hf7, hl7⟩; have HW7 := Lib.hid (HW6.out.wrote hw7 hf7); have HU7 := Lib.hid (HW6.out.keeps hf7 HU6.out huq); clear hw7 hf7 hl7)
      | (go_at_call 21; refine (C1.out _ (((Fr.refl [] w5).alloc _).drew) ((rd_const w5 (q + 1) HS5.out mark 5 (4, 5)).later (S := []) (Fr.refl [] _).drew (by simp))).mono ?_; rintro e w6 ⟨rfl, v6, hw6, hf6, hl6⟩; have HW6 := Lib.hid ((HW5.out.later ((Fr.refl [] w5).alloc _).drew).wrote hw6 hf6); have HU6 := Lib.hid ((HW5.out.later ((Fr.refl [] w5).alloc _).drew).keeps hf6 (HU5.out.fr ((Fr.refl [] w5).alloc _).drew (by simp)) huq); have q2' := (blk5 HU6.out).2.2.1; clear hw6 hf6 hl6))
    all_goals
      go_wp2_with fail
      go_meet
      exact ⟨v8, HW8.out, HU8.out⟩
  case rest =>
    obtain ⟨v, hW, hU⟩ := hcut
    have HW := Lib.hid hW
    have HU := Lib.hid hU
    clear hW hU
    have CBig : Hid (∀ W v L, Ws w q v L W → L.length ≤ 1000 → Calls Try.prog 23 #[.pointer (some ⟨q, 0, none⟩), .int .u64 0, .int .i64 8] W (Wrote W (q + 1) q v (L ++ List.replicate 8 0))) := Lib.hid fun W v L hW hL => by
      rw [← big0]
      exact wbigZ W (q + 1) q v L 0 0 8 rfl hW.1 hW.2.2.2 (by omega)
    have CBy : Hid (∀ W v L (E : Option Addr) (n c : Nat) (x : List UInt8), Ws w q v L W → L.length ≤ 200000000 → x.length = n → n ≤ 100000000 → Rd W E x → (E = none → c = 0) → Calls Try.prog 21 #[.pointer (some ⟨q, 0, none⟩), .slice E n c] W (Wrote W (q + 1) q v (L ++ x))) := Lib.hid fun W v L E n c x h1 h2 h3 h4 h5 h6 =>
      wbytes W (q + 1) q v L E n c x h1.1 h1.2.2.2 (by omega) h3 h5 h6
    clear kc kd ke C1 d2 kt1 kt2 ki1 ki2 kw1 kw2 hq1 hq2 hs5
    go_wp2_with fail
    (with_reducible refine (CB.out wc v _ q3 x3 HX3.out.symm HW.out (by simp [mark])).mono ?_)
    rintro e w6 ⟨rfl, v6, hw6, hf6, -⟩
    have HW6 := Lib.hid (HW.out.wrote hw6 hf6)
    have HU6 := Lib.hid (HW.out.keeps hf6 HU.out huq)
    clear hw6 hf6 HW HU
    go_wp2_with fail
    (with_reducible refine (CB.out w6 v6 _ 0 0 rfl HW6.out (by simp [mark])).mono ?_)
    rintro e w7 ⟨rfl, v7, hw7, hf7, -⟩
    have HW7 := Lib.hid (HW6.out.wrote hw7 hf7)
    have HU7 := Lib.hid (HW6.out.keeps hf7 HU6.out huq)
    clear hw7 hf7 HW6 HU6
    go_wp2_with fail
    (with_reducible refine (CBig.out w7 v7 _ HW7.out (by simp [mark])).mono ?_)
    rintro e w8 ⟨rfl, v8, hw8, hf8, -⟩
    have HW8 := Lib.hid (HW7.out.wrote hw8 hf8)
    have HU8 := Lib.hid (HW7.out.keeps hf8 HU7.out huq)
    have d2 := (blk5 HU8.out).2.2.1
    have HP8 := Lib.hid (HRP.out.later (S := []) HW8.out.2.1 (by simp))
    clear hw8 hf8 HW7 HU7
    go_wp2_with fail
    (with_reducible refine (CBy.out w8 v8 _ P np cp pl HW8.out (by simp [mark]) HPl.out hn HP8.out HPn.out).mono ?_)
    rintro e w9 ⟨rfl, v9, hw9, hf9, -⟩
    have HW9 := Lib.hid (HW8.out.wrote hw9 hf9)
    have HS9 := Lib.hid (HRS.out.later (S := []) HW9.out.2.1 (by simp))
    clear hw9 hf9 HW8 HU8 d2
    go_wp2_with fail
    (with_reducible refine (CBy.out w9 v9 _ SC sn sc sl HW9.out (by have := HPl.out; simp [mark]; omega) HSn.out hsnb HS9.out HSc.out).mono ?_)
    rintro e w10 ⟨rfl, v10, hw10, hf10, -⟩
    have hW10 := HW9.out.wrote hw10 hf10
    have hL : (((((((([] ++ mark) ++ [x1]) ++ [x2]) ++ [x3]) ++ [0]) ++ List.replicate 8 0) ++ pl) ++ sl) = fileOf x1 x2 x3 pl sl := by simp [fileOf, head8, mark]
    rw [hL] at hW10
    have hLl : (fileOf x1 x2 x3 pl sl).length ≤ 1000000000 := by
      have := HPl.out
      have := HSn.out
      rw [← hL]
      simp [mark]
      omega
    generalize fileOf x1 x2 x3 pl sl = L at *
    have HW10 := Lib.hid hW10
    have HWr := Lib.hid hW10.1
    clear hw10 hf10 hW10 hL HW9
    go_wp2_with fail
    (with_reducible refine (wdone w10 (q + 1) q v10 L HWr.out hLl).mono ?_)
    rintro e w11 ⟨rfl, hb11, hf11⟩
    obtain ⟨n, hn'⟩ : ∃ n, L.length = n := ⟨_, rfl⟩
    rw [hn']
    have HN := Lib.hid hn'
    have HB11 := Lib.hid hb11
    have HF11 := Lib.hid (HW10.out.2.1.tr hf11)
    have hsz := HW10.out.2.2.2
    clear hn' hb11 hf11 hLl
    go_wp2
    go_ret2
    exact ⟨_, n, HN.out.symm, rfl, by omega, HB11.out, HF11.out⟩

end Ine
end Go.Proofs.Ythabiaenaicppaa
