/-
  What the program's step does, by what stands in its table. Conditions: the state is one that there is, few bytes were written.
-/
import Derived.Test.YtlnpadekgakghaaDoorMosDoA
import Derived.Test.YtlnpadekgakghaaDoorMosDoB
import Derived.Test.YtlnpadekgakghaaDoorMosDoX
namespace Go.Proofs.YtlnpadekgakghaaDoor
open Go.RowKit
namespace Ms
open Al (byte of_byte)
set_option linter.unusedVariables false

set_option maxRecDepth 100000 in
set_option maxHeartbeats 1000000 in
theorem sdo3840 (w : World) (B t q g : Nat) (v : Value) (S : S14) (n : Nat) (m cy ad : Int) (cr : Bool) (H : StAt w B t q g v S ⟨3840, m, cy, ad, cr⟩) (hO : Ok n S) (hn : n + 5 < 1000000000) (had : u16 ad) (hcy : 0 ≤ cy ∧ cy < 200) (hB : B ≤ w.heap.size) :
    Calls Tryd.prog 23 #[.pointer (some ⟨t, 0, none⟩)] w (SDone w B t q g v (exS 3840 m ad S) ⟨3840, m, cy + exN 3840 cr S, ad, cr⟩ (.tuple #[])) := by
  rw [show cy + exN 3840 cr S = cy by simp [exN]]
  obtain ⟨a, x, y, s, p, pc, h, b⟩ := S
  have HR0 := Lib.hid H
  have HF0 : Hid (Fr (sfoot t q g v) w w) := Lib.hid (Fr.refl _ w)
  have HL0 : Hid (Lies w v v) := Lib.hid (Lies.refl w v)
  have HB0 := Lib.hid hB
  have HO := Lib.hid hO
  have HN := Lib.hid hn
  have HAD := Lib.hid had
  have HCY := Lib.hid hcy
  change Calls _ _ _ _ (SDone w B t q g v (changeS 3840 m ad (⟨a, x, y, s, p, pc, h, b⟩ : S14)) _ _)
  have HA : Hid (∀ W V, StAt W B t q g V (⟨a, x, y, s, p, pc, h, b⟩ : S14) ⟨3840, m, cy, ad, cr⟩ → B ≤ W.heap.size → Calls Tryd.prog 41 #[.pointer (some ⟨t, 0, none⟩)] W (SDone W B t q g V (changeS 3840 m ad (⟨a, x, y, s, p, pc, h, b⟩ : S14)) ⟨3840, m, cy, ad, cr⟩ (.tuple #[]))) := Lib.hid (by
    intro W V hr hb
    by_cases h16 : m = 16
    · subst h16
      exact schangeA W B t q g V (⟨a, x, y, s, p, pc, h, b⟩ : S14) n 3840 cy ad cr (Or.inl rfl) hr hO (by omega) hb
    · exact schangeM W B t q g V (⟨a, x, y, s, p, pc, h, b⟩ : S14) n 3840 m cy ad cr (Or.inl rfl) hr hO (by omega) h16 had hb)
  obtain ⟨c0, c1, c2, c3, c4, c5, c6, t0, t1⟩ := sregs HR0.out
  clear c0 c1 c2 c3 c4 c5 c6 t0 t1
  obtain ⟨t2, t3, t4, t5, t6⟩ := srow HR0.out
  clear t3 t4 t5 t6
  clear H hO hB hn hcy had
  go_enter Tryd.func23, Tryd.ntmps23
  go_wp2_with fail
  (with_reducible refine (HA.out w v HR0.out HB0.out).mono ?_)
  intro e w1 hd
  obtain ⟨rfl, v1, hr, hf, hl⟩ := sdone_tr HF0.out HL0.out hd
  change StAt w1 B t q g v1 (changeS 3840 m ad (⟨a, x, y, s, p, pc, h, b⟩ : S14)) ⟨3840, m, cy, ad, cr⟩ at hr
  have HR1 := Lib.hid hr
  have HF1 := Lib.hid hf
  have HL1 := Lib.hid hl
  have HB1 := Lib.hid (Nat.le_trans HB0.out hf.size)
  clear hd hr hf hl
  clear t2
  go_wp2
  (first | go_end0 | refine bodyPost_ret (results_none rfl _ _ _) rfl ?_)
  exact ⟨rfl, v1, HR1.out, HF1.out, HL1.out⟩

set_option maxRecDepth 100000 in
set_option maxHeartbeats 1000000 in
theorem sdo4096 (w : World) (B t q g : Nat) (v : Value) (S : S14) (n : Nat) (m cy ad : Int) (cr : Bool) (H : StAt w B t q g v S ⟨4096, m, cy, ad, cr⟩) (hO : Ok n S) (hn : n + 5 < 1000000000) (had : u16 ad) (hcy : 0 ≤ cy ∧ cy < 200) (hB : B ≤ w.heap.size) :
    Calls Tryd.prog 23 #[.pointer (some ⟨t, 0, none⟩)] w (SDone w B t q g v (exS 4096 m ad S) ⟨4096, m, cy + exN 4096 cr S, ad, cr⟩ (.tuple #[])) := by
  rw [show cy + exN 4096 cr S = cy by simp [exN]]
  obtain ⟨a, x, y, s, p, pc, h, b⟩ := S
  have HR0 := Lib.hid H
  have HF0 : Hid (Fr (sfoot t q g v) w w) := Lib.hid (Fr.refl _ w)
  have HL0 : Hid (Lies w v v) := Lib.hid (Lies.refl w v)
  have HB0 := Lib.hid hB
  have HO := Lib.hid hO
  have HN := Lib.hid hn
  have HAD := Lib.hid had
  have HCY := Lib.hid hcy
  change Calls _ _ _ _ (SDone w B t q g v (changeS 4096 m ad (⟨a, x, y, s, p, pc, h, b⟩ : S14)) _ _)
  have HA : Hid (∀ W V, StAt W B t q g V (⟨a, x, y, s, p, pc, h, b⟩ : S14) ⟨4096, m, cy, ad, cr⟩ → B ≤ W.heap.size → Calls Tryd.prog 41 #[.pointer (some ⟨t, 0, none⟩)] W (SDone W B t q g V (changeS 4096 m ad (⟨a, x, y, s, p, pc, h, b⟩ : S14)) ⟨4096, m, cy, ad, cr⟩ (.tuple #[]))) := Lib.hid (by
    intro W V hr hb
    by_cases h16 : m = 16
    · subst h16
      exact schangeA W B t q g V (⟨a, x, y, s, p, pc, h, b⟩ : S14) n 4096 cy ad cr (Or.inr (Or.inl rfl)) hr hO (by omega) hb
    · exact schangeM W B t q g V (⟨a, x, y, s, p, pc, h, b⟩ : S14) n 4096 m cy ad cr (Or.inr (Or.inl rfl)) hr hO (by omega) h16 had hb)
  obtain ⟨c0, c1, c2, c3, c4, c5, c6, t0, t1⟩ := sregs HR0.out
  clear c0 c1 c2 c3 c4 c5 c6 t0 t1
  obtain ⟨t2, t3, t4, t5, t6⟩ := srow HR0.out
  clear t3 t4 t5 t6
  clear H hO hB hn hcy had
  go_enter Tryd.func23, Tryd.ntmps23
  go_wp2_with fail
  (with_reducible refine (HA.out w v HR0.out HB0.out).mono ?_)
  intro e w1 hd
  obtain ⟨rfl, v1, hr, hf, hl⟩ := sdone_tr HF0.out HL0.out hd
  change StAt w1 B t q g v1 (changeS 4096 m ad (⟨a, x, y, s, p, pc, h, b⟩ : S14)) ⟨4096, m, cy, ad, cr⟩ at hr
  have HR1 := Lib.hid hr
  have HF1 := Lib.hid hf
  have HL1 := Lib.hid hl
  have HB1 := Lib.hid (Nat.le_trans HB0.out hf.size)
  clear hd hr hf hl
  clear t2
  go_wp2
  (first | go_end0 | refine bodyPost_ret (results_none rfl _ _ _) rfl ?_)
  exact ⟨rfl, v1, HR1.out, HF1.out, HL1.out⟩

set_option maxRecDepth 100000 in
set_option maxHeartbeats 1000000 in
theorem sdo4352 (w : World) (B t q g : Nat) (v : Value) (S : S14) (n : Nat) (m cy ad : Int) (cr : Bool) (H : StAt w B t q g v S ⟨4352, m, cy, ad, cr⟩) (hO : Ok n S) (hn : n + 5 < 1000000000) (had : u16 ad) (hcy : 0 ≤ cy ∧ cy < 200) (hB : B ≤ w.heap.size) :
    Calls Tryd.prog 23 #[.pointer (some ⟨t, 0, none⟩)] w (SDone w B t q g v (exS 4352 m ad S) ⟨4352, m, cy + exN 4352 cr S, ad, cr⟩ (.tuple #[])) := by
  rw [show cy + exN 4352 cr S = cy by simp [exN]]
  obtain ⟨a, x, y, s, p, pc, h, b⟩ := S
  have HR0 := Lib.hid H
  have HF0 : Hid (Fr (sfoot t q g v) w w) := Lib.hid (Fr.refl _ w)
  have HL0 : Hid (Lies w v v) := Lib.hid (Lies.refl w v)
  have HB0 := Lib.hid hB
  have HO := Lib.hid hO
  have HN := Lib.hid hn
  have HAD := Lib.hid had
  have HCY := Lib.hid hcy
  change Calls _ _ _ _ (SDone w B t q g v (changeS 4352 m ad (⟨a, x, y, s, p, pc, h, b⟩ : S14)) _ _)
  have HA : Hid (∀ W V, StAt W B t q g V (⟨a, x, y, s, p, pc, h, b⟩ : S14) ⟨4352, m, cy, ad, cr⟩ → B ≤ W.heap.size → Calls Tryd.prog 41 #[.pointer (some ⟨t, 0, none⟩)] W (SDone W B t q g V (changeS 4352 m ad (⟨a, x, y, s, p, pc, h, b⟩ : S14)) ⟨4352, m, cy, ad, cr⟩ (.tuple #[]))) := Lib.hid (by
    intro W V hr hb
    by_cases h16 : m = 16
    · subst h16
      exact schangeA W B t q g V (⟨a, x, y, s, p, pc, h, b⟩ : S14) n 4352 cy ad cr (Or.inr (Or.inr (Or.inl rfl))) hr hO (by omega) hb
    · exact schangeM W B t q g V (⟨a, x, y, s, p, pc, h, b⟩ : S14) n 4352 m cy ad cr (Or.inr (Or.inr (Or.inl rfl))) hr hO (by omega) h16 had hb)
  obtain ⟨c0, c1, c2, c3, c4, c5, c6, t0, t1⟩ := sregs HR0.out
  clear c0 c1 c2 c3 c4 c5 c6 t0 t1
  obtain ⟨t2, t3, t4, t5, t6⟩ := srow HR0.out
  clear t3 t4 t5 t6
  clear H hO hB hn hcy had
  go_enter Tryd.func23, Tryd.ntmps23
  go_wp2_with fail
  (with_reducible refine (HA.out w v HR0.out HB0.out).mono ?_)
  intro e w1 hd
  obtain ⟨rfl, v1, hr, hf, hl⟩ := sdone_tr HF0.out HL0.out hd
  change StAt w1 B t q g v1 (changeS 4352 m ad (⟨a, x, y, s, p, pc, h, b⟩ : S14)) ⟨4352, m, cy, ad, cr⟩ at hr
  have HR1 := Lib.hid hr
  have HF1 := Lib.hid hf
  have HL1 := Lib.hid hl
  have HB1 := Lib.hid (Nat.le_trans HB0.out hf.size)
  clear hd hr hf hl
  clear t2
  go_wp2
  (first | go_end0 | refine bodyPost_ret (results_none rfl _ _ _) rfl ?_)
  exact ⟨rfl, v1, HR1.out, HF1.out, HL1.out⟩

set_option maxRecDepth 100000 in
set_option maxHeartbeats 1000000 in
theorem sdo4608 (w : World) (B t q g : Nat) (v : Value) (S : S14) (n : Nat) (m cy ad : Int) (cr : Bool) (H : StAt w B t q g v S ⟨4608, m, cy, ad, cr⟩) (hO : Ok n S) (hn : n + 5 < 1000000000) (had : u16 ad) (hcy : 0 ≤ cy ∧ cy < 200) (hB : B ≤ w.heap.size) :
    Calls Tryd.prog 23 #[.pointer (some ⟨t, 0, none⟩)] w (SDone w B t q g v (exS 4608 m ad S) ⟨4608, m, cy + exN 4608 cr S, ad, cr⟩ (.tuple #[])) := by
  rw [show cy + exN 4608 cr S = cy by simp [exN]]
  obtain ⟨a, x, y, s, p, pc, h, b⟩ := S
  have HR0 := Lib.hid H
  have HF0 : Hid (Fr (sfoot t q g v) w w) := Lib.hid (Fr.refl _ w)
  have HL0 : Hid (Lies w v v) := Lib.hid (Lies.refl w v)
  have HB0 := Lib.hid hB
  have HO := Lib.hid hO
  have HN := Lib.hid hn
  have HAD := Lib.hid had
  have HCY := Lib.hid hcy
  change Calls _ _ _ _ (SDone w B t q g v (changeS 4608 m ad (⟨a, x, y, s, p, pc, h, b⟩ : S14)) _ _)
  have HA : Hid (∀ W V, StAt W B t q g V (⟨a, x, y, s, p, pc, h, b⟩ : S14) ⟨4608, m, cy, ad, cr⟩ → B ≤ W.heap.size → Calls Tryd.prog 41 #[.pointer (some ⟨t, 0, none⟩)] W (SDone W B t q g V (changeS 4608 m ad (⟨a, x, y, s, p, pc, h, b⟩ : S14)) ⟨4608, m, cy, ad, cr⟩ (.tuple #[]))) := Lib.hid (by
    intro W V hr hb
    by_cases h16 : m = 16
    · subst h16
      exact schangeA W B t q g V (⟨a, x, y, s, p, pc, h, b⟩ : S14) n 4608 cy ad cr (Or.inr (Or.inr (Or.inr (Or.inl rfl)))) hr hO (by omega) hb
    · exact schangeM W B t q g V (⟨a, x, y, s, p, pc, h, b⟩ : S14) n 4608 m cy ad cr (Or.inr (Or.inr (Or.inr (Or.inl rfl)))) hr hO (by omega) h16 had hb)
  obtain ⟨c0, c1, c2, c3, c4, c5, c6, t0, t1⟩ := sregs HR0.out
  clear c0 c1 c2 c3 c4 c5 c6 t0 t1
  obtain ⟨t2, t3, t4, t5, t6⟩ := srow HR0.out
  clear t3 t4 t5 t6
  clear H hO hB hn hcy had
  go_enter Tryd.func23, Tryd.ntmps23
  go_wp2_with fail
  (with_reducible refine (HA.out w v HR0.out HB0.out).mono ?_)
  intro e w1 hd
  obtain ⟨rfl, v1, hr, hf, hl⟩ := sdone_tr HF0.out HL0.out hd
  change StAt w1 B t q g v1 (changeS 4608 m ad (⟨a, x, y, s, p, pc, h, b⟩ : S14)) ⟨4608, m, cy, ad, cr⟩ at hr
  have HR1 := Lib.hid hr
  have HF1 := Lib.hid hf
  have HL1 := Lib.hid hl
  have HB1 := Lib.hid (Nat.le_trans HB0.out hf.size)
  clear hd hr hf hl
  clear t2
  go_wp2
  (first | go_end0 | refine bodyPost_ret (results_none rfl _ _ _) rfl ?_)
  exact ⟨rfl, v1, HR1.out, HF1.out, HL1.out⟩

set_option maxRecDepth 100000 in
set_option maxHeartbeats 1000000 in
theorem sdo4864 (w : World) (B t q g : Nat) (v : Value) (S : S14) (n : Nat) (m cy ad : Int) (cr : Bool) (H : StAt w B t q g v S ⟨4864, m, cy, ad, cr⟩) (hO : Ok n S) (hn : n + 5 < 1000000000) (had : u16 ad) (hcy : 0 ≤ cy ∧ cy < 200) (hB : B ≤ w.heap.size) :
    Calls Tryd.prog 23 #[.pointer (some ⟨t, 0, none⟩)] w (SDone w B t q g v (exS 4864 m ad S) ⟨4864, m, cy + exN 4864 cr S, ad, cr⟩ (.tuple #[])) := by
  rw [show cy + exN 4864 cr S = cy by simp [exN]]
  obtain ⟨a, x, y, s, p, pc, h, b⟩ := S
  have HR0 := Lib.hid H
  have HF0 : Hid (Fr (sfoot t q g v) w w) := Lib.hid (Fr.refl _ w)
  have HL0 : Hid (Lies w v v) := Lib.hid (Lies.refl w v)
  have HB0 := Lib.hid hB
  have HO := Lib.hid hO
  have HN := Lib.hid hn
  have HAD := Lib.hid had
  have HCY := Lib.hid hcy
  change Calls _ _ _ _ (SDone w B t q g v (changeS 4864 m ad (⟨a, x, y, s, p, pc, h, b⟩ : S14)) _ _)
  have HA : Hid (∀ W V, StAt W B t q g V (⟨a, x, y, s, p, pc, h, b⟩ : S14) ⟨4864, m, cy, ad, cr⟩ → B ≤ W.heap.size → Calls Tryd.prog 41 #[.pointer (some ⟨t, 0, none⟩)] W (SDone W B t q g V (changeS 4864 m ad (⟨a, x, y, s, p, pc, h, b⟩ : S14)) ⟨4864, m, cy, ad, cr⟩ (.tuple #[]))) := Lib.hid (by
    intro W V hr hb
    by_cases h16 : m = 16
    · subst h16
      exact schangeA W B t q g V (⟨a, x, y, s, p, pc, h, b⟩ : S14) n 4864 cy ad cr (Or.inr (Or.inr (Or.inr (Or.inr (Or.inl rfl))))) hr hO (by omega) hb
    · exact schangeM W B t q g V (⟨a, x, y, s, p, pc, h, b⟩ : S14) n 4864 m cy ad cr (Or.inr (Or.inr (Or.inr (Or.inr (Or.inl rfl))))) hr hO (by omega) h16 had hb)
  obtain ⟨c0, c1, c2, c3, c4, c5, c6, t0, t1⟩ := sregs HR0.out
  clear c0 c1 c2 c3 c4 c5 c6 t0 t1
  obtain ⟨t2, t3, t4, t5, t6⟩ := srow HR0.out
  clear t3 t4 t5 t6
  clear H hO hB hn hcy had
  go_enter Tryd.func23, Tryd.ntmps23
  go_wp2_with fail
  (with_reducible refine (HA.out w v HR0.out HB0.out).mono ?_)
  intro e w1 hd
  obtain ⟨rfl, v1, hr, hf, hl⟩ := sdone_tr HF0.out HL0.out hd
  change StAt w1 B t q g v1 (changeS 4864 m ad (⟨a, x, y, s, p, pc, h, b⟩ : S14)) ⟨4864, m, cy, ad, cr⟩ at hr
  have HR1 := Lib.hid hr
  have HF1 := Lib.hid hf
  have HL1 := Lib.hid hl
  have HB1 := Lib.hid (Nat.le_trans HB0.out hf.size)
  clear hd hr hf hl
  clear t2
  go_wp2
  (first | go_end0 | refine bodyPost_ret (results_none rfl _ _ _) rfl ?_)
  exact ⟨rfl, v1, HR1.out, HF1.out, HL1.out⟩

set_option maxRecDepth 100000 in
set_option maxHeartbeats 1000000 in
theorem sdo5120 (w : World) (B t q g : Nat) (v : Value) (S : S14) (n : Nat) (m cy ad : Int) (cr : Bool) (H : StAt w B t q g v S ⟨5120, m, cy, ad, cr⟩) (hO : Ok n S) (hn : n + 5 < 1000000000) (had : u16 ad) (hcy : 0 ≤ cy ∧ cy < 200) (hB : B ≤ w.heap.size) :
    Calls Tryd.prog 23 #[.pointer (some ⟨t, 0, none⟩)] w (SDone w B t q g v (exS 5120 m ad S) ⟨5120, m, cy + exN 5120 cr S, ad, cr⟩ (.tuple #[])) := by
  rw [show cy + exN 5120 cr S = cy by simp [exN]]
  obtain ⟨a, x, y, s, p, pc, h, b⟩ := S
  have HR0 := Lib.hid H
  have HF0 : Hid (Fr (sfoot t q g v) w w) := Lib.hid (Fr.refl _ w)
  have HL0 : Hid (Lies w v v) := Lib.hid (Lies.refl w v)
  have HB0 := Lib.hid hB
  have HO := Lib.hid hO
  have HN := Lib.hid hn
  have HAD := Lib.hid had
  have HCY := Lib.hid hcy
  change Calls _ _ _ _ (SDone w B t q g v (changeS 5120 m ad (⟨a, x, y, s, p, pc, h, b⟩ : S14)) _ _)
  have HA : Hid (∀ W V, StAt W B t q g V (⟨a, x, y, s, p, pc, h, b⟩ : S14) ⟨5120, m, cy, ad, cr⟩ → B ≤ W.heap.size → Calls Tryd.prog 41 #[.pointer (some ⟨t, 0, none⟩)] W (SDone W B t q g V (changeS 5120 m ad (⟨a, x, y, s, p, pc, h, b⟩ : S14)) ⟨5120, m, cy, ad, cr⟩ (.tuple #[]))) := Lib.hid (by
    intro W V hr hb
    by_cases h16 : m = 16
    · subst h16
      exact schangeA W B t q g V (⟨a, x, y, s, p, pc, h, b⟩ : S14) n 5120 cy ad cr (Or.inr (Or.inr (Or.inr (Or.inr (Or.inr (rfl)))))) hr hO (by omega) hb
    · exact schangeM W B t q g V (⟨a, x, y, s, p, pc, h, b⟩ : S14) n 5120 m cy ad cr (Or.inr (Or.inr (Or.inr (Or.inr (Or.inr (rfl)))))) hr hO (by omega) h16 had hb)
  obtain ⟨c0, c1, c2, c3, c4, c5, c6, t0, t1⟩ := sregs HR0.out
  clear c0 c1 c2 c3 c4 c5 c6 t0 t1
  obtain ⟨t2, t3, t4, t5, t6⟩ := srow HR0.out
  clear t3 t4 t5 t6
  clear H hO hB hn hcy had
  go_enter Tryd.func23, Tryd.ntmps23
  go_wp2_with fail
  (with_reducible refine (HA.out w v HR0.out HB0.out).mono ?_)
  intro e w1 hd
  obtain ⟨rfl, v1, hr, hf, hl⟩ := sdone_tr HF0.out HL0.out hd
  change StAt w1 B t q g v1 (changeS 5120 m ad (⟨a, x, y, s, p, pc, h, b⟩ : S14)) ⟨5120, m, cy, ad, cr⟩ at hr
  have HR1 := Lib.hid hr
  have HF1 := Lib.hid hf
  have HL1 := Lib.hid hl
  have HB1 := Lib.hid (Nat.le_trans HB0.out hf.size)
  clear hd hr hf hl
  clear t2
  go_wp2
  (first | go_end0 | refine bodyPost_ret (results_none rfl _ _ _) rfl ?_)
  exact ⟨rfl, v1, HR1.out, HF1.out, HL1.out⟩

set_option maxRecDepth 100000 in
set_option maxHeartbeats 1000000 in
theorem sdo5376 (w : World) (B t q g : Nat) (v : Value) (S : S14) (n : Nat) (m cy ad : Int) (cr : Bool) (H : StAt w B t q g v S ⟨5376, m, cy, ad, cr⟩) (hO : Ok n S) (hn : n + 5 < 1000000000) (had : u16 ad) (hcy : 0 ≤ cy ∧ cy < 200) (hB : B ≤ w.heap.size) :
    Calls Tryd.prog 23 #[.pointer (some ⟨t, 0, none⟩)] w (SDone w B t q g v (exS 5376 m ad S) ⟨5376, m, cy + exN 5376 cr S, ad, cr⟩ (.tuple #[])) := by
  rw [show cy + exN 5376 cr S = cy by simp [exN]]
  obtain ⟨a, x, y, s, p, pc, h, b⟩ := S
  have HR0 := Lib.hid H
  have HF0 : Hid (Fr (sfoot t q g v) w w) := Lib.hid (Fr.refl _ w)
  have HL0 : Hid (Lies w v v) := Lib.hid (Lies.refl w v)
  have HB0 := Lib.hid hB
  have HO := Lib.hid hO
  have HN := Lib.hid hn
  have HAD := Lib.hid had
  have HCY := Lib.hid hcy
  obtain ⟨c0, c1, c2, c3, c4, c5, c6, t0, t1⟩ := sregs HR0.out
  clear c0 c1 c2 c3 c4 c5 c6 t0 t1
  obtain ⟨t2, t3, t4, t5, t6⟩ := srow HR0.out
  clear t3 t4 t5 t6
  clear H hO hB hn hcy had
  go_enter Tryd.func23, Tryd.ntmps23
  go_wp2_with fail
  (with_reducible refine (sreg5376 w B t q g v ⟨a, x, y, s, p, pc, h, b⟩ n m cy ad cr HR0.out HO.out HB0.out).mono ?_)
  intro e w1 hd
  obtain ⟨rfl, v1, hr, hf, hl⟩ := sdone_tr HF0.out HL0.out hd
  change StAt w1 B t q g v1 (regS 5376 (⟨a, x, y, s, p, pc, h, b⟩ : S14)) ⟨5376, m, cy, ad, cr⟩ at hr
  have HR1 := Lib.hid hr
  have HF1 := Lib.hid hf
  have HL1 := Lib.hid hl
  have HB1 := Lib.hid (Nat.le_trans HB0.out hf.size)
  clear hd hr hf hl
  clear t2
  go_wp2
  (first | go_end0 | refine bodyPost_ret (results_none rfl _ _ _) rfl ?_)
  exact ⟨rfl, v1, HR1.out, HF1.out, HL1.out⟩

set_option maxRecDepth 100000 in
set_option maxHeartbeats 1000000 in
theorem sdo5632 (w : World) (B t q g : Nat) (v : Value) (S : S14) (n : Nat) (m cy ad : Int) (cr : Bool) (H : StAt w B t q g v S ⟨5632, m, cy, ad, cr⟩) (hO : Ok n S) (hn : n + 5 < 1000000000) (had : u16 ad) (hcy : 0 ≤ cy ∧ cy < 200) (hB : B ≤ w.heap.size) :
    Calls Tryd.prog 23 #[.pointer (some ⟨t, 0, none⟩)] w (SDone w B t q g v (exS 5632 m ad S) ⟨5632, m, cy + exN 5632 cr S, ad, cr⟩ (.tuple #[])) := by
  rw [show cy + exN 5632 cr S = cy by simp [exN]]
  obtain ⟨a, x, y, s, p, pc, h, b⟩ := S
  have HR0 := Lib.hid H
  have HF0 : Hid (Fr (sfoot t q g v) w w) := Lib.hid (Fr.refl _ w)
  have HL0 : Hid (Lies w v v) := Lib.hid (Lies.refl w v)
  have HB0 := Lib.hid hB
  have HO := Lib.hid hO
  have HN := Lib.hid hn
  have HAD := Lib.hid had
  have HCY := Lib.hid hcy
  obtain ⟨c0, c1, c2, c3, c4, c5, c6, t0, t1⟩ := sregs HR0.out
  clear c0 c1 c2 c3 c4 c5 c6 t0 t1
  obtain ⟨t2, t3, t4, t5, t6⟩ := srow HR0.out
  clear t3 t4 t5 t6
  clear H hO hB hn hcy had
  go_enter Tryd.func23, Tryd.ntmps23
  go_wp2_with fail
  (with_reducible refine (sreg5632 w B t q g v ⟨a, x, y, s, p, pc, h, b⟩ n m cy ad cr HR0.out HO.out HB0.out).mono ?_)
  intro e w1 hd
  obtain ⟨rfl, v1, hr, hf, hl⟩ := sdone_tr HF0.out HL0.out hd
  change StAt w1 B t q g v1 (regS 5632 (⟨a, x, y, s, p, pc, h, b⟩ : S14)) ⟨5632, m, cy, ad, cr⟩ at hr
  have HR1 := Lib.hid hr
  have HF1 := Lib.hid hf
  have HL1 := Lib.hid hl
  have HB1 := Lib.hid (Nat.le_trans HB0.out hf.size)
  clear hd hr hf hl
  clear t2
  go_wp2
  (first | go_end0 | refine bodyPost_ret (results_none rfl _ _ _) rfl ?_)
  exact ⟨rfl, v1, HR1.out, HF1.out, HL1.out⟩

set_option maxRecDepth 100000 in
set_option maxHeartbeats 1000000 in
theorem sdo5888 (w : World) (B t q g : Nat) (v : Value) (S : S14) (n : Nat) (m cy ad : Int) (cr : Bool) (H : StAt w B t q g v S ⟨5888, m, cy, ad, cr⟩) (hO : Ok n S) (hn : n + 5 < 1000000000) (had : u16 ad) (hcy : 0 ≤ cy ∧ cy < 200) (hB : B ≤ w.heap.size) :
    Calls Tryd.prog 23 #[.pointer (some ⟨t, 0, none⟩)] w (SDone w B t q g v (exS 5888 m ad S) ⟨5888, m, cy + exN 5888 cr S, ad, cr⟩ (.tuple #[])) := by
  rw [show cy + exN 5888 cr S = cy by simp [exN]]
  obtain ⟨a, x, y, s, p, pc, h, b⟩ := S
  have HR0 := Lib.hid H
  have HF0 : Hid (Fr (sfoot t q g v) w w) := Lib.hid (Fr.refl _ w)
  have HL0 : Hid (Lies w v v) := Lib.hid (Lies.refl w v)
  have HB0 := Lib.hid hB
  have HO := Lib.hid hO
  have HN := Lib.hid hn
  have HAD := Lib.hid had
  have HCY := Lib.hid hcy
  obtain ⟨c0, c1, c2, c3, c4, c5, c6, t0, t1⟩ := sregs HR0.out
  clear c0 c1 c2 c3 c4 c5 c6 t0 t1
  obtain ⟨t2, t3, t4, t5, t6⟩ := srow HR0.out
  clear t3 t4 t5 t6
  clear H hO hB hn hcy had
  go_enter Tryd.func23, Tryd.ntmps23
  go_wp2_with fail
  (with_reducible refine (sreg5888 w B t q g v ⟨a, x, y, s, p, pc, h, b⟩ n m cy ad cr HR0.out HO.out HB0.out).mono ?_)
  intro e w1 hd
  obtain ⟨rfl, v1, hr, hf, hl⟩ := sdone_tr HF0.out HL0.out hd
  change StAt w1 B t q g v1 (regS 5888 (⟨a, x, y, s, p, pc, h, b⟩ : S14)) ⟨5888, m, cy, ad, cr⟩ at hr
  have HR1 := Lib.hid hr
  have HF1 := Lib.hid hf
  have HL1 := Lib.hid hl
  have HB1 := Lib.hid (Nat.le_trans HB0.out hf.size)
  clear hd hr hf hl
  clear t2
  go_wp2
  (first | go_end0 | refine bodyPost_ret (results_none rfl _ _ _) rfl ?_)
  exact ⟨rfl, v1, HR1.out, HF1.out, HL1.out⟩

set_option maxRecDepth 100000 in
set_option maxHeartbeats 1000000 in
theorem sdo6144 (w : World) (B t q g : Nat) (v : Value) (S : S14) (n : Nat) (m cy ad : Int) (cr : Bool) (H : StAt w B t q g v S ⟨6144, m, cy, ad, cr⟩) (hO : Ok n S) (hn : n + 5 < 1000000000) (had : u16 ad) (hcy : 0 ≤ cy ∧ cy < 200) (hB : B ≤ w.heap.size) :
    Calls Tryd.prog 23 #[.pointer (some ⟨t, 0, none⟩)] w (SDone w B t q g v (exS 6144 m ad S) ⟨6144, m, cy + exN 6144 cr S, ad, cr⟩ (.tuple #[])) := by
  rw [show cy + exN 6144 cr S = cy by simp [exN]]
  obtain ⟨a, x, y, s, p, pc, h, b⟩ := S
  have HR0 := Lib.hid H
  have HF0 : Hid (Fr (sfoot t q g v) w w) := Lib.hid (Fr.refl _ w)
  have HL0 : Hid (Lies w v v) := Lib.hid (Lies.refl w v)
  have HB0 := Lib.hid hB
  have HO := Lib.hid hO
  have HN := Lib.hid hn
  have HAD := Lib.hid had
  have HCY := Lib.hid hcy
  obtain ⟨c0, c1, c2, c3, c4, c5, c6, t0, t1⟩ := sregs HR0.out
  clear c0 c1 c2 c3 c4 c5 c6 t0 t1
  obtain ⟨t2, t3, t4, t5, t6⟩ := srow HR0.out
  clear t3 t4 t5 t6
  clear H hO hB hn hcy had
  go_enter Tryd.func23, Tryd.ntmps23
  go_wp2_with fail
  (with_reducible refine (sreg6144 w B t q g v ⟨a, x, y, s, p, pc, h, b⟩ n m cy ad cr HR0.out HO.out HB0.out).mono ?_)
  intro e w1 hd
  obtain ⟨rfl, v1, hr, hf, hl⟩ := sdone_tr HF0.out HL0.out hd
  change StAt w1 B t q g v1 (regS 6144 (⟨a, x, y, s, p, pc, h, b⟩ : S14)) ⟨6144, m, cy, ad, cr⟩ at hr
  have HR1 := Lib.hid hr
  have HF1 := Lib.hid hf
  have HL1 := Lib.hid hl
  have HB1 := Lib.hid (Nat.le_trans HB0.out hf.size)
  clear hd hr hf hl
  clear t2
  go_wp2
  (first | go_end0 | refine bodyPost_ret (results_none rfl _ _ _) rfl ?_)
  exact ⟨rfl, v1, HR1.out, HF1.out, HL1.out⟩

set_option maxRecDepth 100000 in
set_option maxHeartbeats 1000000 in
theorem sdo6400 (w : World) (B t q g : Nat) (v : Value) (S : S14) (n : Nat) (m cy ad : Int) (cr : Bool) (H : StAt w B t q g v S ⟨6400, m, cy, ad, cr⟩) (hO : Ok n S) (hn : n + 5 < 1000000000) (had : u16 ad) (hcy : 0 ≤ cy ∧ cy < 200) (hB : B ≤ w.heap.size) :
    Calls Tryd.prog 23 #[.pointer (some ⟨t, 0, none⟩)] w (SDone w B t q g v (exS 6400 m ad S) ⟨6400, m, cy + exN 6400 cr S, ad, cr⟩ (.tuple #[])) := by
  rw [show cy + exN 6400 cr S = cy by simp [exN]]
  obtain ⟨a, x, y, s, p, pc, h, b⟩ := S
  have HR0 := Lib.hid H
  have HF0 : Hid (Fr (sfoot t q g v) w w) := Lib.hid (Fr.refl _ w)
  have HL0 : Hid (Lies w v v) := Lib.hid (Lies.refl w v)
  have HB0 := Lib.hid hB
  have HO := Lib.hid hO
  have HN := Lib.hid hn
  have HAD := Lib.hid had
  have HCY := Lib.hid hcy
  obtain ⟨c0, c1, c2, c3, c4, c5, c6, t0, t1⟩ := sregs HR0.out
  clear c0 c1 c2 c3 c4 c5 c6 t0 t1
  obtain ⟨t2, t3, t4, t5, t6⟩ := srow HR0.out
  clear t3 t4 t5 t6
  clear H hO hB hn hcy had
  go_enter Tryd.func23, Tryd.ntmps23
  go_wp2_with fail
  (with_reducible refine (sreg6400 w B t q g v ⟨a, x, y, s, p, pc, h, b⟩ n m cy ad cr HR0.out HO.out HB0.out).mono ?_)
  intro e w1 hd
  obtain ⟨rfl, v1, hr, hf, hl⟩ := sdone_tr HF0.out HL0.out hd
  change StAt w1 B t q g v1 (regS 6400 (⟨a, x, y, s, p, pc, h, b⟩ : S14)) ⟨6400, m, cy, ad, cr⟩ at hr
  have HR1 := Lib.hid hr
  have HF1 := Lib.hid hf
  have HL1 := Lib.hid hl
  have HB1 := Lib.hid (Nat.le_trans HB0.out hf.size)
  clear hd hr hf hl
  clear t2
  go_wp2
  (first | go_end0 | refine bodyPost_ret (results_none rfl _ _ _) rfl ?_)
  exact ⟨rfl, v1, HR1.out, HF1.out, HL1.out⟩

set_option maxRecDepth 100000 in
set_option maxHeartbeats 1000000 in
theorem sdo6656 (w : World) (B t q g : Nat) (v : Value) (S : S14) (n : Nat) (m cy ad : Int) (cr : Bool) (H : StAt w B t q g v S ⟨6656, m, cy, ad, cr⟩) (hO : Ok n S) (hn : n + 5 < 1000000000) (had : u16 ad) (hcy : 0 ≤ cy ∧ cy < 200) (hB : B ≤ w.heap.size) :
    Calls Tryd.prog 23 #[.pointer (some ⟨t, 0, none⟩)] w (SDone w B t q g v (exS 6656 m ad S) ⟨6656, m, cy + exN 6656 cr S, ad, cr⟩ (.tuple #[])) := by
  rw [show cy + exN 6656 cr S = cy by simp [exN]]
  obtain ⟨a, x, y, s, p, pc, h, b⟩ := S
  have HR0 := Lib.hid H
  have HF0 : Hid (Fr (sfoot t q g v) w w) := Lib.hid (Fr.refl _ w)
  have HL0 : Hid (Lies w v v) := Lib.hid (Lies.refl w v)
  have HB0 := Lib.hid hB
  have HO := Lib.hid hO
  have HN := Lib.hid hn
  have HAD := Lib.hid had
  have HCY := Lib.hid hcy
  obtain ⟨c0, c1, c2, c3, c4, c5, c6, t0, t1⟩ := sregs HR0.out
  clear c0 c1 c2 c3 c4 c5 c6 t0 t1
  obtain ⟨t2, t3, t4, t5, t6⟩ := srow HR0.out
  clear t3 t4 t5 t6
  clear H hO hB hn hcy had
  go_enter Tryd.func23, Tryd.ntmps23
  go_wp2_with fail
  (with_reducible refine (sreg6656 w B t q g v ⟨a, x, y, s, p, pc, h, b⟩ n m cy ad cr HR0.out HO.out HB0.out).mono ?_)
  intro e w1 hd
  obtain ⟨rfl, v1, hr, hf, hl⟩ := sdone_tr HF0.out HL0.out hd
  change StAt w1 B t q g v1 (regS 6656 (⟨a, x, y, s, p, pc, h, b⟩ : S14)) ⟨6656, m, cy, ad, cr⟩ at hr
  have HR1 := Lib.hid hr
  have HF1 := Lib.hid hf
  have HL1 := Lib.hid hl
  have HB1 := Lib.hid (Nat.le_trans HB0.out hf.size)
  clear hd hr hf hl
  clear t2
  go_wp2
  (first | go_end0 | refine bodyPost_ret (results_none rfl _ _ _) rfl ?_)
  exact ⟨rfl, v1, HR1.out, HF1.out, HL1.out⟩

set_option maxRecDepth 100000 in
set_option maxHeartbeats 1000000 in
theorem sdo6912 (w : World) (B t q g : Nat) (v : Value) (S : S14) (n : Nat) (m cy ad : Int) (cr : Bool) (H : StAt w B t q g v S ⟨6912, m, cy, ad, cr⟩) (hO : Ok n S) (hn : n + 5 < 1000000000) (had : u16 ad) (hcy : 0 ≤ cy ∧ cy < 200) (hB : B ≤ w.heap.size) :
    Calls Tryd.prog 23 #[.pointer (some ⟨t, 0, none⟩)] w (SDone w B t q g v (exS 6912 m ad S) ⟨6912, m, cy + exN 6912 cr S, ad, cr⟩ (.tuple #[])) := by
  rw [show cy + exN 6912 cr S = cy by simp [exN]]
  obtain ⟨a, x, y, s, p, pc, h, b⟩ := S
  have HR0 := Lib.hid H
  have HF0 : Hid (Fr (sfoot t q g v) w w) := Lib.hid (Fr.refl _ w)
  have HL0 : Hid (Lies w v v) := Lib.hid (Lies.refl w v)
  have HB0 := Lib.hid hB
  have HO := Lib.hid hO
  have HN := Lib.hid hn
  have HAD := Lib.hid had
  have HCY := Lib.hid hcy
  obtain ⟨c0, c1, c2, c3, c4, c5, c6, t0, t1⟩ := sregs HR0.out
  clear c0 c1 c2 c3 c4 c5 c6 t0 t1
  obtain ⟨t2, t3, t4, t5, t6⟩ := srow HR0.out
  clear t3 t4 t5 t6
  clear H hO hB hn hcy had
  go_enter Tryd.func23, Tryd.ntmps23
  go_wp2_with fail
  (with_reducible refine (sreg6912 w B t q g v ⟨a, x, y, s, p, pc, h, b⟩ n m cy ad cr HR0.out HO.out HB0.out).mono ?_)
  intro e w1 hd
  obtain ⟨rfl, v1, hr, hf, hl⟩ := sdone_tr HF0.out HL0.out hd
  change StAt w1 B t q g v1 (regS 6912 (⟨a, x, y, s, p, pc, h, b⟩ : S14)) ⟨6912, m, cy, ad, cr⟩ at hr
  have HR1 := Lib.hid hr
  have HF1 := Lib.hid hf
  have HL1 := Lib.hid hl
  have HB1 := Lib.hid (Nat.le_trans HB0.out hf.size)
  clear hd hr hf hl
  clear t2
  go_wp2
  (first | go_end0 | refine bodyPost_ret (results_none rfl _ _ _) rfl ?_)
  exact ⟨rfl, v1, HR1.out, HF1.out, HL1.out⟩

set_option maxRecDepth 100000 in
set_option maxHeartbeats 1000000 in
theorem sdo7168 (w : World) (B t q g : Nat) (v : Value) (S : S14) (n : Nat) (m cy ad : Int) (cr : Bool) (H : StAt w B t q g v S ⟨7168, m, cy, ad, cr⟩) (hO : Ok n S) (hn : n + 5 < 1000000000) (had : u16 ad) (hcy : 0 ≤ cy ∧ cy < 200) (hB : B ≤ w.heap.size) :
    Calls Tryd.prog 23 #[.pointer (some ⟨t, 0, none⟩)] w (SDone w B t q g v (exS 7168 m ad S) ⟨7168, m, cy + exN 7168 cr S, ad, cr⟩ (.tuple #[])) := by
  rw [show cy + exN 7168 cr S = cy by simp [exN]]
  obtain ⟨a, x, y, s, p, pc, h, b⟩ := S
  have HR0 := Lib.hid H
  have HF0 : Hid (Fr (sfoot t q g v) w w) := Lib.hid (Fr.refl _ w)
  have HL0 : Hid (Lies w v v) := Lib.hid (Lies.refl w v)
  have HB0 := Lib.hid hB
  have HO := Lib.hid hO
  have HN := Lib.hid hn
  have HAD := Lib.hid had
  have HCY := Lib.hid hcy
  obtain ⟨c0, c1, c2, c3, c4, c5, c6, t0, t1⟩ := sregs HR0.out
  clear c0 c1 c2 c3 c4 c5 c6 t0 t1
  obtain ⟨t2, t3, t4, t5, t6⟩ := srow HR0.out
  clear t3 t4 t5 t6
  clear H hO hB hn hcy had
  go_enter Tryd.func23, Tryd.ntmps23
  go_wp2_with fail
  (with_reducible refine (sreg7168 w B t q g v ⟨a, x, y, s, p, pc, h, b⟩ n m cy ad cr HR0.out HO.out HB0.out).mono ?_)
  intro e w1 hd
  obtain ⟨rfl, v1, hr, hf, hl⟩ := sdone_tr HF0.out HL0.out hd
  change StAt w1 B t q g v1 (regS 7168 (⟨a, x, y, s, p, pc, h, b⟩ : S14)) ⟨7168, m, cy, ad, cr⟩ at hr
  have HR1 := Lib.hid hr
  have HF1 := Lib.hid hf
  have HL1 := Lib.hid hl
  have HB1 := Lib.hid (Nat.le_trans HB0.out hf.size)
  clear hd hr hf hl
  clear t2
  go_wp2
  (first | go_end0 | refine bodyPost_ret (results_none rfl _ _ _) rfl ?_)
  exact ⟨rfl, v1, HR1.out, HF1.out, HL1.out⟩

set_option maxRecDepth 100000 in
set_option maxHeartbeats 1000000 in
theorem sdo7424 (w : World) (B t q g : Nat) (v : Value) (S : S14) (n : Nat) (m cy ad : Int) (cr : Bool) (H : StAt w B t q g v S ⟨7424, m, cy, ad, cr⟩) (hO : Ok n S) (hn : n + 5 < 1000000000) (had : u16 ad) (hcy : 0 ≤ cy ∧ cy < 200) (hB : B ≤ w.heap.size) :
    Calls Tryd.prog 23 #[.pointer (some ⟨t, 0, none⟩)] w (SDone w B t q g v (exS 7424 m ad S) ⟨7424, m, cy + exN 7424 cr S, ad, cr⟩ (.tuple #[])) := by
  rw [show cy + exN 7424 cr S = cy by simp [exN]]
  obtain ⟨a, x, y, s, p, pc, h, b⟩ := S
  have HR0 := Lib.hid H
  have HF0 : Hid (Fr (sfoot t q g v) w w) := Lib.hid (Fr.refl _ w)
  have HL0 : Hid (Lies w v v) := Lib.hid (Lies.refl w v)
  have HB0 := Lib.hid hB
  have HO := Lib.hid hO
  have HN := Lib.hid hn
  have HAD := Lib.hid had
  have HCY := Lib.hid hcy
  obtain ⟨c0, c1, c2, c3, c4, c5, c6, t0, t1⟩ := sregs HR0.out
  clear c0 c1 c2 c3 c4 c5 c6 t0 t1
  obtain ⟨t2, t3, t4, t5, t6⟩ := srow HR0.out
  clear t3 t4 t5 t6
  clear H hO hB hn hcy had
  go_enter Tryd.func23, Tryd.ntmps23
  go_wp2_with fail
  (with_reducible refine (sreg7424 w B t q g v ⟨a, x, y, s, p, pc, h, b⟩ n m cy ad cr HR0.out HO.out HB0.out).mono ?_)
  intro e w1 hd
  obtain ⟨rfl, v1, hr, hf, hl⟩ := sdone_tr HF0.out HL0.out hd
  change StAt w1 B t q g v1 (regS 7424 (⟨a, x, y, s, p, pc, h, b⟩ : S14)) ⟨7424, m, cy, ad, cr⟩ at hr
  have HR1 := Lib.hid hr
  have HF1 := Lib.hid hf
  have HL1 := Lib.hid hl
  have HB1 := Lib.hid (Nat.le_trans HB0.out hf.size)
  clear hd hr hf hl
  clear t2
  go_wp2
  (first | go_end0 | refine bodyPost_ret (results_none rfl _ _ _) rfl ?_)
  exact ⟨rfl, v1, HR1.out, HF1.out, HL1.out⟩

set_option maxRecDepth 100000 in
set_option maxHeartbeats 1000000 in
theorem sdo7680 (w : World) (B t q g : Nat) (v : Value) (S : S14) (n : Nat) (m cy ad : Int) (cr : Bool) (H : StAt w B t q g v S ⟨7680, m, cy, ad, cr⟩) (hO : Ok n S) (hn : n + 5 < 1000000000) (had : u16 ad) (hcy : 0 ≤ cy ∧ cy < 200) (hB : B ≤ w.heap.size) :
    Calls Tryd.prog 23 #[.pointer (some ⟨t, 0, none⟩)] w (SDone w B t q g v (exS 7680 m ad S) ⟨7680, m, cy + exN 7680 cr S, ad, cr⟩ (.tuple #[])) := by
  rw [show cy + exN 7680 cr S = cy by simp [exN]]
  obtain ⟨a, x, y, s, p, pc, h, b⟩ := S
  have HR0 := Lib.hid H
  have HF0 : Hid (Fr (sfoot t q g v) w w) := Lib.hid (Fr.refl _ w)
  have HL0 : Hid (Lies w v v) := Lib.hid (Lies.refl w v)
  have HB0 := Lib.hid hB
  have HO := Lib.hid hO
  have HN := Lib.hid hn
  have HAD := Lib.hid had
  have HCY := Lib.hid hcy
  obtain ⟨c0, c1, c2, c3, c4, c5, c6, t0, t1⟩ := sregs HR0.out
  clear c0 c1 c2 c3 c4 c5 c6 t0 t1
  obtain ⟨t2, t3, t4, t5, t6⟩ := srow HR0.out
  clear t3 t4 t5 t6
  clear H hO hB hn hcy had
  go_enter Tryd.func23, Tryd.ntmps23
  go_wp2_with fail
  (with_reducible refine (sreg7680 w B t q g v ⟨a, x, y, s, p, pc, h, b⟩ n m cy ad cr HR0.out HO.out HB0.out).mono ?_)
  intro e w1 hd
  obtain ⟨rfl, v1, hr, hf, hl⟩ := sdone_tr HF0.out HL0.out hd
  change StAt w1 B t q g v1 (regS 7680 (⟨a, x, y, s, p, pc, h, b⟩ : S14)) ⟨7680, m, cy, ad, cr⟩ at hr
  have HR1 := Lib.hid hr
  have HF1 := Lib.hid hf
  have HL1 := Lib.hid hl
  have HB1 := Lib.hid (Nat.le_trans HB0.out hf.size)
  clear hd hr hf hl
  clear t2
  go_wp2
  (first | go_end0 | refine bodyPost_ret (results_none rfl _ _ _) rfl ?_)
  exact ⟨rfl, v1, HR1.out, HF1.out, HL1.out⟩

end Ms
end Go.Proofs.YtlnpadekgakghaaDoor
