/-
  What the program's step does, by what stands in its table. Conditions: the state is one that there is, few bytes were written.
-/
import Derived.Test.YtlnpadekgakghaaDoorMosDoA
import Derived.Test.YtlnpadekgakghaaDoorMosDoB
namespace Go.Proofs.YtlnpadekgakghaaDoor
open Go.RowKit
namespace Ms
open Al (byte of_byte)
set_option linter.unusedVariables false

set_option maxRecDepth 100000 in
set_option maxHeartbeats 1000000 in
theorem sdo7936 (w : World) (B t q g : Nat) (v : Value) (S : S14) (n : Nat) (m cy ad : Int) (cr : Bool) (H : StAt w B t q g v S ⟨7936, m, cy, ad, cr⟩) (hO : Ok n S) (hn : n + 5 < 1000000000) (had : u16 ad) (hcy : 0 ≤ cy ∧ cy < 200) (hB : B ≤ w.heap.size) :
    Calls Tryd.prog 23 #[.pointer (some ⟨t, 0, none⟩)] w (SDone w B t q g v (exS 7936 m ad S) ⟨7936, m, cy + exN 7936 cr S, ad, cr⟩ (.tuple #[])) := by
  rw [show exN 7936 cr S = branchX 7936 cr S from rfl]
  obtain ⟨a, x, y, s, p, pc, h, b⟩ := S
  have HR0 := Lib.hid H
  have HF0 : Hid (Fr (sfoot t q g v) w w) := Lib.hid (Fr.refl _ w)
  have HL0 : Hid (Lies w v v) := Lib.hid (Lies.refl w v)
  have HB0 := Lib.hid hB
  have HO := Lib.hid hO
  have HN := Lib.hid hn
  have HAD := Lib.hid had
  have HCY := Lib.hid hcy
  have HIB : Hid (isB 7936) := Lib.hid (Or.inl rfl)
  obtain ⟨c0, c1, c2, c3, c4, c5, c6, t0, t1⟩ := sregs HR0.out
  clear c0 c1 c2 c3 c4 c5 c6 t0 t1
  obtain ⟨t2, t3, t4, t5, t6⟩ := srow HR0.out
  clear t3 t4 t5 t6
  clear H hO hB hn hcy had
  go_enter Tryd.func23, Tryd.ntmps23
  go_wp2_with fail
  (with_reducible refine (sbranch_any w B t q g v ⟨a, x, y, s, p, pc, h, b⟩ n 7936 m cy ad cr HIB.out HR0.out HO.out HCY.out HAD.out HB0.out).mono ?_)
  intro e w1 hd
  obtain ⟨rfl, v1, hr, hf, hl⟩ := sdone_tr HF0.out HL0.out hd
  change StAt w1 B t q g v1 (branchS 7936 ad (⟨a, x, y, s, p, pc, h, b⟩ : S14)) ⟨7936, m, cy + branchX 7936 cr (⟨a, x, y, s, p, pc, h, b⟩ : S14), ad, cr⟩ at hr
  have HR1 := Lib.hid hr
  have HF1 := Lib.hid hf
  have HL1 := Lib.hid hl
  have HB1 := Lib.hid (Nat.le_trans HB0.out hf.size)
  clear hd hr hf hl
  clear t2
  go_wp2
  (first | go_end0 | refine bodyPost_ret (results_none rfl _ _ _) rfl ?_)
  exact ⟨rfl, v1, HR1.out, HF1.out, HL1.out⟩

set_option maxRecDepth 100000 in
set_option maxHeartbeats 1000000 in
theorem sdo8192 (w : World) (B t q g : Nat) (v : Value) (S : S14) (n : Nat) (m cy ad : Int) (cr : Bool) (H : StAt w B t q g v S ⟨8192, m, cy, ad, cr⟩) (hO : Ok n S) (hn : n + 5 < 1000000000) (had : u16 ad) (hcy : 0 ≤ cy ∧ cy < 200) (hB : B ≤ w.heap.size) :
    Calls Tryd.prog 23 #[.pointer (some ⟨t, 0, none⟩)] w (SDone w B t q g v (exS 8192 m ad S) ⟨8192, m, cy + exN 8192 cr S, ad, cr⟩ (.tuple #[])) := by
  rw [show exN 8192 cr S = branchX 8192 cr S from rfl]
  obtain ⟨a, x, y, s, p, pc, h, b⟩ := S
  have HR0 := Lib.hid H
  have HF0 : Hid (Fr (sfoot t q g v) w w) := Lib.hid (Fr.refl _ w)
  have HL0 : Hid (Lies w v v) := Lib.hid (Lies.refl w v)
  have HB0 := Lib.hid hB
  have HO := Lib.hid hO
  have HN := Lib.hid hn
  have HAD := Lib.hid had
  have HCY := Lib.hid hcy
  have HIB : Hid (isB 8192) := Lib.hid (Or.inr (Or.inl rfl))
  obtain ⟨c0, c1, c2, c3, c4, c5, c6, t0, t1⟩ := sregs HR0.out
  clear c0 c1 c2 c3 c4 c5 c6 t0 t1
  obtain ⟨t2, t3, t4, t5, t6⟩ := srow HR0.out
  clear t3 t4 t5 t6
  clear H hO hB hn hcy had
  go_enter Tryd.func23, Tryd.ntmps23
  go_wp2_with fail
  (with_reducible refine (sbranch_any w B t q g v ⟨a, x, y, s, p, pc, h, b⟩ n 8192 m cy ad cr HIB.out HR0.out HO.out HCY.out HAD.out HB0.out).mono ?_)
  intro e w1 hd
  obtain ⟨rfl, v1, hr, hf, hl⟩ := sdone_tr HF0.out HL0.out hd
  change StAt w1 B t q g v1 (branchS 8192 ad (⟨a, x, y, s, p, pc, h, b⟩ : S14)) ⟨8192, m, cy + branchX 8192 cr (⟨a, x, y, s, p, pc, h, b⟩ : S14), ad, cr⟩ at hr
  have HR1 := Lib.hid hr
  have HF1 := Lib.hid hf
  have HL1 := Lib.hid hl
  have HB1 := Lib.hid (Nat.le_trans HB0.out hf.size)
  clear hd hr hf hl
  clear t2
  go_wp2
  (first | go_end0 | refine bodyPost_ret (results_none rfl _ _ _) rfl ?_)
  exact ⟨rfl, v1, HR1.out, HF1.out, HL1.out⟩

set_option maxRecDepth 100000 in
set_option maxHeartbeats 1000000 in
theorem sdo8448 (w : World) (B t q g : Nat) (v : Value) (S : S14) (n : Nat) (m cy ad : Int) (cr : Bool) (H : StAt w B t q g v S ⟨8448, m, cy, ad, cr⟩) (hO : Ok n S) (hn : n + 5 < 1000000000) (had : u16 ad) (hcy : 0 ≤ cy ∧ cy < 200) (hB : B ≤ w.heap.size) :
    Calls Tryd.prog 23 #[.pointer (some ⟨t, 0, none⟩)] w (SDone w B t q g v (exS 8448 m ad S) ⟨8448, m, cy + exN 8448 cr S, ad, cr⟩ (.tuple #[])) := by
  rw [show exN 8448 cr S = branchX 8448 cr S from rfl]
  obtain ⟨a, x, y, s, p, pc, h, b⟩ := S
  have HR0 := Lib.hid H
  have HF0 : Hid (Fr (sfoot t q g v) w w) := Lib.hid (Fr.refl _ w)
  have HL0 : Hid (Lies w v v) := Lib.hid (Lies.refl w v)
  have HB0 := Lib.hid hB
  have HO := Lib.hid hO
  have HN := Lib.hid hn
  have HAD := Lib.hid had
  have HCY := Lib.hid hcy
  have HIB : Hid (isB 8448) := Lib.hid (Or.inr (Or.inr (Or.inl rfl)))
  obtain ⟨c0, c1, c2, c3, c4, c5, c6, t0, t1⟩ := sregs HR0.out
  clear c0 c1 c2 c3 c4 c5 c6 t0 t1
  obtain ⟨t2, t3, t4, t5, t6⟩ := srow HR0.out
  clear t3 t4 t5 t6
  clear H hO hB hn hcy had
  go_enter Tryd.func23, Tryd.ntmps23
  go_wp2_with fail
  (with_reducible refine (sbranch_any w B t q g v ⟨a, x, y, s, p, pc, h, b⟩ n 8448 m cy ad cr HIB.out HR0.out HO.out HCY.out HAD.out HB0.out).mono ?_)
  intro e w1 hd
  obtain ⟨rfl, v1, hr, hf, hl⟩ := sdone_tr HF0.out HL0.out hd
  change StAt w1 B t q g v1 (branchS 8448 ad (⟨a, x, y, s, p, pc, h, b⟩ : S14)) ⟨8448, m, cy + branchX 8448 cr (⟨a, x, y, s, p, pc, h, b⟩ : S14), ad, cr⟩ at hr
  have HR1 := Lib.hid hr
  have HF1 := Lib.hid hf
  have HL1 := Lib.hid hl
  have HB1 := Lib.hid (Nat.le_trans HB0.out hf.size)
  clear hd hr hf hl
  clear t2
  go_wp2
  (first | go_end0 | refine bodyPost_ret (results_none rfl _ _ _) rfl ?_)
  exact ⟨rfl, v1, HR1.out, HF1.out, HL1.out⟩

set_option maxRecDepth 100000 in
set_option maxHeartbeats 1000000 in
theorem sdo8704 (w : World) (B t q g : Nat) (v : Value) (S : S14) (n : Nat) (m cy ad : Int) (cr : Bool) (H : StAt w B t q g v S ⟨8704, m, cy, ad, cr⟩) (hO : Ok n S) (hn : n + 5 < 1000000000) (had : u16 ad) (hcy : 0 ≤ cy ∧ cy < 200) (hB : B ≤ w.heap.size) :
    Calls Tryd.prog 23 #[.pointer (some ⟨t, 0, none⟩)] w (SDone w B t q g v (exS 8704 m ad S) ⟨8704, m, cy + exN 8704 cr S, ad, cr⟩ (.tuple #[])) := by
  rw [show exN 8704 cr S = branchX 8704 cr S from rfl]
  obtain ⟨a, x, y, s, p, pc, h, b⟩ := S
  have HR0 := Lib.hid H
  have HF0 : Hid (Fr (sfoot t q g v) w w) := Lib.hid (Fr.refl _ w)
  have HL0 : Hid (Lies w v v) := Lib.hid (Lies.refl w v)
  have HB0 := Lib.hid hB
  have HO := Lib.hid hO
  have HN := Lib.hid hn
  have HAD := Lib.hid had
  have HCY := Lib.hid hcy
  have HIB : Hid (isB 8704) := Lib.hid (Or.inr (Or.inr (Or.inr (Or.inl rfl))))
  obtain ⟨c0, c1, c2, c3, c4, c5, c6, t0, t1⟩ := sregs HR0.out
  clear c0 c1 c2 c3 c4 c5 c6 t0 t1
  obtain ⟨t2, t3, t4, t5, t6⟩ := srow HR0.out
  clear t3 t4 t5 t6
  clear H hO hB hn hcy had
  go_enter Tryd.func23, Tryd.ntmps23
  go_wp2_with fail
  (with_reducible refine (sbranch_any w B t q g v ⟨a, x, y, s, p, pc, h, b⟩ n 8704 m cy ad cr HIB.out HR0.out HO.out HCY.out HAD.out HB0.out).mono ?_)
  intro e w1 hd
  obtain ⟨rfl, v1, hr, hf, hl⟩ := sdone_tr HF0.out HL0.out hd
  change StAt w1 B t q g v1 (branchS 8704 ad (⟨a, x, y, s, p, pc, h, b⟩ : S14)) ⟨8704, m, cy + branchX 8704 cr (⟨a, x, y, s, p, pc, h, b⟩ : S14), ad, cr⟩ at hr
  have HR1 := Lib.hid hr
  have HF1 := Lib.hid hf
  have HL1 := Lib.hid hl
  have HB1 := Lib.hid (Nat.le_trans HB0.out hf.size)
  clear hd hr hf hl
  clear t2
  go_wp2
  (first | go_end0 | refine bodyPost_ret (results_none rfl _ _ _) rfl ?_)
  exact ⟨rfl, v1, HR1.out, HF1.out, HL1.out⟩

set_option maxRecDepth 100000 in
set_option maxHeartbeats 1000000 in
theorem sdo8960 (w : World) (B t q g : Nat) (v : Value) (S : S14) (n : Nat) (m cy ad : Int) (cr : Bool) (H : StAt w B t q g v S ⟨8960, m, cy, ad, cr⟩) (hO : Ok n S) (hn : n + 5 < 1000000000) (had : u16 ad) (hcy : 0 ≤ cy ∧ cy < 200) (hB : B ≤ w.heap.size) :
    Calls Tryd.prog 23 #[.pointer (some ⟨t, 0, none⟩)] w (SDone w B t q g v (exS 8960 m ad S) ⟨8960, m, cy + exN 8960 cr S, ad, cr⟩ (.tuple #[])) := by
  rw [show exN 8960 cr S = branchX 8960 cr S from rfl]
  obtain ⟨a, x, y, s, p, pc, h, b⟩ := S
  have HR0 := Lib.hid H
  have HF0 : Hid (Fr (sfoot t q g v) w w) := Lib.hid (Fr.refl _ w)
  have HL0 : Hid (Lies w v v) := Lib.hid (Lies.refl w v)
  have HB0 := Lib.hid hB
  have HO := Lib.hid hO
  have HN := Lib.hid hn
  have HAD := Lib.hid had
  have HCY := Lib.hid hcy
  have HIB : Hid (isB 8960) := Lib.hid (Or.inr (Or.inr (Or.inr (Or.inr (Or.inl rfl)))))
  obtain ⟨c0, c1, c2, c3, c4, c5, c6, t0, t1⟩ := sregs HR0.out
  clear c0 c1 c2 c3 c4 c5 c6 t0 t1
  obtain ⟨t2, t3, t4, t5, t6⟩ := srow HR0.out
  clear t3 t4 t5 t6
  clear H hO hB hn hcy had
  go_enter Tryd.func23, Tryd.ntmps23
  go_wp2_with fail
  (with_reducible refine (sbranch_any w B t q g v ⟨a, x, y, s, p, pc, h, b⟩ n 8960 m cy ad cr HIB.out HR0.out HO.out HCY.out HAD.out HB0.out).mono ?_)
  intro e w1 hd
  obtain ⟨rfl, v1, hr, hf, hl⟩ := sdone_tr HF0.out HL0.out hd
  change StAt w1 B t q g v1 (branchS 8960 ad (⟨a, x, y, s, p, pc, h, b⟩ : S14)) ⟨8960, m, cy + branchX 8960 cr (⟨a, x, y, s, p, pc, h, b⟩ : S14), ad, cr⟩ at hr
  have HR1 := Lib.hid hr
  have HF1 := Lib.hid hf
  have HL1 := Lib.hid hl
  have HB1 := Lib.hid (Nat.le_trans HB0.out hf.size)
  clear hd hr hf hl
  clear t2
  go_wp2
  (first | go_end0 | refine bodyPost_ret (results_none rfl _ _ _) rfl ?_)
  exact ⟨rfl, v1, HR1.out, HF1.out, HL1.out⟩

set_option maxRecDepth 100000 in
set_option maxHeartbeats 1000000 in
theorem sdo9216 (w : World) (B t q g : Nat) (v : Value) (S : S14) (n : Nat) (m cy ad : Int) (cr : Bool) (H : StAt w B t q g v S ⟨9216, m, cy, ad, cr⟩) (hO : Ok n S) (hn : n + 5 < 1000000000) (had : u16 ad) (hcy : 0 ≤ cy ∧ cy < 200) (hB : B ≤ w.heap.size) :
    Calls Tryd.prog 23 #[.pointer (some ⟨t, 0, none⟩)] w (SDone w B t q g v (exS 9216 m ad S) ⟨9216, m, cy + exN 9216 cr S, ad, cr⟩ (.tuple #[])) := by
  rw [show exN 9216 cr S = branchX 9216 cr S from rfl]
  obtain ⟨a, x, y, s, p, pc, h, b⟩ := S
  have HR0 := Lib.hid H
  have HF0 : Hid (Fr (sfoot t q g v) w w) := Lib.hid (Fr.refl _ w)
  have HL0 : Hid (Lies w v v) := Lib.hid (Lies.refl w v)
  have HB0 := Lib.hid hB
  have HO := Lib.hid hO
  have HN := Lib.hid hn
  have HAD := Lib.hid had
  have HCY := Lib.hid hcy
  have HIB : Hid (isB 9216) := Lib.hid (Or.inr (Or.inr (Or.inr (Or.inr (Or.inr (Or.inl rfl))))))
  obtain ⟨c0, c1, c2, c3, c4, c5, c6, t0, t1⟩ := sregs HR0.out
  clear c0 c1 c2 c3 c4 c5 c6 t0 t1
  obtain ⟨t2, t3, t4, t5, t6⟩ := srow HR0.out
  clear t3 t4 t5 t6
  clear H hO hB hn hcy had
  go_enter Tryd.func23, Tryd.ntmps23
  go_wp2_with fail
  (with_reducible refine (sbranch_any w B t q g v ⟨a, x, y, s, p, pc, h, b⟩ n 9216 m cy ad cr HIB.out HR0.out HO.out HCY.out HAD.out HB0.out).mono ?_)
  intro e w1 hd
  obtain ⟨rfl, v1, hr, hf, hl⟩ := sdone_tr HF0.out HL0.out hd
  change StAt w1 B t q g v1 (branchS 9216 ad (⟨a, x, y, s, p, pc, h, b⟩ : S14)) ⟨9216, m, cy + branchX 9216 cr (⟨a, x, y, s, p, pc, h, b⟩ : S14), ad, cr⟩ at hr
  have HR1 := Lib.hid hr
  have HF1 := Lib.hid hf
  have HL1 := Lib.hid hl
  have HB1 := Lib.hid (Nat.le_trans HB0.out hf.size)
  clear hd hr hf hl
  clear t2
  go_wp2
  (first | go_end0 | refine bodyPost_ret (results_none rfl _ _ _) rfl ?_)
  exact ⟨rfl, v1, HR1.out, HF1.out, HL1.out⟩

set_option maxRecDepth 100000 in
set_option maxHeartbeats 1000000 in
theorem sdo9472 (w : World) (B t q g : Nat) (v : Value) (S : S14) (n : Nat) (m cy ad : Int) (cr : Bool) (H : StAt w B t q g v S ⟨9472, m, cy, ad, cr⟩) (hO : Ok n S) (hn : n + 5 < 1000000000) (had : u16 ad) (hcy : 0 ≤ cy ∧ cy < 200) (hB : B ≤ w.heap.size) :
    Calls Tryd.prog 23 #[.pointer (some ⟨t, 0, none⟩)] w (SDone w B t q g v (exS 9472 m ad S) ⟨9472, m, cy + exN 9472 cr S, ad, cr⟩ (.tuple #[])) := by
  rw [show exN 9472 cr S = branchX 9472 cr S from rfl]
  obtain ⟨a, x, y, s, p, pc, h, b⟩ := S
  have HR0 := Lib.hid H
  have HF0 : Hid (Fr (sfoot t q g v) w w) := Lib.hid (Fr.refl _ w)
  have HL0 : Hid (Lies w v v) := Lib.hid (Lies.refl w v)
  have HB0 := Lib.hid hB
  have HO := Lib.hid hO
  have HN := Lib.hid hn
  have HAD := Lib.hid had
  have HCY := Lib.hid hcy
  have HIB : Hid (isB 9472) := Lib.hid (Or.inr (Or.inr (Or.inr (Or.inr (Or.inr (Or.inr (Or.inl rfl)))))))
  obtain ⟨c0, c1, c2, c3, c4, c5, c6, t0, t1⟩ := sregs HR0.out
  clear c0 c1 c2 c3 c4 c5 c6 t0 t1
  obtain ⟨t2, t3, t4, t5, t6⟩ := srow HR0.out
  clear t3 t4 t5 t6
  clear H hO hB hn hcy had
  go_enter Tryd.func23, Tryd.ntmps23
  go_wp2_with fail
  (with_reducible refine (sbranch_any w B t q g v ⟨a, x, y, s, p, pc, h, b⟩ n 9472 m cy ad cr HIB.out HR0.out HO.out HCY.out HAD.out HB0.out).mono ?_)
  intro e w1 hd
  obtain ⟨rfl, v1, hr, hf, hl⟩ := sdone_tr HF0.out HL0.out hd
  change StAt w1 B t q g v1 (branchS 9472 ad (⟨a, x, y, s, p, pc, h, b⟩ : S14)) ⟨9472, m, cy + branchX 9472 cr (⟨a, x, y, s, p, pc, h, b⟩ : S14), ad, cr⟩ at hr
  have HR1 := Lib.hid hr
  have HF1 := Lib.hid hf
  have HL1 := Lib.hid hl
  have HB1 := Lib.hid (Nat.le_trans HB0.out hf.size)
  clear hd hr hf hl
  clear t2
  go_wp2
  (first | go_end0 | refine bodyPost_ret (results_none rfl _ _ _) rfl ?_)
  exact ⟨rfl, v1, HR1.out, HF1.out, HL1.out⟩

set_option maxRecDepth 100000 in
set_option maxHeartbeats 1000000 in
theorem sdo9728 (w : World) (B t q g : Nat) (v : Value) (S : S14) (n : Nat) (m cy ad : Int) (cr : Bool) (H : StAt w B t q g v S ⟨9728, m, cy, ad, cr⟩) (hO : Ok n S) (hn : n + 5 < 1000000000) (had : u16 ad) (hcy : 0 ≤ cy ∧ cy < 200) (hB : B ≤ w.heap.size) :
    Calls Tryd.prog 23 #[.pointer (some ⟨t, 0, none⟩)] w (SDone w B t q g v (exS 9728 m ad S) ⟨9728, m, cy + exN 9728 cr S, ad, cr⟩ (.tuple #[])) := by
  rw [show exN 9728 cr S = branchX 9728 cr S from rfl]
  obtain ⟨a, x, y, s, p, pc, h, b⟩ := S
  have HR0 := Lib.hid H
  have HF0 : Hid (Fr (sfoot t q g v) w w) := Lib.hid (Fr.refl _ w)
  have HL0 : Hid (Lies w v v) := Lib.hid (Lies.refl w v)
  have HB0 := Lib.hid hB
  have HO := Lib.hid hO
  have HN := Lib.hid hn
  have HAD := Lib.hid had
  have HCY := Lib.hid hcy
  have HIB : Hid (isB 9728) := Lib.hid (Or.inr (Or.inr (Or.inr (Or.inr (Or.inr (Or.inr (Or.inr (rfl))))))))
  obtain ⟨c0, c1, c2, c3, c4, c5, c6, t0, t1⟩ := sregs HR0.out
  clear c0 c1 c2 c3 c4 c5 c6 t0 t1
  obtain ⟨t2, t3, t4, t5, t6⟩ := srow HR0.out
  clear t3 t4 t5 t6
  clear H hO hB hn hcy had
  go_enter Tryd.func23, Tryd.ntmps23
  go_wp2_with fail
  (with_reducible refine (sbranch_any w B t q g v ⟨a, x, y, s, p, pc, h, b⟩ n 9728 m cy ad cr HIB.out HR0.out HO.out HCY.out HAD.out HB0.out).mono ?_)
  intro e w1 hd
  obtain ⟨rfl, v1, hr, hf, hl⟩ := sdone_tr HF0.out HL0.out hd
  change StAt w1 B t q g v1 (branchS 9728 ad (⟨a, x, y, s, p, pc, h, b⟩ : S14)) ⟨9728, m, cy + branchX 9728 cr (⟨a, x, y, s, p, pc, h, b⟩ : S14), ad, cr⟩ at hr
  have HR1 := Lib.hid hr
  have HF1 := Lib.hid hf
  have HL1 := Lib.hid hl
  have HB1 := Lib.hid (Nat.le_trans HB0.out hf.size)
  clear hd hr hf hl
  clear t2
  go_wp2
  (first | go_end0 | refine bodyPost_ret (results_none rfl _ _ _) rfl ?_)
  exact ⟨rfl, v1, HR1.out, HF1.out, HL1.out⟩

set_option maxRecDepth 100000 in
set_option maxHeartbeats 1000000 in
theorem sdo9984 (w : World) (B t q g : Nat) (v : Value) (S : S14) (n : Nat) (m cy ad : Int) (cr : Bool) (H : StAt w B t q g v S ⟨9984, m, cy, ad, cr⟩) (hO : Ok n S) (hn : n + 5 < 1000000000) (had : u16 ad) (hcy : 0 ≤ cy ∧ cy < 200) (hB : B ≤ w.heap.size) :
    Calls Tryd.prog 23 #[.pointer (some ⟨t, 0, none⟩)] w (SDone w B t q g v (exS 9984 m ad S) ⟨9984, m, cy + exN 9984 cr S, ad, cr⟩ (.tuple #[])) := by
  rw [show cy + exN 9984 cr S = cy by simp [exN]]
  obtain ⟨a, x, y, s, p, pc, h, b⟩ := S
  have HR0 := Lib.hid H
  have HF0 : Hid (Fr (sfoot t q g v) w w) := Lib.hid (Fr.refl _ w)
  have HL0 : Hid (Lies w v v) := Lib.hid (Lies.refl w v)
  have HB0 := Lib.hid hB
  have HO := Lib.hid hO
  have HN := Lib.hid hn
  have HAD := Lib.hid had
  have HCY := Lib.hid hcy
  obtain ⟨c0, c1, c2, c3, c4, c5, c6, t0, t1⟩ := sregs HR0.out
  clear c0 c1 c2 c3 c4 c5 c6 t0 t1
  obtain ⟨t2, t3, t4, t5, t6⟩ := srow HR0.out
  clear t3 t4 t5 t6
  clear H hO hB hn hcy had
  go_enter Tryd.func23, Tryd.ntmps23
  go_wp2_with fail
  (with_reducible refine (sflag9984 w B t q g v ⟨a, x, y, s, p, pc, h, b⟩ n m cy ad cr HR0.out HO.out HB0.out).mono ?_)
  intro e w1 hd
  obtain ⟨rfl, v1, hr, hf, hl⟩ := sdone_tr HF0.out HL0.out hd
  change StAt w1 B t q g v1 (flagS 9984 (⟨a, x, y, s, p, pc, h, b⟩ : S14)) ⟨9984, m, cy, ad, cr⟩ at hr
  have HR1 := Lib.hid hr
  have HF1 := Lib.hid hf
  have HL1 := Lib.hid hl
  have HB1 := Lib.hid (Nat.le_trans HB0.out hf.size)
  clear hd hr hf hl
  clear t2
  go_wp2
  (first | go_end0 | refine bodyPost_ret (results_none rfl _ _ _) rfl ?_)
  exact ⟨rfl, v1, HR1.out, HF1.out, HL1.out⟩

set_option maxRecDepth 100000 in
set_option maxHeartbeats 1000000 in
theorem sdo10240 (w : World) (B t q g : Nat) (v : Value) (S : S14) (n : Nat) (m cy ad : Int) (cr : Bool) (H : StAt w B t q g v S ⟨10240, m, cy, ad, cr⟩) (hO : Ok n S) (hn : n + 5 < 1000000000) (had : u16 ad) (hcy : 0 ≤ cy ∧ cy < 200) (hB : B ≤ w.heap.size) :
    Calls Tryd.prog 23 #[.pointer (some ⟨t, 0, none⟩)] w (SDone w B t q g v (exS 10240 m ad S) ⟨10240, m, cy + exN 10240 cr S, ad, cr⟩ (.tuple #[])) := by
  rw [show cy + exN 10240 cr S = cy by simp [exN]]
  obtain ⟨a, x, y, s, p, pc, h, b⟩ := S
  have HR0 := Lib.hid H
  have HF0 : Hid (Fr (sfoot t q g v) w w) := Lib.hid (Fr.refl _ w)
  have HL0 : Hid (Lies w v v) := Lib.hid (Lies.refl w v)
  have HB0 := Lib.hid hB
  have HO := Lib.hid hO
  have HN := Lib.hid hn
  have HAD := Lib.hid had
  have HCY := Lib.hid hcy
  obtain ⟨c0, c1, c2, c3, c4, c5, c6, t0, t1⟩ := sregs HR0.out
  clear c0 c1 c2 c3 c4 c5 c6 t0 t1
  obtain ⟨t2, t3, t4, t5, t6⟩ := srow HR0.out
  clear t3 t4 t5 t6
  clear H hO hB hn hcy had
  go_enter Tryd.func23, Tryd.ntmps23
  go_wp2_with fail
  (with_reducible refine (sflag10240 w B t q g v ⟨a, x, y, s, p, pc, h, b⟩ n m cy ad cr HR0.out HO.out HB0.out).mono ?_)
  intro e w1 hd
  obtain ⟨rfl, v1, hr, hf, hl⟩ := sdone_tr HF0.out HL0.out hd
  change StAt w1 B t q g v1 (flagS 10240 (⟨a, x, y, s, p, pc, h, b⟩ : S14)) ⟨10240, m, cy, ad, cr⟩ at hr
  have HR1 := Lib.hid hr
  have HF1 := Lib.hid hf
  have HL1 := Lib.hid hl
  have HB1 := Lib.hid (Nat.le_trans HB0.out hf.size)
  clear hd hr hf hl
  clear t2
  go_wp2
  (first | go_end0 | refine bodyPost_ret (results_none rfl _ _ _) rfl ?_)
  exact ⟨rfl, v1, HR1.out, HF1.out, HL1.out⟩

set_option maxRecDepth 100000 in
set_option maxHeartbeats 1000000 in
theorem sdo10496 (w : World) (B t q g : Nat) (v : Value) (S : S14) (n : Nat) (m cy ad : Int) (cr : Bool) (H : StAt w B t q g v S ⟨10496, m, cy, ad, cr⟩) (hO : Ok n S) (hn : n + 5 < 1000000000) (had : u16 ad) (hcy : 0 ≤ cy ∧ cy < 200) (hB : B ≤ w.heap.size) :
    Calls Tryd.prog 23 #[.pointer (some ⟨t, 0, none⟩)] w (SDone w B t q g v (exS 10496 m ad S) ⟨10496, m, cy + exN 10496 cr S, ad, cr⟩ (.tuple #[])) := by
  rw [show cy + exN 10496 cr S = cy by simp [exN]]
  obtain ⟨a, x, y, s, p, pc, h, b⟩ := S
  have HR0 := Lib.hid H
  have HF0 : Hid (Fr (sfoot t q g v) w w) := Lib.hid (Fr.refl _ w)
  have HL0 : Hid (Lies w v v) := Lib.hid (Lies.refl w v)
  have HB0 := Lib.hid hB
  have HO := Lib.hid hO
  have HN := Lib.hid hn
  have HAD := Lib.hid had
  have HCY := Lib.hid hcy
  obtain ⟨c0, c1, c2, c3, c4, c5, c6, t0, t1⟩ := sregs HR0.out
  clear c0 c1 c2 c3 c4 c5 c6 t0 t1
  obtain ⟨t2, t3, t4, t5, t6⟩ := srow HR0.out
  clear t3 t4 t5 t6
  clear H hO hB hn hcy had
  go_enter Tryd.func23, Tryd.ntmps23
  go_wp2_with fail
  (with_reducible refine (sflag10496 w B t q g v ⟨a, x, y, s, p, pc, h, b⟩ n m cy ad cr HR0.out HO.out HB0.out).mono ?_)
  intro e w1 hd
  obtain ⟨rfl, v1, hr, hf, hl⟩ := sdone_tr HF0.out HL0.out hd
  change StAt w1 B t q g v1 (flagS 10496 (⟨a, x, y, s, p, pc, h, b⟩ : S14)) ⟨10496, m, cy, ad, cr⟩ at hr
  have HR1 := Lib.hid hr
  have HF1 := Lib.hid hf
  have HL1 := Lib.hid hl
  have HB1 := Lib.hid (Nat.le_trans HB0.out hf.size)
  clear hd hr hf hl
  clear t2
  go_wp2
  (first | go_end0 | refine bodyPost_ret (results_none rfl _ _ _) rfl ?_)
  exact ⟨rfl, v1, HR1.out, HF1.out, HL1.out⟩

set_option maxRecDepth 100000 in
set_option maxHeartbeats 1000000 in
theorem sdo10752 (w : World) (B t q g : Nat) (v : Value) (S : S14) (n : Nat) (m cy ad : Int) (cr : Bool) (H : StAt w B t q g v S ⟨10752, m, cy, ad, cr⟩) (hO : Ok n S) (hn : n + 5 < 1000000000) (had : u16 ad) (hcy : 0 ≤ cy ∧ cy < 200) (hB : B ≤ w.heap.size) :
    Calls Tryd.prog 23 #[.pointer (some ⟨t, 0, none⟩)] w (SDone w B t q g v (exS 10752 m ad S) ⟨10752, m, cy + exN 10752 cr S, ad, cr⟩ (.tuple #[])) := by
  rw [show cy + exN 10752 cr S = cy by simp [exN]]
  obtain ⟨a, x, y, s, p, pc, h, b⟩ := S
  have HR0 := Lib.hid H
  have HF0 : Hid (Fr (sfoot t q g v) w w) := Lib.hid (Fr.refl _ w)
  have HL0 : Hid (Lies w v v) := Lib.hid (Lies.refl w v)
  have HB0 := Lib.hid hB
  have HO := Lib.hid hO
  have HN := Lib.hid hn
  have HAD := Lib.hid had
  have HCY := Lib.hid hcy
  obtain ⟨c0, c1, c2, c3, c4, c5, c6, t0, t1⟩ := sregs HR0.out
  clear c0 c1 c2 c3 c4 c5 c6 t0 t1
  obtain ⟨t2, t3, t4, t5, t6⟩ := srow HR0.out
  clear t3 t4 t5 t6
  clear H hO hB hn hcy had
  go_enter Tryd.func23, Tryd.ntmps23
  go_wp2_with fail
  (with_reducible refine (sflag10752 w B t q g v ⟨a, x, y, s, p, pc, h, b⟩ n m cy ad cr HR0.out HO.out HB0.out).mono ?_)
  intro e w1 hd
  obtain ⟨rfl, v1, hr, hf, hl⟩ := sdone_tr HF0.out HL0.out hd
  change StAt w1 B t q g v1 (flagS 10752 (⟨a, x, y, s, p, pc, h, b⟩ : S14)) ⟨10752, m, cy, ad, cr⟩ at hr
  have HR1 := Lib.hid hr
  have HF1 := Lib.hid hf
  have HL1 := Lib.hid hl
  have HB1 := Lib.hid (Nat.le_trans HB0.out hf.size)
  clear hd hr hf hl
  clear t2
  go_wp2
  (first | go_end0 | refine bodyPost_ret (results_none rfl _ _ _) rfl ?_)
  exact ⟨rfl, v1, HR1.out, HF1.out, HL1.out⟩

set_option maxRecDepth 100000 in
set_option maxHeartbeats 1000000 in
theorem sdo11008 (w : World) (B t q g : Nat) (v : Value) (S : S14) (n : Nat) (m cy ad : Int) (cr : Bool) (H : StAt w B t q g v S ⟨11008, m, cy, ad, cr⟩) (hO : Ok n S) (hn : n + 5 < 1000000000) (had : u16 ad) (hcy : 0 ≤ cy ∧ cy < 200) (hB : B ≤ w.heap.size) :
    Calls Tryd.prog 23 #[.pointer (some ⟨t, 0, none⟩)] w (SDone w B t q g v (exS 11008 m ad S) ⟨11008, m, cy + exN 11008 cr S, ad, cr⟩ (.tuple #[])) := by
  rw [show cy + exN 11008 cr S = cy by simp [exN]]
  obtain ⟨a, x, y, s, p, pc, h, b⟩ := S
  have HR0 := Lib.hid H
  have HF0 : Hid (Fr (sfoot t q g v) w w) := Lib.hid (Fr.refl _ w)
  have HL0 : Hid (Lies w v v) := Lib.hid (Lies.refl w v)
  have HB0 := Lib.hid hB
  have HO := Lib.hid hO
  have HN := Lib.hid hn
  have HAD := Lib.hid had
  have HCY := Lib.hid hcy
  obtain ⟨c0, c1, c2, c3, c4, c5, c6, t0, t1⟩ := sregs HR0.out
  clear c0 c1 c2 c3 c4 c5 c6 t0 t1
  obtain ⟨t2, t3, t4, t5, t6⟩ := srow HR0.out
  clear t3 t4 t5 t6
  clear H hO hB hn hcy had
  go_enter Tryd.func23, Tryd.ntmps23
  go_wp2_with fail
  (with_reducible refine (sflag11008 w B t q g v ⟨a, x, y, s, p, pc, h, b⟩ n m cy ad cr HR0.out HO.out HB0.out).mono ?_)
  intro e w1 hd
  obtain ⟨rfl, v1, hr, hf, hl⟩ := sdone_tr HF0.out HL0.out hd
  change StAt w1 B t q g v1 (flagS 11008 (⟨a, x, y, s, p, pc, h, b⟩ : S14)) ⟨11008, m, cy, ad, cr⟩ at hr
  have HR1 := Lib.hid hr
  have HF1 := Lib.hid hf
  have HL1 := Lib.hid hl
  have HB1 := Lib.hid (Nat.le_trans HB0.out hf.size)
  clear hd hr hf hl
  clear t2
  go_wp2
  (first | go_end0 | refine bodyPost_ret (results_none rfl _ _ _) rfl ?_)
  exact ⟨rfl, v1, HR1.out, HF1.out, HL1.out⟩

set_option maxRecDepth 100000 in
set_option maxHeartbeats 1000000 in
theorem sdo11264 (w : World) (B t q g : Nat) (v : Value) (S : S14) (n : Nat) (m cy ad : Int) (cr : Bool) (H : StAt w B t q g v S ⟨11264, m, cy, ad, cr⟩) (hO : Ok n S) (hn : n + 5 < 1000000000) (had : u16 ad) (hcy : 0 ≤ cy ∧ cy < 200) (hB : B ≤ w.heap.size) :
    Calls Tryd.prog 23 #[.pointer (some ⟨t, 0, none⟩)] w (SDone w B t q g v (exS 11264 m ad S) ⟨11264, m, cy + exN 11264 cr S, ad, cr⟩ (.tuple #[])) := by
  rw [show cy + exN 11264 cr S = cy by simp [exN]]
  obtain ⟨a, x, y, s, p, pc, h, b⟩ := S
  have HR0 := Lib.hid H
  have HF0 : Hid (Fr (sfoot t q g v) w w) := Lib.hid (Fr.refl _ w)
  have HL0 : Hid (Lies w v v) := Lib.hid (Lies.refl w v)
  have HB0 := Lib.hid hB
  have HO := Lib.hid hO
  have HN := Lib.hid hn
  have HAD := Lib.hid had
  have HCY := Lib.hid hcy
  obtain ⟨c0, c1, c2, c3, c4, c5, c6, t0, t1⟩ := sregs HR0.out
  clear c0 c1 c2 c3 c4 c5 c6 t0 t1
  obtain ⟨t2, t3, t4, t5, t6⟩ := srow HR0.out
  clear t3 t4 t5 t6
  clear H hO hB hn hcy had
  go_enter Tryd.func23, Tryd.ntmps23
  go_wp2_with fail
  (with_reducible refine (sflag11264 w B t q g v ⟨a, x, y, s, p, pc, h, b⟩ n m cy ad cr HR0.out HO.out HB0.out).mono ?_)
  intro e w1 hd
  obtain ⟨rfl, v1, hr, hf, hl⟩ := sdone_tr HF0.out HL0.out hd
  change StAt w1 B t q g v1 (flagS 11264 (⟨a, x, y, s, p, pc, h, b⟩ : S14)) ⟨11264, m, cy, ad, cr⟩ at hr
  have HR1 := Lib.hid hr
  have HF1 := Lib.hid hf
  have HL1 := Lib.hid hl
  have HB1 := Lib.hid (Nat.le_trans HB0.out hf.size)
  clear hd hr hf hl
  clear t2
  go_wp2
  (first | go_end0 | refine bodyPost_ret (results_none rfl _ _ _) rfl ?_)
  exact ⟨rfl, v1, HR1.out, HF1.out, HL1.out⟩

set_option maxRecDepth 100000 in
set_option maxHeartbeats 1000000 in
theorem sdo11520 (w : World) (B t q g : Nat) (v : Value) (S : S14) (n : Nat) (m cy ad : Int) (cr : Bool) (H : StAt w B t q g v S ⟨11520, m, cy, ad, cr⟩) (hO : Ok n S) (hn : n + 5 < 1000000000) (had : u16 ad) (hcy : 0 ≤ cy ∧ cy < 200) (hB : B ≤ w.heap.size) :
    Calls Tryd.prog 23 #[.pointer (some ⟨t, 0, none⟩)] w (SDone w B t q g v (exS 11520 m ad S) ⟨11520, m, cy + exN 11520 cr S, ad, cr⟩ (.tuple #[])) := by
  rw [show cy + exN 11520 cr S = cy by simp [exN]]
  obtain ⟨a, x, y, s, p, pc, h, b⟩ := S
  have HR0 := Lib.hid H
  have HF0 : Hid (Fr (sfoot t q g v) w w) := Lib.hid (Fr.refl _ w)
  have HL0 : Hid (Lies w v v) := Lib.hid (Lies.refl w v)
  have HB0 := Lib.hid hB
  have HO := Lib.hid hO
  have HN := Lib.hid hn
  have HAD := Lib.hid had
  have HCY := Lib.hid hcy
  obtain ⟨c0, c1, c2, c3, c4, c5, c6, t0, t1⟩ := sregs HR0.out
  clear c0 c1 c2 c3 c4 c5 c6 t0 t1
  obtain ⟨t2, t3, t4, t5, t6⟩ := srow HR0.out
  clear t3 t4 t5 t6
  clear H hO hB hn hcy had
  go_enter Tryd.func23, Tryd.ntmps23
  go_wp2_with fail
  (with_reducible refine (sflag11520 w B t q g v ⟨a, x, y, s, p, pc, h, b⟩ n m cy ad cr HR0.out HO.out HB0.out).mono ?_)
  intro e w1 hd
  obtain ⟨rfl, v1, hr, hf, hl⟩ := sdone_tr HF0.out HL0.out hd
  change StAt w1 B t q g v1 (flagS 11520 (⟨a, x, y, s, p, pc, h, b⟩ : S14)) ⟨11520, m, cy, ad, cr⟩ at hr
  have HR1 := Lib.hid hr
  have HF1 := Lib.hid hf
  have HL1 := Lib.hid hl
  have HB1 := Lib.hid (Nat.le_trans HB0.out hf.size)
  clear hd hr hf hl
  clear t2
  go_wp2
  (first | go_end0 | refine bodyPost_ret (results_none rfl _ _ _) rfl ?_)
  exact ⟨rfl, v1, HR1.out, HF1.out, HL1.out⟩

set_option maxRecDepth 100000 in
set_option maxHeartbeats 1000000 in
theorem sdo12800 (w : World) (B t q g : Nat) (v : Value) (S : S14) (n : Nat) (m cy ad : Int) (cr : Bool) (H : StAt w B t q g v S ⟨12800, m, cy, ad, cr⟩) (hO : Ok n S) (hn : n + 5 < 1000000000) (had : u16 ad) (hcy : 0 ≤ cy ∧ cy < 200) (hB : B ≤ w.heap.size) :
    Calls Tryd.prog 23 #[.pointer (some ⟨t, 0, none⟩)] w (SDone w B t q g v (exS 12800 m ad S) ⟨12800, m, cy + exN 12800 cr S, ad, cr⟩ (.tuple #[])) := by
  rw [show cy + exN 12800 cr S = cy by simp [exN]]
  obtain ⟨a, x, y, s, p, pc, h, b⟩ := S
  have HR0 := Lib.hid H
  have HF0 : Hid (Fr (sfoot t q g v) w w) := Lib.hid (Fr.refl _ w)
  have HL0 : Hid (Lies w v v) := Lib.hid (Lies.refl w v)
  have HB0 := Lib.hid hB
  have HO := Lib.hid hO
  have HN := Lib.hid hn
  have HAD := Lib.hid had
  have HCY := Lib.hid hcy
  obtain ⟨c0, c1, c2, c3, c4, c5, c6, t0, t1⟩ := sregs HR0.out
  clear c0 c1 c2 c3 c4 c5 c6 t0 t1
  obtain ⟨t2, t3, t4, t5, t6⟩ := srow HR0.out
  clear t3 t4 t5 t6
  clear H hO hB hn hcy had
  go_enter Tryd.func23, Tryd.ntmps23
  go_wp2_with fail
  (with_reducible refine (sstack12800 w B t q g v ⟨a, x, y, s, p, pc, h, b⟩ n m cy ad cr HR0.out HO.out (by have := HN.out; omega) HB0.out).mono ?_)
  intro e w1 hd
  obtain ⟨rfl, v1, hr, hf, hl⟩ := sdone_tr HF0.out HL0.out hd
  change StAt w1 B t q g v1 (stackS 12800 (⟨a, x, y, s, p, pc, h, b⟩ : S14)) ⟨12800, m, cy, ad, cr⟩ at hr
  have HR1 := Lib.hid hr
  have HF1 := Lib.hid hf
  have HL1 := Lib.hid hl
  have HB1 := Lib.hid (Nat.le_trans HB0.out hf.size)
  clear hd hr hf hl
  clear t2
  go_wp2
  (first | go_end0 | refine bodyPost_ret (results_none rfl _ _ _) rfl ?_)
  exact ⟨rfl, v1, HR1.out, HF1.out, HL1.out⟩

set_option maxRecDepth 100000 in
set_option maxHeartbeats 1000000 in
theorem sdo13056 (w : World) (B t q g : Nat) (v : Value) (S : S14) (n : Nat) (m cy ad : Int) (cr : Bool) (H : StAt w B t q g v S ⟨13056, m, cy, ad, cr⟩) (hO : Ok n S) (hn : n + 5 < 1000000000) (had : u16 ad) (hcy : 0 ≤ cy ∧ cy < 200) (hB : B ≤ w.heap.size) :
    Calls Tryd.prog 23 #[.pointer (some ⟨t, 0, none⟩)] w (SDone w B t q g v (exS 13056 m ad S) ⟨13056, m, cy + exN 13056 cr S, ad, cr⟩ (.tuple #[])) := by
  rw [show cy + exN 13056 cr S = cy by simp [exN]]
  obtain ⟨a, x, y, s, p, pc, h, b⟩ := S
  have HR0 := Lib.hid H
  have HF0 : Hid (Fr (sfoot t q g v) w w) := Lib.hid (Fr.refl _ w)
  have HL0 : Hid (Lies w v v) := Lib.hid (Lies.refl w v)
  have HB0 := Lib.hid hB
  have HO := Lib.hid hO
  have HN := Lib.hid hn
  have HAD := Lib.hid had
  have HCY := Lib.hid hcy
  obtain ⟨c0, c1, c2, c3, c4, c5, c6, t0, t1⟩ := sregs HR0.out
  clear c0 c1 c2 c3 c4 c5 c6 t0 t1
  obtain ⟨t2, t3, t4, t5, t6⟩ := srow HR0.out
  clear t3 t4 t5 t6
  clear H hO hB hn hcy had
  go_enter Tryd.func23, Tryd.ntmps23
  go_wp2_with fail
  (with_reducible refine (sstack13056 w B t q g v ⟨a, x, y, s, p, pc, h, b⟩ n m cy ad cr HR0.out HO.out (by have := HN.out; omega) HB0.out).mono ?_)
  intro e w1 hd
  obtain ⟨rfl, v1, hr, hf, hl⟩ := sdone_tr HF0.out HL0.out hd
  change StAt w1 B t q g v1 (stackS 13056 (⟨a, x, y, s, p, pc, h, b⟩ : S14)) ⟨13056, m, cy, ad, cr⟩ at hr
  have HR1 := Lib.hid hr
  have HF1 := Lib.hid hf
  have HL1 := Lib.hid hl
  have HB1 := Lib.hid (Nat.le_trans HB0.out hf.size)
  clear hd hr hf hl
  clear t2
  go_wp2
  (first | go_end0 | refine bodyPost_ret (results_none rfl _ _ _) rfl ?_)
  exact ⟨rfl, v1, HR1.out, HF1.out, HL1.out⟩

set_option maxRecDepth 100000 in
set_option maxHeartbeats 1000000 in
theorem sdo13312 (w : World) (B t q g : Nat) (v : Value) (S : S14) (n : Nat) (m cy ad : Int) (cr : Bool) (H : StAt w B t q g v S ⟨13312, m, cy, ad, cr⟩) (hO : Ok n S) (hn : n + 5 < 1000000000) (had : u16 ad) (hcy : 0 ≤ cy ∧ cy < 200) (hB : B ≤ w.heap.size) :
    Calls Tryd.prog 23 #[.pointer (some ⟨t, 0, none⟩)] w (SDone w B t q g v (exS 13312 m ad S) ⟨13312, m, cy + exN 13312 cr S, ad, cr⟩ (.tuple #[])) := by
  rw [show cy + exN 13312 cr S = cy by simp [exN]]
  obtain ⟨a, x, y, s, p, pc, h, b⟩ := S
  have HR0 := Lib.hid H
  have HF0 : Hid (Fr (sfoot t q g v) w w) := Lib.hid (Fr.refl _ w)
  have HL0 : Hid (Lies w v v) := Lib.hid (Lies.refl w v)
  have HB0 := Lib.hid hB
  have HO := Lib.hid hO
  have HN := Lib.hid hn
  have HAD := Lib.hid had
  have HCY := Lib.hid hcy
  obtain ⟨c0, c1, c2, c3, c4, c5, c6, t0, t1⟩ := sregs HR0.out
  clear c0 c1 c2 c3 c4 c5 c6 t0 t1
  obtain ⟨t2, t3, t4, t5, t6⟩ := srow HR0.out
  clear t3 t4 t5 t6
  clear H hO hB hn hcy had
  go_enter Tryd.func23, Tryd.ntmps23
  go_wp2_with fail
  (with_reducible refine (sstack13312 w B t q g v ⟨a, x, y, s, p, pc, h, b⟩ n m cy ad cr HR0.out HO.out (by have := HN.out; omega) HB0.out).mono ?_)
  intro e w1 hd
  obtain ⟨rfl, v1, hr, hf, hl⟩ := sdone_tr HF0.out HL0.out hd
  change StAt w1 B t q g v1 (stackS 13312 (⟨a, x, y, s, p, pc, h, b⟩ : S14)) ⟨13312, m, cy, ad, cr⟩ at hr
  have HR1 := Lib.hid hr
  have HF1 := Lib.hid hf
  have HL1 := Lib.hid hl
  have HB1 := Lib.hid (Nat.le_trans HB0.out hf.size)
  clear hd hr hf hl
  clear t2
  go_wp2
  (first | go_end0 | refine bodyPost_ret (results_none rfl _ _ _) rfl ?_)
  exact ⟨rfl, v1, HR1.out, HF1.out, HL1.out⟩

set_option maxRecDepth 100000 in
set_option maxHeartbeats 1000000 in
theorem sdo13568 (w : World) (B t q g : Nat) (v : Value) (S : S14) (n : Nat) (m cy ad : Int) (cr : Bool) (H : StAt w B t q g v S ⟨13568, m, cy, ad, cr⟩) (hO : Ok n S) (hn : n + 5 < 1000000000) (had : u16 ad) (hcy : 0 ≤ cy ∧ cy < 200) (hB : B ≤ w.heap.size) :
    Calls Tryd.prog 23 #[.pointer (some ⟨t, 0, none⟩)] w (SDone w B t q g v (exS 13568 m ad S) ⟨13568, m, cy + exN 13568 cr S, ad, cr⟩ (.tuple #[])) := by
  rw [show cy + exN 13568 cr S = cy by simp [exN]]
  obtain ⟨a, x, y, s, p, pc, h, b⟩ := S
  have HR0 := Lib.hid H
  have HF0 : Hid (Fr (sfoot t q g v) w w) := Lib.hid (Fr.refl _ w)
  have HL0 : Hid (Lies w v v) := Lib.hid (Lies.refl w v)
  have HB0 := Lib.hid hB
  have HO := Lib.hid hO
  have HN := Lib.hid hn
  have HAD := Lib.hid had
  have HCY := Lib.hid hcy
  obtain ⟨c0, c1, c2, c3, c4, c5, c6, t0, t1⟩ := sregs HR0.out
  clear c0 c1 c2 c3 c4 c5 c6 t0 t1
  obtain ⟨t2, t3, t4, t5, t6⟩ := srow HR0.out
  clear t3 t4 t5 t6
  clear H hO hB hn hcy had
  go_enter Tryd.func23, Tryd.ntmps23
  go_wp2_with fail
  (with_reducible refine (sstack13568 w B t q g v ⟨a, x, y, s, p, pc, h, b⟩ n m cy ad cr HR0.out HO.out (by have := HN.out; omega) HB0.out).mono ?_)
  intro e w1 hd
  obtain ⟨rfl, v1, hr, hf, hl⟩ := sdone_tr HF0.out HL0.out hd
  change StAt w1 B t q g v1 (stackS 13568 (⟨a, x, y, s, p, pc, h, b⟩ : S14)) ⟨13568, m, cy, ad, cr⟩ at hr
  have HR1 := Lib.hid hr
  have HF1 := Lib.hid hf
  have HL1 := Lib.hid hl
  have HB1 := Lib.hid (Nat.le_trans HB0.out hf.size)
  clear hd hr hf hl
  clear t2
  go_wp2
  (first | go_end0 | refine bodyPost_ret (results_none rfl _ _ _) rfl ?_)
  exact ⟨rfl, v1, HR1.out, HF1.out, HL1.out⟩

set_option maxRecDepth 100000 in
set_option maxHeartbeats 1000000 in
theorem sdo11776 (w : World) (B t q g : Nat) (v : Value) (S : S14) (n : Nat) (m cy ad : Int) (cr : Bool) (H : StAt w B t q g v S ⟨11776, m, cy, ad, cr⟩) (hO : Ok n S) (hn : n + 5 < 1000000000) (had : u16 ad) (hcy : 0 ≤ cy ∧ cy < 200) (hB : B ≤ w.heap.size) :
    Calls Tryd.prog 23 #[.pointer (some ⟨t, 0, none⟩)] w (SDone w B t q g v (exS 11776 m ad S) ⟨11776, m, cy + exN 11776 cr S, ad, cr⟩ (.tuple #[])) := by
  rw [show cy + exN 11776 cr S = cy by simp [exN]]
  obtain ⟨a, x, y, s, p, pc, h, b⟩ := S
  have HR0 := Lib.hid H
  have HF0 : Hid (Fr (sfoot t q g v) w w) := Lib.hid (Fr.refl _ w)
  have HL0 : Hid (Lies w v v) := Lib.hid (Lies.refl w v)
  have HB0 := Lib.hid hB
  have HO := Lib.hid hO
  have HN := Lib.hid hn
  have HAD := Lib.hid had
  have HCY := Lib.hid hcy
  obtain ⟨c0, c1, c2, c3, c4, c5, c6, t0, t1⟩ := sregs HR0.out
  clear c0 c1 c2 c3 c4 c5 c6 t0 t1
  obtain ⟨t2, t3, t4, t5, t6⟩ := srow HR0.out
  clear t3 t4 t5 t6
  clear H hO hB hn hcy had
  go_enter Tryd.func23, Tryd.ntmps23
  go_wp2_with fail
  (with_reducible refine (sjump11776 w B t q g v ⟨a, x, y, s, p, pc, h, b⟩ n m cy ad cr HR0.out HO.out HB0.out).mono ?_)
  intro e w1 hd
  obtain ⟨rfl, v1, hr, hf, hl⟩ := sdone_tr HF0.out HL0.out hd
  change StAt w1 B t q g v1 (jumpS 11776 ad (⟨a, x, y, s, p, pc, h, b⟩ : S14)) ⟨11776, m, cy, ad, cr⟩ at hr
  have HR1 := Lib.hid hr
  have HF1 := Lib.hid hf
  have HL1 := Lib.hid hl
  have HB1 := Lib.hid (Nat.le_trans HB0.out hf.size)
  clear hd hr hf hl
  clear t2
  go_wp2
  (first | go_end0 | refine bodyPost_ret (results_none rfl _ _ _) rfl ?_)
  exact ⟨rfl, v1, HR1.out, HF1.out, HL1.out⟩

set_option maxRecDepth 100000 in
set_option maxHeartbeats 1000000 in
theorem sdo12032 (w : World) (B t q g : Nat) (v : Value) (S : S14) (n : Nat) (m cy ad : Int) (cr : Bool) (H : StAt w B t q g v S ⟨12032, m, cy, ad, cr⟩) (hO : Ok n S) (hn : n + 5 < 1000000000) (had : u16 ad) (hcy : 0 ≤ cy ∧ cy < 200) (hB : B ≤ w.heap.size) :
    Calls Tryd.prog 23 #[.pointer (some ⟨t, 0, none⟩)] w (SDone w B t q g v (exS 12032 m ad S) ⟨12032, m, cy + exN 12032 cr S, ad, cr⟩ (.tuple #[])) := by
  rw [show cy + exN 12032 cr S = cy by simp [exN]]
  obtain ⟨a, x, y, s, p, pc, h, b⟩ := S
  have HR0 := Lib.hid H
  have HF0 : Hid (Fr (sfoot t q g v) w w) := Lib.hid (Fr.refl _ w)
  have HL0 : Hid (Lies w v v) := Lib.hid (Lies.refl w v)
  have HB0 := Lib.hid hB
  have HO := Lib.hid hO
  have HN := Lib.hid hn
  have HAD := Lib.hid had
  have HCY := Lib.hid hcy
  obtain ⟨c0, c1, c2, c3, c4, c5, c6, t0, t1⟩ := sregs HR0.out
  clear c0 c1 c2 c3 c4 c5 c6 t0 t1
  obtain ⟨t2, t3, t4, t5, t6⟩ := srow HR0.out
  clear t3 t4 t5 t6
  clear H hO hB hn hcy had
  go_enter Tryd.func23, Tryd.ntmps23
  go_wp2_with fail
  (with_reducible refine (sjump12032 w B t q g v ⟨a, x, y, s, p, pc, h, b⟩ n m cy ad cr HR0.out HO.out HAD.out HB0.out).mono ?_)
  intro e w1 hd
  obtain ⟨rfl, v1, hr, hf, hl⟩ := sdone_tr HF0.out HL0.out hd
  change StAt w1 B t q g v1 (jumpS 12032 ad (⟨a, x, y, s, p, pc, h, b⟩ : S14)) ⟨12032, m, cy, ad, cr⟩ at hr
  have HR1 := Lib.hid hr
  have HF1 := Lib.hid hf
  have HL1 := Lib.hid hl
  have HB1 := Lib.hid (Nat.le_trans HB0.out hf.size)
  clear hd hr hf hl
  clear t2
  go_wp2
  (first | go_end0 | refine bodyPost_ret (results_none rfl _ _ _) rfl ?_)
  exact ⟨rfl, v1, HR1.out, HF1.out, HL1.out⟩

set_option maxRecDepth 100000 in
set_option maxHeartbeats 1000000 in
theorem sdo12288 (w : World) (B t q g : Nat) (v : Value) (S : S14) (n : Nat) (m cy ad : Int) (cr : Bool) (H : StAt w B t q g v S ⟨12288, m, cy, ad, cr⟩) (hO : Ok n S) (hn : n + 5 < 1000000000) (had : u16 ad) (hcy : 0 ≤ cy ∧ cy < 200) (hB : B ≤ w.heap.size) :
    Calls Tryd.prog 23 #[.pointer (some ⟨t, 0, none⟩)] w (SDone w B t q g v (exS 12288 m ad S) ⟨12288, m, cy + exN 12288 cr S, ad, cr⟩ (.tuple #[])) := by
  rw [show cy + exN 12288 cr S = cy by simp [exN]]
  obtain ⟨a, x, y, s, p, pc, h, b⟩ := S
  have HR0 := Lib.hid H
  have HF0 : Hid (Fr (sfoot t q g v) w w) := Lib.hid (Fr.refl _ w)
  have HL0 : Hid (Lies w v v) := Lib.hid (Lies.refl w v)
  have HB0 := Lib.hid hB
  have HO := Lib.hid hO
  have HN := Lib.hid hn
  have HAD := Lib.hid had
  have HCY := Lib.hid hcy
  obtain ⟨c0, c1, c2, c3, c4, c5, c6, t0, t1⟩ := sregs HR0.out
  clear c0 c1 c2 c3 c4 c5 c6 t0 t1
  obtain ⟨t2, t3, t4, t5, t6⟩ := srow HR0.out
  clear t3 t4 t5 t6
  clear H hO hB hn hcy had
  go_enter Tryd.func23, Tryd.ntmps23
  go_wp2_with fail
  (with_reducible refine (sjump12288 w B t q g v ⟨a, x, y, s, p, pc, h, b⟩ n m cy ad cr HR0.out HO.out (by have := HN.out; omega) HAD.out HB0.out).mono ?_)
  intro e w1 hd
  obtain ⟨rfl, v1, hr, hf, hl⟩ := sdone_tr HF0.out HL0.out hd
  change StAt w1 B t q g v1 (jumpS 12288 ad (⟨a, x, y, s, p, pc, h, b⟩ : S14)) ⟨12288, m, cy, ad, cr⟩ at hr
  have HR1 := Lib.hid hr
  have HF1 := Lib.hid hf
  have HL1 := Lib.hid hl
  have HB1 := Lib.hid (Nat.le_trans HB0.out hf.size)
  clear hd hr hf hl
  clear t2
  go_wp2
  (first | go_end0 | refine bodyPost_ret (results_none rfl _ _ _) rfl ?_)
  exact ⟨rfl, v1, HR1.out, HF1.out, HL1.out⟩

set_option maxRecDepth 100000 in
set_option maxHeartbeats 1000000 in
theorem sdo12544 (w : World) (B t q g : Nat) (v : Value) (S : S14) (n : Nat) (m cy ad : Int) (cr : Bool) (H : StAt w B t q g v S ⟨12544, m, cy, ad, cr⟩) (hO : Ok n S) (hn : n + 5 < 1000000000) (had : u16 ad) (hcy : 0 ≤ cy ∧ cy < 200) (hB : B ≤ w.heap.size) :
    Calls Tryd.prog 23 #[.pointer (some ⟨t, 0, none⟩)] w (SDone w B t q g v (exS 12544 m ad S) ⟨12544, m, cy + exN 12544 cr S, ad, cr⟩ (.tuple #[])) := by
  rw [show cy + exN 12544 cr S = cy by simp [exN]]
  obtain ⟨a, x, y, s, p, pc, h, b⟩ := S
  have HR0 := Lib.hid H
  have HF0 : Hid (Fr (sfoot t q g v) w w) := Lib.hid (Fr.refl _ w)
  have HL0 : Hid (Lies w v v) := Lib.hid (Lies.refl w v)
  have HB0 := Lib.hid hB
  have HO := Lib.hid hO
  have HN := Lib.hid hn
  have HAD := Lib.hid had
  have HCY := Lib.hid hcy
  obtain ⟨c0, c1, c2, c3, c4, c5, c6, t0, t1⟩ := sregs HR0.out
  clear c0 c1 c2 c3 c4 c5 c6 t0 t1
  obtain ⟨t2, t3, t4, t5, t6⟩ := srow HR0.out
  clear t3 t4 t5 t6
  clear H hO hB hn hcy had
  go_enter Tryd.func23, Tryd.ntmps23
  go_wp2_with fail
  (with_reducible refine (sjump12544 w B t q g v ⟨a, x, y, s, p, pc, h, b⟩ n m cy ad cr HR0.out HO.out HB0.out).mono ?_)
  intro e w1 hd
  obtain ⟨rfl, v1, hr, hf, hl⟩ := sdone_tr HF0.out HL0.out hd
  change StAt w1 B t q g v1 (jumpS 12544 ad (⟨a, x, y, s, p, pc, h, b⟩ : S14)) ⟨12544, m, cy, ad, cr⟩ at hr
  have HR1 := Lib.hid hr
  have HF1 := Lib.hid hf
  have HL1 := Lib.hid hl
  have HB1 := Lib.hid (Nat.le_trans HB0.out hf.size)
  clear hd hr hf hl
  clear t2
  go_wp2
  (first | go_end0 | refine bodyPost_ret (results_none rfl _ _ _) rfl ?_)
  exact ⟨rfl, v1, HR1.out, HF1.out, HL1.out⟩

set_option maxRecDepth 100000 in
set_option maxHeartbeats 1000000 in
theorem sdo13824 (w : World) (B t q g : Nat) (v : Value) (S : S14) (n : Nat) (m cy ad : Int) (cr : Bool) (H : StAt w B t q g v S ⟨13824, m, cy, ad, cr⟩) (hO : Ok n S) (hn : n + 5 < 1000000000) (had : u16 ad) (hcy : 0 ≤ cy ∧ cy < 200) (hB : B ≤ w.heap.size) :
    Calls Tryd.prog 23 #[.pointer (some ⟨t, 0, none⟩)] w (SDone w B t q g v (exS 13824 m ad S) ⟨13824, m, cy + exN 13824 cr S, ad, cr⟩ (.tuple #[])) := by
  rw [show cy + exN 13824 cr S = cy by simp [exN]]
  obtain ⟨a, x, y, s, p, pc, h, b⟩ := S
  have HR0 := Lib.hid H
  have HF0 : Hid (Fr (sfoot t q g v) w w) := Lib.hid (Fr.refl _ w)
  have HL0 : Hid (Lies w v v) := Lib.hid (Lies.refl w v)
  have HB0 := Lib.hid hB
  have HO := Lib.hid hO
  have HN := Lib.hid hn
  have HAD := Lib.hid had
  have HCY := Lib.hid hcy
  obtain ⟨c0, c1, c2, c3, c4, c5, c6, t0, t1⟩ := sregs HR0.out
  clear c0 c1 c2 c3 c4 c5 c6 t0 t1
  obtain ⟨t2, t3, t4, t5, t6⟩ := srow HR0.out
  clear t3 t4 t5 t6
  clear H hO hB hn hcy had
  go_enter Tryd.func23, Tryd.ntmps23
  go_wp2_with fail
  (with_reducible refine (sjump13824 w B t q g v ⟨a, x, y, s, p, pc, h, b⟩ n m cy ad cr HR0.out HO.out HB0.out).mono ?_)
  intro e w1 hd
  obtain ⟨rfl, v1, hr, hf, hl⟩ := sdone_tr HF0.out HL0.out hd
  change StAt w1 B t q g v1 (jumpS 13824 ad (⟨a, x, y, s, p, pc, h, b⟩ : S14)) ⟨13824, m, cy, ad, cr⟩ at hr
  have HR1 := Lib.hid hr
  have HF1 := Lib.hid hf
  have HL1 := Lib.hid hl
  have HB1 := Lib.hid (Nat.le_trans HB0.out hf.size)
  clear hd hr hf hl
  clear t2
  go_wp2
  (first | go_end0 | refine bodyPost_ret (results_none rfl _ _ _) rfl ?_)
  exact ⟨rfl, v1, HR1.out, HF1.out, HL1.out⟩

set_option maxRecDepth 100000 in
set_option maxHeartbeats 1000000 in
theorem sdo14080 (w : World) (B t q g : Nat) (v : Value) (S : S14) (n : Nat) (m cy ad : Int) (cr : Bool) (H : StAt w B t q g v S ⟨14080, m, cy, ad, cr⟩) (hO : Ok n S) (hn : n + 5 < 1000000000) (had : u16 ad) (hcy : 0 ≤ cy ∧ cy < 200) (hB : B ≤ w.heap.size) :
    Calls Tryd.prog 23 #[.pointer (some ⟨t, 0, none⟩)] w (SDone w B t q g v (exS 14080 m ad S) ⟨14080, m, cy + exN 14080 cr S, ad, cr⟩ (.tuple #[])) := by
  rw [show cy + exN 14080 cr S = cy by simp [exN]]
  obtain ⟨a, x, y, s, p, pc, h, b⟩ := S
  have HR0 := Lib.hid H
  have HF0 : Hid (Fr (sfoot t q g v) w w) := Lib.hid (Fr.refl _ w)
  have HL0 : Hid (Lies w v v) := Lib.hid (Lies.refl w v)
  have HB0 := Lib.hid hB
  have HO := Lib.hid hO
  have HN := Lib.hid hn
  have HAD := Lib.hid had
  have HCY := Lib.hid hcy
  obtain ⟨c0, c1, c2, c3, c4, c5, c6, t0, t1⟩ := sregs HR0.out
  clear c0 c1 c2 c3 c4 c5 c6 t0 t1
  obtain ⟨t2, t3, t4, t5, t6⟩ := srow HR0.out
  clear t3 t4 t5 t6
  clear H hO hB hn hcy had
  go_enter Tryd.func23, Tryd.ntmps23
  go_wp2_with fail
  (with_reducible refine (sjump14080 w B t q g v ⟨a, x, y, s, p, pc, h, b⟩ n m cy ad cr HR0.out HO.out (by have := HN.out; omega) HB0.out).mono ?_)
  intro e w1 hd
  obtain ⟨rfl, v1, hr, hf, hl⟩ := sdone_tr HF0.out HL0.out hd
  change StAt w1 B t q g v1 (jumpS 14080 ad (⟨a, x, y, s, p, pc, h, b⟩ : S14)) ⟨14080, m, cy, ad, cr⟩ at hr
  have HR1 := Lib.hid hr
  have HF1 := Lib.hid hf
  have HL1 := Lib.hid hl
  have HB1 := Lib.hid (Nat.le_trans HB0.out hf.size)
  clear hd hr hf hl
  clear t2
  go_wp2
  (first | go_end0 | refine bodyPost_ret (results_none rfl _ _ _) rfl ?_)
  exact ⟨rfl, v1, HR1.out, HF1.out, HL1.out⟩

end Ms
end Go.Proofs.YtlnpadekgakghaaDoor
