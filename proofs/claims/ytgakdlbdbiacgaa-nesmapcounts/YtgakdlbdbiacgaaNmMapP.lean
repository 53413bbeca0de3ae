/-
  The program's map, through its mapper's interface: Page, PRG, CHR. Condition: the state is one that there is.
-/
import Derived.Test.YtgakdlbdbiacgaaNmMap
namespace Go.Proofs.Ytgakdlbdbiacgaa
open Go.RowKit
namespace Nm

set_option maxRecDepth 100000 in
set_option maxHeartbeats 4000000 in
theorem ppage_in (w : World) (p g : Nat) (S : St) (a s : Int) (h : ProgAt w p g S) (hO : Ok S) (ha0 : 32768 ≤ a) (ha1 : a < 65536) (hs : a / 8192 - 4 = s) :
    Calls Try.prog 18 #[.pointer (some ⟨p, 0, none⟩), .int .u16 a] w fun e w' => e = .returned (.int .i64 (raw S s % S.pg)) ∧ ∃ n, w' = w.drewN n := by
  have hs0 : 0 ≤ s := by omega
  have hs1 : s < 4 := by omega
  have HSp := Lib.hid (fun W => spanOf_any W a s ha0 ha1 hs)
  have hg := hO.pg
  have HR := Lib.hid (fun W => round_any W (rawP S s) S.pg (by omega) (by omega))
  rw [rawP_raw] at HR
  rcases h with ⟨h0, h1, h2⟩ | ⟨h0, h1, h2⟩ | ⟨h0, h1, h2⟩ | ⟨h0, h1, h2⟩ | ⟨h0, h1, h2⟩
  · skip
    have hd : w.cell? ⟨p, 0, none⟩ = some (.iface 69 (.pointer (some ⟨g, 0, none⟩))) := Blk.cell h1 0
    have hd1 : w.cell? ⟨p, 1, none⟩ = some (.int .i64 S.pg) := Blk.cell h1 1
    have hme := meth_plain_page g
    have hr : rawP S s = s := by unfold rawP; rw [if_neg (by omega), if_neg (by omega), if_neg (by omega)]
    rw [hr] at HR
    have HC : Hid (∀ n, Calls Try.prog 54 #[.pointer (some ⟨g, 0, none⟩), .int .i64 s] (w.drewN n) fun e w' => e = .returned (.int .i64 s) ∧ w.drewN n = w') := Lib.hid fun n => mpage_any (w.drewN n) g s
    clear hr
    generalize raw S s % S.pg = rr at *
    generalize S.pg = pg at *
    clear h0 h1 h2 hO hs
    go_enter Try.func18, Try.ntmps18
    go_upto_region 3 with fail
    go_quiet (first
      | (go_at_call 30; with_reducible exact Calls.quiet_of_same ((HSp.out _).mono fun _ _ h => ⟨h.1, h.2.symm⟩))
      | (go_at_call 54; with_reducible exact Calls.quiet_of_same ((HC.out _).mono fun _ _ h => ⟨h.1, h.2.symm⟩))
      | (go_at_call 29; with_reducible exact Calls.quiet_of_same ((HR.out _).mono fun _ _ h => ⟨h.1, h.2.symm⟩)))
    go_wp2
    go_ret
    exact ⟨rfl, _, rfl⟩
  · skip
    have hd : w.cell? ⟨p, 0, none⟩ = some (.iface 72 (.pointer (some ⟨g, 0, none⟩))) := Blk.cell h1 0
    have hd1 : w.cell? ⟨p, 1, none⟩ = some (.int .i64 S.pg) := Blk.cell h1 1
    have hme := meth_serial_page g
    have HC : Hid (∀ n, Calls Try.prog 59 #[.pointer (some ⟨g, 0, none⟩), .int .i64 s] (w.drewN n) fun e w' => e = .returned (.int .i64 (rawP S s)) ∧ w.drewN n = w') := Lib.hid fun n => spage_any (w.drewN n) g S s (Blk.fr h2 ((Fr.refl [] w).drewN n) (by simp)) hO h0 hs0 hs1
    generalize rawP S s = rp at *
    generalize raw S s % S.pg = rr at *
    generalize S.pg = pg at *
    clear h0 h1 h2 hO hs
    go_enter Try.func18, Try.ntmps18
    go_upto_region 3 with fail
    go_quiet (first
      | (go_at_call 30; with_reducible exact Calls.quiet_of_same ((HSp.out _).mono fun _ _ h => ⟨h.1, h.2.symm⟩))
      | (go_at_call 59; with_reducible exact Calls.quiet_of_same ((HC.out _).mono fun _ _ h => ⟨h.1, h.2.symm⟩))
      | (go_at_call 29; with_reducible exact Calls.quiet_of_same ((HR.out _).mono fun _ _ h => ⟨h.1, h.2.symm⟩)))
    go_wp2
    go_ret
    exact ⟨rfl, _, rfl⟩
  · skip
    have hd : w.cell? ⟨p, 0, none⟩ = some (.iface 74 (.pointer (some ⟨g, 0, none⟩))) := Blk.cell h1 0
    have hd1 : w.cell? ⟨p, 1, none⟩ = some (.int .i64 S.pg) := Blk.cell h1 1
    have hme := meth_pageSwitch_page g
    have HC : Hid (∀ n, Calls Try.prog 64 #[.pointer (some ⟨g, 0, none⟩), .int .i64 s] (w.drewN n) fun e w' => e = .returned (.int .i64 (rawP S s)) ∧ w.drewN n = w') := Lib.hid fun n => ppage_any (w.drewN n) g S s (Blk.fr h2 ((Fr.refl [] w).drewN n) (by simp)) hO h0 hs0 hs1
    generalize rawP S s = rp at *
    generalize raw S s % S.pg = rr at *
    generalize S.pg = pg at *
    clear h0 h1 h2 hO hs
    go_enter Try.func18, Try.ntmps18
    go_upto_region 3 with fail
    go_quiet (first
      | (go_at_call 30; with_reducible exact Calls.quiet_of_same ((HSp.out _).mono fun _ _ h => ⟨h.1, h.2.symm⟩))
      | (go_at_call 64; with_reducible exact Calls.quiet_of_same ((HC.out _).mono fun _ _ h => ⟨h.1, h.2.symm⟩))
      | (go_at_call 29; with_reducible exact Calls.quiet_of_same ((HR.out _).mono fun _ _ h => ⟨h.1, h.2.symm⟩)))
    go_wp2
    go_ret
    exact ⟨rfl, _, rfl⟩
  · skip
    have hd : w.cell? ⟨p, 0, none⟩ = some (.iface 77 (.pointer (some ⟨g, 0, none⟩))) := Blk.cell h1 0
    have hd1 : w.cell? ⟨p, 1, none⟩ = some (.int .i64 S.pg) := Blk.cell h1 1
    have hme := meth_unitSwitch_page g
    have hr : rawP S s = s := by unfold rawP; rw [if_neg (by omega), if_neg (by omega), if_neg (by omega)]
    rw [hr] at HR
    have HC : Hid (∀ n, Calls Try.prog 54 #[.pointer (some ⟨g, 0, none⟩), .int .i64 s] (w.drewN n) fun e w' => e = .returned (.int .i64 s) ∧ w.drewN n = w') := Lib.hid fun n => mpage_any (w.drewN n) g s
    clear hr
    generalize raw S s % S.pg = rr at *
    generalize S.pg = pg at *
    clear h0 h1 h2 hO hs
    go_enter Try.func18, Try.ntmps18
    go_upto_region 3 with fail
    go_quiet (first
      | (go_at_call 30; with_reducible exact Calls.quiet_of_same ((HSp.out _).mono fun _ _ h => ⟨h.1, h.2.symm⟩))
      | (go_at_call 54; with_reducible exact Calls.quiet_of_same ((HC.out _).mono fun _ _ h => ⟨h.1, h.2.symm⟩))
      | (go_at_call 29; with_reducible exact Calls.quiet_of_same ((HR.out _).mono fun _ _ h => ⟨h.1, h.2.symm⟩)))
    go_wp2
    go_ret
    exact ⟨rfl, _, rfl⟩
  · skip
    have hd : w.cell? ⟨p, 0, none⟩ = some (.iface 79 (.pointer (some ⟨g, 0, none⟩))) := Blk.cell h1 0
    have hd1 : w.cell? ⟨p, 1, none⟩ = some (.int .i64 S.pg) := Blk.cell h1 1
    have hme := meth_counting_page g
    have HC : Hid (∀ n, Calls Try.prog 70 #[.pointer (some ⟨g, 0, none⟩), .int .i64 s] (w.drewN n) fun e w' => e = .returned (.int .i64 (rawP S s)) ∧ w.drewN n = w') := Lib.hid fun n => cpage_any (w.drewN n) g S s (Blk.fr h2 ((Fr.refl [] w).drewN n) (by simp)) hO h0 hs0 hs1
    generalize rawP S s = rp at *
    generalize raw S s % S.pg = rr at *
    generalize S.pg = pg at *
    clear h0 h1 h2 hO hs
    go_enter Try.func18, Try.ntmps18
    go_upto_region 3 with fail
    go_quiet (first
      | (go_at_call 30; with_reducible exact Calls.quiet_of_same ((HSp.out _).mono fun _ _ h => ⟨h.1, h.2.symm⟩))
      | (go_at_call 70; with_reducible exact Calls.quiet_of_same ((HC.out _).mono fun _ _ h => ⟨h.1, h.2.symm⟩))
      | (go_at_call 29; with_reducible exact Calls.quiet_of_same ((HR.out _).mono fun _ _ h => ⟨h.1, h.2.symm⟩)))
    go_wp2
    go_ret
    exact ⟨rfl, _, rfl⟩

set_option maxRecDepth 100000 in
set_option maxHeartbeats 4000000 in
theorem ppage_all (w : World) (p g : Nat) (S : St) (a : Int) (h : ProgAt w p g S) (hO : Ok S) (ha0 : 0 ≤ a) (ha1 : a < 65536) :
    Calls Try.prog 18 #[.pointer (some ⟨p, 0, none⟩), .int .u16 a] w fun e w' => e = .returned (.int .i64 (pageOf S a)) ∧ ∃ n, w' = w.drewN n := by
  unfold pageOf
  by_cases h1 : a < 32768
  · rw [if_pos h1]
    clear hO h
    go_enter Try.func18, Try.ntmps18
    go_wp2
    go_ret
    exact ⟨rfl, 0, rfl⟩
  rw [if_neg h1]
  exact ppage_in w p g S a _ h hO (by omega) ha1 rfl

set_option maxRecDepth 100000 in
set_option maxHeartbeats 4000000 in
theorem pprg_all (w : World) (p g : Nat) (S : St) (a : Int) (h : ProgAt w p g S) (hO : Ok S) (ha0 : 0 ≤ a) (ha1 : a < 65536) :
    Calls Try.prog 17 #[.pointer (some ⟨p, 0, none⟩), .int .u16 a] w fun e w' => e = .returned (.int .i64 (prgOf S a)) ∧ ∃ n, w' = w.drewN n := by
  have HC : Hid (∀ n, Calls Try.prog 18 #[.pointer (some ⟨p, 0, none⟩), .int .u16 a] (w.drewN n) fun e w' => e = .returned (.int .i64 (pageOf S a)) ∧ ∃ m, w' = (w.drewN n).drewN m) := Lib.hid fun n => ppage_all (w.drewN n) p g S a (h.fr ((Fr.refl [] w).drewN n) (by simp) (by simp)) hO ha0 ha1
  have HC0 : Hid (Calls Try.prog 18 #[.pointer (some ⟨p, 0, none⟩), .int .u16 a] w fun e w' => e = .returned (.int .i64 (pageOf S a)) ∧ ∃ m, w' = w.drewN m) := Lib.hid (ppage_all w p g S a h hO ha0 ha1)
  have hb : 32768 ≤ a → 0 ≤ pageOf S a ∧ pageOf S a < 32 := by
    intro hx
    unfold pageOf
    rw [if_neg (by omega)]
    have hg := hO.pg
    exact ⟨Int.emod_nonneg _ (by omega), by have := Int.emod_lt_of_pos (raw S (a / 8192 - 4)) (pg_pos S hO); omega⟩
  clear h hO
  unfold prgOf
  generalize pageOf S a = pv at *
  by_cases h1 : a < 32768
  · rw [if_pos h1]
    clear hb
    go_enter Try.func17, Try.ntmps17
    go_wp2
    go_ret
    exact ⟨rfl, 0, rfl⟩
  rw [if_neg h1]
  obtain ⟨b0, b1⟩ := hb (by omega)
  obtain ⟨z, hz⟩ : ∃ z, a % 8192 = z := ⟨_, rfl⟩
  have hz' : a.tmod 8192 = z := by rw [Int.tmod_eq_emod_of_nonneg ha0]; exact hz
  have hz0 : 0 ≤ z := by omega
  have hz1 : z < 8192 := by omega
  obtain ⟨Y, hY⟩ : ∃ y, pv * 8192 = y := ⟨_, rfl⟩
  obtain ⟨N, hN⟩ : ∃ y, Y + z = y := ⟨_, rfl⟩
  have hY0 : 0 ≤ Y := by omega
  have hY1 : Y < 1000000 := by omega
  rw [hz, hY, hN]
  clear hb
  go_enter Try.func17, Try.ntmps17
  go_wp2_with fail
  (with_reducible refine HC0.out.mono ?_)
  rintro e w1 ⟨rfl, n1, rfl⟩
  go_wp2
  go_ret
  exact ⟨rfl, _, rfl⟩

set_option maxRecDepth 100000 in
set_option maxHeartbeats 4000000 in
theorem pchr_all (w : World) (p g : Nat) (S : St) (a : Int) (h : ProgAt w p g S) (hO : Ok S) (ha0 : 0 ≤ a) (ha1 : a < 65536) :
    Calls Try.prog 16 #[.pointer (some ⟨p, 0, none⟩), .int .u16 a] w fun e w' => e = .returned (.int .i64 (chrOf S a)) ∧ ∃ n, w' = w.drewN n := by
  obtain ⟨x, hx⟩ : ∃ x, a % 8192 = x := ⟨_, rfl⟩
  have hx' : a.tmod 8192 = x := by rw [Int.tmod_eq_emod_of_nonneg ha0]; exact hx
  have hx0 : 0 ≤ x := by omega
  have hx1 : x < 8192 := by omega
  obtain ⟨u, hu⟩ : ∃ u, x / 1024 = u := ⟨_, rfl⟩
  have hu' : x.tdiv 1024 = u := by rw [Int.tdiv_eq_ediv_of_nonneg hx0]; exact hu
  have hu0 : 0 ≤ u := by omega
  have hu1 : u < 8 := by omega
  have hua : a / 1024 % 8 = u := by omega
  obtain ⟨z, hz⟩ : ∃ z, x % 1024 = z := ⟨_, rfl⟩
  have hz' : x.tmod 1024 = z := by rw [Int.tmod_eq_emod_of_nonneg hx0]; exact hz
  have hz0 : 0 ≤ z := by omega
  have hz1 : z < 1024 := by omega
  have hza : a % 1024 = z := by omega
  have hg := hO.un
  have HR := Lib.hid (fun W => round_any W (unit S u) S.un (by omega) (by omega))
  have hr0 : 0 ≤ unit S u % S.un := Int.emod_nonneg _ (by omega)
  have hr1 : unit S u % S.un < 128 := by have := Int.emod_lt_of_pos (unit S u) (un_pos S hO); omega
  unfold chrOf
  rw [hua, hza]
  rcases h with ⟨h0, h1, h2⟩ | ⟨h0, h1, h2⟩ | ⟨h0, h1, h2⟩ | ⟨h0, h1, h2⟩ | ⟨h0, h1, h2⟩
  · skip
    have hd : w.cell? ⟨p, 0, none⟩ = some (.iface 69 (.pointer (some ⟨g, 0, none⟩))) := Blk.cell h1 0
    have hd2 : w.cell? ⟨p, 2, none⟩ = some (.int .i64 S.un) := Blk.cell h1 2
    have hme := meth_plain_unit g
    have hr : unit S u = u := by unfold unit; rw [if_neg (by omega), if_neg (by omega), if_neg (by omega)]
    rw [hr] at HR hr0 hr1 ⊢
    have HC : Hid (∀ n, Calls Try.prog 55 #[.pointer (some ⟨g, 0, none⟩), .int .i64 u] (w.drewN n) fun e w' => e = .returned (.int .i64 u) ∧ w.drewN n = w') := Lib.hid fun n => munit_any (w.drewN n) g u
    clear hr
    obtain ⟨rr, hrr⟩ : ∃ y, u % S.un = y := ⟨_, rfl⟩
    rw [hrr] at HR hr0 hr1 ⊢
    clear hrr
    generalize S.un = un at *
    obtain ⟨Y, hY⟩ : ∃ y, rr * 1024 = y := ⟨_, rfl⟩
    obtain ⟨Z, hZ⟩ : ∃ y, Y + z = y := ⟨_, rfl⟩
    have hY0 : 0 ≤ Y := by omega
    have hY1 : Y < 200000 := by omega
    rw [hY, hZ]
    clear h0 h1 h2 hO
    go_enter Try.func16, Try.ntmps16
    go_upto_region 2 with fail
    go_quiet (first
      | (go_at_call 55; with_reducible exact Calls.quiet_of_same ((HC.out _).mono fun _ _ h => ⟨h.1, h.2.symm⟩))
      | (go_at_call 29; with_reducible exact Calls.quiet_of_same ((HR.out _).mono fun _ _ h => ⟨h.1, h.2.symm⟩)))
    go_wp2
    go_ret
    exact ⟨rfl, _, rfl⟩
  · skip
    have hd : w.cell? ⟨p, 0, none⟩ = some (.iface 72 (.pointer (some ⟨g, 0, none⟩))) := Blk.cell h1 0
    have hd2 : w.cell? ⟨p, 2, none⟩ = some (.int .i64 S.un) := Blk.cell h1 2
    have hme := meth_serial_unit g
    have HC : Hid (∀ n, Calls Try.prog 60 #[.pointer (some ⟨g, 0, none⟩), .int .i64 u] (w.drewN n) fun e w' => e = .returned (.int .i64 (unit S u)) ∧ w.drewN n = w') := Lib.hid fun n => sunit_any (w.drewN n) g S u (Blk.fr h2 ((Fr.refl [] w).drewN n) (by simp)) hO h0 hu0 hu1
    generalize unit S u = uu at *
    generalize uu % S.un = rr at *
    generalize S.un = un at *
    obtain ⟨Y, hY⟩ : ∃ y, rr * 1024 = y := ⟨_, rfl⟩
    obtain ⟨Z, hZ⟩ : ∃ y, Y + z = y := ⟨_, rfl⟩
    have hY0 : 0 ≤ Y := by omega
    have hY1 : Y < 200000 := by omega
    rw [hY, hZ]
    clear h0 h1 h2 hO
    go_enter Try.func16, Try.ntmps16
    go_upto_region 2 with fail
    go_quiet (first
      | (go_at_call 60; with_reducible exact Calls.quiet_of_same ((HC.out _).mono fun _ _ h => ⟨h.1, h.2.symm⟩))
      | (go_at_call 29; with_reducible exact Calls.quiet_of_same ((HR.out _).mono fun _ _ h => ⟨h.1, h.2.symm⟩)))
    go_wp2
    go_ret
    exact ⟨rfl, _, rfl⟩
  · skip
    have hd : w.cell? ⟨p, 0, none⟩ = some (.iface 74 (.pointer (some ⟨g, 0, none⟩))) := Blk.cell h1 0
    have hd2 : w.cell? ⟨p, 2, none⟩ = some (.int .i64 S.un) := Blk.cell h1 2
    have hme := meth_pageSwitch_unit g
    have hr : unit S u = u := by unfold unit; rw [if_neg (by omega), if_neg (by omega), if_neg (by omega)]
    rw [hr] at HR hr0 hr1 ⊢
    have HC : Hid (∀ n, Calls Try.prog 55 #[.pointer (some ⟨g, 0, none⟩), .int .i64 u] (w.drewN n) fun e w' => e = .returned (.int .i64 u) ∧ w.drewN n = w') := Lib.hid fun n => munit_any (w.drewN n) g u
    clear hr
    obtain ⟨rr, hrr⟩ : ∃ y, u % S.un = y := ⟨_, rfl⟩
    rw [hrr] at HR hr0 hr1 ⊢
    clear hrr
    generalize S.un = un at *
    obtain ⟨Y, hY⟩ : ∃ y, rr * 1024 = y := ⟨_, rfl⟩
    obtain ⟨Z, hZ⟩ : ∃ y, Y + z = y := ⟨_, rfl⟩
    have hY0 : 0 ≤ Y := by omega
    have hY1 : Y < 200000 := by omega
    rw [hY, hZ]
    clear h0 h1 h2 hO
    go_enter Try.func16, Try.ntmps16
    go_upto_region 2 with fail
    go_quiet (first
      | (go_at_call 55; with_reducible exact Calls.quiet_of_same ((HC.out _).mono fun _ _ h => ⟨h.1, h.2.symm⟩))
      | (go_at_call 29; with_reducible exact Calls.quiet_of_same ((HR.out _).mono fun _ _ h => ⟨h.1, h.2.symm⟩)))
    go_wp2
    go_ret
    exact ⟨rfl, _, rfl⟩
  · skip
    have hd : w.cell? ⟨p, 0, none⟩ = some (.iface 77 (.pointer (some ⟨g, 0, none⟩))) := Blk.cell h1 0
    have hd2 : w.cell? ⟨p, 2, none⟩ = some (.int .i64 S.un) := Blk.cell h1 2
    have hme := meth_unitSwitch_unit g
    have HC : Hid (∀ n, Calls Try.prog 66 #[.pointer (some ⟨g, 0, none⟩), .int .i64 u] (w.drewN n) fun e w' => e = .returned (.int .i64 (unit S u)) ∧ w.drewN n = w') := Lib.hid fun n => uunit_any (w.drewN n) g S u (Blk.fr h2 ((Fr.refl [] w).drewN n) (by simp)) hO h0 hu0 hu1
    generalize unit S u = uu at *
    generalize uu % S.un = rr at *
    generalize S.un = un at *
    obtain ⟨Y, hY⟩ : ∃ y, rr * 1024 = y := ⟨_, rfl⟩
    obtain ⟨Z, hZ⟩ : ∃ y, Y + z = y := ⟨_, rfl⟩
    have hY0 : 0 ≤ Y := by omega
    have hY1 : Y < 200000 := by omega
    rw [hY, hZ]
    clear h0 h1 h2 hO
    go_enter Try.func16, Try.ntmps16
    go_upto_region 2 with fail
    go_quiet (first
      | (go_at_call 66; with_reducible exact Calls.quiet_of_same ((HC.out _).mono fun _ _ h => ⟨h.1, h.2.symm⟩))
      | (go_at_call 29; with_reducible exact Calls.quiet_of_same ((HR.out _).mono fun _ _ h => ⟨h.1, h.2.symm⟩)))
    go_wp2
    go_ret
    exact ⟨rfl, _, rfl⟩
  · skip
    have hd : w.cell? ⟨p, 0, none⟩ = some (.iface 79 (.pointer (some ⟨g, 0, none⟩))) := Blk.cell h1 0
    have hd2 : w.cell? ⟨p, 2, none⟩ = some (.int .i64 S.un) := Blk.cell h1 2
    have hme := meth_counting_unit g
    have HC : Hid (∀ n, Calls Try.prog 71 #[.pointer (some ⟨g, 0, none⟩), .int .i64 u] (w.drewN n) fun e w' => e = .returned (.int .i64 (unit S u)) ∧ w.drewN n = w') := Lib.hid fun n => cunit_any (w.drewN n) g S u (Blk.fr h2 ((Fr.refl [] w).drewN n) (by simp)) hO h0 hu0 hu1
    generalize unit S u = uu at *
    generalize uu % S.un = rr at *
    generalize S.un = un at *
    obtain ⟨Y, hY⟩ : ∃ y, rr * 1024 = y := ⟨_, rfl⟩
    obtain ⟨Z, hZ⟩ : ∃ y, Y + z = y := ⟨_, rfl⟩
    have hY0 : 0 ≤ Y := by omega
    have hY1 : Y < 200000 := by omega
    rw [hY, hZ]
    clear h0 h1 h2 hO
    go_enter Try.func16, Try.ntmps16
    go_upto_region 2 with fail
    go_quiet (first
      | (go_at_call 71; with_reducible exact Calls.quiet_of_same ((HC.out _).mono fun _ _ h => ⟨h.1, h.2.symm⟩))
      | (go_at_call 29; with_reducible exact Calls.quiet_of_same ((HR.out _).mono fun _ _ h => ⟨h.1, h.2.symm⟩)))
    go_wp2
    go_ret
    exact ⟨rfl, _, rfl⟩

end Nm
end Go.Proofs.Ytgakdlbdbiacgaa
