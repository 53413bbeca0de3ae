/-
  Contract of ips.Parse: what is panicked with is told as an error. Conditions: lengths up to 1000000000.
-/
import Derived.Test.YtchakjknndpmpaaIpsRecords
import Derived.Recover
import Derived.RegionDies
import Derived.Deep.RegionWith
namespace Go.Proofs.Ytchakjknndpmpaa
open Go.RowKit
namespace Ips

theorem assert_errno (v : Value) (xT : TypeId) (w : World) : (Instr.typeAssert (.iface 24 v) xT 24 false).run Try.prog w = .ok v w := by kernel_rfl

set_option maxHeartbeats 1000000 in
theorem catch_panicking (w : World) (b0 b1 b2 : Nat) (e : Int) (v0 : Value) (v1 v2 : Int)
    (h0 : Blk w b0 52 #[v0]) (h1 : Blk w b1 3 #[.int .i64 v1]) (h2 : Blk w b2 24 #[.int .i64 v2]) :
    CallsD Try.prog 34 #[.pointer (some ⟨b0, 0, none⟩), .pointer (some ⟨b1, 0, none⟩), .pointer (some ⟨b2, 0, none⟩)] (.panicking (pan e)) w fun x u' w' =>
      x = .returned (.tuple #[]) ∧ u' = .panicking [{ v := .iface 24 (.int .i64 e), recovered := true }] ∧
      Blk w' b0 52 #[.slice none 0 0] ∧ Blk w' b1 3 #[.int .i64 0] ∧ Blk w' b2 24 #[.int .i64 e] ∧ Fr [b0, b1, b2] w w' := by
  have c0 := h0.cell 0
  have c1 := h1.cell 0
  have c2 := h2.cell 0
  have z0 := h0.frozen 0
  have z1 := h1.frozen 0
  have z2 := h2.frozen 0
  simp at c0 c1 c2
  refine callsD_of_wpS Try.func34 rfl fun c₀ cs hu => ?_
  unfold pan at hu
  apply wpS_seq
  apply wpS_region
  simp [wpOpsS, go_sem, recoverD, hu, Try.ntmps34, Exit.thenS]
  refine wpS_of_wp ?_
  rw [show (#[Value.pointer (some ⟨b0, 0, none⟩), Value.pointer (some ⟨b1, 0, none⟩), Value.pointer (some ⟨b2, 0, none⟩)] ++
          ((Array.replicate 6 undef).setIfInBounds 1 (Value.iface 24 (Value.int IntKind.i64 e))).setIfInBounds 0 (Value.iface 24 (Value.int IntKind.i64 e))) =
    #[.pointer (some ⟨b0, 0, none⟩), .pointer (some ⟨b1, 0, none⟩), .pointer (some ⟨b2, 0, none⟩), .iface 24 (.int .i64 e), .iface 24 (.int .i64 e), undef, undef, undef, undef] from rfl]
  have n01 : ¬ b0 = b1 := h0.other h1 (by decide)
  have n02 : ¬ b0 = b2 := h0.other h2 (by decide)
  have n12 : ¬ b1 = b2 := h1.other h2 (by decide)
  have H0 := Lib.hid h0
  have H1 := Lib.hid h1
  have H2 := Lib.hid h2
  clear h0 h1 h2
  have hta := assert_errno (.int .i64 e)
  go_wp2
  go_region
  have hf : Fr [b0, b1, b2] w ((((w.setCell ⟨b0, 0, none⟩ (.slice none 0 0)).setCell ⟨b1, 0, none⟩ (.int .i64 0)).setCell ⟨b2, 0, none⟩ (.int .i64 e)).drew) :=
    ((((Fr.refl _ w).setCell (by simp) _).setCell (by simp) _).setCell (by simp) _).drew
  have k0 := H0.out.put 0 (.slice none 0 0)
  have k1 := (H1.out.fr ((Fr.refl [b0] w).setCell (p := ⟨b0, 0, none⟩) (by simp) (.slice none 0 0)) (by simp; omega)).put 0 (.int .i64 0)
  have k2 := (H2.out.fr (((Fr.refl [b0, b1] w).setCell (p := ⟨b0, 0, none⟩) (by simp) (.slice none 0 0)).setCell (p := ⟨b1, 0, none⟩) (by simp) (.int .i64 0)) (by simp; omega)).put 0 (.int .i64 e)
  have k1' := k1.fr (((Fr.refl [b2] _).setCell (p := ⟨b2, 0, none⟩) (by simp) (.int .i64 e)).drew) (by simp; omega)
  have k0' := k0.fr ((((Fr.refl [b1, b2] _).setCell (p := ⟨b1, 0, none⟩) (by simp) (.int .i64 0)).setCell (p := ⟨b2, 0, none⟩) (by simp) (.int .i64 e)).drew) (by simp; omega)
  have k2' := k2.fr (Fr.refl [] _).drew (by simp)
  simp at k0' k1' k2'
  exact ⟨rfl, _, rfl, _, results_none rfl _ _ _, rfl, rfl, k0', k1', k2', hf⟩

theorem catch_idle (w : World) (b0 b1 b2 : Nat) :
    CallsD Try.prog 34 #[.pointer (some ⟨b0, 0, none⟩), .pointer (some ⟨b1, 0, none⟩), .pointer (some ⟨b2, 0, none⟩)] .returning w fun x u' w' => x = .returned (.tuple #[]) ∧ u' = .returning ∧ w' = w := by
  refine callsD_of_wpS Try.func34 rfl fun c₀ cs hu => ?_
  apply wpS_seq
  apply wpS_region
  simp [wpOpsS, go_sem, recoverD, hu, Try.ntmps34, Exit.thenS]
  refine wpS_of_wp ?_
  rw [show (#[Value.pointer (some ⟨b0, 0, none⟩), Value.pointer (some ⟨b1, 0, none⟩), Value.pointer (some ⟨b2, 0, none⟩)] ++
          ((Array.replicate 6 undef).setIfInBounds 1 Value.nilIface).setIfInBounds 0 Value.nilIface) =
    #[.pointer (some ⟨b0, 0, none⟩), .pointer (some ⟨b1, 0, none⟩), .pointer (some ⟨b2, 0, none⟩), .nilIface, .nilIface, undef, undef, undef, undef] from rfl]
  go_wp2
  cases c₀
  simp_all [bodyPostS, results, Try.results34]

/-- What Parse answers. -/
def Parsed (w : World) (o : Int × List Rec × Int) (e : Ending) (w' : World) : Prop :=
  ∃ A c, e = .returned (.tuple #[.slice A o.2.1.length c, .int .i64 o.2.2, .int .i64 o.1]) ∧ RecRd w' A o.2.1 ∧ Fr [] w w'

theorem par_results (w : World) (tmps : Array Value) (b0 b1 b2 : Nat) (v0 v1 v2 : Value) (t0 : tmps[2]?.getD undef = .pointer (some ⟨b0, 0, none⟩)) (t1 : tmps[3]?.getD undef = .pointer (some ⟨b1, 0, none⟩)) (t2 : tmps[4]?.getD undef = .pointer (some ⟨b2, 0, none⟩))
    (h0 : Blk w b0 52 #[v0]) (h1 : Blk w b1 3 #[v1]) (h2 : Blk w b2 24 #[v2]) :
    (results Try.f21 tmps).run Try.prog w = .ok (.tuple #[v0, v1, v2]) w := by
  have c0 := h0.cell 0
  have c1 := h1.cell 0
  have c2 := h2.cell 0
  simp at c0 c1 c2
  simp [results, Try.results21, go_sem, t0, t1, t2, c0, c1, c2]

/-- Out of Parse by a panic. -/
theorem door_panic (R : Ending → World → Prop) (w : World) (tmps : Array Value) (b0 b1 b2 : Nat) (e : Int) (v0 : Value) (v1 v2 : Int) (t0 : tmps[2]?.getD undef = .pointer (some ⟨b0, 0, none⟩)) (t1 : tmps[3]?.getD undef = .pointer (some ⟨b1, 0, none⟩)) (t2 : tmps[4]?.getD undef = .pointer (some ⟨b2, 0, none⟩))
    (h0 : Blk w b0 52 #[v0]) (h1 : Blk w b1 3 #[.int .i64 v1]) (h2 : Blk w b2 24 #[.int .i64 v2])
    (h : ∀ w', Fr [b0, b1, b2] w w' → R (.returned (.tuple #[.slice none 0 0, .int .i64 0, .int .i64 e])) w') :
    bodyPostD Try.prog Try.f21 R (Exit.panic (pan e)) { tmps := tmps, defers := [{ target := .fn (.func 34) #[.pointer (some ⟨b0, 0, none⟩), .pointer (some ⟨b1, 0, none⟩), .pointer (some ⟨b2, 0, none⟩)], args := #[] }] } w := by
  refine leaves_cons (f := 34) (args := #[.pointer (some ⟨b0, 0, none⟩), .pointer (some ⟨b1, 0, none⟩), .pointer (some ⟨b2, 0, none⟩)]) (by simp) (by simp [go_sem]) ?_
  refine (catch_panicking w b0 b1 b2 e v0 v1 v2 h0 h1 h2).mono ?_
  rintro x u' w'' ⟨rfl, rfl, k0, k1, k2, hf⟩
  exact ⟨_, par_results w'' tmps b0 b1 b2 _ _ _ t0 t1 t2 k0 k1 k2, h w'' hf⟩

/-- Out of Parse by a return. -/
theorem door_ret (R : Ending → World → Prop) (w : World) (tmps : Array Value) (b0 b1 b2 : Nat) (v0 v1 v2 : Value) (t0 : tmps[2]?.getD undef = .pointer (some ⟨b0, 0, none⟩)) (t1 : tmps[3]?.getD undef = .pointer (some ⟨b1, 0, none⟩)) (t2 : tmps[4]?.getD undef = .pointer (some ⟨b2, 0, none⟩))
    (h0 : Blk w b0 52 #[v0]) (h1 : Blk w b1 3 #[v1]) (h2 : Blk w b2 24 #[v2])
    (h : R (.returned (.tuple #[v0, v1, v2])) w) :
    bodyPostD Try.prog Try.f21 R Exit.ret { tmps := tmps, defers := [{ target := .fn (.func 34) #[.pointer (some ⟨b0, 0, none⟩), .pointer (some ⟨b1, 0, none⟩), .pointer (some ⟨b2, 0, none⟩)], args := #[] }] } w := by
  refine leaves_cons (f := 34) (args := #[.pointer (some ⟨b0, 0, none⟩), .pointer (some ⟨b1, 0, none⟩), .pointer (some ⟨b2, 0, none⟩)]) (by simp) (by simp [go_sem]) ?_
  refine (catch_idle w b0 b1 b2).mono ?_
  rintro x u' w'' ⟨rfl, rfl, rfl⟩
  exact ⟨_, par_results w'' tmps b0 b1 b2 _ _ _ t0 t1 t2 h0 h1 h2, h⟩

/-- The world behind Parse's three variables. -/
def parW (w : World) : World := ((w.alloc (.cells #[.slice none 0 0] 52)).alloc (.cells #[.int .i64 0] 3)).alloc (.cells #[.int .i64 0] 24)
theorem parW_size (w : World) : (parW w).heap.size = w.heap.size + 3 := by simp [parW]
theorem parW_fr (w : World) : Fr [] w (parW w) := (((Fr.refl [] w).alloc _).alloc _).alloc _

/-- What holds between Parse's calls: its three variables, its source, the reader. -/
structure ParB (w wi : World) (v0 : Value) (b p g : Nat) (l : List UInt8) (k : Nat) : Prop where
  r0 : Blk wi w.heap.size 52 #[v0]
  r1 : Blk wi (w.heap.size + 1) 3 #[.int .i64 0]
  r2 : Blk wi (w.heap.size + 1 + 1) 24 #[.int .i64 0]
  src : Blk wi b 80 #[.pointer (some ⟨p, 0, none⟩)]
  rdr : Rdr wi p g l k
  fr : Fr [] w wi
  plt : w.heap.size + 2 < p
  glt : w.heap.size + 2 < g
  blt : w.heap.size + 2 < b

theorem ParB.first {w w1 : World} {p : Nat} {l : List UInt8} (hr : Rdr w1 p (parW w).heap.size l 0) (hp : (parW w).heap.size < p) (hf : Fr [] (parW w) w1) :
    ParB w (w1.alloc (.cells #[.pointer (some ⟨p, 0, none⟩)] 80)) (.slice none 0 0) w1.heap.size p (parW w).heap.size l 0 := by
  have hs := parW_size w
  have hsz := hf.size
  have ha := (Fr.refl [] w1).alloc (.cells #[.pointer (some ⟨p, 0, none⟩)] 80)
  have hfa : Fr [] (parW w) (w1.alloc (.cells #[.pointer (some ⟨p, 0, none⟩)] 80)) := hf.tr ha
  have q0 : Blk (parW w) w.heap.size 52 #[.slice none 0 0] := (Blk.fresh w _ _).fr (((Fr.refl [] _).alloc _).alloc _) (by simp)
  have q1 : Blk (parW w) (w.heap.size + 1) 3 #[.int .i64 0] := by
    have h := Blk.fresh (w.alloc (.cells #[.slice none 0 0] 52)) 3 #[.int .i64 0]
    rw [World.size_alloc] at h
    exact h.fr ((Fr.refl [] _).alloc _) (by simp)
  have q2 : Blk (parW w) (w.heap.size + 1 + 1) 24 #[.int .i64 0] := by
    have h := Blk.fresh ((w.alloc (.cells #[.slice none 0 0] 52)).alloc (.cells #[.int .i64 0] 3)) 24 #[.int .i64 0]
    rw [World.size_alloc, World.size_alloc] at h
    exact h
  exact ⟨q0.fr hfa (by simp), q1.fr hfa (by simp), q2.fr hfa (by simp), Blk.fresh _ _ _, hr.fr ha (by simp) (by simp), (parW_fr w).tr hfa, by omega, by omega, by omega⟩

theorem ParB.step {w wi wj : World} {v0 : Value} {b p g k k' : Nat} {l : List UInt8} (h : ParB w wi v0 b p g l k) (hf : Fr [p] wi wj) (hr : Rdr wj p g l k') : ParB w wj v0 b p g l k' := by
  have hp := h.plt
  exact ⟨h.r0.fr hf (by simp; omega), h.r1.fr hf (by simp; omega), h.r2.fr hf (by simp; omega), h.src.fr hf (by simpa using h.src.other h.rdr.1 (by decide)), hr, h.fr.trans hf (by simp; omega), h.plt, h.glt, h.blt⟩

/-- The variables alone. -/
structure Vars (w wi : World) (v0 : Value) : Prop where
  r0 : Blk wi w.heap.size 52 #[v0]
  r1 : Blk wi (w.heap.size + 1) 3 #[.int .i64 0]
  r2 : Blk wi (w.heap.size + 1 + 1) 24 #[.int .i64 0]
  fr : Fr [] w wi
theorem ParB.keep {w wi wj : World} {v0 : Value} {b p g k : Nat} {l : List UInt8} (h : ParB w wi v0 b p g l k) (hf : Fr [p] wi wj) : Vars w wj v0 := by
  have hp := h.plt
  exact ⟨h.r0.fr hf (by simp; omega), h.r1.fr hf (by simp; omega), h.r2.fr hf (by simp; omega), h.fr.trans hf (by simp; omega)⟩

theorem Vars.done {w wi : World} {v0 : Value} (h : Vars w wi v0) (u0 u1 u2 : Value) :
    let wj := ((wi.setCell ⟨w.heap.size, 0, none⟩ u0).setCell ⟨w.heap.size + 1, 0, none⟩ u1).setCell ⟨w.heap.size + 1 + 1, 0, none⟩ u2
    Blk wj w.heap.size 52 #[u0] ∧ Blk wj (w.heap.size + 1) 3 #[u1] ∧ Blk wj (w.heap.size + 1 + 1) 24 #[u2] ∧ Fr [w.heap.size, w.heap.size + 1, w.heap.size + 1 + 1] wi wj := by
  intro wj
  have k0 := h.r0.put 0 u0
  have k1 := (h.r1.fr ((Fr.refl [w.heap.size] wi).setCell (p := ⟨w.heap.size, 0, none⟩) (by simp) u0) (by simp)).put 0 u1
  have k2 := (h.r2.fr (((Fr.refl [w.heap.size, w.heap.size + 1] wi).setCell (p := ⟨w.heap.size, 0, none⟩) (by simp) u0).setCell (p := ⟨w.heap.size + 1, 0, none⟩) (by simp) u1) (by simp; omega)).put 0 u2
  have k1' := k1.fr ((Fr.refl [w.heap.size + 1 + 1] _).setCell (p := ⟨w.heap.size + 1 + 1, 0, none⟩) (by simp) u2) (by simp)
  have k0' := k0.fr (((Fr.refl [w.heap.size + 1, w.heap.size + 1 + 1] _).setCell (p := ⟨w.heap.size + 1, 0, none⟩) (by simp) u1).setCell (p := ⟨w.heap.size + 1 + 1, 0, none⟩) (by simp) u2) (by simp; omega)
  simp at k0' k1' k2
  exact ⟨k0', k1', k2, (((Fr.refl _ wi).setCell (by simp) _).setCell (by simp) _).setCell (by simp) _⟩

theorem ParB.lay {w wi : World} {v0 : Value} {b p g k : Nat} {l : List UInt8} (h : ParB w wi v0 b p g l k) (u : Value) : ParB w (wi.setCell ⟨w.heap.size, 0, none⟩ u).drew u b p g l k := by
  have hf : Fr [w.heap.size] wi (wi.setCell ⟨w.heap.size, 0, none⟩ u).drew := ((Fr.refl [w.heap.size] wi).setCell (by simp) u).drew
  have hp := h.plt
  have hg := h.glt
  have hb := h.blt
  have h0 := h.r0.put 0 u
  simp at h0
  exact ⟨h0.fr (Fr.refl [] _).drew (by simp), h.r1.fr hf (by simp), h.r2.fr hf (by simp; omega), h.src.fr hf (by simp; omega), h.rdr.fr hf (by simp; omega) (by simp; omega), h.fr.trans hf (by simp), hp, hg, hb⟩

theorem Parsed.fail {w wi w' : World} {O : Int × List Rec × Int} {b0 b1 b2 : Nat} (e : Int) (hO : O = (e, [], 0)) (hi : Fr [] w wi) (hf : Fr [b0, b1, b2] wi w') (h0 : w.heap.size ≤ b0) (h1 : w.heap.size ≤ b1) (h2 : w.heap.size ≤ b2) :
    Parsed w O (.returned (.tuple #[.slice none 0 0, .int .i64 0, .int .i64 e])) w' := by
  subst hO
  exact ⟨none, 0, rfl, recRd_nil _ _, hi.trans hf (by simp; omega)⟩

set_option maxHeartbeats 1000000 in
theorem parse_long (w : World) (A : Option Addr) (n c : Nat) (l : List UInt8) (hn : l.length = n) (hl : 16777216 < n) :
    Calls Try.prog 21 #[.slice A n c] w (Parsed w (parse l)) := by
  have HA := Lib.hid (parse_large l (by omega))
  generalize parse l = O at *
  have hl' : 16777216 < (n : Int) := by omega
  go_enter_defers Try.func21, Try.ntmps21
  go_wp2
  rw [HA.out]
  refine ⟨.tuple #[.slice none 0 0, .int .i64 0, .int .i64 6], by simp [results, Try.results21, go_sem], none, 0, rfl, recRd_nil _ _, (((Fr.refl [] w).alloc _).alloc _).alloc _⟩

theorem head_fail (w : World) (p g : Nat) (l : List UInt8) (h : Rdr w p g l 0) (hl : l.length ≤ 1000000000) (hp : l.take 5 ≠ patch) :
    Calls Try.prog 36 #[srcV p] w fun e w' => e = .panicked (pan 3) ∧ Fr [p] w w' := by
  by_cases h5 : l.length < 5
  · exact head_short w p g l h h5
  · exact head_bad w p g l h (by omega) hl hp

set_option maxHeartbeats 1000000 in
theorem parse_nohead (w : World) (A : Option Addr) (n c : Nat) (l : List UInt8) (hn : l.length = n) (h : Rd w A l) (hl : n ≤ 16777216) (hp : l.take 5 ≠ patch) :
    Calls Try.prog 21 #[.slice A n c] w (Parsed w (parse l)) := by
  have HA := Lib.hid (parse_head l (by omega) hp)
  generalize parse l = O at *
  have hl' : ¬ 16777216 < (n : Int) := by omega
  have HR := Lib.hid (h.later (parW_fr w) (by simp))
  have HN := Lib.hid hn
  have HP := Lib.hid hp
  clear h hn hp
  have hmf : ∀ (fn : Fn) (first cap : Array Value) (w : World), (Instr.makeFunc fn first cap).run Try.prog w = .ok (.func fn first cap) w := fun _ _ _ _ => rfl
  go_enter_defers Try.func21, Try.ntmps21
  go_wp2_with fail
  refine (newReader_any A n c l (parW w) HN.out HR.out (by omega)).mono ?_
  rintro e w1 ⟨p, rfl, hr, hp, hf⟩
  have HB := Lib.hid (ParB.first hr hp hf)
  clear hr hp hf
  go_wp2_with fail
  refine (head_fail _ p _ l HB.out.rdr (by have := HN.out; omega) HP.out).mono ?_
  rintro e w2 ⟨rfl, hf⟩
  have HF := Lib.hid hf
  clear hf
  have h2 := HB.out.plt
  exact door_panic _ w2 _ _ _ _ 3 _ 0 0 rfl rfl rfl (HB.out.r0.fr HF.out (by simp; omega)) (HB.out.r1.fr HF.out (by simp; omega)) (HB.out.r2.fr HF.out (by simp; omega))
    (fun w' hf => .fail 3 HA.out (HB.out.fr.trans HF.out (by simp; omega)) hf (by omega) (by omega) (by omega))

set_option maxHeartbeats 1000000 in
theorem parse_bad (w : World) (A : Option Addr) (n c : Nat) (l : List UInt8) (x : Int) (hn : l.length = n) (h : Rd w A l) (hl : n ≤ 16777216) (hp : l.take 5 = patch) (hx : recs l (l.length + 1) 5 = .inl x) :
    Calls Try.prog 21 #[.slice A n c] w (Parsed w (parse l)) := by
  have HA := Lib.hid (parse_fail l x (by omega) hp hx)
  generalize parse l = O at *
  have hl' : ¬ 16777216 < (n : Int) := by omega
  have h5 : 5 ≤ l.length := by have := congrArg List.length hp; simp [patch] at this; omega
  have HR := Lib.hid (h.later (parW_fr w) (by simp))
  have HN := Lib.hid hn
  have HP := Lib.hid hp
  have HX := Lib.hid hx
  have hll : l.length ≤ 1000000000 := by omega
  clear h hn hp hx
  have hmf : ∀ (fn : Fn) (first cap : Array Value) (w : World), (Instr.makeFunc fn first cap).run Try.prog w = .ok (.func fn first cap) w := fun _ _ _ _ => rfl
  go_enter_defers Try.func21, Try.ntmps21
  go_wp2_with fail
  refine (newReader_any A n c l (parW w) HN.out HR.out (by omega)).mono ?_
  rintro e w1 ⟨p, rfl, hr, hp, hf⟩
  have HB := Lib.hid (ParB.first hr hp hf)
  clear hr hp hf
  go_wp2_with fail
  refine (head_ok _ p _ l HB.out.rdr hll HP.out).mono ?_
  rintro e w2 ⟨rfl, hr, hf⟩
  have HB2 := Lib.hid (HB.out.step hf hr)
  have hc := src_cell HB2.out.src
  clear hr hf
  go_wp2_with fail
  refine (records_any _ p _ 5 (l.length + 1) l HB2.out.rdr h5 hll (by omega)).mono ?_
  rintro e w3 hq
  obtain ⟨rfl, hf⟩ := hq.1 x HX.out
  have HF := Lib.hid hf
  clear hf hq
  have h2 := HB.out.plt
  exact door_panic _ w3 _ _ _ _ x _ 0 0 rfl rfl rfl (HB2.out.r0.fr HF.out (by simp; omega)) (HB2.out.r1.fr HF.out (by simp; omega)) (HB2.out.r2.fr HF.out (by simp; omega))
    (fun w' hf => .fail x HA.out (HB2.out.fr.trans HF.out (by simp; omega)) hf (by omega) (by omega) (by omega))

set_option maxHeartbeats 1000000 in
theorem parse_torn (w : World) (A : Option Addr) (n c : Nat) (l : List UInt8) (rs : List Rec) (k : Nat) (hn : l.length = n) (h : Rd w A l) (hl : n ≤ 16777216) (hp : l.take 5 = patch) (hx : recs l (l.length + 1) 5 = .inr (rs, k)) (ht : (tailOf l rs k).1 ≠ 0) :
    Calls Try.prog 21 #[.slice A n c] w (Parsed w (parse l)) := by
  have HA := Lib.hid (parse_tail l rs k (by omega) hp hx)
  generalize parse l = O at *
  have hl' : ¬ 16777216 < (n : Int) := by omega
  have h5 : 5 ≤ l.length := by have := congrArg List.length hp; simp [patch] at this; omega
  have HR := Lib.hid (h.later (parW_fr w) (by simp))
  have HN := Lib.hid hn
  have HP := Lib.hid hp
  have HX := Lib.hid hx
  have HT := Lib.hid ht
  have hll : l.length ≤ 1000000000 := by omega
  clear h hn hp hx ht
  have hmf : ∀ (fn : Fn) (first cap : Array Value) (w : World), (Instr.makeFunc fn first cap).run Try.prog w = .ok (.func fn first cap) w := fun _ _ _ _ => rfl
  go_enter_defers Try.func21, Try.ntmps21
  go_wp2_with fail
  refine (newReader_any A n c l (parW w) HN.out HR.out (by omega)).mono ?_
  rintro e w1 ⟨p, rfl, hr, hp, hf⟩
  have HB := Lib.hid (ParB.first hr hp hf)
  clear hr hp hf
  go_wp2_with fail
  refine (head_ok _ p _ l HB.out.rdr hll HP.out).mono ?_
  rintro e w2 ⟨rfl, hr, hf⟩
  have HB2 := Lib.hid (HB.out.step hf hr)
  have hc := src_cell HB2.out.src
  clear hr hf
  go_wp2_with fail
  refine (records_any _ p _ 5 (l.length + 1) l HB2.out.rdr h5 hll (by omega)).mono ?_
  rintro e w3 hq
  obtain ⟨A3, c3, rfl, ho, hr, hf⟩ := hq.2 rs k HX.out
  have HB3 := Lib.hid (HB2.out.step hf hr)
  have HO := Lib.hid ho
  have q0 := HB3.out.r0.cell 0
  have z0 := HB3.out.r0.frozen 0
  simp at q0
  have q1 := src_cell HB3.out.src
  have hbn : ¬ w1.heap.size = w.heap.size := by have := HB.out.blt; omega
  have hbn' : ¬ w.heap.size = w1.heap.size := by have := HB.out.blt; omega
  have HB4 := Lib.hid (HB3.out.lay (.slice A3 rs.length c3))
  have hk := (recs_le l _ _ _ _ HX.out).2.1
  clear hr hf hq ho
  go_wp2_with fail
  go_region_dies
  all_goals
    refine (cut_any _ p _ k l rs HB4.out.rdr hk hll).mono ?_
    rintro e w5 hq
    obtain ⟨_, he, hf⟩ := hq
    have he' := he HT.out
    subst he'
    have HF := Lib.hid hf
    clear hf he
    have h2 := HB.out.plt
    exact door_panic _ w5 _ _ _ _ _ _ 0 0 rfl rfl rfl (HB4.out.r0.fr HF.out (by simp; omega)) (HB4.out.r1.fr HF.out (by simp; omega)) (HB4.out.r2.fr HF.out (by simp; omega))
      (fun w' hf => .fail _ (HA.out.trans (tail_fail l rs k HT.out)) (HB4.out.fr.trans HF.out (by simp; omega)) hf (by omega) (by omega) (by omega))

set_option maxHeartbeats 1000000 in
theorem parse_whole (w : World) (A : Option Addr) (n c : Nat) (l : List UInt8) (rs : List Rec) (k : Nat) (hn : l.length = n) (h : Rd w A l) (hl : n ≤ 16777216) (hp : l.take 5 = patch) (hx : recs l (l.length + 1) 5 = .inr (rs, k)) (ht : (tailOf l rs k).1 = 0) :
    Calls Try.prog 21 #[.slice A n c] w (Parsed w (parse l)) := by
  have HA := Lib.hid (parse_tail l rs k (by omega) hp hx)
  generalize parse l = O at *
  have hl' : ¬ 16777216 < (n : Int) := by omega
  have h5 : 5 ≤ l.length := by have := congrArg List.length hp; simp [patch] at this; omega
  have HR := Lib.hid (h.later (parW_fr w) (by simp))
  have HN := Lib.hid hn
  have HP := Lib.hid hp
  have HX := Lib.hid hx
  have HT := Lib.hid ht
  have hll : l.length ≤ 1000000000 := by omega
  clear h hn hp hx ht
  have hmf : ∀ (fn : Fn) (first cap : Array Value) (w : World), (Instr.makeFunc fn first cap).run Try.prog w = .ok (.func fn first cap) w := fun _ _ _ _ => rfl
  go_enter_defers Try.func21, Try.ntmps21
  go_wp2_with fail
  refine (newReader_any A n c l (parW w) HN.out HR.out (by omega)).mono ?_
  rintro e w1 ⟨p, rfl, hr, hp, hf⟩
  have HB := Lib.hid (ParB.first hr hp hf)
  clear hr hp hf
  go_wp2_with fail
  refine (head_ok _ p _ l HB.out.rdr hll HP.out).mono ?_
  rintro e w2 ⟨rfl, hr, hf⟩
  have HB2 := Lib.hid (HB.out.step hf hr)
  have hc := src_cell HB2.out.src
  clear hr hf
  go_wp2_with fail
  refine (records_any _ p _ 5 (l.length + 1) l HB2.out.rdr h5 hll (by omega)).mono ?_
  rintro e w3 hq
  obtain ⟨A3, c3, rfl, ho, hr, hf⟩ := hq.2 rs k HX.out
  have HB3 := Lib.hid (HB2.out.step hf hr)
  have HO := Lib.hid ho
  have q0 := HB3.out.r0.cell 0
  have z0 := HB3.out.r0.frozen 0
  simp at q0
  have q1 := src_cell HB3.out.src
  have hbn : ¬ w1.heap.size = w.heap.size := by have := HB.out.blt; omega
  have hbn' : ¬ w.heap.size = w1.heap.size := by have := HB.out.blt; omega
  have HB4 := Lib.hid (HB3.out.lay (.slice A3 rs.length c3))
  have hk := (recs_le l _ _ _ _ HX.out).2.1
  clear hr hf hq ho
  go_wp2_with fail
  have HC : Hid (∀ w' p g, Rdr w' p g l k → Calls Try.prog 38 #[.agg #[.pointer (some ⟨p, 0, none⟩)]] w' fun e w'' => e = .returned (.int .i64 (tailOf l rs k).2.2) ∧ Fr [p] w' w'') :=
    Lib.hid fun w' p g hr => (cut_any w' p g k l rs hr hk hll).mono fun e w'' hq => ⟨hq.1 HT.out, hq.2.2⟩
  generalize hz : (tailOf l rs k).2.2 = z at *
  have HZ := Lib.hid hz
  clear hz
  go_region_with ((go_at_call 38; refine (HC.out _ p _ HB4.out.rdr).mono ?_; rintro e w5 ⟨rfl, hf5⟩; have h2 := HB.out.plt; have HB5 := Lib.hid (HB4.out.keep hf5); have c0 := HB5.out.r0.cell 0; have c1 := HB5.out.r1.cell 0; have c2 := HB5.out.r2.cell 0; have f0 := HB5.out.r0.frozen 0; have f1 := HB5.out.r1.frozen 0; have f2 := HB5.out.r2.frozen 0; simp at c0 c1 c2; have HF5 := Lib.hid hf5; clear hf5))
  all_goals
    go_wp2
    obtain ⟨k0, k1, k2, hf6⟩ := HB5.out.done (.slice A3 rs.length c3) (.int .i64 z) (.int .i64 0)
    refine door_ret _ _ _ _ _ _ _ _ _ rfl rfl rfl k0 k1 k2 ?_
    have hs2 := HB2.out.r2.lt
    have hf7 := ((((Fr.refl [w.heap.size] w3).setCell (p := ⟨w.heap.size, 0, none⟩) (by simp) (.slice A3 rs.length c3)).drew.sub (T := [w.heap.size, w.heap.size + 1, w.heap.size + 1 + 1, p]) (by simp)).tr (HF5.out.sub (T := [w.heap.size, w.heap.size + 1, w.heap.size + 1 + 1, p]) (by simp))).tr (hf6.sub (T := [w.heap.size, w.heap.size + 1, w.heap.size + 1 + 1, p]) (by simp))
    have ho := HO.out.fr hf7 (by have := HB2.out.rdr.1.lt; simp; omega)
    obtain ⟨A', c', hv, hrd, -⟩ := ho.slice
    cases hv
    refine ⟨A3, c3, ?_, ?_, HB5.out.fr.trans hf6 (by simp; omega)⟩
    · rw [HA.out, tail_ok l rs k HT.out, HZ.out]
    · rw [HA.out, tail_ok l rs k HT.out]; exact hrd

/-- ips.Parse, whatever it is handed. -/
theorem parse_any (w : World) (A : Option Addr) (n c : Nat) (l : List UInt8) (hn : l.length = n) (h : Rd w A l) :
    Calls Try.prog 21 #[.slice A n c] w (Parsed w (parse l)) := by
  by_cases hl : 16777216 < n
  · exact parse_long w A n c l hn hl
  · by_cases hp : l.take 5 = patch
    · cases hx : recs l (l.length + 1) 5 with
      | inl x => exact parse_bad w A n c l x hn h (by omega) hp hx
      | inr o =>
        obtain ⟨rs, k⟩ := o
        by_cases ht : (tailOf l rs k).1 = 0
        · exact parse_whole w A n c l rs k hn h (by omega) hp hx ht
        · exact parse_torn w A n c l rs k hn h (by omega) hp hx ht
    · exact parse_nohead w A n c l hn h (by omega) hp

end Ips
end Go.Proofs.Ytchakjknndpmpaa
