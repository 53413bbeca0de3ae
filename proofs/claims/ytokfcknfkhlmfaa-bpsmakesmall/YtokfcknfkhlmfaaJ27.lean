/-
  Contracts of the functions that bps' deeds are made of, of deeds, and of do for each kind of action.
  Rows of bytes: make by a number of 64 bits, a byte read, a byte turned, xor of bytes: plain laws, of no function of the program.
-/
import Derived.Test.YtokfcknfkhlmfaaJ26
import Derived.Test.YtokfcknfkhlmfaaJ03
import Derived.Laws.BitsAllLaws
namespace Go.Proofs.Ytokfcknfkhlmfaa
open Go.RowKit
namespace Bps

section
variable (w0 w : World) (p : Nat) (X : Option Addr) (xn xc : Nat) (out : List UInt8) (s t : Int) (a : Act) (D : Option Addr) (c : Nat)

set_option maxHeartbeats 1000000 in
theorem samePlace_any (h : Mkr w0 w p X xn xc out s t) : Calls Try.prog 44 #[.pointer (some ⟨p, 0, none⟩), actA a D c] w (Placed w0 p X xn xc out (out.length : Int) s t w) := by
  have HM := Lib.hid h
  obtain ⟨A, cA, hK, -, -, -⟩ := h
  obtain ⟨k0, k1, k2, k3⟩ := blk4 hK
  have hpl := hK.lt
  have hp1 : ¬ p = w.heap.size := by omega
  have hp2 : ¬ w.heap.size = p := by omega
  clear hK
  unfold actA
  go_enter Try.func44, Try.ntmps44
  go_wp2
  go_ret
  have hf : Fr [] w (w.alloc (.cells #[.int .i64 (a.kind : Int), .int .i64 (a.len : Int), .int .i64 a.move, .slice D a.data.length c] 82)) := (Fr.refl [] w).alloc _
  exact ⟨rfl, HM.out.later hf, hf.nil⟩

set_option maxHeartbeats 1000000 in
theorem firstPlace_any (h : Mkr w0 w p X xn xc out s t) : Calls Try.prog 46 #[.pointer (some ⟨p, 0, none⟩), actA a D c] w (Placed w0 p X xn xc out 0 s t w) := by
  have HM := Lib.hid h
  clear h
  unfold actA
  go_enter Try.func46, Try.ntmps46
  go_wp2
  go_ret
  have hf : Fr [] w (w.alloc (.cells #[.int .i64 (a.kind : Int), .int .i64 (a.len : Int), .int .i64 a.move, .slice D a.data.length c] 82)) := (Fr.refl [] w).alloc _
  exact ⟨rfl, HM.out.later hf, hf.nil⟩

set_option maxHeartbeats 1000000 in
theorem input_any (h : Mkr w0 w p X xn xc out s t) (x : List UInt8) (hn : x.length = xn) (hx : Rd w0 X x) (hX : X = none → xc = 0) (hc : xn ≤ xc) (hm : xc ≤ maxLen) : Calls Try.prog 45 #[.pointer (some ⟨p, 0, none⟩), actA a D c] w (Given x w) := by
  have HM := Lib.hid h
  obtain ⟨A, cA, hK, -, -, -⟩ := h
  obtain ⟨k0, k1, k2, k3⟩ := blk4 hK
  have hpl := hK.lt
  have hp1 : ¬ p = w.heap.size := by omega
  have hp2 : ¬ w.heap.size = p := by omega
  have HX := Lib.hid hx
  have Hn := Lib.hid hn
  have HXn := Lib.hid hX
  have Hm := Lib.hid hm
  have Hc := Lib.hid hc
  clear hK hx hn hX hm hc
  unfold actA
  go_enter Try.func45, Try.ntmps45
  go_wp2
  go_ret
  have hf : Fr [] w (w.alloc (.cells #[.int .i64 (a.kind : Int), .int .i64 (a.len : Int), .int .i64 a.move, .slice D a.data.length c] 82)) := (Fr.refl [] w).alloc _
  exact ⟨X, xc, by rw [Hn.out]; rfl, HX.out.later (HM.out.fr0.tr hf) (by simp), HXn.out, by rw [Hn.out]; exact Hc.out, Hm.out, hf⟩

set_option maxHeartbeats 1000000 in
theorem output_any (h : Mkr w0 w p X xn xc out s t) : Calls Try.prog 50 #[.pointer (some ⟨p, 0, none⟩), actA a D c] w (Given out w) := by
  obtain ⟨A, cA, hK, hO, -, -⟩ := h
  obtain ⟨k0, k1, k2, k3⟩ := blk4 hK
  have hpl := hK.lt
  have hp1 : ¬ p = w.heap.size := by omega
  have hp2 : ¬ w.heap.size = p := by omega
  have HO := Lib.hid hO
  clear hK hO
  unfold actA
  go_enter Try.func50, Try.ntmps50
  go_wp2
  go_ret
  have hf : Fr [] w (w.alloc (.cells #[.int .i64 (a.kind : Int), .int .i64 (a.len : Int), .int .i64 a.move, .slice D a.data.length c] 82)) := (Fr.refl [] w).alloc _
  obtain ⟨A', c', hv, h1, _, h2, h3, h4⟩ := HO.out.slice
  cases hv
  exact ⟨A, cA, rfl, h1.later hf (by simp), h4, h2, h3, hf⟩

set_option maxHeartbeats 1000000 in
theorem data_any (hD : Rd w D a.data) (hn : D = none → c = 0) (hc : a.data.length ≤ c) (hm : c ≤ maxLen) : Calls Try.prog 47 #[.pointer (some ⟨p, 0, none⟩), actA a D c] w (Given a.data w) := by
  have HD := Lib.hid hD
  have Hn := Lib.hid hn
  have Hc := Lib.hid hc
  have Hm := Lib.hid hm
  clear hD hn hc hm
  unfold actA
  go_enter Try.func47, Try.ntmps47
  go_wp2
  go_ret
  have hf : Fr [] w (w.alloc (.cells #[.int .i64 (a.kind : Int), .int .i64 (a.len : Int), .int .i64 a.move, .slice D a.data.length c] 82)) := (Fr.refl [] w).alloc _
  exact ⟨D, c, rfl, HD.out.later hf (by simp), Hn.out, Hc.out, Hm.out, hf⟩

set_option maxHeartbeats 1000000 in
theorem moved_any (o : Nat) (z : Int) (hz : w.cell? ⟨p, o, none⟩ = some (.int .i64 z)) (hfz : w.frozen? ⟨p, o, none⟩ = false) (h0 : -4000000000000000000 ≤ z + a.move) (h1 : z + a.move ≤ 4000000000000000000) (hl : a.len ≤ 16777216) :
    Calls Try.prog 71 #[.pointer (some ⟨p, o, none⟩), actA a D c] w fun e w' => e = .returned (.int .i64 (z + a.move)) ∧ ∃ W, Fr [] w W ∧ w' = W.setCell ⟨p, o, none⟩ (.int .i64 (z + a.move + (a.len : Int))) := by
  have hpl := World.block_lt_of_cell? w _ hz
  simp only at hpl
  have hp1 : ¬ p = w.heap.size := by omega
  have hp2 : ¬ w.heap.size = p := by omega
  have e1 : IntKind.i64.wrap (z + a.move) = z + a.move := by rw [IntKind.wrap_i64]; omega
  have e2 : IntKind.i64.wrap (z + a.move + (a.len : Int)) = z + a.move + (a.len : Int) := by rw [IntKind.wrap_i64]; omega
  unfold actA
  go_enter Try.func71, Try.ntmps71
  go_wp2
  go_quiet (fail)
  go_wp2
  go_ret
  exact ⟨rfl, _, ((Fr.refl [] w).alloc _).drewN _, rfl⟩

set_option maxHeartbeats 1000000 in
theorem sourcePlace_any (h : Mkr w0 w p X xn xc out s t) (h0 : -4000000000000000000 ≤ s + a.move) (h1 : s + a.move ≤ 4000000000000000000) (hl : a.len ≤ 16777216) : Calls Try.prog 48 #[.pointer (some ⟨p, 0, none⟩), actA a D c] w (Placed w0 p X xn xc out (s + a.move) (s + a.move + (a.len : Int)) (t) w) := by
  have hf : Fr [] w (w.alloc (.cells #[.int .i64 (a.kind : Int), .int .i64 (a.len : Int), .int .i64 a.move, .slice D a.data.length c] 82)) := (Fr.refl [] w).alloc _
  have hM := h.later hf
  obtain ⟨A, cA, hK, hO, hp0, hfr⟩ := hM
  have HMv := Lib.hid fun W (hW : Fr [] (w.alloc (.cells #[.int .i64 (a.kind : Int), .int .i64 (a.len : Int), .int .i64 a.move, .slice D a.data.length c] 82)) W) => moved_any W p a D c 2 s (by rw [(hK.fr hW (by simp)).cell]; rfl) ((hK.fr hW (by simp)).frozen 2) h0 h1 hl
  have HK := Lib.hid hK
  have HO := Lib.hid hO
  have HF := Lib.hid hf
  have HF0 := Lib.hid hfr
  unfold actA at HMv ⊢
  clear h hK hO hf hfr
  go_enter Try.func48, Try.ntmps48
  go_wp2_with fail
  go_region_law (go_simp; go_at_call 71; (with_reducible refine (HMv.out _ ((Fr.refl [] _).drew)).mono ?_); rintro e w1 ⟨rfl, W, hW, rfl⟩)
  all_goals
    go_wp2
    go_ret
    have hst : Fr [p] W (W.setCell ⟨p, 2, none⟩ (.int .i64 (s + a.move + (a.len : Int)))) := (Fr.refl [p] W).setCell (by simp) _
    have hd : Fr [] (w.alloc (.cells #[.int .i64 (a.kind : Int), .int .i64 (a.len : Int), .int .i64 a.move, .slice D a.data.length c] 82)) W := ((Fr.refl [] _).drew).tr hW
    have hK1 := HK.out.fr hd (by simp)
    have hb := hK1.put 2 (.int .i64 (s + a.move + (a.len : Int)))
    simp only [List.setIfInBounds_toArray, List.set_cons_zero, List.set_cons_succ] at hb
    have hO1 := HO.out.fr hd (by simp)
    refine ⟨rfl, ⟨A, cA, hb, hO1.fr hst (fun k hk hm => ?_), hp0, (HF0.out.tr hd).trans hst (by simp; exact hp0)⟩, ((HF.out.tr hd).nil).tr hst⟩
    simp at hm
    subst hm
    exact hO1.other hK1 (by decide) hk

set_option maxHeartbeats 1000000 in
theorem targetPlace_any (h : Mkr w0 w p X xn xc out s t) (h0 : -4000000000000000000 ≤ t + a.move) (h1 : t + a.move ≤ 4000000000000000000) (hl : a.len ≤ 16777216) : Calls Try.prog 49 #[.pointer (some ⟨p, 0, none⟩), actA a D c] w (Placed w0 p X xn xc out (t + a.move) (s) (t + a.move + (a.len : Int)) w) := by
  have hf : Fr [] w (w.alloc (.cells #[.int .i64 (a.kind : Int), .int .i64 (a.len : Int), .int .i64 a.move, .slice D a.data.length c] 82)) := (Fr.refl [] w).alloc _
  have hM := h.later hf
  obtain ⟨A, cA, hK, hO, hp0, hfr⟩ := hM
  have HMv := Lib.hid fun W (hW : Fr [] (w.alloc (.cells #[.int .i64 (a.kind : Int), .int .i64 (a.len : Int), .int .i64 a.move, .slice D a.data.length c] 82)) W) => moved_any W p a D c 3 t (by rw [(hK.fr hW (by simp)).cell]; rfl) ((hK.fr hW (by simp)).frozen 3) h0 h1 hl
  have HK := Lib.hid hK
  have HO := Lib.hid hO
  have HF := Lib.hid hf
  have HF0 := Lib.hid hfr
  unfold actA at HMv ⊢
  clear h hK hO hf hfr
  go_enter Try.func49, Try.ntmps49
  go_wp2_with fail
  go_region_law (go_simp; go_at_call 71; (with_reducible refine (HMv.out _ ((Fr.refl [] _).drew)).mono ?_); rintro e w1 ⟨rfl, W, hW, rfl⟩)
  all_goals
    go_wp2
    go_ret
    have hst : Fr [p] W (W.setCell ⟨p, 3, none⟩ (.int .i64 (t + a.move + (a.len : Int)))) := (Fr.refl [p] W).setCell (by simp) _
    have hd : Fr [] (w.alloc (.cells #[.int .i64 (a.kind : Int), .int .i64 (a.len : Int), .int .i64 a.move, .slice D a.data.length c] 82)) W := ((Fr.refl [] _).drew).tr hW
    have hK1 := HK.out.fr hd (by simp)
    have hb := hK1.put 3 (.int .i64 (t + a.move + (a.len : Int)))
    simp only [List.setIfInBounds_toArray, List.set_cons_zero, List.set_cons_succ] at hb
    have hO1 := HO.out.fr hd (by simp)
    refine ⟨rfl, ⟨A, cA, hb, hO1.fr hst (fun k hk hm => ?_), hp0, (HF0.out.tr hd).trans hst (by simp; exact hp0)⟩, ((HF.out.tr hd).nil).tr hst⟩
    simp at hm
    subst hm
    exact hO1.other hK1 (by decide) hk

end

/-- The functions of a kind's deed. -/
def fromF (k : Nat) : Nat := if k = 0 then 44 else if k = 1 then 46 else if k = 2 then 48 else 49
def bytesF (k : Nat) : Nat := if k = 1 then 47 else if k = 3 then 50 else 45
/-- A method's value, of the maker at block p. -/
def metV (f p : Nat) : Value := .func (.func f) #[.pointer (some ⟨p, 0, none⟩)] #[]
/-- All deeds. -/
def deedsV (p : Nat) : Array Value := #[metV (fromF 0) p, metV (bytesF 0) p, metV (fromF 1) p, metV (bytesF 1) p, metV (fromF 2) p, metV (bytesF 2) p, metV (fromF 3) p, metV (bytesF 3) p]

theorem blk8 {w : World} {b : Nat} {x0 x1 x2 x3 x4 x5 x6 x7 : Value} {t : TypeId} (h : Blk w b t #[x0, x1, x2, x3, x4, x5, x6, x7]) : (w.cell? ⟨b, 0, none⟩ = some x0 ∧ w.cell? ⟨b, 1, none⟩ = some x1 ∧ w.cell? ⟨b, 2, none⟩ = some x2 ∧ w.cell? ⟨b, 3, none⟩ = some x3) ∧ w.cell? ⟨b, 4, none⟩ = some x4 ∧ w.cell? ⟨b, 5, none⟩ = some x5 ∧ w.cell? ⟨b, 6, none⟩ = some x6 ∧ w.cell? ⟨b, 7, none⟩ = some x7 :=
  ⟨⟨by rw [h.cell]; rfl, by rw [h.cell]; rfl, by rw [h.cell]; rfl, by rw [h.cell]; rfl⟩, by rw [h.cell]; rfl, by rw [h.cell]; rfl, by rw [h.cell]; rfl, by rw [h.cell]; rfl⟩

set_option maxHeartbeats 1000000 in
theorem deeds_any (w : World) (p : Nat) : Calls Try.prog 28 #[.pointer (some ⟨p, 0, none⟩)] w fun e w' => e = .returned (.agg (deedsV p)) ∧ Fr [] w w' := by
  have hmf : ∀ (fn : Fn) (first cap : Array Value) (w : World), (Instr.makeFunc fn first cap).run Try.prog w = .ok (.func fn first cap) w := fun _ _ _ _ => rfl
  have HB := Lib.hid (blk8 (Blk.fresh w 80 (deedsV p)))
  have HF := Lib.hid ((Fr.refl [] w).alloc (.cells (deedsV p) 80))
  have HD : Hid (deedsV p = #[.func (.func 44) #[.pointer (some ⟨p, 0, none⟩)] #[], .func (.func 45) #[.pointer (some ⟨p, 0, none⟩)] #[], .func (.func 46) #[.pointer (some ⟨p, 0, none⟩)] #[], .func (.func 47) #[.pointer (some ⟨p, 0, none⟩)] #[], .func (.func 48) #[.pointer (some ⟨p, 0, none⟩)] #[], .func (.func 45) #[.pointer (some ⟨p, 0, none⟩)] #[], .func (.func 49) #[.pointer (some ⟨p, 0, none⟩)] #[], .func (.func 50) #[.pointer (some ⟨p, 0, none⟩)] #[]]) := Lib.hid rfl
  rw [HD.out] at HB HF ⊢
  clear HD
  go_enter Try.func28, Try.ntmps28
  go_wp2
  obtain ⟨⟨z0, z1, z2, z3⟩, z4, z5, z6, z7⟩ := HB.out
  simp only [metV, fromF, bytesF] at z0 z1 z2 z3 z4 z5 z6 z7
  generalize w.alloc _ = W at *
  exact bodyPost_ret (v := .agg #[.func (.func 44) #[.pointer (some ⟨p, 0, none⟩)] #[], .func (.func 45) #[.pointer (some ⟨p, 0, none⟩)] #[], .func (.func 46) #[.pointer (some ⟨p, 0, none⟩)] #[], .func (.func 47) #[.pointer (some ⟨p, 0, none⟩)] #[], .func (.func 48) #[.pointer (some ⟨p, 0, none⟩)] #[], .func (.func 45) #[.pointer (some ⟨p, 0, none⟩)] #[], .func (.func 49) #[.pointer (some ⟨p, 0, none⟩)] #[], .func (.func 50) #[.pointer (some ⟨p, 0, none⟩)] #[]]) (by simp [results, Try.results28, go_sem, z0, z1, z2, z3, z4, z5, z6, z7]) rfl ⟨rfl, HF.out⟩

theorem enters_own {f : FuncId} {fn : Func} (hf : Try.prog.funcs[f]? = some fn) (hn : (fn.name == "runtime.NumGoroutine") = false) (hb : fn.body.isNone = false) (args : Array Value) (W : World) : (callFunc f args).run Try.prog W = .ok (.enter f args) W := by
  have h1 : fn.name ≠ "runtime.NumGoroutine" := by simpa using hn
  obtain ⟨b, h2⟩ : ∃ b, fn.body = some b := by
    cases h : fn.body with
    | none => rw [h] at hb; cases hb
    | some b => exact ⟨b, rfl⟩
  simp [callFunc, hf, h1, h2]

theorem enters_from (k : Nat) (hk : k < 4) (args : Array Value) (W : World) : (callFunc (fromF k) args).run Try.prog W = .ok (.enter (fromF k) args) W := by
  rcases (by omega : k = 0 ∨ k = 1 ∨ k = 2 ∨ k = 3) with rfl | rfl | rfl | rfl
  · exact enters_own Try.func44 (by kernel_rfl) (by kernel_rfl) args W
  · exact enters_own Try.func46 (by kernel_rfl) (by kernel_rfl) args W
  · exact enters_own Try.func48 (by kernel_rfl) (by kernel_rfl) args W
  · exact enters_own Try.func49 (by kernel_rfl) (by kernel_rfl) args W
theorem enters_bytes (k : Nat) (hk : k < 4) (args : Array Value) (W : World) : (callFunc (bytesF k) args).run Try.prog W = .ok (.enter (bytesF k) args) W := by
  rcases (by omega : k = 0 ∨ k = 1 ∨ k = 2 ∨ k = 3) with rfl | rfl | rfl | rfl
  · exact enters_own Try.func45 (by kernel_rfl) (by kernel_rfl) args W
  · exact enters_own Try.func47 (by kernel_rfl) (by kernel_rfl) args W
  · exact enters_own Try.func45 (by kernel_rfl) (by kernel_rfl) args W
  · exact enters_own Try.func50 (by kernel_rfl) (by kernel_rfl) args W

theorem do_any (w0 w : World) (p : Nat) (X : Option Addr) (xn xc : Nat) (x : List UInt8) (st : St) (a : Act) (D : Option Addr) (c : Nat) (hM : Mkr w0 w p X xn xc st.out st.s st.t) (ha : Ok a)
    (hn : x.length = xn) (hx : Rd w0 X x) (hX : X = none → xc = 0) (hc : xn ≤ xc) (hm : xc ≤ maxLen) (hD : Rd w0 D a.data) (hDn : D = none → c = 0) (hDc : a.data.length ≤ c) (hDm : c ≤ maxLen)
    (hs0 : -3000000000000000000 ≤ st.s) (hs1 : st.s ≤ 3000000000000000000) (ht0 : -3000000000000000000 ≤ st.t) (ht1 : st.t ≤ 3000000000000000000) (hxl : x.length ≤ 16777216) (hol : st.out.length + a.len ≤ 16777216) :
    Calls Try.prog 29 #[.pointer (some ⟨p, 0, none⟩), .agg #[metV (fromF a.kind) p, metV (bytesF a.kind) p], actA a D c] w (Did w0 w p X xn xc (act1 x a st)) := by
  have h4 := ha.kind
  have hlo := ha.low
  have hhi := ha.high
  have hlen := ha.len
  have hin : ∀ W out' s' t', Mkr w0 W p X xn xc out' s' t' → Calls Try.prog 45 #[.pointer (some ⟨p, 0, none⟩), actA a D c] W (Given x W) := fun W out' s' t' h => input_any w0 W p X xn xc out' s' t' a D c h x hn hx hX hc hm
  rcases (by omega : a.kind = 0 ∨ a.kind = 1 ∨ a.kind = 2 ∨ a.kind = 3) with h0 | h0 | h0 | h0
  · have hmv : moved a st = st := by simp [moved, h0]
    refine do_gen w0 w p X xn xc x st a D c (fromF a.kind) (bytesF a.kind) st.s st.t (enters_from _ h4) (enters_bytes _ h4) hM ha ?_ ?_ (by simp [hmv, h0]) (by simp [hmv, h0]) (by simp [hmv, h0, at0_, at_]) (by simp [hmv, h0, at0_, at_]; omega) hxl hol
    · intro W hW
      have h1 := samePlace_any w0 W p X xn xc st.out st.s st.t a D c hW
      simpa [hmv, h0, at0_, at_, fromF] using h1
    · intro W out' hW
      have h1 := hin W out' _ _ hW
      simpa [h0, bytesF, src] using h1
  · have hmv : moved a st = st := by simp [moved, h0]
    refine do_gen w0 w p X xn xc x st a D c (fromF a.kind) (bytesF a.kind) st.s st.t (enters_from _ h4) (enters_bytes _ h4) hM ha ?_ ?_ (by simp [hmv, h0]) (by simp [hmv, h0]) (by simp [h0, at0_, at_]) (by simp [h0, at0_, at_]) hxl hol
    · intro W hW
      have h1 := firstPlace_any w0 W p X xn xc st.out st.s st.t a D c hW
      simpa [hmv, h0, at0_, at_, fromF] using h1
    · intro W out' hW
      have h1 := data_any W p a D c (hD.later hW.fr0 (by simp)) hDn hDc hDm
      simpa [h0, bytesF, src] using h1
  · have hmv : moved a st = ⟨st.out, st.s + a.move, st.t⟩ := by simp [moved, h0]
    refine do_gen w0 w p X xn xc x st a D c (fromF a.kind) (bytesF a.kind) (st.s + a.move + (a.len : Int)) st.t (enters_from _ h4) (enters_bytes _ h4) hM ha ?_ ?_ (by simp [hmv, h0]) (by simp [hmv, h0]) (by simp [hmv, h0, at0_, at_]; omega) (by simp [hmv, h0, at0_, at_]; omega) hxl hol
    · intro W hW
      have h1 := sourcePlace_any w0 W p X xn xc st.out st.s st.t a D c hW (by omega) (by omega) hlen
      simpa [hmv, h0, at0_, at_, fromF] using h1
    · intro W out' hW
      have h1 := hin W out' _ _ hW
      simpa [h0, bytesF, src] using h1
  · have hmv : moved a st = ⟨st.out, st.s, st.t + a.move⟩ := by simp [moved, h0]
    refine do_gen w0 w p X xn xc x st a D c (fromF a.kind) (bytesF a.kind) st.s (st.t + a.move + (a.len : Int)) (enters_from _ h4) (enters_bytes _ h4) hM ha ?_ ?_ (by simp [hmv, h0]) (by simp [hmv, h0]) (by simp [hmv, h0, at0_, at_]; omega) (by simp [hmv, h0, at0_, at_]; omega) hxl hol
    · intro W hW
      have h1 := targetPlace_any w0 W p X xn xc st.out st.s st.t a D c hW (by omega) (by omega) hlen
      simpa [hmv, h0, at0_, at_, fromF] using h1
    · intro W out' hW
      have h1 := output_any w0 W p X xn xc out' _ _ a D c hW
      simpa [h0, bytesF, src] using h1

end Bps
end Go.Proofs.Ytokfcknfkhlmfaa

namespace Go.Proofs.Ytokfcknfkhlmfaa
open Go.RowKit
namespace Ups

theorem made_zero (n : Nat) : madeCells #[Value.int .u8 0] n = (bv (List.replicate n 0)).toArray := by
  rw [← Array.toList_inj]
  apply List.ext_getElem
  · simp [madeCells, bv]
  · intro i h1 h2
    simp [madeCells, bv, Nat.mod_one]

theorem make64 (n : Nat) (hn : n ≤ 1000000000) (w : World) : (Instr.makeSlice 22 (.int .u64 (n : Int)) (.int .u64 (n : Int))).run Try.prog w = .ok (.slice (some ⟨w.heap.size, 0, none⟩) n n) (w.alloc (.cells (bv (List.replicate n 0)).toArray 5)) := by
  obtain ⟨i0, hi, hz0, hz1, hz2⟩ := info_parts info5
  have hrun := run_make (P := Try.prog) w 22 5 i0 (.int .u8 0) Try.underlying22 hi hz0 .u64 .u64 (n : Int) (n : Int) (by omega) (by omega) (by rw [hz2]; omega) (by omega)
  simp only [Int.toNat_natCast] at hrun
  rw [hrun, ← made_zero, hz1, Nat.mul_one]
  rfl

/-- A byte of a row is turned. -/
theorem blk_put {w : World} {g : Nat} {l : List UInt8} (h : Blk w g 5 (bv l).toArray) (k : Nat) (x : UInt8) : Blk (w.setCell ⟨g, k, none⟩ (.int .u8 (x.toNat : Int))) g 5 (bv (l.set k x)).toArray := by
  have h1 := h.put k (.int .u8 (x.toNat : Int))
  rw [List.setIfInBounds_toArray] at h1
  rw [show bv (l.set k x) = (bv l).set k (.int .u8 (x.toNat : Int)) from by simp [bv, List.map_set]]
  exact h1
theorem blk_get {w : World} {g : Nat} {l : List UInt8} (h : Blk w g 5 (bv l).toArray) (k : Nat) (x : UInt8) (hx : l[k]? = some x) : w.cell? ⟨g, k, none⟩ = some (.int .u8 (x.toNat : Int)) := by
  obtain ⟨hk, e⟩ := List.getElem?_eq_some_iff.1 hx
  rw [h.cell k, List.getElem?_toArray, bv_get l k hk, e]
theorem xor_byte (x y : UInt8) : bits .xor .u8 (x.toNat : Int) (y.toNat : Int) = ((x ^^^ y).toNat : Int) := by
  rw [u8_xor_nat _ _ x.toNat_lt y.toNat_lt, UInt8.toNat_xor]

theorem xor_ne {x y : UInt8} (h : x ≠ y) : x ^^^ y ≠ 0 := by
  intro e
  apply h
  have h1 := congrArg (fun z => x ^^^ z) e
  simp only [xor_cancel] at h1
  rw [h1]
  simp

theorem xor_zero {x y : UInt8} (h : x ^^^ y = 0) : x = y := by
  by_cases e : x = y
  · exact e
  · exfalso
    have h1 := congrArg (fun z => x ^^^ z) h
    simp only [xor_cancel] at h1
    exact e (by rw [h1]; simp)

end Ups
end Go.Proofs.Ytokfcknfkhlmfaa
