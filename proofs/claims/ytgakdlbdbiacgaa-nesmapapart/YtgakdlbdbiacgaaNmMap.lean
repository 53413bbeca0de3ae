/-
  The program's map, through its mapper's interface: Mirror, IRQ, Clock, Write. Condition: the state is one that there is.
-/
import Derived.Test.YtgakdlbdbiacgaaNmSer
import Derived.Test.YtgakdlbdbiacgaaNmCntU
import Derived.Test.YtgakdlbdbiacgaaNmCntW
import Derived.Test.YtgakdlbdbiacgaaNmSmall
namespace Go.Proofs.Ytgakdlbdbiacgaa
open Go.RowKit
namespace Nm

theorem meth_plain_write (g : Nat) (W : World) : (method 204 69 (.pointer (some ⟨g, 0, none⟩)) "picklock/nesmap.write").run Try.prog W = .ok (56, .pointer (some ⟨g, 0, none⟩)) W := by kernel_rfl
theorem meth_plain_page (g : Nat) (W : World) : (method 204 69 (.pointer (some ⟨g, 0, none⟩)) "picklock/nesmap.page").run Try.prog W = .ok (54, .pointer (some ⟨g, 0, none⟩)) W := by kernel_rfl
theorem meth_plain_unit (g : Nat) (W : World) : (method 204 69 (.pointer (some ⟨g, 0, none⟩)) "picklock/nesmap.unit").run Try.prog W = .ok (55, .pointer (some ⟨g, 0, none⟩)) W := by kernel_rfl
theorem meth_plain_mirror (g : Nat) (W : World) : (method 204 69 (.pointer (some ⟨g, 0, none⟩)) "picklock/nesmap.mirror").run Try.prog W = .ok (53, .pointer (some ⟨g, 0, none⟩)) W := by kernel_rfl
theorem meth_plain_clock (g : Nat) (W : World) : (method 204 69 (.pointer (some ⟨g, 0, none⟩)) "picklock/nesmap.clock").run Try.prog W = .ok (51, .pointer (some ⟨g, 0, none⟩)) W := by kernel_rfl
theorem meth_plain_irq (g : Nat) (W : World) : (method 204 69 (.pointer (some ⟨g, 0, none⟩)) "picklock/nesmap.irq").run Try.prog W = .ok (52, .pointer (some ⟨g, 0, none⟩)) W := by kernel_rfl
theorem meth_serial_write (g : Nat) (W : World) : (method 204 72 (.pointer (some ⟨g, 0, none⟩)) "picklock/nesmap.write").run Try.prog W = .ok (61, .pointer (some ⟨g, 0, none⟩)) W := by kernel_rfl
theorem meth_serial_page (g : Nat) (W : World) : (method 204 72 (.pointer (some ⟨g, 0, none⟩)) "picklock/nesmap.page").run Try.prog W = .ok (59, .pointer (some ⟨g, 0, none⟩)) W := by kernel_rfl
theorem meth_serial_unit (g : Nat) (W : World) : (method 204 72 (.pointer (some ⟨g, 0, none⟩)) "picklock/nesmap.unit").run Try.prog W = .ok (60, .pointer (some ⟨g, 0, none⟩)) W := by kernel_rfl
theorem meth_serial_mirror (g : Nat) (W : World) : (method 204 72 (.pointer (some ⟨g, 0, none⟩)) "picklock/nesmap.mirror").run Try.prog W = .ok (58, .pointer (some ⟨g, 0, none⟩)) W := by kernel_rfl
theorem meth_serial_clock (g : Nat) (W : World) : (method 204 72 (.pointer (some ⟨g, 0, none⟩)) "picklock/nesmap.clock").run Try.prog W = .ok (51, .pointer (some ⟨g, 0, none⟩)) W := by kernel_rfl
theorem meth_serial_irq (g : Nat) (W : World) : (method 204 72 (.pointer (some ⟨g, 0, none⟩)) "picklock/nesmap.irq").run Try.prog W = .ok (52, .pointer (some ⟨g, 0, none⟩)) W := by kernel_rfl
theorem meth_pageSwitch_write (g : Nat) (W : World) : (method 204 74 (.pointer (some ⟨g, 0, none⟩)) "picklock/nesmap.write").run Try.prog W = .ok (65, .pointer (some ⟨g, 0, none⟩)) W := by kernel_rfl
theorem meth_pageSwitch_page (g : Nat) (W : World) : (method 204 74 (.pointer (some ⟨g, 0, none⟩)) "picklock/nesmap.page").run Try.prog W = .ok (64, .pointer (some ⟨g, 0, none⟩)) W := by kernel_rfl
theorem meth_pageSwitch_unit (g : Nat) (W : World) : (method 204 74 (.pointer (some ⟨g, 0, none⟩)) "picklock/nesmap.unit").run Try.prog W = .ok (55, .pointer (some ⟨g, 0, none⟩)) W := by kernel_rfl
theorem meth_pageSwitch_mirror (g : Nat) (W : World) : (method 204 74 (.pointer (some ⟨g, 0, none⟩)) "picklock/nesmap.mirror").run Try.prog W = .ok (53, .pointer (some ⟨g, 0, none⟩)) W := by kernel_rfl
theorem meth_pageSwitch_clock (g : Nat) (W : World) : (method 204 74 (.pointer (some ⟨g, 0, none⟩)) "picklock/nesmap.clock").run Try.prog W = .ok (51, .pointer (some ⟨g, 0, none⟩)) W := by kernel_rfl
theorem meth_pageSwitch_irq (g : Nat) (W : World) : (method 204 74 (.pointer (some ⟨g, 0, none⟩)) "picklock/nesmap.irq").run Try.prog W = .ok (52, .pointer (some ⟨g, 0, none⟩)) W := by kernel_rfl
theorem meth_unitSwitch_write (g : Nat) (W : World) : (method 204 77 (.pointer (some ⟨g, 0, none⟩)) "picklock/nesmap.write").run Try.prog W = .ok (67, .pointer (some ⟨g, 0, none⟩)) W := by kernel_rfl
theorem meth_unitSwitch_page (g : Nat) (W : World) : (method 204 77 (.pointer (some ⟨g, 0, none⟩)) "picklock/nesmap.page").run Try.prog W = .ok (54, .pointer (some ⟨g, 0, none⟩)) W := by kernel_rfl
theorem meth_unitSwitch_unit (g : Nat) (W : World) : (method 204 77 (.pointer (some ⟨g, 0, none⟩)) "picklock/nesmap.unit").run Try.prog W = .ok (66, .pointer (some ⟨g, 0, none⟩)) W := by kernel_rfl
theorem meth_unitSwitch_mirror (g : Nat) (W : World) : (method 204 77 (.pointer (some ⟨g, 0, none⟩)) "picklock/nesmap.mirror").run Try.prog W = .ok (53, .pointer (some ⟨g, 0, none⟩)) W := by kernel_rfl
theorem meth_unitSwitch_clock (g : Nat) (W : World) : (method 204 77 (.pointer (some ⟨g, 0, none⟩)) "picklock/nesmap.clock").run Try.prog W = .ok (51, .pointer (some ⟨g, 0, none⟩)) W := by kernel_rfl
theorem meth_unitSwitch_irq (g : Nat) (W : World) : (method 204 77 (.pointer (some ⟨g, 0, none⟩)) "picklock/nesmap.irq").run Try.prog W = .ok (52, .pointer (some ⟨g, 0, none⟩)) W := by kernel_rfl
theorem meth_counting_write (g : Nat) (W : World) : (method 204 79 (.pointer (some ⟨g, 0, none⟩)) "picklock/nesmap.write").run Try.prog W = .ok (72, .pointer (some ⟨g, 0, none⟩)) W := by kernel_rfl
theorem meth_counting_page (g : Nat) (W : World) : (method 204 79 (.pointer (some ⟨g, 0, none⟩)) "picklock/nesmap.page").run Try.prog W = .ok (70, .pointer (some ⟨g, 0, none⟩)) W := by kernel_rfl
theorem meth_counting_unit (g : Nat) (W : World) : (method 204 79 (.pointer (some ⟨g, 0, none⟩)) "picklock/nesmap.unit").run Try.prog W = .ok (71, .pointer (some ⟨g, 0, none⟩)) W := by kernel_rfl
theorem meth_counting_mirror (g : Nat) (W : World) : (method 204 79 (.pointer (some ⟨g, 0, none⟩)) "picklock/nesmap.mirror").run Try.prog W = .ok (53, .pointer (some ⟨g, 0, none⟩)) W := by kernel_rfl
theorem meth_counting_clock (g : Nat) (W : World) : (method 204 79 (.pointer (some ⟨g, 0, none⟩)) "picklock/nesmap.clock").run Try.prog W = .ok (68, .pointer (some ⟨g, 0, none⟩)) W := by kernel_rfl
theorem meth_counting_irq (g : Nat) (W : World) : (method 204 79 (.pointer (some ⟨g, 0, none⟩)) "picklock/nesmap.irq").run Try.prog W = .ok (69, .pointer (some ⟨g, 0, none⟩)) W := by kernel_rfl

/-- What a call leaves that turns the program's map. -/
def PDone (w : World) (p g : Nat) (S : St) (e : Ending) (w' : World) : Prop := e = .returned (.tuple #[]) ∧ ProgAt w' p g S ∧ Fr [g] w w'
theorem hd_like {w w' : World} {p g : Nat} {t : TypeId} {S T : St} (h : Hd w p g t S) (hf : Fr [g] w w') (hne : p ≠ g) (hl : Like S T) : Hd w' p g t T := by
  unfold Hd
  rw [hl.1, hl.2.1]
  exact Blk.fr h hf (by simpa using hne)

set_option maxRecDepth 100000 in
set_option maxHeartbeats 4000000 in
theorem pmirror_any (w : World) (p g : Nat) (S : St) (h : ProgAt w p g S) (hO : Ok S) : Calls Try.prog 22 #[.pointer (some ⟨p, 0, none⟩)] w fun e w' => e = .returned (.int .i64 (mirOf S)) ∧ w = w' := by
  rcases h with ⟨h0, h1, h2⟩ | ⟨h0, h1, h2⟩ | ⟨h0, h1, h2⟩ | ⟨h0, h1, h2⟩ | ⟨h0, h1, h2⟩
  · have hm : mirOf S = S.mir := by unfold mirOf; rw [if_neg (by omega)]
    rw [hm]
    have HC := Lib.hid (mmirror_any w g S.mir (Blk.cell h2 0))
    generalize S.mir = m at *
    have hd : w.cell? ⟨p, 0, none⟩ = some (.iface 69 (.pointer (some ⟨g, 0, none⟩))) := Blk.cell h1 0
    have hme := meth_plain_mirror g
    clear h0 h1 h2 hO hm
    go_enter Try.func22, Try.ntmps22
    go_wp2_with fail
    (with_reducible refine HC.out.mono ?_)
    rintro e w1 ⟨rfl, rfl⟩
    go_wp2
    go_ret
    exact ⟨rfl, rfl⟩
  · have hm : mirOf S = if S.c % 4 < 2 then 2 + S.c % 4 else 3 - S.c % 4 := by unfold mirOf; rw [if_pos h0]
    rw [hm]
    have HC := Lib.hid (smirror_any w g S h2 hO)
    generalize (if S.c % 4 < 2 then 2 + S.c % 4 else 3 - S.c % 4) = m at *
    have hd : w.cell? ⟨p, 0, none⟩ = some (.iface 72 (.pointer (some ⟨g, 0, none⟩))) := Blk.cell h1 0
    have hme := meth_serial_mirror g
    clear h0 h1 h2 hO hm
    go_enter Try.func22, Try.ntmps22
    go_wp2_with fail
    (with_reducible refine HC.out.mono ?_)
    rintro e w1 ⟨rfl, rfl⟩
    go_wp2
    go_ret
    exact ⟨rfl, rfl⟩
  · have hm : mirOf S = S.mir := by unfold mirOf; rw [if_neg (by omega)]
    rw [hm]
    have HC := Lib.hid (mmirror_any w g S.mir (Blk.cell h2 0))
    generalize S.mir = m at *
    have hd : w.cell? ⟨p, 0, none⟩ = some (.iface 74 (.pointer (some ⟨g, 0, none⟩))) := Blk.cell h1 0
    have hme := meth_pageSwitch_mirror g
    clear h0 h1 h2 hO hm
    go_enter Try.func22, Try.ntmps22
    go_wp2_with fail
    (with_reducible refine HC.out.mono ?_)
    rintro e w1 ⟨rfl, rfl⟩
    go_wp2
    go_ret
    exact ⟨rfl, rfl⟩
  · have hm : mirOf S = S.mir := by unfold mirOf; rw [if_neg (by omega)]
    rw [hm]
    have HC := Lib.hid (mmirror_any w g S.mir (Blk.cell h2 0))
    generalize S.mir = m at *
    have hd : w.cell? ⟨p, 0, none⟩ = some (.iface 77 (.pointer (some ⟨g, 0, none⟩))) := Blk.cell h1 0
    have hme := meth_unitSwitch_mirror g
    clear h0 h1 h2 hO hm
    go_enter Try.func22, Try.ntmps22
    go_wp2_with fail
    (with_reducible refine HC.out.mono ?_)
    rintro e w1 ⟨rfl, rfl⟩
    go_wp2
    go_ret
    exact ⟨rfl, rfl⟩
  · have hm : mirOf S = S.mir := by unfold mirOf; rw [if_neg (by omega)]
    rw [hm]
    have HC := Lib.hid (mmirror_any w g S.mir (Blk.cell h2 0))
    generalize S.mir = m at *
    have hd : w.cell? ⟨p, 0, none⟩ = some (.iface 79 (.pointer (some ⟨g, 0, none⟩))) := Blk.cell h1 0
    have hme := meth_counting_mirror g
    clear h0 h1 h2 hO hm
    go_enter Try.func22, Try.ntmps22
    go_wp2_with fail
    (with_reducible refine HC.out.mono ?_)
    rintro e w1 ⟨rfl, rfl⟩
    go_wp2
    go_ret
    exact ⟨rfl, rfl⟩

set_option maxRecDepth 100000 in
set_option maxHeartbeats 4000000 in
theorem pirq_any (w : World) (p g : Nat) (S : St) (h : ProgAt w p g S) (hO : Ok S) : Calls Try.prog 20 #[.pointer (some ⟨p, 0, none⟩)] w fun e w' => e = .returned (.bool S.ask) ∧ w = w' := by
  rcases h with ⟨h0, h1, h2⟩ | ⟨h0, h1, h2⟩ | ⟨h0, h1, h2⟩ | ⟨h0, h1, h2⟩ | ⟨h0, h1, h2⟩
  · rw [hO.ask (by omega)]
    have HC := Lib.hid (mirq_any w g)
    have hd : w.cell? ⟨p, 0, none⟩ = some (.iface 69 (.pointer (some ⟨g, 0, none⟩))) := Blk.cell h1 0
    have hme := meth_plain_irq g
    clear h0 h1 h2 hO
    go_enter Try.func20, Try.ntmps20
    go_wp2_with fail
    (with_reducible refine HC.out.mono ?_)
    rintro e w1 ⟨rfl, rfl⟩
    go_wp2
    go_ret
    exact ⟨rfl, rfl⟩
  · rw [hO.ask (by omega)]
    have HC := Lib.hid (mirq_any w g)
    have hd : w.cell? ⟨p, 0, none⟩ = some (.iface 72 (.pointer (some ⟨g, 0, none⟩))) := Blk.cell h1 0
    have hme := meth_serial_irq g
    clear h0 h1 h2 hO
    go_enter Try.func20, Try.ntmps20
    go_wp2_with fail
    (with_reducible refine HC.out.mono ?_)
    rintro e w1 ⟨rfl, rfl⟩
    go_wp2
    go_ret
    exact ⟨rfl, rfl⟩
  · rw [hO.ask (by omega)]
    have HC := Lib.hid (mirq_any w g)
    have hd : w.cell? ⟨p, 0, none⟩ = some (.iface 74 (.pointer (some ⟨g, 0, none⟩))) := Blk.cell h1 0
    have hme := meth_pageSwitch_irq g
    clear h0 h1 h2 hO
    go_enter Try.func20, Try.ntmps20
    go_wp2_with fail
    (with_reducible refine HC.out.mono ?_)
    rintro e w1 ⟨rfl, rfl⟩
    go_wp2
    go_ret
    exact ⟨rfl, rfl⟩
  · rw [hO.ask (by omega)]
    have HC := Lib.hid (mirq_any w g)
    have hd : w.cell? ⟨p, 0, none⟩ = some (.iface 77 (.pointer (some ⟨g, 0, none⟩))) := Blk.cell h1 0
    have hme := meth_unitSwitch_irq g
    clear h0 h1 h2 hO
    go_enter Try.func20, Try.ntmps20
    go_wp2_with fail
    (with_reducible refine HC.out.mono ?_)
    rintro e w1 ⟨rfl, rfl⟩
    go_wp2
    go_ret
    exact ⟨rfl, rfl⟩
  · have HC := Lib.hid (cirq_any w g S h2)
    generalize S.ask = m at *
    have hd : w.cell? ⟨p, 0, none⟩ = some (.iface 79 (.pointer (some ⟨g, 0, none⟩))) := Blk.cell h1 0
    have hme := meth_counting_irq g
    clear h0 h1 h2 hO
    go_enter Try.func20, Try.ntmps20
    go_wp2_with fail
    (with_reducible refine HC.out.mono ?_)
    rintro e w1 ⟨rfl, rfl⟩
    go_wp2
    go_ret
    exact ⟨rfl, rfl⟩

set_option maxRecDepth 100000 in
set_option maxHeartbeats 4000000 in
theorem pclock_any (w : World) (p g : Nat) (S : St) (h : ProgAt w p g S) (hO : Ok S) : Calls Try.prog 11 #[.pointer (some ⟨p, 0, none⟩)] w (PDone w p g (clk S)) := by
  have hne := h.ne
  have H := Lib.hid h
  rcases h with ⟨h0, h1, h2⟩ | ⟨h0, h1, h2⟩ | ⟨h0, h1, h2⟩ | ⟨h0, h1, h2⟩ | ⟨h0, h1, h2⟩
  · skip
    have hd : w.cell? ⟨p, 0, none⟩ = some (.iface 69 (.pointer (some ⟨g, 0, none⟩))) := Blk.cell h1 0
    have hme := meth_plain_clock g
    have hc : clk S = S := by unfold clk; rw [if_neg (by omega)]
    rw [hc]
    have HC := Lib.hid (mclock_any w g)
    clear h0 h1 h2 hO hne hc
    go_enter Try.func11, Try.ntmps11
    go_wp2_with fail
    (with_reducible refine HC.out.mono ?_)
    rintro e w1 ⟨rfl, rfl⟩
    go_wp2
    (first | go_end0 | refine bodyPost_ret (results_none rfl _ _ _) rfl ?_)
    exact ⟨rfl, H.out, Fr.refl _ _⟩
  · skip
    have hd : w.cell? ⟨p, 0, none⟩ = some (.iface 72 (.pointer (some ⟨g, 0, none⟩))) := Blk.cell h1 0
    have hme := meth_serial_clock g
    have hc : clk S = S := by unfold clk; rw [if_neg (by omega)]
    rw [hc]
    have HC := Lib.hid (mclock_any w g)
    clear h0 h1 h2 hO hne hc
    go_enter Try.func11, Try.ntmps11
    go_wp2_with fail
    (with_reducible refine HC.out.mono ?_)
    rintro e w1 ⟨rfl, rfl⟩
    go_wp2
    (first | go_end0 | refine bodyPost_ret (results_none rfl _ _ _) rfl ?_)
    exact ⟨rfl, H.out, Fr.refl _ _⟩
  · skip
    have hd : w.cell? ⟨p, 0, none⟩ = some (.iface 74 (.pointer (some ⟨g, 0, none⟩))) := Blk.cell h1 0
    have hme := meth_pageSwitch_clock g
    have hc : clk S = S := by unfold clk; rw [if_neg (by omega)]
    rw [hc]
    have HC := Lib.hid (mclock_any w g)
    clear h0 h1 h2 hO hne hc
    go_enter Try.func11, Try.ntmps11
    go_wp2_with fail
    (with_reducible refine HC.out.mono ?_)
    rintro e w1 ⟨rfl, rfl⟩
    go_wp2
    (first | go_end0 | refine bodyPost_ret (results_none rfl _ _ _) rfl ?_)
    exact ⟨rfl, H.out, Fr.refl _ _⟩
  · skip
    have hd : w.cell? ⟨p, 0, none⟩ = some (.iface 77 (.pointer (some ⟨g, 0, none⟩))) := Blk.cell h1 0
    have hme := meth_unitSwitch_clock g
    have hc : clk S = S := by unfold clk; rw [if_neg (by omega)]
    rw [hc]
    have HC := Lib.hid (mclock_any w g)
    clear h0 h1 h2 hO hne hc
    go_enter Try.func11, Try.ntmps11
    go_wp2_with fail
    (with_reducible refine HC.out.mono ?_)
    rintro e w1 ⟨rfl, rfl⟩
    go_wp2
    (first | go_end0 | refine bodyPost_ret (results_none rfl _ _ _) rfl ?_)
    exact ⟨rfl, H.out, Fr.refl _ _⟩
  · skip
    have hd : w.cell? ⟨p, 0, none⟩ = some (.iface 79 (.pointer (some ⟨g, 0, none⟩))) := Blk.cell h1 0
    have hme := meth_counting_clock g
    have HC := Lib.hid (cclock_any w g S h2 hO h0)
    have HP : Hid (∀ w', Ob4 w' g (clk S) → Fr [g] w w' → ProgAt w' p g (clk S)) := Lib.hid fun w' ho hf => .inr (.inr (.inr (.inr ⟨(like_clk S).2.2.trans h0, hd_like h1 hf hne (like_clk S), ho⟩)))
    generalize clk S = T at *
    clear h0 h1 h2 hO H hne
    go_enter Try.func11, Try.ntmps11
    go_wp2_with fail
    (with_reducible refine HC.out.mono ?_)
    rintro e w1 ⟨rfl, ho, hf⟩
    have HO1 := Lib.hid ho
    have HF1 := Lib.hid hf
    clear ho hf
    go_wp2
    (first | go_end0 | refine bodyPost_ret (results_none rfl _ _ _) rfl ?_)
    exact ⟨rfl, HP.out _ HO1.out HF1.out, HF1.out⟩

set_option maxRecDepth 100000 in
set_option maxHeartbeats 4000000 in
theorem pwrite_all (w : World) (p g : Nat) (S : St) (a v : Int) (h : ProgAt w p g S) (hO : Ok S) (ha0 : 0 ≤ a) (ha1 : a < 65536) (hv : byte v) :
    Calls Try.prog 13 #[.pointer (some ⟨p, 0, none⟩), .int .u16 a, .int .u8 v] w (PDone w p g (wr S a v)) := by
  have hne := h.ne
  have H := Lib.hid h
  have hl := like_wr S a v
  by_cases hlo : a < 32768
  · have hw : wr S a v = S := by unfold wr; rw [if_pos hlo]
    rw [hw]
    clear h hO hl hw hne
    go_enter Try.func13, Try.ntmps13
    go_wp2
    (first | go_end0 | refine bodyPost_ret (results_none rfl _ _ _) rfl ?_)
    exact ⟨rfl, H.out, Fr.refl _ _⟩
  have hb0 := hv.1
  have hb1 := hv.2
  rcases h with ⟨h0, h1, h2⟩ | ⟨h0, h1, h2⟩ | ⟨h0, h1, h2⟩ | ⟨h0, h1, h2⟩ | ⟨h0, h1, h2⟩
  · skip
    have hd : w.cell? ⟨p, 0, none⟩ = some (.iface 69 (.pointer (some ⟨g, 0, none⟩))) := Blk.cell h1 0
    have hme := meth_plain_write g
    have hw : wr S a v = S := by unfold wr; rw [if_neg hlo, if_neg (by omega), if_neg (by omega), if_neg (by omega)]
    rw [hw]
    have HC := Lib.hid (mwrite_any w g a v)
    clear h0 h1 h2 hO hne hw hl
    go_enter Try.func13, Try.ntmps13
    go_wp2_with fail
    (with_reducible refine HC.out.mono ?_)
    rintro e w1 ⟨rfl, rfl⟩
    go_wp2
    (first | go_end0 | refine bodyPost_ret (results_none rfl _ _ _) rfl ?_)
    exact ⟨rfl, H.out, Fr.refl _ _⟩
  · skip
    have hd : w.cell? ⟨p, 0, none⟩ = some (.iface 72 (.pointer (some ⟨g, 0, none⟩))) := Blk.cell h1 0
    have hme := meth_serial_write g
    have hw : wr S a v = serW S a v := by unfold wr; rw [if_neg hlo, if_pos h0]
    have HC : Hid (Calls Try.prog 61 #[.pointer (some ⟨g, 0, none⟩), .int .u16 a, .int .u8 v] w fun e w' => e = .returned (.tuple #[]) ∧ Ob1 w' g (wr S a v) ∧ Fr [g] w w') := Lib.hid (by rw [hw]; exact swrite_any w g S a v h2 hO hv (by omega) ha1)
    have HP : Hid (∀ w', Ob1 w' g (wr S a v) → Fr [g] w w' → ProgAt w' p g (wr S a v)) := Lib.hid fun w' ho hf => .inr (.inl ⟨hl.2.2.trans h0, hd_like h1 hf hne hl, ho⟩)
    clear hw
    generalize wr S a v = T at *
    clear h0 h1 h2 hO H hne hl
    go_enter Try.func13, Try.ntmps13
    go_wp2_with fail
    (with_reducible refine HC.out.mono ?_)
    rintro e w1 ⟨rfl, ho, hf⟩
    have HO1 := Lib.hid ho
    have HF1 := Lib.hid hf
    clear ho hf
    go_wp2
    (first | go_end0 | refine bodyPost_ret (results_none rfl _ _ _) rfl ?_)
    exact ⟨rfl, HP.out _ HO1.out HF1.out, HF1.out⟩
  · skip
    have hd : w.cell? ⟨p, 0, none⟩ = some (.iface 74 (.pointer (some ⟨g, 0, none⟩))) := Blk.cell h1 0
    have hme := meth_pageSwitch_write g
    have hw : wr S a v = { S with n := v } := by unfold wr; rw [if_neg hlo, if_neg (by omega), if_pos (by omega)]
    have HC : Hid (Calls Try.prog 65 #[.pointer (some ⟨g, 0, none⟩), .int .u16 a, .int .u8 v] w fun e w' => e = .returned (.tuple #[]) ∧ Ob2 w' g (wr S a v) ∧ Fr [g] w w') := Lib.hid (by rw [hw]; exact pwrite_any w g S a v h2 hv)
    have HP : Hid (∀ w', Ob2 w' g (wr S a v) → Fr [g] w w' → ProgAt w' p g (wr S a v)) := Lib.hid fun w' ho hf => .inr (.inr (.inl ⟨hl.2.2.trans h0, hd_like h1 hf hne hl, ho⟩))
    clear hw
    generalize wr S a v = T at *
    clear h0 h1 h2 hO H hne hl
    go_enter Try.func13, Try.ntmps13
    go_wp2_with fail
    (with_reducible refine HC.out.mono ?_)
    rintro e w1 ⟨rfl, ho, hf⟩
    have HO1 := Lib.hid ho
    have HF1 := Lib.hid hf
    clear ho hf
    go_wp2
    (first | go_end0 | refine bodyPost_ret (results_none rfl _ _ _) rfl ?_)
    exact ⟨rfl, HP.out _ HO1.out HF1.out, HF1.out⟩
  · skip
    have hd : w.cell? ⟨p, 0, none⟩ = some (.iface 77 (.pointer (some ⟨g, 0, none⟩))) := Blk.cell h1 0
    have hme := meth_unitSwitch_write g
    have hw : wr S a v = { S with n := v } := by unfold wr; rw [if_neg hlo, if_neg (by omega), if_pos (by omega)]
    have HC : Hid (Calls Try.prog 67 #[.pointer (some ⟨g, 0, none⟩), .int .u16 a, .int .u8 v] w fun e w' => e = .returned (.tuple #[]) ∧ Ob3 w' g (wr S a v) ∧ Fr [g] w w') := Lib.hid (by rw [hw]; exact uwrite_any w g S a v h2 hv)
    have HP : Hid (∀ w', Ob3 w' g (wr S a v) → Fr [g] w w' → ProgAt w' p g (wr S a v)) := Lib.hid fun w' ho hf => .inr (.inr (.inr (.inl ⟨hl.2.2.trans h0, hd_like h1 hf hne hl, ho⟩)))
    clear hw
    generalize wr S a v = T at *
    clear h0 h1 h2 hO H hne hl
    go_enter Try.func13, Try.ntmps13
    go_wp2_with fail
    (with_reducible refine HC.out.mono ?_)
    rintro e w1 ⟨rfl, ho, hf⟩
    have HO1 := Lib.hid ho
    have HF1 := Lib.hid hf
    clear ho hf
    go_wp2
    (first | go_end0 | refine bodyPost_ret (results_none rfl _ _ _) rfl ?_)
    exact ⟨rfl, HP.out _ HO1.out HF1.out, HF1.out⟩
  · skip
    have hd : w.cell? ⟨p, 0, none⟩ = some (.iface 79 (.pointer (some ⟨g, 0, none⟩))) := Blk.cell h1 0
    have hme := meth_counting_write g
    have hw : wr S a v = cntW S a v := by unfold wr; rw [if_neg hlo, if_neg (by omega), if_neg (by omega), if_pos h0]
    have HC : Hid (Calls Try.prog 72 #[.pointer (some ⟨g, 0, none⟩), .int .u16 a, .int .u8 v] w fun e w' => e = .returned (.tuple #[]) ∧ Ob4 w' g (wr S a v) ∧ Fr [g] w w') := Lib.hid (by rw [hw]; exact cwrite_any w g S a v h2 hv hO.sel (by omega) ha1)
    have HP : Hid (∀ w', Ob4 w' g (wr S a v) → Fr [g] w w' → ProgAt w' p g (wr S a v)) := Lib.hid fun w' ho hf => .inr (.inr (.inr (.inr ⟨hl.2.2.trans h0, hd_like h1 hf hne hl, ho⟩)))
    clear hw
    generalize wr S a v = T at *
    clear h0 h1 h2 hO H hne hl
    go_enter Try.func13, Try.ntmps13
    go_wp2_with fail
    (with_reducible refine HC.out.mono ?_)
    rintro e w1 ⟨rfl, ho, hf⟩
    have HO1 := Lib.hid ho
    have HF1 := Lib.hid hf
    clear ho hf
    go_wp2
    (first | go_end0 | refine bodyPost_ret (results_none rfl _ _ _) rfl ?_)
    exact ⟨rfl, HP.out _ HO1.out HF1.out, HF1.out⟩

end Nm
end Go.Proofs.Ytgakdlbdbiacgaa
