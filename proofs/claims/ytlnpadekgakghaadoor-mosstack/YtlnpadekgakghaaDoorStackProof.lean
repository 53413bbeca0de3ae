/-
  The card of the statement MosStackSaid: for every input the law MosStack returns true, and its arguments read as before; the listed table is tied to the program's text. No other condition.
  The frame below is the guide's own way (its worked toy over a laid table, and what proof-skeleton.mjs prints) at this function's number and types; the opening of the arguments and the walk are ours.
-/
import Derived.Test.YtlnpadekgakghaaDoorRows
import Derived.Test.YtlnpadekgakghaaDoorCards
import Derived.Test.YtlnpadekgakghaaDoorTie
import Derived.Test.YtlnpadekgakghaaDoorMosDone
import Derived.Test.YtlnpadekgakghaaDoorStackLaw
import Derived.Test.YtlnpadekgakghaaDoorM1
import Derived.WalkKit
import Derived.ProofKit
import Derived.OpenShut
import Derived.ShutString
import Derived.ChangeOld
import Derived.Below
import Derived.Deep.DeepHandedRow
import Derived.Lib.LaidTab
namespace Go.Proofs.YtlnpadekgakghaaDoor.mosStack
open Go.ChangeShapes Go.WideShapes Go.ChangeAt Go.RowKit
open Go.ChangeMaps (open_string shut_string)
set_option linter.unusedVariables false

theorem own : ownKnob Tryd.prog.godebug = none := by kernel_rfl
theorem laidOut : laidOutB Tryd.prog = true := by kernel_rfl

set_option maxRecDepth 100000 in
theorem contract (H : Type) (enc : TypeId × Value → H) (W : World) (base : Nat) (args : Array Value) (ds gs : List (DataW H)) (before : List MemPlace)
    (hval0 : ∀ (j : Nat) t v, Tryd.f6.params[j]? = some t → args[j]? = some v → Value.okWide Tryd.prog W .any base t v)
    (hW : DataW.Whole enc Tryd.prog Tryd.f6.params.toList Rows.mosStackSpec.vars false W args.toList ds gs before) (hL : laidMetH Tryd.prog Rows.mosStackRow.laid W) :
    Calls Tryd.prog 6 args W fun e W' => ∃ v, e = .returned v ∧ Rows.mosStackSpec.post enc Tryd.prog Tryd.f6 false true false false W args v W' := by
  have hval := hval0
  have hW' := hW
  obtain ⟨p, q, hA0, hV, rfl, hfz, hnd⟩ := hW
  have hA : DataW.TrodAll enc Tryd.prog W 0 (fun _ => true) true Tryd.f6.params.toList args.toList ds p := hA0
  rw [Tryd.params6] at hA hval
  obtain ⟨v0, vs0, d0, ds0, p0, q0, hargs, rfl, rfl, h0, r0⟩ := trodAll_cons hA
  obtain ⟨v1, vs1, d1, ds1, p1, q1, rfl, rfl, rfl, h1, r1⟩ := trodAll_cons r0
  obtain ⟨v2, vs2, d2, ds2, p2, q2, rfl, rfl, rfl, h2, r2⟩ := trodAll_cons r1
  obtain ⟨rfl, rfl, rfl⟩ := trodAll_nil r2
  obtain rfl : args = #[v0, v1, v2] := by cases args; simp_all
  obtain ⟨rfl, rfl⟩ := trodVars_none hV
  have k0 := h0
  have lt0 : ∀ x ∈ p0, x.block < W.heap.size := by obtain ⟨m, hm⟩ := k0; exact DataW.trod_lt m _ _ _ hm
  obtain ⟨a_0, x_0, y_0, s_0, p_0, pc_0, rfl, ha_0, hx_0, hy_0, hs_0, hp_0, hpc_0⟩ := Ms.open_regs (hval 0 24 v0 rfl rfl) h0
  obtain ⟨z1, rfl, rfl, rfl, w1⟩ := open_int Tryd.underlying5 (hval 1 5 v1 rfl rfl) h1
  obtain ⟨z2, rfl, rfl, rfl, w2⟩ := open_int Tryd.underlying5 (hval 2 5 v2 rfl rfl) h2
  clear hA0 hval0
  refine (Ms.stack_walk Ms.stepC Ms.intC a_0 x_0 y_0 s_0 p_0 pc_0 z1 z2 W (Ms.tab_of hL) ha_0 hx_0 hy_0 hs_0 hp_0 hpc_0 (Ms.u8_of w1) (Ms.u8_of w2)).mono fun e W' ⟨he, bel⟩ => ?_
  subst he
  exact ⟨_, rfl, _, _, _, [], _, [], hW', trodAll_mk1 (shut_bool Tryd.underlying4 _), (trodAll_cons_mk (Below.trod laidOut (by kernel_rfl) (of_decide_eq_true (by kernel_rfl)) k0 bel lt0) (trodAll_cons_mk (shut_int Tryd.underlying5 w1) (trodAll_cons_mk (shut_int Tryd.underlying5 w2) trodAll_mk0))), rfl, bel.frame _, fun h => by cases h⟩

/-- A world for the witness: the settled one, the table (block 0) holding what its initialiser lays. -/
noncomputable def laidWorld (os : Os) : World :=
  { World.holding Tryd.prog os ⟨#[], #[], []⟩ with heap := (World.holding Tryd.prog os ⟨#[], #[], []⟩).heap.modify 0 fun
      | .cells _ t frozen => .cells #[.int .u32 14087, .int .u32 65702, .int .u32 327731, .int .u32 397109, .int .u32 537347, .int .u32 589858, .int .u32 659218, .int .u32 852068, .int .u32 921446, .int .u32 1056706, .int .u32 1114293, .int .u32 1376324, .int .u32 1445702, .int .u32 1582850, .int .u32 1638532, .int .u32 1900660, .int .u32 1970039, .int .u32 2109542, .int .u32 2163110, .int .u32 2361395, .int .u32 2425139, .int .u32 2494517, .int .u32 2635012, .int .u32 2687266, .int .u32 2756626, .int .u32 2885732, .int .u32 2949476, .int .u32 3018854, .int .u32 3154114, .int .u32 3211701, .int .u32 3473732, .int .u32 3543110, .int .u32 3681026, .int .u32 3735940, .int .u32 3998068, .int .u32 4067447, .int .u32 4208134, .int .u32 4260518, .int .u32 4522547, .int .u32 4591925, .int .u32 4731395, .int .u32 4784674, .int .u32 4854034, .int .u32 4992867, .int .u32 5046884, .int .u32 5116262, .int .u32 5251522, .int .u32 5309109, .int .u32 5571140, .int .u32 5640518, .int .u32 5777410, .int .u32 5833348, .int .u32 6095476, .int .u32 6164855, .int .u32 6304006, .int .u32 6357926, .int .u32 6619955, .int .u32 6689333, .int .u32 6829060, .int .u32 6882082, .int .u32 6951442, .int .u32 7090069, .int .u32 7144292, .int .u32 7213670, .int .u32 7348930, .int .u32 7406517, .int .u32 7668548, .int .u32 7737926, .int .u32 7875586, .int .u32 7930756, .int .u32 8192884, .int .u32 8262263, .int .u32 8457382, .int .u32 8654387, .int .u32 8719411, .int .u32 8785203, .int .u32 8918530, .int .u32 9050882, .int .u32 9178724, .int .u32 9243748, .int .u32 9309540, .int .u32 9446338, .int .u32 9505974, .int .u32 9702980, .int .u32 9768004, .int .u32 9833812, .int .u32 9968642, .int .u32 10030213, .int .u32 10100226, .int .u32 10292341, .int .u32 10488610, .int .u32 10553766, .int .u32 10619426, .int .u32 10750771, .int .u32 10815795, .int .u32 10881587, .int .u32 11016706, .int .u32 11077922, .int .u32 11147522, .int .u32 11275108, .int .u32 11340132, .int .u32 11405924, .int .u32 11543746, .int .u32 11602357, .int .u32 11799364, .int .u32 11864388, .int .u32 11930196, .int .u32 12069122, .int .u32 12126596, .int .u32 12197122, .int .u32 12323700, .int .u32 12388724, .int .u32 12454532, .int .u32 12584738, .int .u32 12649894, .int .u32 12846899, .int .u32 12911923, .int .u32 12981045, .int .u32 13113346, .int .u32 13174050, .int .u32 13243650, .int .u32 13371236, .int .u32 13436260, .int .u32 13505382, .int .u32 13641154, .int .u32 13698485, .int .u32 13960516, .int .u32 14029638, .int .u32 14166530, .int .u32 14222724, .int .u32 14484852, .int .u32 14553975, .int .u32 14681634, .int .u32 14746790, .int .u32 14943795, .int .u32 15008819, .int .u32 15078453, .int .u32 15210242, .int .u32 15270946, .int .u32 15347202, .int .u32 15468132, .int .u32 15533156, .int .u32 15602790, .int .u32 15738562, .int .u32 15795381, .int .u32 16057412, .int .u32 16127046, .int .u32 16264450, .int .u32 16319620, .int .u32 16581748, .int .u32 16651383] t frozen
      | o => o }
theorem laid_met (os : Os) : laidMet Tryd.prog Rows.mosStackRow.laid ((laidWorld os).forCall (fun _ _ => 0) ⟨#[], #[.agg #[.int .u8 0, .int .u8 0, .int .u8 0, .int .u8 0, .int .u8 0, .int .u16 0], .int .u8 0, .int .u8 0], []⟩).memory :=
  laidMet_of_run' 8 (by kernel_rfl) (by kernel_rfl)
theorem reads (os : Os) {H : Type} (enc : TypeId × Value → H) : ∃ places, DataW.whole enc Tryd.prog ((laidWorld os).forCall (fun _ _ => 0) ⟨#[], #[.agg #[.int .u8 0, .int .u8 0, .int .u8 0, .int .u8 0, .int .u8 0, .int .u16 0], .int .u8 0, .int .u8 0], []⟩).memory Tryd.f6.params.toList Rows.mosStackSpec.vars false (#[.agg #[.int .u8 0, .int .u8 0, .int .u8 0, .int .u8 0, .int .u8 0, .int .u16 0], .int .u8 0, .int .u8 0] : Array Value).toList 8 = some ([.agg [.lit (.int .u8 0), .lit (.int .u8 0), .lit (.int .u8 0), .lit (.int .u8 0), .lit (.int .u8 0), .lit (.int .u16 0)], .lit (.int .u8 0), .lit (.int .u8 0)], [], places) :=
  ⟨[], by kernel_rfl⟩

set_option maxRecDepth 100000 in
theorem lifted (os : Os) (started : os.Started) (H : Type) (enc : TypeId × Value → H) (F : Stop.Interp) :
    ReturnsInHanded {} Tryd.checked os 6 .any ((OpenSpec.ofChange Rows.mosStackSpec).preRow enc Tryd.prog Tryd.f6 Rows.mosStackRow.domain false Rows.mosStackRow.laid) (((OpenSpec.ofChange Rows.mosStackSpec).at F).post enc Tryd.prog Tryd.f6 false true false false) := by
  obtain ⟨places, hx⟩ := reads os enc
  refine returnsInHanded_of_row (C := Tryd.checked) (s := OpenSpec.ofChange Rows.mosStackSpec) own started (by kernel_rfl) Tryd.func6
    (witness_row_at (enc := enc) (C := Tryd.checked) false (laidWorld os) #[.agg #[.int .u8 0, .int .u8 0, .int .u8 0, .int .u8 0, .int .u8 0, .int .u16 0], .int .u8 0, .int .u8 0] rfl (by kernel_rfl) (by kernel_rfl) (by kernel_rfl)
      (OpenSpec.preRow_of_cond 8 hx (by kernel_rfl) (fun k hk => by cases hk) (by kernel_rfl) (laid_met os))) ?_
  intro W base args ds gs before hval hW _ _ _ hL _ _
  exact contract H enc W base args ds gs before hval hW hL

theorem said : Rows.MosStackSaid :=
  OpenClaim.holds_of_cond 6 Tryd.f6 rfl rfl rfl rfl rfl rfl rfl ⟨rfl, rfl, rfl, rfl, rfl⟩ rfl rfl rfl rfl rfl (by kernel_rfl) Tryd.func6 (by kernel_rfl)
    (of_decide_eq_true (by kernel_rfl)) (by unfold Func.isWrapper; first | (rw [if_pos (by decide +kernel)]; kernel_rfl) | (rw [if_neg (by decide +kernel)]; exact ⟨rfl, rfl⟩))
    (fun os started H enc _ F => by rw [OpenClaim.pre_eq_preRow]; exact lifted os started H enc F)

/-- No parameter wants a stand-in; the program's own looks are off. -/
theorem plain (f : FuncId) (fn : Func) (hf : Tryd.pinned.checked.prog.funcNamed "picklock/picklocklaw14.MosStack" = some f) (hfn : Tryd.pinned.checked.prog.funcs[f]? = some fn) :
    false = Tryd.pinned.checked.prog.looks [] ∧ ∀ (j : Nat) t, fn.params[j]? = some t → Tryd.pinned.checked.prog.wantsStandIn t = false := by
  obtain rfl : f = 6 := Option.some.inj ((show Tryd.prog.funcNamed "picklock/picklocklaw14.MosStack" = some 6 by kernel_rfl).symm.trans hf) |>.symm
  obtain rfl : fn = Tryd.f6 := (Option.some.inj (Tryd.func6.symm.trans hfn)).symm
  refine ⟨by kernel_rfl, fun j t ht => ?_⟩
  rw [Tryd.params6] at ht
  have ht2 : t = 24 ∨ t = 5 ∨ t = 5 := by simpa using Array.mem_of_getElem? ht
  rcases ht2 with rfl | rfl | rfl
  · exact (show Tryd.prog.wantsStandIn 24 = false by kernel_rfl)
  · exact (show Tryd.prog.wantsStandIn 5 = false by kernel_rfl)
  · exact (show Tryd.prog.wantsStandIn 5 = false by kernel_rfl)

/-- ████ THE CARD ████ -/
theorem proved : Rows.MosStackCardSaid :=
  Claim7.holds_tied_plain_at .later [] _ _ _ _ said (fun _ h => by cases h) (by kernel_rfl) (fun _ h => by cases h) mosStack_row_tie rfl ⟨rfl, rfl⟩ (by kernel_rfl) rfl plain (by kernel_rfl)
#print axioms proved
end Go.Proofs.YtlnpadekgakghaaDoor.mosStack
