/-
  Contract of ines.Build: a cart that no file has is refused; of any other one the file is told. Condition: lengths up to 100000000.
-/
import Derived.Test.YthabiaenaicppaaIneCartFaults
import Derived.Test.YthabiaenaicppaaOctApiW
import Derived.Deep.DeepCutAuto
namespace Go.Proofs.Ythabiaenaicppaa
open Go.RowKit
namespace Ine

/-- Bytes that are told. -/
def Built (w : World) (L : List UInt8) (e : Ending) (w' : World) : Prop := ∃ g n, n = L.length ∧ e = .returned (.tuple #[.slice (some ⟨g, 0, none⟩) n n, .int .i64 0]) ∧ w.heap.size ≤ g ∧ Blk w' g 5 (bv L).toArray ∧ Fr [] w w'
/-- None are told. -/
def NoneBuilt (w : World) (e : Ending) (w' : World) : Prop := e = .returned (.tuple #[.slice none 0 0, .int .i64 1]) ∧ Fr [] w w'

set_option maxRecDepth 100000 in
set_option maxHeartbeats 1000000 in
theorem build_bad (w : World) (m r : Int) (P : Option Addr) (np cp : Nat) (C : Option Addr) (nc cc : Nat) (ram : Bool) (cl : List UInt8) (hn : np ≤ 100000000) (hnc : nc ≤ 100000000) (hcl : cl.length = nc) (hr : Rd w C cl) (hb : ¬ May m r np nc cl ram) :
    Calls Try.prog 13 #[cV m r P np cp C nc cc ram] w (NoneBuilt w) := by
  have HD : Hid (∀ W, Fr [] w W → Does W (cartFs (cV m r P np cp C nc cc ram)) (cartBs m r np nc cl ram)) := Lib.hid fun W hW => does_cart W m r P np cp C nc cc ram cl (by omega) (by omega) hcl (hr.later hW (by simp))
  have HT := Lib.hid ((told_cart (cV m r P np cp C nc cc ram) m r np nc cl ram).2 hb)
  have HC := Lib.hid (fun W => cfaults_any W m r P np cp C nc cc ram)
  have HLn : Hid ((cartFs (cV m r P np cp C nc cc ram)).length = 5 ∧ (cartFs (cV m r P np cp C nc cc ram)).length = (cartBs m r np nc cl ram).length) := Lib.hid ⟨rfl, rfl⟩
  generalize cartFs (cV m r P np cp C nc cc ram) = fs at *
  generalize cartBs m r np nc cl ram = bs at *
  clear hb hr hcl
  unfold cV at *
  obtain ⟨u, hu⟩ : ∃ u, w.heap.size = u := ⟨_, rfl⟩
  have hf0 := (Fr.refl [] w).alloc (.cells #[.int .i64 m, .int .i64 r, .slice P np cp, .slice C nc cc, .bool ram] 32)
  have HF0 := Lib.hid hf0
  clear hf0
  go_enter Try.func13, Try.ntmps13
  go_wp2_with fail
  generalize w.alloc _ = w0 at *
  (with_reducible refine (HC.out w0).mono ?_)
  rintro e w1 ⟨g, rfl, ht, hf1⟩
  have HTb := Lib.hid ht
  have HF1 := Lib.hid (HF0.out.tr hf1)
  clear ht hf1 HF0
  go_wp2_with fail
  (with_reducible refine (firstOf_any w1 g 5 fs bs HLn.out.1 (by decide) HLn.out.2 HTb.out (HD.out w1 HF1.out)).mono ?_)
  rintro e w2 ⟨rfl, hf2⟩
  rw [HT.out]
  have HF2 := Lib.hid (HF1.out.tr hf2)
  clear hf2 HF1 HTb HD HT HC
  go_wp2
  go_ret2
  exact ⟨rfl, HF2.out⟩

/-- A writer at block q, new behind the world w, its bytes l in the row of v; nothing of w has turned. -/
def Ws (w : World) (q : Nat) (v : Value) (l : List UInt8) (W : World) : Prop := Wr W (q + 1) q v l ∧ Fr [] w W ∧ w.heap.size ≤ q ∧ q + 1 ≤ W.heap.size
theorem Ws.later {w W W' : World} {q : Nat} {v : Value} {l : List UInt8} (h : Ws w q v l W) (hf : Fr [] W W') : Ws w q v l W' :=
  ⟨h.1.fr hf (by simp) (by simp), h.2.1.tr hf, h.2.2.1, Nat.le_trans h.2.2.2 hf.size⟩
theorem Ws.wrote {w W W' : World} {q : Nat} {v v' : Value} {l l' : List UInt8} (h : Ws w q v l W) (hw : Wr W' (q + 1) q v' l') (hf : Fr (foot q v) W W') : Ws w q v' l' W' := by
  refine ⟨hw, h.2.1.trans hf ?_, h.2.2.1, Nat.le_trans h.2.2.2 hf.size⟩
  intro k hk
  simp only [foot, List.mem_cons, Option.mem_toList] at hk
  rcases hk with rfl | hk
  · exact .inr h.2.2.1
  · have := (h.1.2.lt k hk).1
    exact .inr (by have := h.2.2.1; omega)
/-- A block that was there ahead of the writer stays. -/
theorem Ws.keeps {w W W' : World} {q : Nat} {v : Value} {l : List UInt8} (h : Ws w q v l W) (hf : Fr (foot q v) W W') {b : Nat} {t : TypeId} {cs : Array Value} (hb : Blk W b t cs) (hq : b < q) : Blk W' b t cs := by
  refine hb.fr hf fun hk => ?_
  simp only [foot, List.mem_cons, Option.mem_toList] at hk
  rcases hk with rfl | hk
  · omega
  · have := (h.1.2.lt b hk).1
    omega

/-- The file of a cart. -/
def fileOf (x1 x2 x3 : UInt8) (pl sl : List UInt8) : List UInt8 := head8 x1 x2 x3 0 ++ (List.replicate 8 0 ++ ([] ++ (pl ++ (sl ++ []))))

theorem big0 : putB 0 (cnt 8) = List.replicate 8 0 := by decide

end Ine
end Go.Proofs.Ythabiaenaicppaa
