/-
  Bytes laid over others: copy, at bytes: of no function of the program.
-/
import Derived.Test.YtpbjbmmnncohfaaApp
import Derived.Laws.CopyOwn
namespace Go.Proofs.Ytpbjbmmnncohfaa
open Go.RowKit
namespace Cp

theorem size5 : (Try.prog.info? 5).map (·.size) = some 1 := by kernel_rfl

/-- d laid over l from the place k on. -/
def over (l : List UInt8) (k : Nat) (d : List UInt8) : List UInt8 := l.take k ++ (d ++ l.drop (k + d.length))
theorem over_length (l : List UInt8) (k : Nat) (d : List UInt8) (h : k + d.length ≤ l.length) : (over l k d).length = l.length := by simp [over]; omega
theorem over_over (l : List UInt8) (p : Nat) (a b : List UInt8) (h : p + a.length + b.length ≤ l.length) : over (over l p a) (p + a.length) b = over l p (a ++ b) := by
  have e : over l p a = (l.take p ++ a) ++ l.drop (p + a.length) := by simp [over]
  have hl : (l.take p ++ a).length = p + a.length := by simp; omega
  rw [e]
  unfold over
  rw [← hl, List.take_left, List.drop_append, hl]
  simp only [List.append_assoc, List.length_append, Nat.add_assoc]
  congr 3
  rw [List.drop_eq_nil_of_le (by simp; omega), List.nil_append, List.drop_drop]
  congr 1
  omega
theorem over_part (l : List UInt8) (p : Nat) (a : List UInt8) (h : p ≤ l.length) : ((over l p a).drop p).take a.length = a := by
  have hl : (l.take p).length = p := by simp; omega
  unfold over
  rw [List.drop_append, hl, Nat.sub_self, List.drop_zero, List.drop_eq_nil_of_le (by omega), List.nil_append, List.take_left]
theorem bv_over (l : List UInt8) (k : Nat) (d : List UInt8) : bv (over l k d) = splice (bv l) k (bv d) := by
  simp [over, splice, bv]

theorem copy_run {P : Program} (w : World) (t ty : TypeId) (hu : P.underlying t = some (.slice 5)) (hsz : (P.info? 5).map (·.size) = some 1) (dp sp : Option Addr) (dLen dCap sLen sCap : Nat)
    (g off : Nat) (cur : List UInt8) (hg : Blk w g 5 (bv cur).toArray) (cs : List UInt8) (hn : cs.length = Nat.min sLen dLen)
    (hd : 0 < cs.length → dp = some ⟨g, off, none⟩) (hr : Rd w sp cs) (hfit : off + cs.length ≤ cur.length) :
    ∃ w', (Builtin.copy_ #[t, t] ty #[.slice dp dLen dCap, .slice sp sLen sCap]).run P w = .ok (.int .i64 (cs.length : Int)) w' ∧ Blk w' g 5 (bv (over cur off cs)).toArray ∧ Fr [g] w w' := by
  by_cases h0 : cs.length = 0
  · obtain rfl : cs = [] := List.eq_nil_of_length_eq_zero h0
    exact ⟨w, run_copy_none (P := P) w t t ty 5 dp sp dLen dCap sLen sCap hu hsz (by simpa using hn.symm), by simpa [over] using hg, Fr.refl _ _⟩
  · obtain rfl := hd (by omega)
    obtain ⟨ad, rfl, hsrc⟩ := hr.cells (by rw [bv_length]; omega)
    have hrun := run_copy_row (P := P) w t t ty 5 g off dLen dCap ad sLen sCap (bv cur).toArray 5 (bv cs) hu hsz hg (by rw [bv_length]; exact hn) hsrc (by simp [bv_length]; omega) (bv_one cs)
    refine ⟨_, by rw [hrun, bv_length]; rfl, ?_, (Fr.refl [g] w).setRow (by simp) _⟩
    have h := Blk.setRow hg ((bv cur).take off ++ (bv cs ++ (bv cur).drop (off + cs.length))).toArray
    rw [bv_over]
    simpa [splice, bv_length] using h

theorem wpList_copyB {P : Program} (w : World) {ops : Array Oper} {rest : List Oper} {o : Oper} {a : Act} {Q : Exit → Act → World → Prop} (hgd : o.guard = none) (d s : Operand) (t : TypeId)
    (ho : o.op = .call { callee := .builtin .copy, args := #[d, s], argTypes := #[t, t] }) (hu : P.underlying t = some (.slice 5)) (hsz : (P.info? 5).map (·.size) = some 1) (dp sp : Option Addr) (dLen dCap sLen sCap : Nat)
    (hde : a.eval d = .slice dp dLen dCap) (hse : a.eval s = .slice sp sLen sCap)
    (g off : Nat) (cur : List UInt8) (hg : Blk w g 5 (bv cur).toArray) (cs : List UInt8) (hn : cs.length = Nat.min sLen dLen)
    (hd : 0 < cs.length → dp = some ⟨g, off, none⟩) (hr : Rd w sp cs) (hfit : off + cs.length ≤ cur.length) (m : Nat) (hm : cs.length = m)
    (h : ∀ w', Blk w' g 5 (bv (over cur off cs)).toArray → Fr [g] w w' → wpList P ops Q rest (a.put o.dst (.int .i64 (m : Int))) w') : wpList P ops Q (o :: rest) a w := by
  subst hm
  refine wpList_plain hgd fun K hK => ?_
  obtain ⟨w', hrun, h2, h3⟩ := copy_run (P := P) w t o.type hu hsz dp sp dLen dCap sLen sCap g off cur hg cs hn hd hr hfit
  unfold Oper.wp execOp
  simp only [ho, resolve, invoke, builtin, Sem.run_bind, Sem.run_pure, Result.andThen_ok, List.map_toArray, List.map_cons, List.map_nil, hde, hse, hrun]
  exact hK _ _ (h w' h2 h3)

theorem step_copyB {P : Program} (w : World) {ops : Array Oper} {o : Oper} {a : Act} {K : Act → World → Prop} {Q : Exit → Act → World → Prop} {E : Prop} (hgd : o.guard = none) (d s : Operand) (t : TypeId)
    (ho : o.op = .call { callee := .builtin .copy, args := #[d, s], argTypes := #[t, t] }) (hu : P.underlying t = some (.slice 5)) (hsz : (P.info? 5).map (·.size) = some 1) (dp sp : Option Addr) (dLen dCap sLen sCap : Nat)
    (hde : a.eval d = .slice dp dLen dCap) (hse : a.eval s = .slice sp sLen sCap)
    (g off : Nat) (cur : List UInt8) (hg : Blk w g 5 (bv cur).toArray) (cs : List UInt8) (hn : cs.length = Nat.min sLen dLen)
    (hd : 0 < cs.length → dp = some ⟨g, off, none⟩) (hr : Rd w sp cs) (hfit : off + cs.length ≤ cur.length) (m : Nat) (hm : cs.length = m)
    (h : ∀ w', Blk w' g 5 (bv (over cur off cs)).toArray → Fr [g] w w' → K (a.put o.dst (.int .i64 (m : Int))) w') :
    if Region.wanted o (yielded ops a.tmps) = true then Oper.wp P o a w K Q else E := by
  subst hm
  have hw : Region.wanted o (yielded ops a.tmps) = true := by simp [Region.wanted, hgd]
  rw [if_pos hw]
  obtain ⟨w', hrun, h2, h3⟩ := copy_run (P := P) w t o.type hu hsz dp sp dLen dCap sLen sCap g off cur hg cs hn hd hr hfit
  unfold Oper.wp execOp
  simp only [ho, resolve, invoke, builtin, Sem.run_bind, Sem.run_pure, Result.andThen_ok, List.map_toArray, List.map_cons, List.map_nil, hde, hse, hrun]
  exact h w' h2 h3

end Cp
end Go.Proofs.Ytpbjbmmnncohfaa
