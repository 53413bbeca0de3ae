/-
  Bytes laid over others: copy, at bytes; contracts of ips' records: behind, lay.
-/
import Derived.Test.YtchakjknndpmpaaIpsParse
import Derived.Laws.CopyOwn
namespace Go.Proofs.Ytchakjknndpmpaa
open Go.RowKit
namespace Ips

/-- d laid over l from the place k on. -/
def over (l : List UInt8) (k : Nat) (d : List UInt8) : List UInt8 := l.take k ++ (d ++ l.drop (k + d.length))
theorem over_length (l : List UInt8) (k : Nat) (d : List UInt8) (h : k + d.length ≤ l.length) : (over l k d).length = l.length := by simp [over]; omega
theorem over_over (l : List UInt8) (p : Nat) (a b : List UInt8) (h : p + a.length + b.length ≤ l.length) : over (over l p a) (p + a.length) b = over l p (a ++ b) := by
  have e : over l p a = (l.take p ++ a) ++ l.drop (p + a.length) := by simp [over]
  have hl : (l.take p ++ a).length = p + a.length := by simp; omega
  rw [e]
  unfold over
  rw [← hl, List.take_left, List.drop_append, hl]
  simp only [List.append_assoc, List.length_append, Nat.add_assoc]
  congr 3
  rw [List.drop_eq_nil_of_le (by simp; omega), List.nil_append, List.drop_drop]
  congr 1
  omega
theorem over_part (l : List UInt8) (p : Nat) (a : List UInt8) (h : p ≤ l.length) : ((over l p a).drop p).take a.length = a := by
  have hl : (l.take p).length = p := by simp; omega
  unfold over
  rw [List.drop_append, hl, Nat.sub_self, List.drop_zero, List.drop_eq_nil_of_le (by omega), List.nil_append, List.take_left]
theorem bv_over (l : List UInt8) (k : Nat) (d : List UInt8) : bv (over l k d) = splice (bv l) k (bv d) := by
  simp [over, splice, bv]

theorem copy_run {P : Program} (w : World) (t ty : TypeId) (hu : P.underlying t = some (.slice 5)) (hsz : (P.info? 5).map (·.size) = some 1) (dp sp : Option Addr) (dLen dCap sLen sCap : Nat)
    (g off : Nat) (cur : List UInt8) (hg : Blk w g 5 (bv cur).toArray) (cs : List UInt8) (hn : cs.length = Nat.min sLen dLen)
    (hd : 0 < cs.length → dp = some ⟨g, off, none⟩) (hr : Rd w sp cs) (hfit : off + cs.length ≤ cur.length) :
    ∃ w', (Builtin.copy_ #[t, t] ty #[.slice dp dLen dCap, .slice sp sLen sCap]).run P w = .ok (.int .i64 (cs.length : Int)) w' ∧ Blk w' g 5 (bv (over cur off cs)).toArray ∧ Fr [g] w w' := by
  by_cases h0 : cs.length = 0
  · obtain rfl : cs = [] := List.eq_nil_of_length_eq_zero h0
    exact ⟨w, run_copy_none (P := P) w t t ty 5 dp sp dLen dCap sLen sCap hu hsz (by simpa using hn.symm), by simpa [over] using hg, Fr.refl _ _⟩
  · obtain rfl := hd (by omega)
    obtain ⟨ad, rfl, hsrc⟩ := hr.cells (by rw [bv_length]; omega)
    have hrun := run_copy_row (P := P) w t t ty 5 g off dLen dCap ad sLen sCap (bv cur).toArray 5 (bv cs) hu hsz hg (by rw [bv_length]; exact hn) hsrc (by simp [bv_length]; omega) (bv_one cs)
    refine ⟨_, by rw [hrun, bv_length]; rfl, ?_, (Fr.refl [g] w).setRow (by simp) _⟩
    have h := Blk.setRow hg ((bv cur).take off ++ (bv cs ++ (bv cur).drop (off + cs.length))).toArray
    rw [bv_over]
    simpa [splice, bv_length] using h

theorem wpList_copyB {P : Program} (w : World) {ops : Array Oper} {rest : List Oper} {o : Oper} {a : Act} {Q : Exit → Act → World → Prop} (hgd : o.guard = none) (d s : Operand) (t : TypeId)
    (ho : o.op = .call { callee := .builtin .copy, args := #[d, s], argTypes := #[t, t] }) (hu : P.underlying t = some (.slice 5)) (hsz : (P.info? 5).map (·.size) = some 1) (dp sp : Option Addr) (dLen dCap sLen sCap : Nat)
    (hde : a.eval d = .slice dp dLen dCap) (hse : a.eval s = .slice sp sLen sCap)
    (g off : Nat) (cur : List UInt8) (hg : Blk w g 5 (bv cur).toArray) (cs : List UInt8) (hn : cs.length = Nat.min sLen dLen)
    (hd : 0 < cs.length → dp = some ⟨g, off, none⟩) (hr : Rd w sp cs) (hfit : off + cs.length ≤ cur.length) (m : Nat) (hm : cs.length = m)
    (h : ∀ w', Blk w' g 5 (bv (over cur off cs)).toArray → Fr [g] w w' → wpList P ops Q rest (a.put o.dst (.int .i64 (m : Int))) w') : wpList P ops Q (o :: rest) a w := by
  subst hm
  refine wpList_plain hgd fun K hK => ?_
  obtain ⟨w', hrun, h2, h3⟩ := copy_run (P := P) w t o.type hu hsz dp sp dLen dCap sLen sCap g off cur hg cs hn hd hr hfit
  unfold Oper.wp execOp
  simp only [ho, resolve, invoke, builtin, Sem.run_bind, Sem.run_pure, Result.andThen_ok, List.map_toArray, List.map_cons, List.map_nil, hde, hse, hrun]
  exact hK _ _ (h w' h2 h3)

theorem step_copyB {P : Program} (w : World) {ops : Array Oper} {o : Oper} {a : Act} {K : Act → World → Prop} {Q : Exit → Act → World → Prop} {E : Prop} (hgd : o.guard = none) (d s : Operand) (t : TypeId)
    (ho : o.op = .call { callee := .builtin .copy, args := #[d, s], argTypes := #[t, t] }) (hu : P.underlying t = some (.slice 5)) (hsz : (P.info? 5).map (·.size) = some 1) (dp sp : Option Addr) (dLen dCap sLen sCap : Nat)
    (hde : a.eval d = .slice dp dLen dCap) (hse : a.eval s = .slice sp sLen sCap)
    (g off : Nat) (cur : List UInt8) (hg : Blk w g 5 (bv cur).toArray) (cs : List UInt8) (hn : cs.length = Nat.min sLen dLen)
    (hd : 0 < cs.length → dp = some ⟨g, off, none⟩) (hr : Rd w sp cs) (hfit : off + cs.length ≤ cur.length) (m : Nat) (hm : cs.length = m)
    (h : ∀ w', Blk w' g 5 (bv (over cur off cs)).toArray → Fr [g] w w' → K (a.put o.dst (.int .i64 (m : Int))) w') :
    if Region.wanted o (yielded ops a.tmps) = true then Oper.wp P o a w K Q else E := by
  subst hm
  have hw : Region.wanted o (yielded ops a.tmps) = true := by simp [Region.wanted, hgd]
  rw [if_pos hw]
  obtain ⟨w', hrun, h2, h3⟩ := copy_run (P := P) w t o.type hu hsz dp sp dLen dCap sLen sCap g off cur hg cs hn hd hr hfit
  unfold Oper.wp execOp
  simp only [ho, resolve, invoke, builtin, Sem.run_bind, Sem.run_pure, Result.andThen_ok, List.map_toArray, List.map_cons, List.map_nil, hde, hse, hrun]
  exact h w' h2 h3

/-- A record as a patch has it: its bytes are some, and one if it comes many times. -/
def Wf (r : Rec) : Prop := 0 < r.data.length ∧ (0 < r.run → r.data.length = 1)
/-- How far a record reaches. -/
def span (r : Rec) : Nat := max r.run r.data.length
/-- The bytes that a record lays. -/
def bytesOf (r : Rec) : List UInt8 := if 0 < r.run then List.replicate r.run (r.data.headD 0) else r.data
theorem bytesOf_length (r : Rec) (h : Wf r) : (bytesOf r).length = span r := by
  unfold bytesOf span
  split
  · have := h.2 (by assumption); simp; omega
  · have := h.1; omega
theorem bytesOf_data (r : Rec) (h : Wf r) : (bytesOf r).take r.data.length = r.data := by
  unfold bytesOf
  split
  · rename_i h0
    have h1 := h.2 h0
    obtain ⟨x, hx⟩ := List.length_eq_one_iff.1 h1
    obtain ⟨n, hn⟩ : ∃ n, r.run = n + 1 := ⟨r.run - 1, by omega⟩
    rw [hx, hn]
    simp [List.replicate_succ]
  · simp
theorem bytesOf_more (r : Rec) (h : Wf r) (j m : Nat) (hj : r.data.length ≤ j) (hm : m ≤ j) (hs : j + m ≤ span r) : (bytesOf r).take j ++ ((bytesOf r).take j).take m = (bytesOf r).take (j + m) := by
  unfold span at hs
  unfold bytesOf
  split
  · simp only [List.take_replicate, List.replicate_append_replicate]
    congr 1
    have := h.2 (by assumption)
    omega
  · obtain rfl : m = 0 := by omega
    simp
theorem span_pos (r : Rec) (h : Wf r) : 0 < span r := by have := h.1; unfold span; omega

set_option maxHeartbeats 400000 in
theorem behind_any (w : World) (pos run n c : Nat) (D : Option Addr) (h1 : pos ≤ 1000000000) (h2 : run ≤ 1000000000) (h3 : n ≤ 1000000000) :
    Calls Try.prog 22 #[.agg #[.int .i64 (pos : Int), .int .i64 (run : Int), .slice D n c]] w fun e w' => e = .returned (.int .i64 ((pos + max run n : Nat) : Int)) ∧ Fr [] w w' := by
  have hm : (pos : Int) + max (run : Int) (n : Int) = ((pos + max run n : Nat) : Int) := by omega
  go_enter Try.func22, Try.ntmps22
  go_wp2
  go_ret
  exact ⟨congrArg (fun z : Int => Ending.returned (.int .i64 z)) (by omega), (Fr.refl [] w).alloc _⟩

/-- What holds in lay's loop. -/
structure LayI (w : World) (g n : Nat) (cur : List UInt8) (r : Rec) (i : Value) (wr : World) (j : Nat) : Prop where
  low : r.data.length ≤ j
  high : j ≤ span r
  num_ : i = .int .i64 (j : Int)
  row : Blk wr g 5 (bv (over cur r.pos ((bytesOf r).take j))).toArray
  fr : Fr [g] w wr

set_option maxHeartbeats 2000000 in
theorem lay_any (w : World) (r : Rec) (D : Option Addr) (c g n : Nat) (cur : List UInt8) (hD : Rd w D r.data) (hb : Blk w g 5 (bv cur).toArray) (hn : cur.length = n) (hwf : Wf r) (hfit : r.pos + span r ≤ n) (hl : n ≤ 1000000000) :
    Calls Try.prog 23 #[.agg #[.int .i64 (r.pos : Int), .int .i64 (r.run : Int), .slice D r.data.length c], .slice (some ⟨g, 0, none⟩) n n] w fun e w' =>
      e = .returned (.tuple #[]) ∧ Blk w' g 5 (bv (over cur r.pos (bytesOf r))).toArray ∧ Fr [g] w w' := by
  obtain ⟨w0, hw0⟩ : ∃ w0, w0 = w.alloc (.cells #[.int .i64 (r.pos : Int), .int .i64 (r.run : Int), .slice D r.data.length c] 55) := ⟨_, rfl⟩
  have hsp := span_pos r hwf
  have hsr : r.run ≤ span r := by unfold span; omega
  have hsd : r.data.length ≤ span r := by unfold span; omega
  have HW := Lib.hid hwf
  have HD := Lib.hid hD
  have HB := Lib.hid hb
  have HN := Lib.hid hn
  have HS : Hid (r.pos + max r.run r.data.length = r.pos + span r) := Lib.hid rfl
  clear hwf hD hb hn
  have hW0 : Fr [] w w0 := hw0 ▸ (Fr.refl [] w).alloc _
  have o0 : ∀ w', Fr [] w0 w' → w'.cell? ⟨w.heap.size, 0, none⟩ = some (.int .i64 (r.pos : Int)) := fun w' h => h.cell (by rw [hw0]; simp) (by simp)
  have o1 : ∀ w', Fr [] w0 w' → w'.cell? ⟨w.heap.size, 1, none⟩ = some (.int .i64 (r.run : Int)) := fun w' h => h.cell (by rw [hw0]; simp) (by simp)
  have o2 : ∀ w', Fr [] w0 w' → w'.cell? ⟨w.heap.size, 2, none⟩ = some (.slice D r.data.length c) := fun w' h => h.cell (by rw [hw0]; simp) (by simp)
  have HW0 := Lib.hid hW0
  obtain ⟨E, hE⟩ : ∃ E, E = r.pos + span r := ⟨_, rfl⟩
  have HC : Hid (∀ w', Fr [] w0 w' → Calls Try.prog 22 #[.agg #[.int .i64 (r.pos : Int), .int .i64 (r.run : Int), .slice D r.data.length c]] w' fun e w'' => e = .returned (.int .i64 (E : Int)) ∧ Fr [] w' w'') :=
    Lib.hid fun w' _ => by have := behind_any w' r.pos r.run r.data.length c D (by omega) (by omega) (by omega); rw [HS.out, ← hE] at this; exact this
  have hle0 : (0 : Int) ≤ E := by omega
  have hle : (r.pos : Int) ≤ (E : Int) := by omega
  have hle2 : (E : Int) ≤ (n : Int) := by omega
  have hEs : E - r.pos = span r := by omega
  have HE := Lib.hid hE
  clear hE
  have hne : ¬ n = r.pos := by omega
  have HE0 := Lib.hid hw0
  clear hW0 hw0
  go_enter Try.func23, Try.ntmps23
  go_wp2_with fail
  rw [← HE0.out]
  go_region_held3 (fun w' => Fr [] w0 w') (first | exact (Fr.refl [] w0).drew | exact Fr.tr (by assumption) HF1.out | assumption)
    (first
    | (go_at_call 22; refine (HC.out _ (by assumption)).mono ?_; rintro e w1 ⟨rfl, hf1⟩; have HF1 := Lib.hid hf1; clear hf1))
  have HF0 : Hid (Fr [] w0 w1) := by assumption
  have HFw := Lib.hid (HW0.out.tr HF0.out)
  have HD1 := Lib.hid (HD.out.later HFw.out (by simp))
  have HB1 := Lib.hid (HB.out.fr HFw.out (by simp))
  have d2 := o2 w1 HF0.out
  have HM : Hid (r.data.length = Nat.min r.data.length (span r)) := Lib.hid (Nat.min_eq_left hsd).symm
  have HFit : Hid (r.pos + r.data.length ≤ cur.length) := Lib.hid (by have := HN.out; omega)
  go_wp2_with (refine wpList_copyB _ rfl (.tmp 12) (.tmp 14) 22 rfl Try.underlying22 size5 (some ⟨g, r.pos, none⟩) D (span r) (n - r.pos) r.data.length c rfl rfl g r.pos cur HB1.out r.data HM.out (fun _ => rfl) HD1.out HFit.out r.data.length rfl ?_)
  intro w2 hb2 hf2
  have HI0 : Hid (LayI w g n cur r (.int .i64 (r.data.length : Int)) w2 r.data.length) := Lib.hid ⟨Nat.le_refl _, hsd, rfl, by rw [bytesOf_data r HW.out]; exact hb2, HFw.out.nil.tr hf2⟩
  clear hb2 hf2
  go_wp2_with fail
  go_loopw [5] (fun i wr => ∃ j, LayI w g n cur r i wr j) (fun i _ => span r - (intOf i).toNat)
  case atStart => exact ⟨_, HI0.out⟩
  case round =>
    obtain ⟨j, HI⟩ := hrel
    have hi1 := HI.num_
    subst hi1
    have HI' := Lib.hid HI
    clear HI
    have hj1 := HI'.out.low
    have hj2 := HI'.out.high
    by_cases hlt : j < span r
    · have hlt' : (j : Int) < span r := by omega
      have hj0 := HW.out.1
      obtain ⟨m, hm⟩ : ∃ m, m = Nat.min j (span r - j) := ⟨_, rfl⟩
      have hm1 : m ≤ j := by rw [hm]; exact Nat.min_le_left _ _
      have hm2 : j + m ≤ span r := by have : m ≤ span r - j := by rw [hm]; exact Nat.min_le_right _ _
                                      omega
      have hm0 : 0 < m := by rw [hm, show Nat.min j (span r - j) = min j (span r - j) from rfl]; omega
      have HBL : Hid ((bytesOf r).length = span r) := Lib.hid (bytesOf_length r HW.out)
      have HL1 : Hid (((bytesOf r).take j).length = j) := Lib.hid (by have := HBL.out; simp; omega)
      have HL2 : Hid ((((bytesOf r).take j).take m).length = m) := Lib.hid (by have := HL1.out; simp at this ⊢; omega)
      have HM2 : Hid ((((bytesOf r).take j).take m).length = Nat.min j (span r - j)) := Lib.hid (by rw [HL2.out, hm])
      have HB2 : Hid (Blk wr.drew g 5 (bv (over cur r.pos ((bytesOf r).take j))).toArray) := Lib.hid (HI'.out.row.fr (Fr.refl [] wr).drew (by simp))
      have HOL : Hid ((over cur r.pos ((bytesOf r).take j)).length = n) := Lib.hid (by rw [over_length _ _ _ (by have := HL1.out; have := HN.out; omega)]; exact HN.out)
      have HFit2 : Hid (r.pos + j + (((bytesOf r).take j).take m).length ≤ (over cur r.pos ((bytesOf r).take j)).length) := Lib.hid (by rw [HOL.out, HL2.out]; omega)
      have HR2 : Hid (Rd wr.drew (some ⟨g, r.pos, none⟩) (((bytesOf r).take j).take m)) := by
        refine Lib.hid (rd_take ?_ m)
        have h1 := (part_of (k := r.pos) (n := j) HB2.out rfl (by rw [HOL.out]; omega)).1
        rw [if_neg (by rw [HOL.out]; omega)] at h1
        have h2 := over_part cur r.pos ((bytesOf r).take j) (by have := HN.out; omega)
        rw [HL1.out] at h2
        rw [h2] at h1
        exact h1
      have hjc : (j : Int) ≤ ((n - r.pos : Nat) : Int) := by omega
      have hjc2 : ((span r : Nat) : Int) ≤ ((n - r.pos : Nat) : Int) := by omega
      have hjs : (j : Int) ≤ ((span r : Nat) : Int) := by omega
      have hne2 : ¬ n - r.pos = j := by omega
      clear hm
      have hwj : IntKind.i64.wrap ((j : Int) + (m : Int)) = ((j + m : Nat) : Int) := by rw [IntKind.wrap_i64]; omega
      go_wp2_with fail
      go_region_law (refine step_copyB _ rfl (.tmp 23) (.tmp 26) 22 rfl Try.underlying22 size5 (some ⟨g, r.pos + j, none⟩) (some ⟨g, r.pos, none⟩) (span r - j) (n - r.pos - j) j (n - r.pos) (by simp [Act.eval, Act.put]) (by simp [Act.eval, Act.put]) g (r.pos + j) (over cur r.pos ((bytesOf r).take j)) HB2.out (((bytesOf r).take j).take m) HM2.out (fun _ => rfl) HR2.out HFit2.out m HL2.out ?_; intro w3 hb3 hf3; have HB3 := Lib.hid hb3; have HF3 := Lib.hid hf3; clear hb3 hf3)
      go_simp
      go_wp2
      go_roundw
      case rel =>
        refine ⟨j + m, by omega, hm2, rfl, ?_, HI'.out.fr.tr ((Fr.refl [g] wr).drew.tr HF3.out)⟩
        have h1 := HB3.out
        have h2 := over_over cur r.pos ((bytesOf r).take j) (((bytesOf r).take j).take m) (by rw [HL1.out, HL2.out, HN.out]; omega)
        rw [HL1.out] at h2
        rw [h2, bytesOf_more r HW.out j m hj1 hm1 hm2] at h1
        exact h1
      case measure => simp [intOf]; omega
    · have hlt' : ¬ (j : Int) < span r := by omega
      go_wp2_with fail
      go_end0
      obtain rfl : j = span r := by omega
      refine ⟨rfl, ?_, HI'.out.fr⟩
      have h1 := HI'.out.row
      rw [List.take_of_length_le (by rw [bytesOf_length r HW.out]; exact Nat.le_refl _)] at h1
      exact h1

end Ips
end Go.Proofs.Ytchakjknndpmpaa
