/-
  Contracts of octet's writer: Byte, Bytes, Len, Done. Conditions: lengths up to 1000000000.
-/
import Derived.Test.YtgmngkhjjimelaaNum1
import Derived.Maps.AppendAt
namespace Go.Proofs.Ytgmngkhjjimelaa
open Go.RowKit

/-- Where a slice that was appended to lies: in the old row, or in a new block. -/
def Lies (w : World) (v v' : Value) : Prop := v'.ownBlock = v.ownBlock ∨ ∃ k, v'.ownBlock = some k ∧ w.heap.size ≤ k

theorem Lies.refl (w : World) (v : Value) : Lies w v v := .inl rfl
theorem Lies.trans {w w' : World} {v v' v'' : Value} (h : Lies w v v') (h' : Lies w' v' v'') (hs : w.heap.size ≤ w'.heap.size) : Lies w v v'' := by
  rcases h' with h' | ⟨k, hk, hl⟩
  · rcases h with h | ⟨k, hk, hl⟩
    · exact .inl (h'.trans h)
    · exact .inr ⟨k, h'.trans hk, hl⟩
  · exact .inr ⟨k, hk, by omega⟩
/-- .. and so a row that was other than the old one is other than the new one. -/
theorem Lies.other {w : World} {v v' : Value} (h : Lies w v v') {g : Nat} (hg : v.ownBlock ≠ some g) (hlt : g < w.heap.size) : v'.ownBlock ≠ some g := by
  rcases h with h | ⟨k, hk, hl⟩
  · rwa [h]
  · rw [hk]; intro e; cases e; omega

/-- A writer at block p, its bytes l in the row of the slice v (from block B on). -/
def Wr (w : World) (B p : Nat) (v : Value) (l : List UInt8) : Prop := Blk w p 47 #[v] ∧ Own w B v l

theorem Wr.ne {w : World} {B p : Nat} {v : Value} {l : List UInt8} (h : Wr w B p v l) : v.ownBlock ≠ some p := h.2.other h.1 (by decide)
theorem Wr.fr {S : List Nat} {w w' : World} {B p : Nat} {v : Value} {l : List UInt8} (h : Wr w B p v l) (hf : Fr S w w') (hp : p ∉ S) (hv : ∀ k, v.ownBlock = some k → k ∉ S) : Wr w' B p v l :=
  ⟨h.1.fr hf hp, h.2.fr hf hv⟩

/-- The blocks that a writer may turn. -/
def foot (p : Nat) (v : Value) : List Nat := p :: v.ownBlock.toList

/-- What a call that writes leaves. -/
def Wrote (w : World) (B p : Nat) (v : Value) (l : List UInt8) (e : Ending) (w' : World) : Prop :=
  e = .returned (.pointer (some ⟨p, 0, none⟩)) ∧ ∃ v', Wr w' B p v' l ∧ Fr (foot p v) w w' ∧ Lies w v v'

theorem wrote_of {w w1 w2 : World} {B p : Nat} {v v' : Value} {l l' : List UInt8} (h : Wr w B p v l) (h1 : Fr v.ownBlock.toList w w1) (hown : Own w1 B v' l') (hat : Lies w v v')
    (h2 : w2 = w1.setCell ⟨p, 0, none⟩ v') : ∃ v', Wr w2 B p v' l' ∧ Fr (foot p v) w w2 ∧ Lies w v v' := by
  subst h2
  have hp : p ∉ v.ownBlock.toList := by have := h.ne; simpa using this
  have hb := h.1.fr h1 hp
  have hlt := h.1.lt
  refine ⟨v', ⟨?_, hown.fr ((Fr.refl [p] w1).setCell (by simp) _) ?_⟩, ?_, hat⟩
  · have := hb.put 0 v'
    simpa using this
  · intro k hk e
    simp at e
    subst e
    exact hat.other h.ne hlt hk
  · exact (h1.sub (T := foot p v) (fun k hk => .inl (by simp [foot]; right; simpa using hk))).setCell (by simp [foot]) _

/-- A list of bytes of which nothing is known but that a slice of it can be appended. -/
theorem run_app {P : Program} (w : World) (B : Nat) (t ty : TypeId) (i : TypeInfo) (ht : P.underlying t = some (.slice 5)) (hi : P.info? 5 = some i) (hz : i.zero = some (.int .u8 0)) (hz1 : i.size = 1) (hz2 : i.bytes = 1)
    (v : Value) (l : List UInt8) (hown : Own w B v l) (A : Option Addr) (m c : Nat) (news : List UInt8) (hm : news.length = m) (hr : Rd w A news) (hc : A = none → c = 0) (hlen : l.length + m ≤ 2000000000) (hB : B ≤ w.heap.size) :
    ∃ A' cap' w', (Builtin.append_ #[t, t] ty #[v, .slice A m c]).run P w = .ok (.slice A' (l.length + m) cap') w' ∧ Own w' B (.slice A' (l.length + m) cap') (l ++ news) ∧ Fr v.ownBlock.toList w w' ∧ Lies w v (.slice A' (l.length + m) cap') := by
  subst hm
  cases A with
  | none =>
    obtain rfl := hc rfl
    have hn : news = [] := by
      rcases Nat.eq_zero_or_pos news.length with h0 | h0
      · exact List.eq_nil_of_length_eq_zero h0
      · obtain ⟨b, o, hx, _⟩ := hr h0
        cases hx
    subst hn
    have hrun := run_append_owned_none (P := P) (w := w) B t ty 5 i 1 ht hi v l.length (bv l) hown
    obtain ⟨A', cap', rfl, -⟩ := hown.slice
    exact ⟨A', cap', w, hrun, by simpa using hown, Fr.refl _ _, Lies.refl _ _⟩
  | some ad =>
    have hcells : ∀ j u, (bv news)[j]? = some u → w.cell? (ad.add j) = some u := by
      intro j u hu
      have h0 : 0 < (bv news).length := by have := (List.getElem?_eq_some_iff.1 hu).1; omega
      obtain ⟨ad', e, hx⟩ := hr.cells h0
      cases e
      exact hx j u hu
    obtain ⟨v', w', hrun, h2, h3, _, h5⟩ := run_append_own_at (P := P) w B t ty 5 i (.int .u8 0) 1 1 ht hi hz hz1 hz2 rfl (by decide) v l.length (bv l) hown ad news.length c (bv news) (by simp [bv_length]) hcells (bv_one news) (by unfold maxLen; omega) (by omega) hB
    have ho : Own w' B v' (l ++ news) := by unfold Own; rw [bv_append, List.length_append]; exact h2
    obtain ⟨A', cap', rfl, -⟩ := ho.slice
    rw [List.length_append] at hrun ho h5
    refine ⟨A', cap', w', hrun, ho, (Fr.refl _ w).grown h3 (fun k hk => .inl (by simp [hk])), ?_⟩
    rcases h5 with h5 | h5
    · exact .inl h5
    · exact .inr ⟨_, h5, Nat.le_refl _⟩

theorem wp_app {P : Program} (w : World) {o : Oper} {a : Act} {K : Act → World → Prop} {Q : Exit → Act → World → Prop} (s x : Operand) (t : TypeId)
    (ho : o.op = .call { callee := .builtin .append, args := #[s, x], argTypes := #[t, t] }) (B : Nat) (i : TypeInfo) (ht : P.underlying t = some (.slice 5)) (hi : P.info? 5 = some i) (hz : i.zero = some (.int .u8 0)) (hz1 : i.size = 1) (hz2 : i.bytes = 1)
    (v : Value) (l : List UInt8) (hs : a.eval s = v) (hown : Own w B v l) (A : Option Addr) (m c : Nat) (news : List UInt8) (hx : a.eval x = .slice A m c) (hm : news.length = m) (hr : Rd w A news) (hc : A = none → c = 0)
    (hlen : l.length + m ≤ 2000000000) (hB : B ≤ w.heap.size)
    (h : ∀ A' cap' w', Own w' B (.slice A' (l.length + m) cap') (l ++ news) → Fr v.ownBlock.toList w w' → Lies w v (.slice A' (l.length + m) cap') → K (a.put o.dst (.slice A' (l.length + m) cap')) w') : o.wp P a w K Q := by
  obtain ⟨A', cap', w', hrun, h2, h3, h4⟩ := run_app (P := P) w B t o.type i ht hi hz hz1 hz2 v l hown A m c news hm hr hc hlen hB
  unfold Oper.wp execOp
  simp only [ho, resolve, invoke, builtin, Sem.run_bind, Sem.run_pure, Result.andThen_ok, List.map_toArray, List.map_cons, List.map_nil, hs, hx, hrun]
  exact h A' cap' w' h2 h3 h4

theorem wpList_app {P : Program} (w : World) {ops : Array Oper} {rest : List Oper} {o : Oper} {a : Act} {Q : Exit → Act → World → Prop} (hgd : o.guard = none) (s x : Operand) (t : TypeId)
    (ho : o.op = .call { callee := .builtin .append, args := #[s, x], argTypes := #[t, t] }) (B : Nat) (i : TypeInfo) (ht : P.underlying t = some (.slice 5)) (hi : P.info? 5 = some i) (hz : i.zero = some (.int .u8 0)) (hz1 : i.size = 1) (hz2 : i.bytes = 1)
    (v : Value) (l : List UInt8) (hs : a.eval s = v) (hown : Own w B v l) (A : Option Addr) (m c : Nat) (news : List UInt8) (hx : a.eval x = .slice A m c) (hm : news.length = m) (hr : Rd w A news) (hc : A = none → c = 0)
    (hlen : l.length + m ≤ 2000000000) (hB : B ≤ w.heap.size)
    (h : ∀ A' cap' w', Own w' B (.slice A' (l.length + m) cap') (l ++ news) → Fr v.ownBlock.toList w w' → Lies w v (.slice A' (l.length + m) cap') → wpList P ops Q rest (a.put o.dst (.slice A' (l.length + m) cap')) w') : wpList P ops Q (o :: rest) a w :=
  wpList_plain hgd fun _ hK => wp_app w s x t ho B i ht hi hz hz1 hz2 v l hs hown A m c news hx hm hr hc hlen hB fun A' cap' w' h2 h3 h4 => hK _ _ (h A' cap' w' h2 h3 h4)

theorem rd_one' (w : World) (z : Int) (x : UInt8) (h : z = (x.toNat : Int)) : Rd (w.alloc (.cells #[.int .u8 z] 5)) (some ⟨w.heap.size, 0, none⟩) [x] := by
  subst h
  intro _
  refine ⟨_, _, rfl, fun j hj => ?_⟩
  obtain rfl : j = 0 := by simpa using hj
  simp

theorem rd_one (w : World) (x : UInt8) : Rd (w.alloc (.cells #[.int .u8 (x.toNat : Int)] 5)) (some ⟨w.heap.size, 0, none⟩) [x] := by
  intro _
  refine ⟨_, _, rfl, fun j hj => ?_⟩
  obtain rfl : j = 0 := by simpa using hj
  simp

set_option maxHeartbeats 1000000 in
theorem wbyte (w : World) (B p : Nat) (v : Value) (l : List UInt8) (x : UInt8) (h : Wr w B p v l) (hB : B ≤ w.heap.size) (hl : l.length ≤ 1000000000) :
    Calls Try.prog 23 #[.pointer (some ⟨p, 0, none⟩), .int .u8 (x.toNat : Int)] w (Wrote w B p v (l ++ [x])) := by
  obtain ⟨i0, hi, hz0, hz1, hz2⟩ := info_parts info5
  have HW := Lib.hid h
  have h0 := h.1.cell 0
  simp at h0
  have hown := h.2
  have HO := Lib.hid hown
  obtain ⟨A, cap, rfl, -⟩ := hown.slice
  clear h hown
  go_enter Try.func23, Try.ntmps23
  go_wp2_with (at_builtin; refine wpList_app _ rfl (.tmp 9) (.tmp 11) 22 rfl B i0 Try.underlying22 hi hz0 hz1 hz2 _ l rfl (HO.out.fr ((Fr.refl [] w).alloc _) (by simp)) _ 1 1 [x] rfl rfl (rd_one w x) (by simp) (by omega) (by simp; omega) ?_)
  intro A' cap' w1 hown' hf hat
  have HO' := Lib.hid hown'
  have hf' := ((Fr.refl (Value.slice A l.length cap).ownBlock.toList w).alloc (.cells #[.int .u8 (x.toNat : Int)] 5)).tr hf
  have HF := Lib.hid hf'
  have HA : Hid (Lies w (.slice A l.length cap) (.slice A' (l.length + 1) cap')) := by
    rcases hat with h | ⟨k, hk, hle⟩
    · exact .inl h
    · exact .inr ⟨k, hk, by simp at hle; omega⟩
  clear hown' hf hf' hat
  have hbk := HW.out.1.fr HF.out (by have := HW.out.ne; simpa using this)
  have h1 := hbk.cell 0
  simp at h1
  have h2 := hbk.frozen 0
  clear hbk
  go_wp2
  go_ret
  exact ⟨rfl, wrote_of HW.out HF.out HO'.out HA.out rfl⟩

set_option maxHeartbeats 1000000 in
theorem wbytes (w : World) (B p : Nat) (v : Value) (l : List UInt8) (A : Option Addr) (n c : Nat) (m : List UInt8) (h : Wr w B p v l) (hB : B ≤ w.heap.size) (hl : l.length + n ≤ 1000000000) (hm : m.length = n) (hr : Rd w A m) (hc : A = none → c = 0) :
    Calls Try.prog 19 #[.pointer (some ⟨p, 0, none⟩), .slice A n c] w (Wrote w B p v (l ++ m)) := by
  obtain ⟨i0, hi, hz0, hz1, hz2⟩ := info_parts info5
  have HW := Lib.hid h
  have h0 := h.1.cell 0
  simp at h0
  have hown := h.2
  have HO := Lib.hid hown
  obtain ⟨A0, cap, rfl, -⟩ := hown.slice
  have HM := Lib.hid hm
  have HR := Lib.hid hr
  have HC := Lib.hid hc
  clear h hown hm hr hc
  go_enter Try.func19, Try.ntmps19
  go_wp2_with (at_builtin; refine wpList_app _ rfl (.tmp 9) (.tmp 10) 22 rfl B i0 Try.underlying22 hi hz0 hz1 hz2 _ l rfl HO.out A n c m rfl HM.out HR.out HC.out (by omega) hB ?_)
  intro A' cap' w1 hown' hf hat
  have HO' := Lib.hid hown'
  have HF := Lib.hid hf
  have HA := Lib.hid hat
  clear hown' hf hat
  have hbk := HW.out.1.fr HF.out (by have := HW.out.ne; simpa using this)
  have h1 := hbk.cell 0
  simp at h1
  have h2 := hbk.frozen 0
  clear hbk
  go_wp2
  go_ret
  exact ⟨rfl, wrote_of HW.out HF.out HO'.out HA.out rfl⟩

set_option maxHeartbeats 400000 in
theorem wlen (w : World) (B p : Nat) (v : Value) (l : List UInt8) (h : Wr w B p v l) :
    Calls Try.prog 24 #[.pointer (some ⟨p, 0, none⟩)] w fun e w' => e = .returned (.int .i64 (l.length : Int)) ∧ w = w' := by
  have h0 := h.1.cell 0
  simp at h0
  obtain ⟨A0, cap, rfl, -⟩ := h.2.slice
  clear h
  go_enter Try.func24, Try.ntmps24
  go_wp2
  go_ret
  exact ⟨rfl, rfl⟩

set_option maxHeartbeats 400000 in
theorem wdone (w : World) (B p : Nat) (v : Value) (l : List UInt8) (h : Wr w B p v l) (hl : l.length ≤ 1000000000) :
    Calls Try.prog 25 #[.pointer (some ⟨p, 0, none⟩)] w fun e w' => e = .returned (.slice (some ⟨w.heap.size, 0, none⟩) l.length l.length) ∧ Blk w' w.heap.size 5 (bv l).toArray ∧ Fr [] w w' := by
  have h0 := h.1.cell 0
  simp at h0
  obtain ⟨A0, cap, rfl, hr, -⟩ := h.2.slice
  have HR := Lib.hid hr
  clear h hr
  go_enter Try.func25, Try.ntmps25
  go_wp2_with (go_at_call 26; refine (copied_any A0 _ cap l _ rfl HR.out hl).mono ?_; rintro e w1 ⟨rfl, hb, hf⟩; have HB := Lib.hid hb; have HF := Lib.hid hf; clear hb hf)
  go_ret
  exact ⟨rfl, HB.out, HF.out⟩

end Go.Proofs.Ytgmngkhjjimelaa
