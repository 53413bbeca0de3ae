/-
  Contract of the document's own Take of layer 3. Conditions: the reader's bytes are up to 1000000000.
  append of bytes onto a row of the call's own, or onto a text's bytes that are full: of no function of the program.
  Contracts of the document's Reader.Bytes and of layer 7's word.
  Contract of the document's Back of layer 3.
  Contracts of the document's Next and Sum (picklockref02).
-/
import Derived.Test.YtokfcknfkhlmfaaVarTake
import Derived.Test.YtokfcknfkhlmfaaApp
import Derived.Lib.AppendStr
import Derived.Test.YtokfcknfkhlmfaaM6
import Derived.Deep.RegionHeld3
import Derived.Deep.DeepCutAuto
import Derived.Deep.RegionLaw
import Derived.IntWalk
import Derived.StillTailTactics
import Derived.Test.YtokfcknfkhlmfaaVarTurn
import Derived.Test.YtokfcknfkhlmfaaM5
import Derived.Laws.Closers25b
namespace Go.Proofs.Ytokfcknfkhlmfaa
open Go.RowKit
namespace Var

/-- A reader of the document's at block q, its bytes l, its place k. -/
def RRd (w : World) (q : Nat) (A : Option Addr) (c : Nat) (l : List UInt8) (k : Nat) : Prop :=
  Blk w q 63 #[.slice A l.length c, .int .i64 (k : Int)] ∧ Rd w A l ∧ ∀ ad, A = some ad → ad.block ≠ q

theorem RRd.fr {S : List Nat} {w w' : World} {q c k : Nat} {A : Option Addr} {l : List UInt8} (h : RRd w q A c l k) (hf : Fr S w w') (hq : q ∉ S) (hA : ∀ ad, A = some ad → ad.block ∉ S) : RRd w' q A c l k :=
  ⟨h.1.fr hf hq, h.2.1.fr hf hA, h.2.2⟩

/-- What the document's Take leaves. -/
def RTaken (w : World) (q : Nat) (A : Option Addr) (c : Nat) (l : List UInt8) (k : Nat) (T : Nat × Nat × Int) (e : Ending) (w' : World) : Prop :=
  e = .returned (.tuple #[.int .u64 (T.1 : Int), .int .i64 T.2.2]) ∧ RRd w' q A c l (k + T.2.1) ∧ Fr [q] w w'

/-- How the sum of the document's account tells what has been said. -/
def Said (k P sm we sa : Nat) : Prop := (P = k ∧ sa = sm) ∨ (k < P ∧ sa = sm + we)

set_option maxRecDepth 100000 in
set_option maxHeartbeats 2000000 in
theorem refTake_any (w : World) (q k c : Nat) (A : Option Addr) (l : List UInt8) (h : RRd w q A c l k) (hk : k ≤ l.length) (hl : l.length ≤ 1000000000) (T : Nat × Nat × Int) (hT : takeV (l.drop k) = T) :
    Calls Try.prog 23 #[.pointer (some ⟨q, 0, none⟩)] w (RTaken w q A c l k T) := by
  have h0 := h.1.cell 0
  have h1 := h.1.cell 1
  have h2 := h.1.frozen 1
  simp at h0 h1
  have HR := Lib.hid h
  have HT : Hid (Links T 0 (goV 0 1 (l.drop k))) := by
    rw [← hT]
    exact links_zero 0 1 (l.drop k)
  clear h hT
  obtain ⟨n, hn⟩ : ∃ n, l.length = n := ⟨_, rfl⟩
  rw [hn] at h0 hk hl
  have HN := Lib.hid hn
  clear hn
  go_enter Try.func23, Try.ntmps23
  go_wp2_with fail
  go_loop [4, 5, 6] (fun s t i => ∃ P sm we sa : Nat, s = .int .u64 (sm : Int) ∧ t = .int .u64 (we : Int) ∧ i = .int .i64 (P : Int) ∧ k ≤ P ∧ P ≤ n ∧ Said k P sm we sa ∧ Fits sa we ∧ Links T (P - k) (goV sa we (l.drop P))) (fun _ _ i => n - (intOf i).toNat)
  case atStart => exact ⟨k, 0, 1, 0, rfl, rfl, rfl, Nat.le_refl _, hk, .inl ⟨rfl, rfl⟩, fits_zero, by simpa using HT.out⟩
  case round =>
    obtain ⟨P, sm, we, sa, rfl, rfl, rfl, hkP, hPn, hsaid, hfit, ht⟩ := hrel
    have HL := Lib.hid ht
    have HS := Lib.hid hfit
    clear ht
    by_cases hlt : P < n
    · obtain ⟨b, o, x, rfl, hx, hcell⟩ := Rd.at HR.out.2.1 P (by rw [HN.out]; exact hlt)
      have hd : l.drop P = x :: l.drop (P + 1) := by
        obtain ⟨h5, h6⟩ := List.getElem?_eq_some_iff.1 hx
        rw [← h6]
        exact List.drop_eq_getElem_cons h5
      rw [hd] at HL
      obtain ⟨m, hm⟩ : ∃ m, x.toNat % 128 * we = m := ⟨_, rfl⟩
      have hm2 := fits_mul hfit x
      rw [hm] at hm2
      have hm3 : (x.toNat : Int) % 128 * (we : Int) = (m : Int) := by rw [← hm]; simp
      have hx8 : x.toNat < 256 := x.toNat_lt
      have HM := Lib.hid hm
      clear hm hd hx
      have hw1 : 1 ≤ we := by unfold Fits at hfit; omega
      have hw2 : we ≤ 549755813888 := hfit.2.2
      have hs2 : sa ≤ 554050781184 := by unfold Fits at hfit; omega
      clear hfit
      have hlt' : (P : Int) < (n : Int) := by omega
      have hP0 : (P : Int) < 9223372036854775807 := by omega
      have HKP := Lib.hid hkP
      have hend : Hid (P + 1 - k = P - k + 1) := by show P + 1 - k = P - k + 1; omega
      rcases hsaid with ⟨hP, hsa⟩ | ⟨hP, hsa⟩
      · have hc : ¬ (k : Int) < (P : Int) := by omega
        subst hsa
        clear hP
        by_cases hbig : sa + m > 4294967296
        · have e : T = (0, 0, 5) := by
            have := HL.out
            rw [goV_size (by rw [HM.out]; exact hbig)] at this
            exact this
          subst e
          have hb' : (4294967296 : Int) < (sa : Int) + (m : Int) := by omega
          go_wp2
          go_ret2
          exact ⟨rfl, by simpa using HR.out, Fr.refl _ _⟩
        · have hb' : ¬ (4294967296 : Int) < (sa : Int) + (m : Int) := by omega
          by_cases hlast : 128 ≤ x.toNat
          · have hl' : (128 : Int) ≤ (x.toNat : Int) := by omega
            have e : T = (sa + m, 1 + (P - k), 0) := by
              have := HL.out
              rw [goV_last (by rw [HM.out]; exact hbig) hlast, HM.out] at this
              exact this
            subst e
            go_wp2
            go_ret2
            refine ⟨rfl, ⟨?_, HR.out.2.1.fr ((Fr.refl [q] w).setCell (by simp) _) (by intro ad e; cases e; simpa using HR.out.2.2 _ rfl), HR.out.2.2⟩, (Fr.refl [q] w).setCell (by simp) _⟩
            have hp1 := HR.out.1.put 1 (.int .i64 ((P : Int) + 1))
            have e1 : ((k + (1 + (P - k)) : Nat) : Int) = (P : Int) + 1 := by have := HKP.out; omega
            simp at hp1
            show Blk _ q _ #[_, Value.int .i64 ((k + (1 + (P - k)) : Nat) : Int)]
            rw [e1]
            exact hp1
          · have hl' : ¬ (128 : Int) ≤ (x.toNat : Int) := by omega
            go_wp2
            go_round
            case rel =>
              refine ⟨P + 1, sa + m, we * 128, sa + m + we * 128, ?_, ?_, ?_, by have := HKP.out; omega, by omega, .inr ⟨by have := HKP.out; omega, rfl⟩, fits_next HS.out (by omega), ?_⟩
              · congr 1
              · congr 1
              · congr 1
              · have := links_next HL.out (by rw [HM.out]; exact hbig) hlast
                rw [HM.out] at this
                rw [hend.out]
                exact this
            case measure => simp [intOf]; omega
      · have hc : (k : Int) < (P : Int) := by omega
        have hsa' : (sm : Int) + (we : Int) = (sa : Int) := by omega
        clear hP hsa
        by_cases hbig : sa + m > 4294967296
        · have e : T = (0, 0, 5) := by
            have := HL.out
            rw [goV_size (by rw [HM.out]; exact hbig)] at this
            exact this
          subst e
          have hb' : (4294967296 : Int) < (sa : Int) + (m : Int) := by omega
          go_wp2
          go_ret2
          exact ⟨rfl, by simpa using HR.out, Fr.refl _ _⟩
        · have hb' : ¬ (4294967296 : Int) < (sa : Int) + (m : Int) := by omega
          by_cases hlast : 128 ≤ x.toNat
          · have hl' : (128 : Int) ≤ (x.toNat : Int) := by omega
            have e : T = (sa + m, 1 + (P - k), 0) := by
              have := HL.out
              rw [goV_last (by rw [HM.out]; exact hbig) hlast, HM.out] at this
              exact this
            subst e
            go_wp2
            go_ret2
            refine ⟨rfl, ⟨?_, HR.out.2.1.fr ((Fr.refl [q] w).setCell (by simp) _) (by intro ad e; cases e; simpa using HR.out.2.2 _ rfl), HR.out.2.2⟩, (Fr.refl [q] w).setCell (by simp) _⟩
            have hp1 := HR.out.1.put 1 (.int .i64 ((P : Int) + 1))
            have e1 : ((k + (1 + (P - k)) : Nat) : Int) = (P : Int) + 1 := by have := HKP.out; omega
            simp at hp1
            show Blk _ q _ #[_, Value.int .i64 ((k + (1 + (P - k)) : Nat) : Int)]
            rw [e1]
            exact hp1
          · have hl' : ¬ (128 : Int) ≤ (x.toNat : Int) := by omega
            go_wp2
            go_round
            case rel =>
              refine ⟨P + 1, sa + m, we * 128, sa + m + we * 128, ?_, ?_, ?_, by have := HKP.out; omega, by omega, .inr ⟨by have := HKP.out; omega, rfl⟩, fits_next HS.out (by omega), ?_⟩
              · congr 1
              · congr 1
              · congr 1
              · have := links_next HL.out (by rw [HM.out]; exact hbig) hlast
                rw [HM.out] at this
                rw [hend.out]
                exact this
            case measure => simp [intOf]; omega
    · have hd : l.drop P = [] := List.drop_eq_nil_of_le (by rw [HN.out]; omega)
      rw [hd] at HL
      have e : T = (0, 0, 2) := HL.out
      subst e
      clear hsaid hfit
      have hlt' : ¬ (P : Int) < (n : Int) := by omega
      go_wp2
      go_ret2
      exact ⟨rfl, by simpa using HR.out, Fr.refl _ _⟩

end Var
end Go.Proofs.Ytokfcknfkhlmfaa

namespace Go.Proofs.Ytokfcknfkhlmfaa
open Go.RowKit
namespace Ips

/-- The slice v can be appended to: it owns its row, or it is full; its bytes are l; its block is new from B on. -/
def Ap (w : World) (B : Nat) (v : Value) (l : List UInt8) : Prop :=
  Own w B v l ∨ ∃ g, v = .slice (some ⟨g, 0, none⟩) l.length l.length ∧ Rd w (some ⟨g, 0, none⟩) l ∧ B ≤ g ∧ g < w.heap.size

theorem Ap.slice {w : World} {B : Nat} {v : Value} {l : List UInt8} (h : Ap w B v l) (hl : l.length ≤ maxLen) : ∃ A c, v = .slice A l.length c ∧ Rd w A l ∧ (A = none → c = 0) ∧ l.length ≤ c ∧ c ≤ maxLen := by
  rcases h with h | ⟨g, rfl, hr, _⟩
  · obtain ⟨A, c, hv, hr, _, h1, h2, h3⟩ := h.slice
    exact ⟨A, c, hv, hr, h3, h1, h2⟩
  · exact ⟨_, _, rfl, hr, by simp, Nat.le_refl _, hl⟩
theorem Ap.lt {w : World} {B : Nat} {v : Value} {l : List UInt8} (h : Ap w B v l) : ∀ k ∈ v.ownBlock.toList, B ≤ k ∧ k < w.heap.size := by
  intro k hk
  rcases h with h | ⟨g, rfl, _, h1, h2⟩
  · exact h.lt k (by simpa using hk)
  · have e : k = g := by simpa [Value.ownBlock] using hk
    subst e
    exact ⟨h1, h2⟩
theorem Ap.fr {S : List Nat} {w w' : World} {B : Nat} {v : Value} {l : List UInt8} (h : Ap w B v l) (hf : Fr S w w') (hS : ∀ k ∈ S, k < B ∨ w.heap.size ≤ k) : Ap w' B v l := by
  have hlt := h.lt
  rcases h with h | ⟨g, rfl, h1, h2, h3⟩
  · refine .inl (h.fr hf fun k hk hm => ?_)
    have := hlt k (by simp [hk])
    rcases hS k hm with h | h <;> omega
  · refine .inr ⟨g, rfl, h1.fr hf (fun ad e hm => ?_), h2, Nat.lt_of_lt_of_le h3 hf.size⟩
    cases e
    rcases hS _ hm with h | h
    · exact absurd h (by simpa using h2)
    · exact absurd h3 (by simpa using h)

theorem grown_own (w : World) (B : Nat) (olds news : List UInt8) (old : Nat) (hB : B ≤ w.heap.size) (hl : olds.length + news.length ≤ 2000000000) :
    Own (w.drew.alloc (.cells ((bv olds).toArray ++ (bv news).toArray ++ Builtin.zeroCells (Value.int .u8 0).cells (grownCap w (olds.length + news.length) old 5 - (olds.length + news.length))) 5)) B (.slice (some ⟨w.heap.size, 0, none⟩) (olds ++ news).length (grownCap w (olds.length + news.length) old 5)) (olds ++ news) := by
  have hge := grownCap_ge w (olds.length + news.length) old 5
  have hcm : grownCap w (olds.length + news.length) old 5 ≤ maxLen := grownCap_le_maxLen w _ old 5 (by unfold maxLen; omega)
  refine ⟨by simp [bv_length], .inr ⟨w.heap.size, _, _, rfl, hB, heap_alloc_new w.drew _, by simpa using hge, hcm, ?_, ?_⟩⟩
  · simp only [Array.size_append, List.size_toArray, size_zeroCells, bv_length]
    show _ + _ + _ * 1 = _ * 1
    omega
  · rw [bv_append]
    simp only [Array.toList_append]
    rw [Nat.mul_one, show (olds ++ news).length = (bv olds ++ bv news).length by simp [bv_length]]
    exact List.take_left

/-- append of bytes. -/
theorem run_ap {P : Program} (w : World) (B : Nat) (t ty : TypeId) (i : TypeInfo) (ht : P.underlying t = some (.slice 5)) (hi : P.info? 5 = some i) (hz : i.zero = some (.int .u8 0)) (hz1 : i.size = 1) (hz2 : i.bytes = 1)
    (v : Value) (l : List UInt8) (h : Ap w B v l) (A : Option Addr) (m c : Nat) (news : List UInt8) (hm : news.length = m) (hr : Rd w A news) (hc : A = none → c = 0) (hlen : l.length + m ≤ 1000000000) (hB : B ≤ w.heap.size) :
    ∃ v' w', (Builtin.append_ #[t, t] ty #[v, .slice A m c]).run P w = .ok v' w' ∧ Ap w' B v' (l ++ news) ∧ Fr v.ownBlock.toList w w' := by
  subst hm
  rcases h with h | ⟨g, rfl, h1, h2, h3⟩
  · obtain ⟨A', cap', w', hrun, h4, h5, _⟩ := run_app (P := P) w B t ty i ht hi hz hz1 hz2 v l h A news.length c news rfl hr hc (by omega) hB
    exact ⟨_, w', hrun, .inl h4, h5⟩
  · by_cases h0 : news.length = 0
    · obtain rfl : news = [] := List.eq_nil_of_length_eq_zero h0
      refine ⟨_, w, ?_, .inr ⟨g, rfl, by simpa using h1, h2, h3⟩, Fr.refl _ _⟩
      cases A <;> simp [Builtin.append_, run_underlying ht, sizeOf, typeInfo, hi, Builtin.lenOf, Builtin.firstCells, loadCells, loadCellsFrom, storeCells]
    · obtain ⟨ad, rfl, hn⟩ := hr.cells (by rw [bv_length]; omega)
      have ho : ∀ j u, (bv l)[j]? = some u → w.cell? ((⟨g, 0, none⟩ : Addr).add j) = some u := by
        intro j u hu
        have hj : j < l.length := by have := (List.getElem?_eq_some_iff.1 hu).1; rwa [bv_length] at this
        obtain ⟨ad', e, hx⟩ := h1.cells (by rw [bv_length]; omega)
        cases e
        exact hx j u hu
      have hrun := run_append_grow (P := P) w t ty 5 i _ ht hi hz ⟨g, 0, none⟩ l.length l.length (bv l) (by rw [hz1, bv_length, Nat.mul_one]) ho ad news.length c (bv news) (by rw [hz1, bv_length, Nat.mul_one]) hn (by omega) (by omega) (by rw [hz2]; exact growslice_fits (by omega) (by omega))
      refine ⟨_, _, hrun, .inl ?_, ((Fr.refl _ w).drew).alloc _⟩
      have h4 := grown_own w B l news l.length hB (by omega)
      rw [List.length_append] at h4
      exact h4

theorem wpList_ap {P : Program} (w : World) {ops : Array Oper} {rest : List Oper} {o : Oper} {a : Act} {Q : Exit → Act → World → Prop} (hgd : o.guard = none) (s x : Operand) (t : TypeId)
    (ho : o.op = .call { callee := .builtin .append, args := #[s, x], argTypes := #[t, t] }) (B : Nat) (i : TypeInfo) (ht : P.underlying t = some (.slice 5)) (hi : P.info? 5 = some i) (hz : i.zero = some (.int .u8 0)) (hz1 : i.size = 1) (hz2 : i.bytes = 1)
    (v : Value) (l : List UInt8) (hs : a.eval s = v) (h : Ap w B v l) (A : Option Addr) (m c : Nat) (news : List UInt8) (hx : a.eval x = .slice A m c) (hm : news.length = m) (hr : Rd w A news) (hc : A = none → c = 0)
    (n : Nat) (hn : l.length + m = n) (hlen : n ≤ 1000000000) (hB : B ≤ w.heap.size)
    (hK : ∀ A' cap' w', Ap w' B (.slice A' n cap') (l ++ news) → Fr v.ownBlock.toList w w' → wpList P ops Q rest (a.put o.dst (.slice A' n cap')) w') : wpList P ops Q (o :: rest) a w := by
  refine wpList_plain hgd fun K hK' => ?_
  obtain ⟨v', w', hrun, h2, h3⟩ := run_ap (P := P) w B t o.type i ht hi hz hz1 hz2 v l h A m c news hm hr hc (by omega) hB
  have hl : (l ++ news).length = n := by rw [List.length_append, hm, hn]
  obtain ⟨A', cap', rfl, -⟩ := h2.slice (by rw [hl]; unfold maxLen; omega)
  rw [hl] at hrun h2
  unfold Oper.wp execOp
  simp only [ho, resolve, invoke, builtin, Sem.run_bind, Sem.run_pure, Result.andThen_ok, List.map_toArray, List.map_cons, List.map_nil, hs, hx, hrun]
  exact hK' _ _ (hK A' cap' w' h2 h3)

/-- append of a text's bytes. -/
theorem run_apS {P : Program} (w : World) (B : Nat) (t u ty : TypeId) (i : TypeInfo) (ht : P.underlying t = some (.slice 5)) (hu : P.underlying u = some .string) (hi : P.info? 5 = some i) (hz : i.zero = some (.int .u8 0)) (hz1 : i.size = 1) (hz2 : i.bytes = 1)
    (v : Value) (l : List UInt8) (h : Ap w B v l) (news : List UInt8) (h0 : 0 < news.length) (hlen : l.length + news.length ≤ 1000000000) (hB : B ≤ w.heap.size) :
    ∃ v' w', (Builtin.append_ #[t, u] ty #[v, .string ⟨news.toArray⟩]).run P w = .ok v' w' ∧ Own w' B v' (l ++ news) ∧ Fr v.ownBlock.toList w w' := by
  have hs : (ByteArray.mk news.toArray).size = news.length := by simp [ByteArray.size]
  have hc : Lib.strCells ⟨news.toArray⟩ = bv news := by simp [Lib.strCells, bv]
  rcases h with h | ⟨g, rfl, h1, h2, h3⟩
  · obtain ⟨v', w', hrun, h4, h5, _⟩ := Lib.run_append_own_string (P := P) w B t u ty 5 i ht hu hi hz hz1 hz2 v l.length (bv l) h ⟨news.toArray⟩ (by rw [hs]; unfold maxLen; omega) (by rw [hs]; omega) hB
    refine ⟨v', w', hrun, ?_, (Fr.refl _ w).grown h5 (fun k hk => .inl (by simp [hk]))⟩
    rw [hs, hc] at h4
    unfold Own
    rw [bv_append, List.length_append]
    exact h4
  · have ho : ∀ j u, (bv l)[j]? = some u → w.cell? ((⟨g, 0, none⟩ : Addr).add j) = some u := by
      intro j u hu
      have hj : j < l.length := by have := (List.getElem?_eq_some_iff.1 hu).1; rwa [bv_length] at this
      obtain ⟨ad', e, hx⟩ := h1.cells (by rw [bv_length]; omega)
      cases e
      exact hx j u hu
    have hrun := Lib.run_append_grow_string (P := P) w t u ty 5 i _ ht hu hi hz ⟨g, 0, none⟩ l.length l.length (bv l) (by rw [hz1, bv_length, Nat.mul_one]) ho ⟨news.toArray⟩ (by rw [hs]; omega) (by rw [hs]; omega) (by rw [hz2, hs]; exact growslice_fits (by omega) (by omega))
    rw [hs, hc] at hrun
    refine ⟨_, _, hrun, ?_, ((Fr.refl _ w).drew).alloc _⟩
    have h4 := grown_own w B l news l.length hB (by omega)
    rw [List.length_append] at h4
    exact h4

theorem wpList_apS {P : Program} (w : World) {ops : Array Oper} {rest : List Oper} {o : Oper} {a : Act} {Q : Exit → Act → World → Prop} (hgd : o.guard = none) (s x : Operand) (t u : TypeId)
    (ho : o.op = .call { callee := .builtin .append, args := #[s, x], argTypes := #[t, u] }) (B : Nat) (i : TypeInfo) (ht : P.underlying t = some (.slice 5)) (hu : P.underlying u = some .string) (hi : P.info? 5 = some i) (hz : i.zero = some (.int .u8 0)) (hz1 : i.size = 1) (hz2 : i.bytes = 1)
    (v : Value) (l : List UInt8) (hs : a.eval s = v) (h : Ap w B v l) (news : List UInt8) (hx : a.eval x = .string ⟨news.toArray⟩) (h0 : 0 < news.length)
    (n : Nat) (hn : l.length + news.length = n) (hlen : n ≤ 1000000000) (hB : B ≤ w.heap.size)
    (hK : ∀ A' cap' w', Own w' B (.slice A' n cap') (l ++ news) → Fr v.ownBlock.toList w w' → wpList P ops Q rest (a.put o.dst (.slice A' n cap')) w') : wpList P ops Q (o :: rest) a w := by
  refine wpList_plain hgd fun K hK' => ?_
  obtain ⟨v', w', hrun, h2, h3⟩ := run_apS (P := P) w B t u o.type i ht hu hi hz hz1 hz2 v l h news h0 (by omega) hB
  obtain ⟨A', cap', rfl, -⟩ := h2.slice
  have hl : (l ++ news).length = n := by rw [List.length_append, hn]
  rw [hl] at hrun h2
  unfold Oper.wp execOp
  simp only [ho, resolve, invoke, builtin, Sem.run_bind, Sem.run_pure, Result.andThen_ok, List.map_toArray, List.map_cons, List.map_nil, hs, hx, hrun]
  exact hK' _ _ (hK A' cap' w' h2 h3)

end Ips
end Go.Proofs.Ytokfcknfkhlmfaa

namespace Go.Proofs.Ytokfcknfkhlmfaa
open Go.RowKit
namespace Bm

/-- The document's reader at block s, over a slice at block g of the bytes l, at place k. -/
def RefR (w : World) (s g n c : Nat) (l : List UInt8) (k : Nat) : Prop :=
  Blk w s 63 #[.slice (some ⟨g, 0, none⟩) n c, .int .i64 (k : Int)] ∧ Rd w (some ⟨g, 0, none⟩) l ∧ l.length = n ∧ g ≠ s ∧ n ≤ c
theorem RefR.fr {S : List Nat} {w w' : World} {s g n c k : Nat} {l : List UInt8} (h : RefR w s g n c l k) (hf : Fr S w w') (hs : s ∉ S) (hg : g ∉ S) : RefR w' s g n c l k :=
  ⟨h.1.fr hf hs, h.2.1.fr hf (by intro ad e; cases e; exact hg), h.2.2⟩
theorem RefR.ne {w : World} {s g n c k : Nat} {l : List UInt8} (h : RefR w s g n c l k) : g ≠ s := h.2.2.2.1
theorem take_in (l : List UInt8) (k n : Nat) (h : k + n ≤ l.length) : ((l.drop k).take n).length = n := by rw [List.length_take, List.length_drop]; omega

set_option maxHeartbeats 1000000 in
theorem ref_ok (w : World) (s g N c k n : Nat) (l : List UInt8) (h : RefR w s g N c l k) (hl : N ≤ 1000000000) (hn : k + n ≤ N) :
    Calls Try.prog 24 #[.pointer (some ⟨s, 0, none⟩), .int .i64 (n : Int)] w fun e w' =>
      ∃ A' c', e = .returned (.tuple #[.slice A' n c', .int .i64 0]) ∧ Own w' w.heap.size (.slice A' n c') ((l.drop k).take n) ∧ RefR w' s g N c l (k + n) ∧ Fr [s] w w' := by
  obtain ⟨i0, hi, hz0, hz1, hz2⟩ := info_parts info5
  have HR := Lib.hid h
  have h0 := h.1.cell 0
  have h1 := h.1.cell 1
  have hfz := h.1.frozen 1
  have hlt := h.1.lt
  simp at h0 h1
  have hc1 := h.2.2.2.2
  clear h
  have hn0 : ¬ (n : Int) < 0 := by omega
  have hd0 : decide ((n : Int) < 0) = false := by simp
  have hd1 : ¬ (N : Int) - (k : Int) < (n : Int) := by omega
  have hd2 : decide ((N : Int) - (k : Int) < (n : Int)) = false := by simp; omega
  go_enter Try.func24, Try.ntmps24
  go_wp2
  go_quiet (fail)
  go_wp2_with fail
  have HR0 : Hid (RefR (w.drewN nq) s g N c l k) := HR.out.fr ((Fr.refl [] w).drewN nq) (by simp) (by simp)
  have HF0 : Hid (Fr [] w (w.drewN nq)) := (Fr.refl [] w).drewN nq
  clear HR h0 h1 hfz hlt
  generalize w.drewN nq = w0 at *
  have h0 := HR0.out.1.cell 0
  have h1 := HR0.out.1.cell 1
  have hfz := HR0.out.1.frozen 1
  have hlt := HR0.out.1.lt
  simp at h0 h1
  have hk0 : (0 : Int) ≤ (k : Int) := by omega
  have hk1 : (k : Int) ≤ (k : Int) + (n : Int) := by omega
  have hk2 : (k : Int) + (n : Int) ≤ (c : Int) := by omega
  have hk3 : IntKind.i64.wrap ((k : Int) + (n : Int)) = (k : Int) + (n : Int) := IntWalk.i64_in _ (by omega)
  have hk4 : ((k : Int) + (n : Int)).toNat = k + n := by omega
  have hk5 : (0 : Int) ≤ (k : Int) + (n : Int) := by omega
  · have HRD : Hid (Rd ((w0.alloc (.cells #[] 5)).drew) (if c = k then some (⟨g, 0, none⟩ : Addr) else some ⟨g, k, none⟩) ((l.drop k).take n)) := by
      have h5 : Rd w0 (some ⟨g, 0, none⟩) l := HR0.out.2.1
      exact (cut_rd h5 (by rw [HR0.out.2.2.1]; exact hn) (by rw [HR0.out.2.2.1]; exact hc1)).later (((Fr.refl [] w0).alloc _).drew) (by simp)
    have HLN : Hid (((l.drop k).take n).length = n) := take_in l k n (by rw [HR0.out.2.2.1]; exact hn)
    have HOE : Hid (Own ((w0.alloc (.cells #[] 5)).drew) w0.heap.size (.slice (some ⟨w0.heap.size, 0, none⟩) 0 0) []) := Own.empty w0 _ (Nat.le_refl _)
    have hk6 : k + n - k = n := by omega
    have HCN : Hid ((if c = k then some (⟨g, 0, none⟩ : Addr) else some ⟨g, k, none⟩) = none → c - k = 0) := by
      intro h; split at h <;> cases h
    have HF1 : Hid (Fr [] w0 ((w0.alloc (.cells #[] 5)).drew)) := ((Fr.refl [] w0).alloc _).drew
    have HB1 : Hid (Blk ((w0.alloc (.cells #[] 5)).drew) s 63 #[.slice (some ⟨g, 0, none⟩) N c, .int .i64 (k : Int)]) := HR0.out.1.fr HF1.out (by simp)
    have HSN : Hid (s ∉ (Value.slice (some ⟨w0.heap.size, 0, none⟩) 0 0).ownBlock.toList) := by
      unfold Hid
      simp [Value.ownBlock]
      omega
    go_region_held3 (fun w' => w'.cell? ⟨s, 0, none⟩ = some (.slice (some ⟨g, 0, none⟩) N c) ∧ w'.cell? ⟨s, 1, none⟩ = some (.int .i64 (k : Int))) (first | exact ⟨hs0, hs1⟩ | go_keep)
      ((refine step_app _ (by rfl) (.tmp 21) (.tmp 36) 22 (by rfl) w0.heap.size i0 Try.underlying22 hi hz0 hz1 hz2 (.slice (some ⟨w0.heap.size, 0, none⟩) 0 0) [] 0 rfl (by rfl) HOE.out _ n (c - k) _ (by rfl) HLN.out HRD.out HCN.out (by omega) (by simp) ?_; intro A' c' w1 ho1 hf1 hl1; have hb1 := HB1.out.fr hf1 HSN.out; have hs0 := hb1.cell 0; have hs1 := hb1.cell 1; simp at hs0 hs1; have hfz1 := hb1.frozen 1; have HBK := Lib.hid hb1; have HO1 := Lib.hid ho1; have HF2 := Lib.hid hf1; clear ho1 hf1 hl1 hb1))
    clear hk0 hk1 hk2 hk3 hk4 hk5 hk6 HRD HCN HLN HOE HB1
    generalize (if c = k then some (⟨g, 0, none⟩ : Addr) else some ⟨g, k, none⟩) = A2
    go_wp2
    go_ret2
    have hf : Fr [s] w (w1.setCell ⟨s, 1, none⟩ (.int .i64 ((k : Int) + n))) :=
      (((HF0.out.tr HF1.out).trans HF2.out (by have := HF0.out.size; simp [Value.ownBlock]; omega)).nil).setCell (by simp) _
    have hw1 : Fr [] w0 w1 := HF1.out.trans HF2.out (by simp [Value.ownBlock])
    have hfs : Fr [s] w1 (w1.setCell ⟨s, 1, none⟩ (.int .i64 ((k : Int) + n))) := (Fr.refl [s] w1).setCell (by simp) _
    have ho := HO1.out
    rw [List.nil_append, Nat.zero_add] at ho
    refine ⟨A', c', rfl, ?_, ⟨?_, (HR0.out.2.1.fr hw1 (by simp)).fr hfs (fun j hj => by simp at hj; subst hj; simpa using HR0.out.ne), HR0.out.2.2⟩, hf⟩
    · have ho2 := ho.fr hfs (fun j hj h => by simp at h; subst h; exact ho.other HBK.out (by decide) hj)
      exact ho2.base HF0.out.size
    · have h4 := HBK.out.put 1 (.int .i64 ((k : Int) + n))
      simp at h4
      exact h4


set_option maxRecDepth 100000 in
set_option maxHeartbeats 1000000 in
theorem word_any (w : World) (b o n c k : Nat) (l : List UInt8) (hn : l.length = n) (hk : k + 4 ≤ n) (hl : n ≤ 1000000000) (hr : Rd w (some ⟨b, o, none⟩) l) :
    Calls Try.prog 22 #[.slice (some ⟨b, o, none⟩) n c, .int .i64 (k : Int)] w fun e w' => e = .returned (.int .u32 (Crc.u (Ups.word4 (l.drop k)))) ∧ Fr [] w w' := by
  obtain ⟨x0, x1, x2, x3, hx⟩ : ∃ x0 x1 x2 x3, (l.drop k).take 4 = [x0, x1, x2, x3] := by
    have h4 : ((l.drop k).take 4).length = 4 := by rw [List.length_take, List.length_drop]; omega
    match (l.drop k).take 4, h4 with
    | [x0, x1, x2, x3], _ => exact ⟨x0, x1, x2, x3, rfl⟩
  have hg : ∀ i, i < 4 → l[k + i]? = [x0, x1, x2, x3][i]? := by
    intro i hi
    rw [← hx, List.getElem?_take_of_lt hi, List.getElem?_drop]
  have hu := Ups.word4_u (l.drop k) (by rw [List.length_drop]; omega)
  rw [hx] at hu
  have b0 := x0.toNat_lt
  have b1 := x1.toNat_lt
  have b2 := x2.toNat_lt
  have b3 := x3.toNat_lt
  have hv : Crc.u (Ups.word4 (l.drop k)) = (x0.toNat : Int) + (x1.toNat : Int) * 256 + (x2.toNat : Int) * 65536 + (x3.toNat : Int) * 16777216 := by
    rw [hu]
    simp [le]
    omega
  have HV := Lib.hid hv
  have cell : ∀ (i : Nat) (x : UInt8), l[k + i]? = some x → w.cell? ⟨b, o + (k + i), none⟩ = some (.int .u8 (x.toNat : Int)) := by
    intro i x hxi
    obtain ⟨hj, he⟩ := List.getElem?_eq_some_iff.1 hxi
    obtain ⟨b', o', e', hc⟩ := hr (by omega)
    injection e' with e'
    injection e' with e1 e2
    subst e1 e2
    rw [hc (k + i) hj, he]
  have k0 := cell 0 x0 (hg 0 (by omega))
  obtain ⟨t1, ht1⟩ : ∃ t1, k + 1 = t1 := ⟨_, rfl⟩
  obtain ⟨t2, ht2⟩ : ∃ t2, k + 2 = t2 := ⟨_, rfl⟩
  obtain ⟨t3, ht3⟩ : ∃ t3, k + 3 = t3 := ⟨_, rfl⟩
  have k1 := cell 1 x1 (hg 1 (by omega))
  have k2 := cell 2 x2 (hg 2 (by omega))
  have k3 := cell 3 x3 (hg 3 (by omega))
  rw [ht1] at k1
  rw [ht2] at k2
  rw [ht3] at k3
  rw [Nat.add_zero] at k0
  have a1 : (k : Int) + 1 = (t1 : Int) := by omega
  have a2 : (k : Int) + 2 = (t2 : Int) := by omega
  have a3 : (k : Int) + 3 = (t3 : Int) := by omega
  have w1 : IntKind.i64.wrap (t1 : Int) = (t1 : Int) := by rw [IntKind.wrap_i64]; omega
  have w2 : IntKind.i64.wrap (t2 : Int) = (t2 : Int) := by rw [IntKind.wrap_i64]; omega
  have w3 : IntKind.i64.wrap (t3 : Int) = (t3 : Int) := by rw [IntKind.wrap_i64]; omega
  have l0 : (k : Int) < n := by omega
  have l1 : (t1 : Int) < n := by omega
  have l2 : (t2 : Int) < n := by omega
  have l3 : (t3 : Int) < n := by omega
  have HB := Lib.hid (And.intro (And.intro b0 b1) (And.intro b2 b3))
  clear hx hg hu hv cell hr hn ht1 ht2 ht3 b0 b1 b2 b3
  go_enter Try.func22, Try.ntmps22
  go_wp2_with fail
  go_quiet (fail)
  go_wp2
  go_ret
  refine ⟨?_, (Fr.refl [] w).drewN nq⟩
  obtain ⟨⟨b0, b1⟩, b2, b3⟩ := HB.out
  rw [HV.out]
  show Ending.returned (Value.int .u32 _) = Ending.returned (Value.int .u32 _)
  congr 2
  omega

end Bm
end Go.Proofs.Ytokfcknfkhlmfaa

namespace Go.Proofs.Ytokfcknfkhlmfaa
open Go.RowKit
namespace Var

set_option maxHeartbeats 400000 in
theorem refBack_any (w : World) (u : Int) (h0 : 0 ≤ u) (h1 : u < 18446744073709551616) :
    Calls Try.prog 25 #[.int .u64 u] w fun e w' => e = .returned (.int .i64 (backV u)) ∧ w = w' := by
  by_cases hn : u % 2 = 1
  · have e : backV u = -(u / 2) := by rw [backV, if_pos hn]
    rw [e]
    clear e
    go_enter Try.func25, Try.ntmps25
    go_wp2
    go_ret
    exact ⟨rfl, rfl⟩
  · have e : backV u = u / 2 := by rw [backV, if_neg hn]
    rw [e]
    clear e
    go_enter Try.func25, Try.ntmps25
    go_wp2
    go_ret
    exact ⟨rfl, rfl⟩

end Var
end Go.Proofs.Ytokfcknfkhlmfaa

namespace Go.Proofs.Ytokfcknfkhlmfaa.Crc
open Go.RowKit

theorem tdiv_u (a : BitVec 32) : (u a).tdiv 2 % 4294967296 = u a / (2 : Int) := by
  have h := u_bounds a
  rw [Int.tdiv_eq_ediv_of_nonneg h.1]
  omega
theorem bits_pos (a b : Int) : 0 ≤ bits .xor .u32 a b := bits_lo_u32 .xor a b
theorem tbit (r : BitVec 32) (x : UInt8) (k : Nat) : ((bits .xor .u32 (u (bitwise r x k)) ((x.toNat : Int) / 2 ^ k)).tmod 2 == 1) = outBit r x k := by
  rw [Int.tmod_eq_emod_of_nonneg (bits_pos _ _), bit_u]
  cases outBit r x k <;> rfl
theorem tOut1 (r : BitVec 32) (x : UInt8) (k : Nat) (h : outBit r x k = true) : bits .xor .u32 ((u (bitwise r x k)).tdiv 2 % 4294967296) 3988292384 = u (bitwise r x (k + 1)) := by
  rw [tdiv_u]; exact bitOut1 r x k h
theorem tOut0 (r : BitVec 32) (x : UInt8) (k : Nat) (h : outBit r x k = false) : (u (bitwise r x k)).tdiv 2 % 4294967296 = u (bitwise r x (k + 1)) := by
  rw [tdiv_u]; exact bitOut0 r x k h

set_option maxHeartbeats 1000000 in
theorem rnext_any (w : World) (s : BitVec 32) (A : Option Addr) (n c : Nat) (l : List UInt8) (hn : l.length = n) (hr : Rd w A l) (hm : n ≤ 1000000000) :
    Calls Try.prog 30 #[.int .u32 (u s), .slice A n c] w fun e w' => e = .returned (.int .u32 (u (next s l))) ∧ w = w' := by
  have HR := Lib.hid hr
  have HN := Lib.hid hn
  clear hr hn
  have H0 := Lib.hid (not_u s)
  go_enter Try.func30, Try.ntmps30
  go_wp2
  rw [H0.out]
  go_loop [5, 6, 7, 8] (fun v i _ _ => ∃ k : Nat, k ≤ n ∧ i = .int .i64 k ∧ v = .int .u32 (u (run (~~~ s) (l.take k)))) (fun _ i _ _ => n - (intOf i).toNat)
  case atStart => exact ⟨0, Nat.zero_le _, rfl, rfl⟩
  case round =>
    obtain ⟨k, hk, rfl, rfl⟩ := hrel
    by_cases hlt : k < n
    · obtain ⟨b, o, x, rfl, hx, hc⟩ := HR.out.at k (by rw [HN.out]; omega)
      have HX := Lib.hid (run_take (~~~ s) l k x hx)
      clear hx
      generalize run (~~~ s) (l.take k) = r at *
      have hx8 := x.toNat_lt
      go_wp2
      go_loop [5, 7, 8] (fun v i _ => ∃ j : Nat, j ≤ 8 ∧ i = .int .i64 j ∧ v = .int .u32 (u (bitwise r x j))) (fun _ i _ => 8 - (intOf i).toNat)
      case atStart => exact ⟨0, Nat.zero_le _, rfl, by rw [bitwise_zero]⟩
      case round =>
        obtain ⟨j, hj, rfl, rfl⟩ := hrel
        by_cases hlt8 : j < 8
        · have hbit := tbit r x j
          cases ho : outBit r x j with
          | true =>
            rw [ho] at hbit
            have HS := Lib.hid (tOut1 r x j ho)
            clear ho
            go_wp2
            exact ⟨⟨j + 1, by omega, by go_num, by rw [HS.out]⟩, by simp [intOf]; omega⟩
          | false =>
            rw [ho] at hbit
            have HS := Lib.hid (tOut0 r x j ho)
            clear ho
            go_wp2
            exact ⟨⟨j + 1, by omega, by go_num, by rw [HS.out]⟩, by simp [intOf]; omega⟩
        · obtain rfl : j = 8 := by omega
          go_wp2
          exact ⟨⟨k + 1, by omega, by go_num, by rw [HX.out, bitwise_eight]⟩, by simp [intOf]; omega⟩
    · obtain rfl : k = n := by omega
      have H1 := Lib.hid (not_u (run (~~~ s) (l.take k)))
      have HL : Hid (l.take k = l) := List.take_of_length_le (by rw [HN.out]; omega)
      go_wp2
      go_ret
      exact ⟨by rw [H1.out, HL.out]; rfl, rfl⟩

set_option maxHeartbeats 400000 in
theorem rsum_any (w : World) (A : Option Addr) (n c : Nat) (l : List UInt8) (hn : l.length = n) (hr : Rd w A l) (hm : n ≤ 1000000000) :
    Calls Try.prog 13 #[.slice A n c] w fun e w' => e = .returned (.int .u32 (u (next 0#32 l))) ∧ w = w' := by
  have HR := Lib.hid hr
  have HN := Lib.hid hn
  clear hr hn
  go_enter Try.func13, Try.ntmps13
  go_wp2_with fail
  rw [show Value.int .u32 (0 : Int) = Value.int .u32 (u 0#32) from congrArg _ zero_u]
  refine (rnext_any w 0#32 A n c l HN.out HR.out hm).mono ?_
  rintro e w1 ⟨rfl, rfl⟩
  go_wp2
  go_ret
  exact ⟨rfl, rfl⟩

end Go.Proofs.Ytokfcknfkhlmfaa.Crc
