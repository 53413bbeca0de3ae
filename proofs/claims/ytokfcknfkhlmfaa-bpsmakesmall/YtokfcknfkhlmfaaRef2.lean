/-
  Contract of the document's own Take of layer 3. Conditions: the reader's bytes are up to 1000000000.
-/
import Derived.Test.YtokfcknfkhlmfaaVarTake
namespace Go.Proofs.Ytokfcknfkhlmfaa
open Go.RowKit
namespace Var

/-- A reader of the document's at block q, its bytes l, its place k. -/
def RRd (w : World) (q : Nat) (A : Option Addr) (c : Nat) (l : List UInt8) (k : Nat) : Prop :=
  Blk w q 63 #[.slice A l.length c, .int .i64 (k : Int)] ∧ Rd w A l ∧ ∀ ad, A = some ad → ad.block ≠ q

theorem RRd.fr {S : List Nat} {w w' : World} {q c k : Nat} {A : Option Addr} {l : List UInt8} (h : RRd w q A c l k) (hf : Fr S w w') (hq : q ∉ S) (hA : ∀ ad, A = some ad → ad.block ∉ S) : RRd w' q A c l k :=
  ⟨h.1.fr hf hq, h.2.1.fr hf hA, h.2.2⟩

/-- What the document's Take leaves. -/
def RTaken (w : World) (q : Nat) (A : Option Addr) (c : Nat) (l : List UInt8) (k : Nat) (T : Nat × Nat × Int) (e : Ending) (w' : World) : Prop :=
  e = .returned (.tuple #[.int .u64 (T.1 : Int), .int .i64 T.2.2]) ∧ RRd w' q A c l (k + T.2.1) ∧ Fr [q] w w'

/-- How the sum of the document's account tells what has been said. -/
def Said (k P sm we sa : Nat) : Prop := (P = k ∧ sa = sm) ∨ (k < P ∧ sa = sm + we)

set_option maxRecDepth 100000 in
set_option maxHeartbeats 2000000 in
theorem refTake_any (w : World) (q k c : Nat) (A : Option Addr) (l : List UInt8) (h : RRd w q A c l k) (hk : k ≤ l.length) (hl : l.length ≤ 1000000000) (T : Nat × Nat × Int) (hT : takeV (l.drop k) = T) :
    Calls Try.prog 23 #[.pointer (some ⟨q, 0, none⟩)] w (RTaken w q A c l k T) := by
  have h0 := h.1.cell 0
  have h1 := h.1.cell 1
  have h2 := h.1.frozen 1
  simp at h0 h1
  have HR := Lib.hid h
  have HT : Hid (Links T 0 (goV 0 1 (l.drop k))) := by
    rw [← hT]
    exact links_zero 0 1 (l.drop k)
  clear h hT
  obtain ⟨n, hn⟩ : ∃ n, l.length = n := ⟨_, rfl⟩
  rw [hn] at h0 hk hl
  have HN := Lib.hid hn
  clear hn
  go_enter Try.func23, Try.ntmps23
  go_wp2_with fail
  go_loop [4, 5, 6] (fun s t i => ∃ P sm we sa : Nat, s = .int .u64 (sm : Int) ∧ t = .int .u64 (we : Int) ∧ i = .int .i64 (P : Int) ∧ k ≤ P ∧ P ≤ n ∧ Said k P sm we sa ∧ Fits sa we ∧ Links T (P - k) (goV sa we (l.drop P))) (fun _ _ i => n - (intOf i).toNat)
  case atStart => exact ⟨k, 0, 1, 0, rfl, rfl, rfl, Nat.le_refl _, hk, .inl ⟨rfl, rfl⟩, fits_zero, by simpa using HT.out⟩
  case round =>
    obtain ⟨P, sm, we, sa, rfl, rfl, rfl, hkP, hPn, hsaid, hfit, ht⟩ := hrel
    have HL := Lib.hid ht
    have HS := Lib.hid hfit
    clear ht
    by_cases hlt : P < n
    · obtain ⟨b, o, x, rfl, hx, hcell⟩ := Rd.at HR.out.2.1 P (by rw [HN.out]; exact hlt)
      have hd : l.drop P = x :: l.drop (P + 1) := by
        obtain ⟨h5, h6⟩ := List.getElem?_eq_some_iff.1 hx
        rw [← h6]
        exact List.drop_eq_getElem_cons h5
      rw [hd] at HL
      obtain ⟨m, hm⟩ : ∃ m, x.toNat % 128 * we = m := ⟨_, rfl⟩
      have hm2 := fits_mul hfit x
      rw [hm] at hm2
      have hm3 : (x.toNat : Int) % 128 * (we : Int) = (m : Int) := by rw [← hm]; simp
      have hx8 : x.toNat < 256 := x.toNat_lt
      have HM := Lib.hid hm
      clear hm hd hx
      have hw1 : 1 ≤ we := by unfold Fits at hfit; omega
      have hw2 : we ≤ 549755813888 := hfit.2.2
      have hs2 : sa ≤ 554050781184 := by unfold Fits at hfit; omega
      clear hfit
      have hlt' : (P : Int) < (n : Int) := by omega
      have hP0 : (P : Int) < 9223372036854775807 := by omega
      have HKP := Lib.hid hkP
      have hend : Hid (P + 1 - k = P - k + 1) := by show P + 1 - k = P - k + 1; omega
      rcases hsaid with ⟨hP, hsa⟩ | ⟨hP, hsa⟩
      · have hc : ¬ (k : Int) < (P : Int) := by omega
        subst hsa
        clear hP
        by_cases hbig : sa + m > 4294967296
        · have e : T = (0, 0, 5) := by
            have := HL.out
            rw [goV_size (by rw [HM.out]; exact hbig)] at this
            exact this
          subst e
          have hb' : (4294967296 : Int) < (sa : Int) + (m : Int) := by omega
          go_wp2
          go_ret2
          exact ⟨rfl, by simpa using HR.out, Fr.refl _ _⟩
        · have hb' : ¬ (4294967296 : Int) < (sa : Int) + (m : Int) := by omega
          by_cases hlast : 128 ≤ x.toNat
          · have hl' : (128 : Int) ≤ (x.toNat : Int) := by omega
            have e : T = (sa + m, 1 + (P - k), 0) := by
              have := HL.out
              rw [goV_last (by rw [HM.out]; exact hbig) hlast, HM.out] at this
              exact this
            subst e
            go_wp2
            go_ret2
            refine ⟨rfl, ⟨?_, HR.out.2.1.fr ((Fr.refl [q] w).setCell (by simp) _) (by intro ad e; cases e; simpa using HR.out.2.2 _ rfl), HR.out.2.2⟩, (Fr.refl [q] w).setCell (by simp) _⟩
            have hp1 := HR.out.1.put 1 (.int .i64 ((P : Int) + 1))
            have e1 : ((k + (1 + (P - k)) : Nat) : Int) = (P : Int) + 1 := by have := HKP.out; omega
            simp at hp1
            show Blk _ q _ #[_, Value.int .i64 ((k + (1 + (P - k)) : Nat) : Int)]
            rw [e1]
            exact hp1
          · have hl' : ¬ (128 : Int) ≤ (x.toNat : Int) := by omega
            go_wp2
            go_round
            case rel =>
              refine ⟨P + 1, sa + m, we * 128, sa + m + we * 128, ?_, ?_, ?_, by have := HKP.out; omega, by omega, .inr ⟨by have := HKP.out; omega, rfl⟩, fits_next HS.out (by omega), ?_⟩
              · congr 1
              · congr 1
              · congr 1
              · have := links_next HL.out (by rw [HM.out]; exact hbig) hlast
                rw [HM.out] at this
                rw [hend.out]
                exact this
            case measure => simp [intOf]; omega
      · have hc : (k : Int) < (P : Int) := by omega
        have hsa' : (sm : Int) + (we : Int) = (sa : Int) := by omega
        clear hP hsa
        by_cases hbig : sa + m > 4294967296
        · have e : T = (0, 0, 5) := by
            have := HL.out
            rw [goV_size (by rw [HM.out]; exact hbig)] at this
            exact this
          subst e
          have hb' : (4294967296 : Int) < (sa : Int) + (m : Int) := by omega
          go_wp2
          go_ret2
          exact ⟨rfl, by simpa using HR.out, Fr.refl _ _⟩
        · have hb' : ¬ (4294967296 : Int) < (sa : Int) + (m : Int) := by omega
          by_cases hlast : 128 ≤ x.toNat
          · have hl' : (128 : Int) ≤ (x.toNat : Int) := by omega
            have e : T = (sa + m, 1 + (P - k), 0) := by
              have := HL.out
              rw [goV_last (by rw [HM.out]; exact hbig) hlast, HM.out] at this
              exact this
            subst e
            go_wp2
            go_ret2
            refine ⟨rfl, ⟨?_, HR.out.2.1.fr ((Fr.refl [q] w).setCell (by simp) _) (by intro ad e; cases e; simpa using HR.out.2.2 _ rfl), HR.out.2.2⟩, (Fr.refl [q] w).setCell (by simp) _⟩
            have hp1 := HR.out.1.put 1 (.int .i64 ((P : Int) + 1))
            have e1 : ((k + (1 + (P - k)) : Nat) : Int) = (P : Int) + 1 := by have := HKP.out; omega
            simp at hp1
            show Blk _ q _ #[_, Value.int .i64 ((k + (1 + (P - k)) : Nat) : Int)]
            rw [e1]
            exact hp1
          · have hl' : ¬ (128 : Int) ≤ (x.toNat : Int) := by omega
            go_wp2
            go_round
            case rel =>
              refine ⟨P + 1, sa + m, we * 128, sa + m + we * 128, ?_, ?_, ?_, by have := HKP.out; omega, by omega, .inr ⟨by have := HKP.out; omega, rfl⟩, fits_next HS.out (by omega), ?_⟩
              · congr 1
              · congr 1
              · congr 1
              · have := links_next HL.out (by rw [HM.out]; exact hbig) hlast
                rw [HM.out] at this
                rw [hend.out]
                exact this
            case measure => simp [intOf]; omega
    · have hd : l.drop P = [] := List.drop_eq_nil_of_le (by rw [HN.out]; omega)
      rw [hd] at HL
      have e : T = (0, 0, 2) := HL.out
      subst e
      clear hsaid hfit
      have hlt' : ¬ (P : Int) < (n : Int) := by omega
      go_wp2
      go_ret2
      exact ⟨rfl, by simpa using HR.out, Fr.refl _ _⟩

end Var
end Go.Proofs.Ytokfcknfkhlmfaa
