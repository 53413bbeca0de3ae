/-
  The program's step in memory, the flat bus. Conditions: the state is one that there is, few bytes were written.
-/
import Derived.Test.YtlnpadekgakghaaDoorMkMade
import Derived.Test.YtlnpadekgakghaaDoorMosBits
import Derived.Test.YtlnpadekgakghaaDoorAlProg
namespace Go.Proofs.YtlnpadekgakghaaDoor
open Go.RowKit
namespace Ms
open Al (byte of_byte)
set_option linter.unusedVariables false

/-- What a step holds besides: what is done, the mode, cycles, the address, whether it is crossed. -/
structure Rg where
  d : Int
  md : Int
  cy : Int
  ad : Int
  cr : Bool
def stC (q g : Nat) (R : Rg) : Array Value := #[.pointer (some ⟨q, 0, none⟩), .iface 31 (.pointer (some ⟨g, 0, none⟩)), .int .u32 R.d, .int .u32 R.md, .int .i64 R.cy, .int .u16 R.ad, .bool R.cr]
structure StAt (w : World) (B t q g : Nat) (v : Value) (S : S14) (R : Rg) : Prop where
  prog : ProgAt w B q g v S
  st : Blk w t 70 (stC q g R)
  tp : 0 < t
def sfoot (t q g : Nat) (v : Value) : List Nat := t :: pfoot q g v
/-- What a call leaves that answers val: the state T, the step's own R, nothing else has turned but its own blocks. -/
def SDone (w : World) (B t q g : Nat) (v : Value) (T : S14) (R : Rg) (val : Value) (e : Ending) (w' : World) : Prop :=
  e = .returned val ∧ ∃ v', StAt w' B t q g v' T R ∧ Fr (sfoot t q g v) w w' ∧ Lies w v v'

section
variable {w w' w1 w2 : World} {B t q g : Nat} {v v' v1 : Value} {S T : S14} {R R1 : Rg} {a x y s p pc d md cy ad : Int} {h cr : Bool} {b : FB}
theorem StAt.tq (H : StAt w B t q g v S R) : t ≠ q := H.st.other H.prog.cpu (by decide)
theorem StAt.tg (H : StAt w B t q g v S R) : t ≠ g := by
  obtain ⟨cs, hb, -, -⟩ := H.prog.flat
  exact H.st.other hb (by decide)
theorem StAt.net (H : StAt w B t q g v S R) : v.ownBlock ≠ some t := H.prog.row.other H.st (by decide)
theorem StAt.not_in (H : StAt w B t q g v S R) : t ∉ pfoot q g v := by
  intro hk
  simp only [pfoot, List.mem_cons, Option.mem_toList] at hk
  rcases hk with hk | hk | hk
  · exact H.tq hk
  · exact H.tg hk
  · exact H.net hk
theorem StAt.fr {F : List Nat} (H : StAt w B t q g v S R) (hf : Fr F w w') (hq : ∀ k ∈ sfoot t q g v, k ∉ F) (h0 : 0 ∉ F := by simp) : StAt w' B t q g v S R :=
  ⟨H.prog.fr hf (fun k hk => hq k (List.mem_cons_of_mem _ hk)) h0, H.st.fr hf (hq t (by simp [sfoot])), H.tp⟩
theorem StAt.frozen (H : StAt w B t q g v S R) (i : Nat) : w.frozen? ⟨q, i, none⟩ = false := H.prog.cpu.frozen i
theorem StAt.ofrozen (H : StAt w B t q g v S R) (i : Nat) : w.frozen? ⟨t, i, none⟩ = false := H.st.frozen i
theorem sregs (H : StAt w B t q g v ⟨a, x, y, s, p, pc, h, b⟩ R) :
    w.cell? ⟨q, 0, none⟩ = some (.int .u8 a) ∧ w.cell? ⟨q, 1, none⟩ = some (.int .u8 x) ∧ w.cell? ⟨q, 2, none⟩ = some (.int .u8 y) ∧ w.cell? ⟨q, 3, none⟩ = some (.int .u8 s) ∧ w.cell? ⟨q, 4, none⟩ = some (.int .u8 p) ∧ w.cell? ⟨q, 5, none⟩ = some (.int .u16 pc) ∧ w.cell? ⟨q, 6, none⟩ = some (.bool h) ∧ w.cell? ⟨t, 0, none⟩ = some (.pointer (some ⟨q, 0, none⟩)) ∧ w.cell? ⟨t, 1, none⟩ = some (.iface 31 (.pointer (some ⟨g, 0, none⟩))) := by
  obtain ⟨h0, h1, h2, h3, h4, h5, h6⟩ := H.prog.regs
  exact ⟨h0, h1, h2, h3, h4, h5, h6, H.st.cell 0, H.st.cell 1⟩
theorem srow (H : StAt w B t q g v S ⟨d, md, cy, ad, cr⟩) :
    w.cell? ⟨t, 2, none⟩ = some (.int .u32 d) ∧ w.cell? ⟨t, 3, none⟩ = some (.int .u32 md) ∧ w.cell? ⟨t, 4, none⟩ = some (.int .i64 cy) ∧ w.cell? ⟨t, 5, none⟩ = some (.int .u16 ad) ∧ w.cell? ⟨t, 6, none⟩ = some (.bool cr) :=
  ⟨H.st.cell 2, H.st.cell 3, H.st.cell 4, H.st.cell 5, H.st.cell 6⟩
theorem ProgAt.put (H : ProgAt w B q g v S) (i : Nat) (u : Value) (S' : S14) (hb : S'.b = S.b) (hc : cpuC S' = (cpuC S).setIfInBounds i u) : ProgAt (w.setCell ⟨q, i, none⟩ u) B q g v S' := by
  refine ⟨?_, ?_, ?_, H.tab.fr ((Fr.refl [q] w).setCell (by simp) _) H.nop, H.pos⟩
  · rw [hc]
    exact H.cpu.put i u
  · rw [hb]
    exact H.flat.fr ((Fr.refl [q] w).setCell (by simp) _) (by have := H.pf; simp; exact fun e => this e.symm)
  · rw [hb]
    exact H.row.fr ((Fr.refl [q] w).setCell (by simp) _) (by intro k hk e; simp at e; subst e; exact H.nep hk)
theorem StAt.put (H : StAt w B t q g v S R) (i : Nat) (u : Value) (S' : S14) (hb : S'.b = S.b) (hc : cpuC S' = (cpuC S).setIfInBounds i u) : StAt (w.setCell ⟨q, i, none⟩ u) B t q g v S' R :=
  ⟨H.prog.put i u S' hb hc, H.st.fr ((Fr.refl [q] w).setCell (by simp) _) (by simpa using H.tq), H.tp⟩
theorem StAt.own (H : StAt w B t q g v S R) (i : Nat) (u : Value) (R' : Rg) (hc : stC q g R' = (stC q g R).setIfInBounds i u) : StAt (w.setCell ⟨t, i, none⟩ u) B t q g v S R' := by
  refine ⟨H.prog.fr ((Fr.refl [t] w).setCell (by simp) _) ?_ (by have := H.tp; simp; omega), ?_, H.tp⟩
  · intro k hk e
    simp at e
    subst e
    exact H.not_in hk
  · rw [hc]
    exact H.st.put i u
theorem sput_a (H : StAt w B t q g v ⟨a, x, y, s, p, pc, h, b⟩ R) (u : Int) : StAt (w.setCell ⟨q, 0, none⟩ (.int .u8 u)) B t q g v ⟨u, x, y, s, p, pc, h, b⟩ R := H.put 0 _ _ rfl rfl
theorem sput_x (H : StAt w B t q g v ⟨a, x, y, s, p, pc, h, b⟩ R) (u : Int) : StAt (w.setCell ⟨q, 1, none⟩ (.int .u8 u)) B t q g v ⟨a, u, y, s, p, pc, h, b⟩ R := H.put 1 _ _ rfl rfl
theorem sput_y (H : StAt w B t q g v ⟨a, x, y, s, p, pc, h, b⟩ R) (u : Int) : StAt (w.setCell ⟨q, 2, none⟩ (.int .u8 u)) B t q g v ⟨a, x, u, s, p, pc, h, b⟩ R := H.put 2 _ _ rfl rfl
theorem sput_s (H : StAt w B t q g v ⟨a, x, y, s, p, pc, h, b⟩ R) (u : Int) : StAt (w.setCell ⟨q, 3, none⟩ (.int .u8 u)) B t q g v ⟨a, x, y, u, p, pc, h, b⟩ R := H.put 3 _ _ rfl rfl
theorem sput_p (H : StAt w B t q g v ⟨a, x, y, s, p, pc, h, b⟩ R) (u : Int) : StAt (w.setCell ⟨q, 4, none⟩ (.int .u8 u)) B t q g v ⟨a, x, y, s, u, pc, h, b⟩ R := H.put 4 _ _ rfl rfl
theorem sput_pc (H : StAt w B t q g v ⟨a, x, y, s, p, pc, h, b⟩ R) (u : Int) : StAt (w.setCell ⟨q, 5, none⟩ (.int .u16 u)) B t q g v ⟨a, x, y, s, p, u, h, b⟩ R := H.put 5 _ _ rfl rfl
theorem sput_cy (H : StAt w B t q g v S ⟨d, md, cy, ad, cr⟩) (u : Int) : StAt (w.setCell ⟨t, 4, none⟩ (.int .i64 u)) B t q g v S ⟨d, md, u, ad, cr⟩ := H.own 4 _ _ rfl
theorem sput_ad (H : StAt w B t q g v S ⟨d, md, cy, ad, cr⟩) (u : Int) : StAt (w.setCell ⟨t, 5, none⟩ (.int .u16 u)) B t q g v S ⟨d, md, cy, u, cr⟩ := H.own 5 _ _ rfl
theorem sput_cr (H : StAt w B t q g v S ⟨d, md, cy, ad, cr⟩) (u : Bool) : StAt (w.setCell ⟨t, 6, none⟩ (.bool u)) B t q g v S ⟨d, md, cy, ad, u⟩ := H.own 6 _ _ rfl
theorem sfoot_tr (h1 : Fr (sfoot t q g v) w w1) (l1 : Lies w v v1) (h2 : Fr (sfoot t q g v1) w1 w2) : Fr (sfoot t q g v) w w2 := by
  refine h1.trans h2 ?_
  intro i hi
  simp only [sfoot, pfoot, List.mem_cons, Option.mem_toList] at hi ⊢
  rcases hi with rfl | rfl | rfl | hi
  · exact .inl (.inl rfl)
  · exact .inl (.inr (.inl rfl))
  · exact .inl (.inr (.inr (.inl rfl)))
  · rcases l1 with h | ⟨k, hk, hle⟩
    · exact .inl (.inr (.inr (.inr (by rw [← h]; exact hi))))
    · rw [hk] at hi
      cases hi
      exact .inr hle
theorem sdone_tr {val : Value} {e : Ending} (h1 : Fr (sfoot t q g v) w w1) (l1 : Lies w v v1) (h : SDone w1 B t q g v1 T R val e w2) : SDone w B t q g v T R val e w2 := by
  obtain ⟨rfl, v2, h2, h3, h4⟩ := h
  exact ⟨rfl, v2, h2, sfoot_tr h1 l1 h3, l1.trans h4 h1.size⟩
theorem sdone_set (val : Value) (h1 : Fr (sfoot t q g v) w w1) (l1 : Lies w v v1) {i : Nat} {u : Value} (H : StAt (w1.setCell ⟨q, i, none⟩ u) B t q g v1 T R) : SDone w B t q g v T R val (.returned val) (w1.setCell ⟨q, i, none⟩ u) :=
  ⟨rfl, v1, H, h1.setCell (by simp [sfoot, pfoot]) u, l1⟩
theorem sdone_own (val : Value) (h1 : Fr (sfoot t q g v) w w1) (l1 : Lies w v v1) {i : Nat} {u : Value} (H : StAt (w1.setCell ⟨t, i, none⟩ u) B t q g v1 T R) : SDone w B t q g v T R val (.returned val) (w1.setCell ⟨t, i, none⟩ u) :=
  ⟨rfl, v1, H, h1.setCell (by simp [sfoot, pfoot]) u, l1⟩
theorem sdone_of {val : Value} {e : Ending} (H : StAt w B t q g v S R) (h : PDone w B q g v T val e w') : SDone w B t q g v T R val e w' := by
  obtain ⟨rfl, v2, h2, h3, h4⟩ := h
  exact ⟨rfl, v2, ⟨h2, H.st.fr h3 H.not_in, H.tp⟩, h3.sub (fun k hk => .inl (List.mem_cons_of_mem _ hk)), h4⟩
end

theorem meth_read (g : Nat) (W : World) : (method 227 31 (.pointer (some ⟨g, 0, none⟩)) "Read").run Tryd.prog W = .ok (114, .pointer (some ⟨g, 0, none⟩)) W := by kernel_rfl
theorem meth_write (g : Nat) (W : World) : (method 227 31 (.pointer (some ⟨g, 0, none⟩)) "Write").run Tryd.prog W = .ok (115, .pointer (some ⟨g, 0, none⟩)) W := by kernel_rfl

set_option maxRecDepth 100000 in
set_option maxHeartbeats 2000000 in
theorem pread_any (w : World) (B q g : Nat) (v : Value) (S : S14) (i : Int) (H : ProgAt w B q g v S) (hi : u16 i) :
    Calls Tryd.prog 114 #[.pointer (some ⟨g, 0, none⟩), .int .u16 i] w fun e w' => e = .returned (.int .u8 (S.b.m i)) ∧ w = w' := by
  have cm := H.flat.mem i hi
  obtain ⟨i0, i1⟩ := hi
  clear H
  generalize S.b.m i = M at *
  go_enter Tryd.func114, Tryd.ntmps114
  go_wp2
  go_ret
  exact ⟨rfl, rfl⟩
theorem sread_any {w : World} {B t q g : Nat} {v : Value} {S : S14} {R : Rg} (H : StAt w B t q g v S R) (i : Int) (hi : u16 i) :
    Calls Tryd.prog 114 #[.pointer (some ⟨g, 0, none⟩), .int .u16 i] w fun e w' => e = .returned (.int .u8 (S.b.m i)) ∧ w = w' := pread_any w B q g v S i H.prog hi

theorem flat_w {w : World} {g : Nat} {v v' : Value} {m : Int → Int} {l l' : List (Int × Int)} (H : FlatAt w g v ⟨m, l⟩) : FlatAt (w.setCell ⟨g, 65536, none⟩ v') g v' ⟨m, l'⟩ := by
  obtain ⟨cs, hbk, hs, hcs⟩ := H
  refine ⟨_, hbk.put 65536 v', by simpa using hs, fun j hj => ?_⟩
  rw [Array.getElem?_setIfInBounds]
  by_cases e : 65536 = j
  · subst e
    rw [if_pos rfl, if_pos (by omega)]
    rfl
  · rw [if_neg e, hcs j hj]
    unfold flatOf
    rw [if_pos (by omega), if_pos (by omega)]

set_option maxRecDepth 100000 in
set_option maxHeartbeats 2000000 in
theorem pwrite_any (w : World) (B q g : Nat) (v : Value) (S : S14) (i u : Int) (n : Nat) (H : ProgAt w B q g v S) (hi : u16 i) (hu : byte u) (hO : Ok n S) (hn : n < 1000000000) (hB : B ≤ w.heap.size) :
    Calls Tryd.prog 115 #[.pointer (some ⟨g, 0, none⟩), .int .u16 i, .int .u8 u] w (PDone w B q g v (withB S (Io.wb S.b i u)) (.tuple #[])) := by
  obtain ⟨a, x, y, s, p, pc, h, ⟨m, l⟩⟩ := S
  obtain ⟨iz, hz, hz0, hz1, hz2⟩ := info_parts infoPoke
  have cm : w.cell? ⟨g, i.toNat, none⟩ = some (.int .u8 (m i)) := H.flat.mem i hi
  have fm := H.flat.frozen i.toNat
  have hl : l.length ≤ 1000000000 := by have := hO.b.2.2; show l.length ≤ _; exact Nat.le_trans this (by omega)
  have HM : Hid (ProgAt (w.setCell ⟨g, i.toNat, none⟩ (.int .u8 u)) B q g v ⟨a, x, y, s, p, pc, h, ⟨upd m i u, l⟩⟩) := Lib.hid (prog_putm H i u hi)
  have HF : Hid (Fr [g] w (w.setCell ⟨g, i.toNat, none⟩ (.int .u8 u))) := Lib.hid ((Fr.refl [g] w).setCell (by simp) _)
  have HLn := Lib.hid hl
  have HBs := Lib.hid hB
  obtain ⟨i0, i1⟩ := hi
  obtain ⟨u0, u1⟩ := hu
  obtain ⟨A, cap, rfl, -⟩ := H.row.slice
  clear hO hn hB hl H
  show Calls _ _ _ _ (PDone w B q g (.slice A l.length cap) ⟨a, x, y, s, p, pc, h, ⟨upd m i u, l ++ [(i, u)]⟩⟩ (.tuple #[]))
  go_enter Tryd.func115, Tryd.ntmps115
  go_upto_region 1 with fail
  have hcw : (w.setCell ⟨g, i.toNat, none⟩ (.int .u8 u)).cell? ⟨g, 65536, none⟩ = some (.slice A l.length cap) := HM.out.flat.cell 65536 (by omega)
  have HB1 : Hid (B ≤ (w.setCell ⟨g, i.toNat, none⟩ (.int .u8 u)).heap.size) := Lib.hid (Nat.le_trans HBs.out HF.out.size)
  clear cm fm HBs
  generalize w.setCell _ _ = w1 at *
  go_wp2_with (at_builtin; refine Pk.wpList_pokes _ rfl (.tmp 16) (.tmp 20) 26 rfl B 57 iz Tryd.underlying26 hz hz0 hz1 hz2 _ l _ rfl rfl (HM.out.row.fr ((Fr.refl [] w1).alloc _) (by simp)) _ 1 (i, u) rfl (Pk.poke_laid w1 (i, u) 57 _ rfl) HLn.out (by have := HB1.out; simp; omega) ?_)
  intro A' cap' w2 hP hf hl
  have hf' := ((Fr.refl (Value.slice A l.length cap).ownBlock.toList w1).alloc (.cells #[.int .u16 i, .int .u8 u] 57)).tr hf
  have hl' : Lies w1 (.slice A l.length cap) (.slice A' (l.length + 1) cap') := by
    rcases hl with h | ⟨k, hk, hle⟩
    · exact .inl h
    · exact .inr ⟨k, hk, by simp at hle; omega⟩
  have hng := HM.out.nef
  have hnq := HM.out.nep
  have hn0 : 0 ∉ (Value.slice A l.length cap).ownBlock.toList := fun hk => HM.out.nopf (by simp only [pfoot, List.mem_cons]; exact .inr (.inr hk))
  have hgl := HM.out.flat.lt
  have hql := HM.out.cpu.lt
  have hw := HF.out.size
  have hcpu := HM.out.cpu.fr hf' (by simpa using hnq)
  have hflat := HM.out.flat.fr hf' (by simpa using hng)
  have htab := HM.out.tab.fr hf' hn0
  have hng2 : (Value.slice A' (l.length + 1) cap').ownBlock ≠ some g := hl'.other hng (by omega)
  have HE : Hid (PDone w B q g (.slice A l.length cap) ⟨a, x, y, s, p, pc, h, ⟨upd m i u, l ++ [(i, u)]⟩⟩ (.tuple #[]) (.returned (.tuple #[])) (w2.setCell ⟨g, 65536, none⟩ (.slice A' (l.length + 1) cap'))) := Lib.hid ⟨rfl, _, ⟨hcpu.fr ((Fr.refl [g] w2).setCell (by simp) _) (by have := HM.out.pf; simpa using this), flat_w hflat, hP.fr ((Fr.refl [g] w2).setCell (by simp) _) (by intro k hk e; simp at e; subst e; exact hng2 hk), htab.fr ((Fr.refl [g] w2).setCell (by simp) _) HM.out.nof, HM.out.pos⟩, by
    refine Fr.setCell ?_ (by simp [pfoot]) _
    exact ((HF.out.sub (T := pfoot q g (.slice A l.length cap)) (by intro k hk; left; simp at hk; subst hk; simp [pfoot])).trans hf' (by intro k hk; left; simp [pfoot]; right; right; simpa using hk)), by
    rcases hl' with h | ⟨k, hk, hle⟩
    · exact .inl h
    · exact .inr ⟨k, hk, Nat.le_trans HF.out.size hle⟩⟩
  have hcw2 := hflat.cell 65536 (by omega)
  have hfw2 := hflat.frozen 65536
  rw [show flatOf _ _ 65536 = Value.slice A l.length cap from rfl] at hcw2
  clear hP hf hl hf' hl' hng hnq hn0 hgl hql hw hcpu hflat htab hng2 hcw HB1 HM HF
  go_wp2
  (first | go_end0 | refine bodyPost_ret (results_none rfl _ _ _) rfl ?_)
  exact HE.out
theorem swrite_any {w : World} {B t q g : Nat} {v : Value} {S : S14} {R : Rg} (H : StAt w B t q g v S R) (n : Nat) (i u : Int) (hi : u16 i) (hu : byte u) (hO : Ok n S) (hn : n < 1000000000) (hB : B ≤ w.heap.size) :
    Calls Tryd.prog 115 #[.pointer (some ⟨g, 0, none⟩), .int .u16 i, .int .u8 u] w (SDone w B t q g v (withB S (Io.wb S.b i u)) R (.tuple #[])) :=
  (pwrite_any w B q g v S i u n H.prog hi hu hO hn hB).mono fun e w' h => sdone_of H h

end Ms
end Go.Proofs.YtlnpadekgakghaaDoor
