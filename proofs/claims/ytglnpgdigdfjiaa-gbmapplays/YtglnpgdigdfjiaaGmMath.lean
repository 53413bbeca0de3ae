/-
  The mappers' state and what it tells, in plain whole numbers: of no program. No condition.
-/
namespace Go.Proofs.Ytglnpgdigdfjiaa
namespace Gm

/-- The kind, what is enabled, the registers, how many banks, how many bytes of RAM. -/
structure St where
  kd : Int
  en : Bool
  low : Int
  high : Int
  mode : Int
  banks : Int
  size : Int

def byte (x : Int) : Prop := 0 ≤ x ∧ x < 256

structure Ok (S : St) : Prop where
  kd : S.kd = 0 ∨ S.kd = 1 ∨ S.kd = 3 ∨ S.kd = 5
  low : 0 ≤ S.low ∧ S.low < 512
  high : byte S.high
  mode : S.mode = 0 ∨ S.mode = 1
  banks : 2 ≤ S.banks ∧ S.banks ≤ 1000000
  size : 0 ≤ S.size ∧ S.size ≤ 1000000000

/-- 1 in the place of 0. -/
def least (x : Int) : Int := if x = 0 then 1 else x

/-- What a write makes of the state. -/
def wr (S : St) (a v : Int) : St :=
  if S.kd = 0 ∨ 32768 ≤ a then S
  else if a < 8192 then { S with en := v % 16 == 10 }
  else if a < 16384 then
    if S.kd = 1 then { S with low := least (v % 32) }
    else if S.kd = 3 then { S with low := least (v % 128) }
    else if a < 12288 then { S with low := S.low / 256 * 256 + v }
    else { S with low := S.low % 256 + v % 2 * 256 }
  else if a < 24576 then { S with high := if S.kd = 1 then v % 4 else if S.kd = 5 then v % 16 else v }
  else if S.kd = 1 then { S with mode := v % 2 } else S

/-- The bank that is told, not counted round. -/
def raw (S : St) (a : Int) : Int :=
  if a < 16384 then (if S.kd = 1 ∧ S.mode = 1 then 32 * S.high else 0)
  else if S.kd = 0 then 1 else if S.kd = 1 then 32 * S.high + S.low else S.low
def bankOf (S : St) (a : Int) : Int := if 32768 ≤ a then -1 else raw S a % S.banks
def romOf (S : St) (a : Int) : Int := if 32768 ≤ a then -1 else bankOf S a * 16384 + a % 16384
/-- RAM's bank, where one stands. -/
def rbank (S : St) : Int := if S.kd = 0 ∨ (S.kd = 1 ∧ S.mode = 0) then 0 else S.high
def ramOf (S : St) (a : Int) : Int :=
  if a < 40960 ∨ 49152 ≤ a ∨ S.en = false ∨ S.size = 0 ∨ (S.kd = 3 ∧ 3 < S.high) then -1
  else (rbank S * 8192 + (a - 40960)) % S.size

/-- The state at first. -/
def new (kd banks size : Int) : St := ⟨kd, kd == 0, 1, 0, 0, banks, size⟩

theorem ok_new (kd banks size : Int) (h : kd = 0 ∨ kd = 1 ∨ kd = 3 ∨ kd = 5) (hb : 2 ≤ banks) (hb' : banks ≤ 1000000) (hs : 0 ≤ size) (hs' : size ≤ 1000000000) : Ok (new kd banks size) :=
  ⟨h, ⟨by simp only [new]; omega, by simp only [new]; omega⟩, ⟨by simp only [new]; omega, by simp only [new]; omega⟩, .inl rfl, ⟨hb, hb'⟩, ⟨hs, hs'⟩⟩

theorem least_bd (x n : Int) (h0 : 0 ≤ x) (h1 : x < n) (hn : 1 < n) : 0 ≤ least x ∧ least x < n := by
  unfold least
  split <;> omega

theorem ok_wr (S : St) (a v : Int) (h : Ok S) (hv : byte v) : Ok (wr S a v) := by
  obtain ⟨h1, h2, h3, h4, h5, h6⟩ := h
  obtain ⟨hv0, hv1⟩ := hv
  have l1 := least_bd (v % 32) 32 (by omega) (by omega) (by omega)
  have l2 := least_bd (v % 128) 128 (by omega) (by omega) (by omega)
  unfold wr
  split
  · exact ⟨h1, h2, h3, h4, h5, h6⟩
  split
  · exact ⟨h1, h2, h3, h4, h5, h6⟩
  split
  · split
    · exact ⟨h1, ⟨l1.1, by simp only; omega⟩, h3, h4, h5, h6⟩
    split
    · exact ⟨h1, ⟨l2.1, by simp only; omega⟩, h3, h4, h5, h6⟩
    split
    · exact ⟨h1, ⟨by simp only; omega, by simp only; omega⟩, h3, h4, h5, h6⟩
    · exact ⟨h1, ⟨by simp only; omega, by simp only; omega⟩, h3, h4, h5, h6⟩
  split
  · refine ⟨h1, h2, ?_, h4, h5, h6⟩
    simp only [byte]
    split
    · omega
    split <;> omega
  split
  · exact ⟨h1, h2, h3, by simp only; omega, h5, h6⟩
  · exact ⟨h1, h2, h3, h4, h5, h6⟩

theorem wr_kd (S : St) (a v : Int) : (wr S a v).kd = S.kd ∧ (wr S a v).banks = S.banks ∧ (wr S a v).size = S.size := by
  unfold wr
  repeat' split
  all_goals exact ⟨rfl, rfl, rfl⟩

theorem raw_bd (S : St) (a : Int) (h : Ok S) : 0 ≤ raw S a ∧ raw S a < 100000 := by
  obtain ⟨h1, h2, ⟨h3, h3'⟩, h4, h5, h6⟩ := h
  unfold raw
  repeat' split
  all_goals omega
theorem rbank_bd (S : St) (h : Ok S) : 0 ≤ rbank S ∧ rbank S < 256 := by
  obtain ⟨h1, h2, ⟨h3, h3'⟩, h4, h5, h6⟩ := h
  unfold rbank
  split <;> omega
theorem bankOf_bd (S : St) (a : Int) (h : Ok S) (ha : a < 32768) : 0 ≤ bankOf S a ∧ bankOf S a < S.banks := by
  have h5 := h.banks
  unfold bankOf
  rw [if_neg (by omega)]
  exact ⟨Int.emod_nonneg _ (by omega), Int.emod_lt_of_pos _ (by omega)⟩

end Gm
end Go.Proofs.Ytglnpgdigdfjiaa
