/-
  The program's own way through an instruction, in whole numbers, over any bus: the words of its table, the operand by its mode, what is done; it is the account's way, row by row. No condition.
-/
import Derived.Test.YtlnpadekgakghaaDoorMosOk
namespace Go.Proofs.YtlnpadekgakghaaDoor
open Go.RowKit
namespace Ms
open Al (byte)
set_option linter.unusedVariables false
set_option linter.unusedSimpArgs false

/-- The table's words: opcode, what it does, mode, cycles. -/
def words : List Nat := [14087, 65702, 327731, 397109, 537347, 589858, 659218, 852068, 921446, 1056706, 1114293, 1376324, 1445702, 1582850, 1638532, 1900660, 1970039, 2109542, 2163110, 2361395, 2425139, 2494517, 2635012, 2687266, 2756626, 2885732, 2949476, 3018854, 3154114, 3211701, 3473732, 3543110, 3681026, 3735940, 3998068, 4067447, 4208134, 4260518, 4522547, 4591925, 4731395, 4784674, 4854034, 4992867, 5046884, 5116262, 5251522, 5309109, 5571140, 5640518, 5777410, 5833348, 6095476, 6164855, 6304006, 6357926, 6619955, 6689333, 6829060, 6882082, 6951442, 7090069, 7144292, 7213670, 7348930, 7406517, 7668548, 7737926, 7875586, 7930756, 8192884, 8262263, 8457382, 8654387, 8719411, 8785203, 8918530, 9050882, 9178724, 9243748, 9309540, 9446338, 9505974, 9702980, 9768004, 9833812, 9968642, 10030213, 10100226, 10292341, 10488610, 10553766, 10619426, 10750771, 10815795, 10881587, 11016706, 11077922, 11147522, 11275108, 11340132, 11405924, 11543746, 11602357, 11799364, 11864388, 11930196, 12069122, 12126596, 12197122, 12323700, 12388724, 12454532, 12584738, 12649894, 12846899, 12911923, 12981045, 13113346, 13174050, 13243650, 13371236, 13436260, 13505382, 13641154, 13698485, 13960516, 14029638, 14166530, 14222724, 14484852, 14553975, 14681634, 14746790, 14943795, 15008819, 15078453, 15210242, 15270946, 15347202, 15468132, 15533156, 15602790, 15738562, 15795381, 16057412, 16127046, 16264450, 16319620, 16581748, 16651383]
def wd (r : Nat) : Nat := words.getD r 0
def keyN (r : Nat) : Nat := wd r / 65536
def doesN (r : Nat) : Nat := wd r / 256 % 256 * 256
def modeN (r : Nat) : Nat := wd r / 16 % 16 * 16
def cycN (r : Nat) : Nat := wd r % 16
/-- Where an opcode stands, or would stand. -/
def Found (op r : Nat) : Prop := r ≤ 151 ∧ (r = 0 ∨ keyN (r - 1) < op) ∧ (r = 151 ∨ op ≤ keyN r)

section
variable {β : Type} [Io β]
open Io
def withA (S : St β) (u : Int) : St β := ⟨u, S.x, S.y, S.s, S.p, S.pc, S.h, S.b⟩
def withX (S : St β) (u : Int) : St β := ⟨S.a, u, S.y, S.s, S.p, S.pc, S.h, S.b⟩
def withY (S : St β) (u : Int) : St β := ⟨S.a, S.x, u, S.s, S.p, S.pc, S.h, S.b⟩
def withS (S : St β) (u : Int) : St β := ⟨S.a, S.x, S.y, u, S.p, S.pc, S.h, S.b⟩
def withB (S : St β) (b : β) : St β := ⟨S.a, S.x, S.y, S.s, S.p, S.pc, S.h, b⟩
/-- The second address of a word in a page. -/
def inPage (w : Int) : Int := w / 256 * 256 + (w + 1) % 256
def wipV (S : St β) (w : Int) : Int := pairV S.b w (inPage w)
def wip (S : St β) (w : Int) : St β := withB S (pairB S.b w (inPage w))
/-- The state behind the operand, the address, whether it is crossed. -/
def oS (m : Int) (S : St β) : St β :=
  if m = 0 ∨ m = 16 then S else if m = 32 then withPC S ((S.pc + 1) % 65536)
  else if m = 48 ∨ m = 64 ∨ m = 80 ∨ m = 192 then next S else if m = 96 ∨ m = 112 ∨ m = 128 then word S
  else if m = 144 then wip (word S) (wordV S) else if m = 160 then wip (next S) ((nextV S + S.x) % 256) else wip (next S) (nextV S)
def oAt (m : Int) (S : St β) : Int :=
  if m = 0 ∨ m = 16 then 0 else if m = 32 then S.pc
  else if m = 48 then nextV S else if m = 64 then (nextV S + S.x) % 256 else if m = 80 then (nextV S + S.y) % 256
  else if m = 96 then wordV S else if m = 112 then (wordV S + S.x) % 65536 else if m = 128 then (wordV S + S.y) % 65536
  else if m = 144 then wipV (word S) (wordV S) else if m = 160 then wipV (next S) ((nextV S + S.x) % 256)
  else if m = 176 then (wipV (next S) (nextV S) + S.y) % 65536 else goTo S
def crossed (at' from' : Int) : Bool := at' / 256 != from' / 256
def oCr (m : Int) (S : St β) : Bool :=
  if m = 112 then crossed ((wordV S + S.x) % 65536) (wordV S) else if m = 128 then crossed ((wordV S + S.y) % 65536) (wordV S)
  else if m = 176 then crossed ((wipV (next S) (nextV S) + S.y) % 65536) (wipV (next S) (nextV S)) else if m = 192 then crossed (goTo S) ((S.pc + 1) % 65536) else false
/-- May an instruction wait, if the address is crossed? -/
def waitB (d : Int) : Bool := decide (d = 0 ∨ d = 256 ∨ d = 512 ∨ d = 768 ∨ d = 2304 ∨ d = 1280 ∨ d = 1024 ∨ d = 2560 ∨ d = 2816)
def oN (d m : Int) (S : St β) : Int := if oCr m S && waitB d then 1 else 0

/-- A register of it and of M, or of M alone. -/
def takeS (d : Int) (S : St β) (v : Int) : St β :=
  if d = 0 then withA (withP S (zn S.p (Go.bits .or .u8 S.a v))) (Go.bits .or .u8 S.a v)
  else if d = 256 then withA (withP S (zn S.p (Go.bits .and .u8 S.a v))) (Go.bits .and .u8 S.a v)
  else if d = 512 then withA (withP S (zn S.p (Go.bits .xor .u8 S.a v))) (Go.bits .xor .u8 S.a v)
  else if d = 768 then withA (withP S (setF (setF (zn S.p (Al.addR S.a v (on S.p 1))) 1 (Al.addC S.a v (on S.p 1))) 64 (Al.addO S.a v (on S.p 1)))) (Al.addR S.a v (on S.p 1))
  else if d = 1024 then withA (withP S (setF (setF (zn S.p (Al.subR S.a v (on S.p 1))) 1 (Al.subC S.a v (on S.p 1))) 64 (Al.subO S.a v (on S.p 1)))) (Al.subR S.a v (on S.p 1))
  else if d = 2304 then withA (withP S (zn S.p v)) v
  else if d = 2560 then withX (withP S (zn S.p v)) v
  else withY (withP S (zn S.p v)) v
def testS (d : Int) (S : St β) (v : Int) : St β :=
  if d = 1280 then withP S (cmpP S.p S.a v) else if d = 1536 then withP S (cmpP S.p S.x v) else if d = 1792 then withP S (cmpP S.p S.y v) else withP S (bitP S.p S.a v)
def chgV (d p v : Int) : Int :=
  if d = 3840 then Al.leftR v false else if d = 4096 then Al.leftR v (on p 1) else if d = 4352 then Al.rightR v false else if d = 4608 then Al.rightR v (on p 1)
  else if d = 4864 then (v - 1) % 256 else (v + 1) % 256
def chgP (d p v : Int) : Int :=
  if d = 3840 ∨ d = 4096 then zn (setF p 1 (Al.leftC v)) (chgV d p v) else if d = 4352 ∨ d = 4608 then zn (setF p 1 (Al.rightC v)) (chgV d p v) else zn p (chgV d p v)
def changeS (d m at' : Int) (S : St β) : St β :=
  if m = 16 then withA (withP S (chgP d S.p S.a)) (chgV d S.p S.a)
  else withB (withP (withB S (rb S.b at')) (chgP d S.p (rv S.b at'))) (wb (rb S.b at') at' (chgV d S.p (rv S.b at')))
def regS (d : Int) (S : St β) : St β :=
  if d = 5376 then withX (withP S (zn S.p ((S.x - 1) % 256))) ((S.x - 1) % 256) else if d = 5632 then withY (withP S (zn S.p ((S.y - 1) % 256))) ((S.y - 1) % 256)
  else if d = 5888 then withX (withP S (zn S.p ((S.x + 1) % 256))) ((S.x + 1) % 256) else if d = 6144 then withY (withP S (zn S.p ((S.y + 1) % 256))) ((S.y + 1) % 256)
  else if d = 6400 then withX (withP S (zn S.p S.a)) S.a else if d = 6656 then withY (withP S (zn S.p S.a)) S.a
  else if d = 6912 then withA (withP S (zn S.p S.x)) S.x else if d = 7168 then withA (withP S (zn S.p S.y)) S.y
  else if d = 7424 then withX (withP S (zn S.p S.s)) S.s else withS S S.x
def takenB (d p : Int) : Bool :=
  if d = 7936 then !on p 128 else if d = 8192 then on p 128 else if d = 8448 then !on p 64 else if d = 8704 then on p 64
  else if d = 8960 then !on p 1 else if d = 9216 then on p 1 else if d = 9472 then !on p 2 else on p 2
def branchS (d at' : Int) (S : St β) : St β := if takenB d S.p then withPC S at' else S
def branchX (d : Int) (cr : Bool) (S : St β) : Int := if takenB d S.p then (if cr then 2 else 1) else 0
def flagS (d : Int) (S : St β) : St β :=
  withP S (if d = 9984 then setF S.p 1 false else if d = 10240 then setF S.p 4 false else if d = 10496 then setF S.p 64 false else if d = 10752 then setF S.p 8 false
    else if d = 11008 then setF S.p 1 true else if d = 11264 then setF S.p 4 true else setF S.p 8 true)
def pushP (S : St β) (wth : Int) : St β := push S (S.p + wth)
def pullP (S : St β) : St β := withP (pull S) (noBU (pullV S))
def stackS (d : Int) (S : St β) : St β :=
  if d = 12800 then push S S.a else if d = 13056 then pushP S 48 else if d = 13312 then withA (withP (pull S) (zn S.p (pullV S))) (pullV S) else pullP S
def intS (S : St β) (back wth vec : Int) : St β := vector (withP (pushP (pushW S back) wth) (setF S.p 4 true)) vec ((vec + 1) % 65536)
def jumpS (d at' : Int) (S : St β) : St β :=
  if d = 12032 then withPC S at' else if d = 12288 then withPC (pushW S ((S.pc - 1) % 65536)) at'
  else if d = 12544 then withPC (pullW S) ((pullWV S + 1) % 65536) else if d = 13824 then withPC (pullW (pullP S)) (pullWV (pullP S))
  else if d = 14080 then intS S ((S.pc + 1) % 65536) 48 65534 else S
/-- What is done. -/
def exS (d m at' : Int) (S : St β) : St β :=
  if d = 0 ∨ d = 256 ∨ d = 512 ∨ d = 768 ∨ d = 1024 ∨ d = 2304 ∨ d = 2560 ∨ d = 2816 then takeS d (withB S (rb S.b at')) (rv S.b at')
  else if d = 1280 ∨ d = 1536 ∨ d = 1792 ∨ d = 2048 then testS d (withB S (rb S.b at')) (rv S.b at')
  else if d = 3072 then withB S (wb S.b at' S.a) else if d = 3328 then withB S (wb S.b at' S.x) else if d = 3584 then withB S (wb S.b at' S.y)
  else if d = 3840 ∨ d = 4096 ∨ d = 4352 ∨ d = 4608 ∨ d = 4864 ∨ d = 5120 then changeS d m at' S
  else if d = 5376 ∨ d = 5632 ∨ d = 5888 ∨ d = 6144 ∨ d = 6400 ∨ d = 6656 ∨ d = 6912 ∨ d = 7168 ∨ d = 7424 ∨ d = 7680 then regS d S
  else if d = 7936 ∨ d = 8192 ∨ d = 8448 ∨ d = 8704 ∨ d = 8960 ∨ d = 9216 ∨ d = 9472 ∨ d = 9728 then branchS d at' S
  else if d = 9984 ∨ d = 10240 ∨ d = 10496 ∨ d = 10752 ∨ d = 11008 ∨ d = 11264 ∨ d = 11520 then flagS d S
  else if d = 12800 ∨ d = 13056 ∨ d = 13312 ∨ d = 13568 then stackS d S
  else jumpS d at' S
def exN (d : Int) (cr : Bool) (S : St β) : Int := if d = 7936 ∨ d = 8192 ∨ d = 8448 ∨ d = 8704 ∨ d = 8960 ∨ d = 9216 ∨ d = 9472 ∨ d = 9728 then branchX d cr S else 0

set_option maxRecDepth 100000 in
theorem zn_all (k : Int) (x z g : Bool) (h : k = 1 ∨ k = 64) : ∀ p, byte p → setF (setF (setF p 2 z) 128 g) k x = setF (setF (setF p k x) 2 z) 128 g := by
  rcases h with rfl | rfl <;> cases x <;> cases z <;> cases g <;> exact Al.of_byte _ (by decide +kernel)
theorem zn_setF (p v k : Int) (x : Bool) (h : k = 1 ∨ k = 64) (hp : byte p) : setF (zn p v) k x = zn (setF p k x) v := zn_all k x _ _ h p hp
theorem setF_on (p : Int) : setF p 1 (on p 1) = p := by
  unfold setF on
  by_cases h : p / 1 % 2 = 1
  · rw [if_pos h, show (p / 1 % 2 == 1) = true by simpa using h, if_pos rfl]; omega
  · rw [if_neg h, show (p / 1 % 2 == 1) = false by simpa using h, if_neg (by decide)]; omega

theorem inPage_byte (w : Int) (h : byte w) : inPage w = (w + 1) % 256 := by
  obtain ⟨h0, h1⟩ := h
  unfold inPage
  omega
theorem adc_eq {β : Type} (T : St β) (v : Int) (h : fl T.p) : takeS 768 T v = withA (withP T (addP T.p T.a v)) (Al.addR T.a v (on T.p 1)) := by
  unfold addP
  rw [← zn_setF _ _ 64 _ (.inr rfl) (fl_b (fl_setF _ _ _ isF1 h)), ← zn_setF _ _ 1 _ (.inl rfl) h.1]
  rfl
theorem sbc_eq {β : Type} (T : St β) (v : Int) (h : fl T.p) : takeS 1024 T v = withA (withP T (subP T.p T.a v)) (Al.subR T.a v (on T.p 1)) := by
  unfold subP
  rw [← zn_setF _ _ 64 _ (.inr rfl) (fl_b (fl_setF _ _ _ isF1 h)), ← zn_setF _ _ 1 _ (.inl rfl) h.1]
  rfl
def RowOk (β : Type) [Io β] (op d m n : Int) : Prop := ∀ (S : St β) (k : Nat), Ok k S → exS d m (oAt m S) (oS m S) = done op S ∧ n + oN d m S + exN d (oCr m S) (oS m S) = doneN op S
theorem row00 : RowOk β 0 14080 0 7 := fun S k hO => by
    refine ⟨by rfl, by first | rfl | (simp [oN, exN, waitB, oCr, doneN, main, mainN, secondN, thirdN, loadsN, adr, added, cr1, crossed])⟩
theorem row01 : RowOk β 1 0 160 6 := fun S k hO => by
    have hi := inPage_byte ((nextV S + S.x) % 256) (mod_byte _)
    have eA : oAt 160 S = pairV (next S).b ((nextV S + S.x) % 256) ((((nextV S + S.x) % 256) + 1) % 256) := by show pairV (next S).b ((nextV S + S.x) % 256) (inPage ((nextV S + S.x) % 256)) = _; rw [hi]
    have eS : oS 160 S = withB (next S) (pairB (next S).b ((nextV S + S.x) % 256) ((((nextV S + S.x) % 256) + 1) % 256)) := by show withB (next S) (pairB (next S).b ((nextV S + S.x) % 256) (inPage ((nextV S + S.x) % 256))) = _; rw [hi]
    refine ⟨by rw [eA, eS]; rfl, by first | rfl | (simp [oN, exN, waitB, oCr, doneN, main, mainN, secondN, thirdN, loadsN, adr, added, cr1, crossed])⟩
theorem row05 : RowOk β 5 0 48 3 := fun S k hO => by
    refine ⟨by rfl, by first | rfl | (simp [oN, exN, waitB, oCr, doneN, main, mainN, secondN, thirdN, loadsN, adr, added, cr1, crossed])⟩
theorem row06 : RowOk β 6 3840 48 5 := fun S k hO => by
    refine ⟨by rfl, by first | rfl | (simp [oN, exN, waitB, oCr, doneN, main, mainN, secondN, thirdN, loadsN, adr, added, cr1, crossed])⟩
theorem row08 : RowOk β 8 13056 0 3 := fun S k hO => by
    refine ⟨by rfl, by first | rfl | (simp [oN, exN, waitB, oCr, doneN, main, mainN, secondN, thirdN, loadsN, adr, added, cr1, crossed])⟩
theorem row09 : RowOk β 9 0 32 2 := fun S k hO => by
    refine ⟨by rfl, by first | rfl | (simp [oN, exN, waitB, oCr, doneN, main, mainN, secondN, thirdN, loadsN, adr, added, cr1, crossed])⟩
theorem row0A : RowOk β 10 3840 16 2 := fun S k hO => by
    refine ⟨by rfl, by first | rfl | (simp [oN, exN, waitB, oCr, doneN, main, mainN, secondN, thirdN, loadsN, adr, added, cr1, crossed])⟩
theorem row0D : RowOk β 13 0 96 4 := fun S k hO => by
    refine ⟨by rfl, by first | rfl | (simp [oN, exN, waitB, oCr, doneN, main, mainN, secondN, thirdN, loadsN, adr, added, cr1, crossed])⟩
theorem row0E : RowOk β 14 3840 96 6 := fun S k hO => by
    refine ⟨by rfl, by first | rfl | (simp [oN, exN, waitB, oCr, doneN, main, mainN, secondN, thirdN, loadsN, adr, added, cr1, crossed])⟩
theorem row10 : RowOk β 16 7936 192 2 := fun S k hO => by
    have e1 : exS 7936 192 (oAt 192 S) (oS 192 S) = if takenB 7936 S.p then withPC (next S) (goTo S) else next S := rfl
    have e2 : doneN 16 S = branchN 0 false S := rfl
    have e3 : done 16 S = branch 0 false S := rfl
    have e4 : exN 7936 (oCr 192 S) (oS 192 S) = if takenB 7936 S.p then (if crossed (goTo S) ((S.pc + 1) % 65536) then 2 else 1) else 0 := rfl
    have e5 : oN 7936 192 S = 0 := by simp [oN, waitB]
    have e6 : takenB 7936 S.p = decide (on S.p (flagOf 0) = false) := by simp [takenB, flagOf]
    rw [e1, e2, e3, e4, e5]
    unfold branch branchN
    by_cases h : on S.p (flagOf 0) = false
    · rw [e6, decide_eq_true h, if_pos (show true = true from rfl), if_pos (show true = true from rfl), if_pos h, if_pos h]
      refine ⟨rfl, ?_⟩
      by_cases g : goTo S / 256 = (S.pc + 1) % 65536 / 256
      · simp [crossed, g]
      · simp [crossed, g]
    · rw [e6, decide_eq_false h, if_neg (show ¬ (false = true) by decide), if_neg (show ¬ (false = true) by decide), if_neg h, if_neg h]
      exact ⟨rfl, rfl⟩
theorem row11 : RowOk β 17 0 176 5 := fun S k hO => by
    have hi := inPage_byte (nextV S) (nextV_byte hO)
    have eA : oAt 176 S = (pairV (next S).b (nextV S) ((nextV S + 1) % 256) + S.y) % 65536 := by show (pairV (next S).b (nextV S) (inPage (nextV S)) + S.y) % 65536 = _; rw [hi]
    have eS : oS 176 S = withB (next S) (pairB (next S).b (nextV S) ((nextV S + 1) % 256)) := by show withB (next S) (pairB (next S).b (nextV S) (inPage (nextV S))) = _; rw [hi]
    have eC : oCr 176 S = crossed ((pairV (next S).b (nextV S) ((nextV S + 1) % 256) + S.y) % 65536) (pairV (next S).b (nextV S) ((nextV S + 1) % 256)) := by show crossed ((pairV (next S).b (nextV S) (inPage (nextV S)) + S.y) % 65536) (pairV (next S).b (nextV S) (inPage (nextV S))) = _; rw [hi]
    refine ⟨by rw [eA, eS]; rfl, by first | rfl | (unfold oN; rw [eC]; simp [oN, exN, waitB, oCr, doneN, main, mainN, secondN, thirdN, loadsN, adr, added, cr1, crossed])⟩
theorem row15 : RowOk β 21 0 64 4 := fun S k hO => by
    refine ⟨by rfl, by first | rfl | (simp [oN, exN, waitB, oCr, doneN, main, mainN, secondN, thirdN, loadsN, adr, added, cr1, crossed])⟩
theorem row16 : RowOk β 22 3840 64 6 := fun S k hO => by
    refine ⟨by rfl, by first | rfl | (simp [oN, exN, waitB, oCr, doneN, main, mainN, secondN, thirdN, loadsN, adr, added, cr1, crossed])⟩
theorem row18 : RowOk β 24 9984 0 2 := fun S k hO => by
    refine ⟨by rfl, by first | rfl | (simp [oN, exN, waitB, oCr, doneN, main, mainN, secondN, thirdN, loadsN, adr, added, cr1, crossed])⟩
theorem row19 : RowOk β 25 0 128 4 := fun S k hO => by
    refine ⟨by rfl, by first | rfl | (simp [oN, exN, waitB, oCr, doneN, main, mainN, secondN, thirdN, loadsN, adr, added, cr1, crossed])⟩
theorem row1D : RowOk β 29 0 112 4 := fun S k hO => by
    refine ⟨by rfl, by first | rfl | (simp [oN, exN, waitB, oCr, doneN, main, mainN, secondN, thirdN, loadsN, adr, added, cr1, crossed])⟩
theorem row1E : RowOk β 30 3840 112 7 := fun S k hO => by
    refine ⟨by rfl, by first | rfl | (simp [oN, exN, waitB, oCr, doneN, main, mainN, secondN, thirdN, loadsN, adr, added, cr1, crossed])⟩
theorem row20 : RowOk β 32 12288 96 6 := fun S k hO => by
    refine ⟨by rfl, by first | rfl | (simp [oN, exN, waitB, oCr, doneN, main, mainN, secondN, thirdN, loadsN, adr, added, cr1, crossed])⟩
theorem row21 : RowOk β 33 256 160 6 := fun S k hO => by
    have hi := inPage_byte ((nextV S + S.x) % 256) (mod_byte _)
    have eA : oAt 160 S = pairV (next S).b ((nextV S + S.x) % 256) ((((nextV S + S.x) % 256) + 1) % 256) := by show pairV (next S).b ((nextV S + S.x) % 256) (inPage ((nextV S + S.x) % 256)) = _; rw [hi]
    have eS : oS 160 S = withB (next S) (pairB (next S).b ((nextV S + S.x) % 256) ((((nextV S + S.x) % 256) + 1) % 256)) := by show withB (next S) (pairB (next S).b ((nextV S + S.x) % 256) (inPage ((nextV S + S.x) % 256))) = _; rw [hi]
    refine ⟨by rw [eA, eS]; rfl, by first | rfl | (simp [oN, exN, waitB, oCr, doneN, main, mainN, secondN, thirdN, loadsN, adr, added, cr1, crossed])⟩
theorem row24 : RowOk β 36 2048 48 3 := fun S k hO => by
    refine ⟨by rfl, by first | rfl | (simp [oN, exN, waitB, oCr, doneN, main, mainN, secondN, thirdN, loadsN, adr, added, cr1, crossed])⟩
theorem row25 : RowOk β 37 256 48 3 := fun S k hO => by
    refine ⟨by rfl, by first | rfl | (simp [oN, exN, waitB, oCr, doneN, main, mainN, secondN, thirdN, loadsN, adr, added, cr1, crossed])⟩
theorem row26 : RowOk β 38 4096 48 5 := fun S k hO => by
    refine ⟨by rfl, by first | rfl | (simp [oN, exN, waitB, oCr, doneN, main, mainN, secondN, thirdN, loadsN, adr, added, cr1, crossed])⟩
theorem row28 : RowOk β 40 13568 0 4 := fun S k hO => by
    refine ⟨by rfl, by first | rfl | (simp [oN, exN, waitB, oCr, doneN, main, mainN, secondN, thirdN, loadsN, adr, added, cr1, crossed])⟩
theorem row29 : RowOk β 41 256 32 2 := fun S k hO => by
    refine ⟨by rfl, by first | rfl | (simp [oN, exN, waitB, oCr, doneN, main, mainN, secondN, thirdN, loadsN, adr, added, cr1, crossed])⟩
theorem row2A : RowOk β 42 4096 16 2 := fun S k hO => by
    refine ⟨by rfl, by first | rfl | (simp [oN, exN, waitB, oCr, doneN, main, mainN, secondN, thirdN, loadsN, adr, added, cr1, crossed])⟩
theorem row2C : RowOk β 44 2048 96 4 := fun S k hO => by
    refine ⟨by rfl, by first | rfl | (simp [oN, exN, waitB, oCr, doneN, main, mainN, secondN, thirdN, loadsN, adr, added, cr1, crossed])⟩
theorem row2D : RowOk β 45 256 96 4 := fun S k hO => by
    refine ⟨by rfl, by first | rfl | (simp [oN, exN, waitB, oCr, doneN, main, mainN, secondN, thirdN, loadsN, adr, added, cr1, crossed])⟩
theorem row2E : RowOk β 46 4096 96 6 := fun S k hO => by
    refine ⟨by rfl, by first | rfl | (simp [oN, exN, waitB, oCr, doneN, main, mainN, secondN, thirdN, loadsN, adr, added, cr1, crossed])⟩
theorem row30 : RowOk β 48 8192 192 2 := fun S k hO => by
    have e1 : exS 8192 192 (oAt 192 S) (oS 192 S) = if takenB 8192 S.p then withPC (next S) (goTo S) else next S := rfl
    have e2 : doneN 48 S = branchN 0 true S := rfl
    have e3 : done 48 S = branch 0 true S := rfl
    have e4 : exN 8192 (oCr 192 S) (oS 192 S) = if takenB 8192 S.p then (if crossed (goTo S) ((S.pc + 1) % 65536) then 2 else 1) else 0 := rfl
    have e5 : oN 8192 192 S = 0 := by simp [oN, waitB]
    have e6 : takenB 8192 S.p = decide (on S.p (flagOf 0) = true) := by simp [takenB, flagOf]
    rw [e1, e2, e3, e4, e5]
    unfold branch branchN
    by_cases h : on S.p (flagOf 0) = true
    · rw [e6, decide_eq_true h, if_pos (show true = true from rfl), if_pos (show true = true from rfl), if_pos h, if_pos h]
      refine ⟨rfl, ?_⟩
      by_cases g : goTo S / 256 = (S.pc + 1) % 65536 / 256
      · simp [crossed, g]
      · simp [crossed, g]
    · rw [e6, decide_eq_false h, if_neg (show ¬ (false = true) by decide), if_neg (show ¬ (false = true) by decide), if_neg h, if_neg h]
      exact ⟨rfl, rfl⟩
theorem row31 : RowOk β 49 256 176 5 := fun S k hO => by
    have hi := inPage_byte (nextV S) (nextV_byte hO)
    have eA : oAt 176 S = (pairV (next S).b (nextV S) ((nextV S + 1) % 256) + S.y) % 65536 := by show (pairV (next S).b (nextV S) (inPage (nextV S)) + S.y) % 65536 = _; rw [hi]
    have eS : oS 176 S = withB (next S) (pairB (next S).b (nextV S) ((nextV S + 1) % 256)) := by show withB (next S) (pairB (next S).b (nextV S) (inPage (nextV S))) = _; rw [hi]
    have eC : oCr 176 S = crossed ((pairV (next S).b (nextV S) ((nextV S + 1) % 256) + S.y) % 65536) (pairV (next S).b (nextV S) ((nextV S + 1) % 256)) := by show crossed ((pairV (next S).b (nextV S) (inPage (nextV S)) + S.y) % 65536) (pairV (next S).b (nextV S) (inPage (nextV S))) = _; rw [hi]
    refine ⟨by rw [eA, eS]; rfl, by first | rfl | (unfold oN; rw [eC]; simp [oN, exN, waitB, oCr, doneN, main, mainN, secondN, thirdN, loadsN, adr, added, cr1, crossed])⟩
theorem row35 : RowOk β 53 256 64 4 := fun S k hO => by
    refine ⟨by rfl, by first | rfl | (simp [oN, exN, waitB, oCr, doneN, main, mainN, secondN, thirdN, loadsN, adr, added, cr1, crossed])⟩
theorem row36 : RowOk β 54 4096 64 6 := fun S k hO => by
    refine ⟨by rfl, by first | rfl | (simp [oN, exN, waitB, oCr, doneN, main, mainN, secondN, thirdN, loadsN, adr, added, cr1, crossed])⟩
theorem row38 : RowOk β 56 11008 0 2 := fun S k hO => by
    refine ⟨by rfl, by first | rfl | (simp [oN, exN, waitB, oCr, doneN, main, mainN, secondN, thirdN, loadsN, adr, added, cr1, crossed])⟩
theorem row39 : RowOk β 57 256 128 4 := fun S k hO => by
    refine ⟨by rfl, by first | rfl | (simp [oN, exN, waitB, oCr, doneN, main, mainN, secondN, thirdN, loadsN, adr, added, cr1, crossed])⟩
theorem row3D : RowOk β 61 256 112 4 := fun S k hO => by
    refine ⟨by rfl, by first | rfl | (simp [oN, exN, waitB, oCr, doneN, main, mainN, secondN, thirdN, loadsN, adr, added, cr1, crossed])⟩
theorem row3E : RowOk β 62 4096 112 7 := fun S k hO => by
    refine ⟨by rfl, by first | rfl | (simp [oN, exN, waitB, oCr, doneN, main, mainN, secondN, thirdN, loadsN, adr, added, cr1, crossed])⟩
theorem row40 : RowOk β 64 13824 0 6 := fun S k hO => by
    refine ⟨by rfl, by first | rfl | (simp [oN, exN, waitB, oCr, doneN, main, mainN, secondN, thirdN, loadsN, adr, added, cr1, crossed])⟩
theorem row41 : RowOk β 65 512 160 6 := fun S k hO => by
    have hi := inPage_byte ((nextV S + S.x) % 256) (mod_byte _)
    have eA : oAt 160 S = pairV (next S).b ((nextV S + S.x) % 256) ((((nextV S + S.x) % 256) + 1) % 256) := by show pairV (next S).b ((nextV S + S.x) % 256) (inPage ((nextV S + S.x) % 256)) = _; rw [hi]
    have eS : oS 160 S = withB (next S) (pairB (next S).b ((nextV S + S.x) % 256) ((((nextV S + S.x) % 256) + 1) % 256)) := by show withB (next S) (pairB (next S).b ((nextV S + S.x) % 256) (inPage ((nextV S + S.x) % 256))) = _; rw [hi]
    refine ⟨by rw [eA, eS]; rfl, by first | rfl | (simp [oN, exN, waitB, oCr, doneN, main, mainN, secondN, thirdN, loadsN, adr, added, cr1, crossed])⟩
theorem row45 : RowOk β 69 512 48 3 := fun S k hO => by
    refine ⟨by rfl, by first | rfl | (simp [oN, exN, waitB, oCr, doneN, main, mainN, secondN, thirdN, loadsN, adr, added, cr1, crossed])⟩
theorem row46 : RowOk β 70 4352 48 5 := fun S k hO => by
    refine ⟨by rfl, by first | rfl | (simp [oN, exN, waitB, oCr, doneN, main, mainN, secondN, thirdN, loadsN, adr, added, cr1, crossed])⟩
theorem row48 : RowOk β 72 12800 0 3 := fun S k hO => by
    refine ⟨by rfl, by first | rfl | (simp [oN, exN, waitB, oCr, doneN, main, mainN, secondN, thirdN, loadsN, adr, added, cr1, crossed])⟩
theorem row49 : RowOk β 73 512 32 2 := fun S k hO => by
    refine ⟨by rfl, by first | rfl | (simp [oN, exN, waitB, oCr, doneN, main, mainN, secondN, thirdN, loadsN, adr, added, cr1, crossed])⟩
theorem row4A : RowOk β 74 4352 16 2 := fun S k hO => by
    refine ⟨by rfl, by first | rfl | (simp [oN, exN, waitB, oCr, doneN, main, mainN, secondN, thirdN, loadsN, adr, added, cr1, crossed])⟩
theorem row4C : RowOk β 76 12032 96 3 := fun S k hO => by
    refine ⟨by rfl, by first | rfl | (simp [oN, exN, waitB, oCr, doneN, main, mainN, secondN, thirdN, loadsN, adr, added, cr1, crossed])⟩
theorem row4D : RowOk β 77 512 96 4 := fun S k hO => by
    refine ⟨by rfl, by first | rfl | (simp [oN, exN, waitB, oCr, doneN, main, mainN, secondN, thirdN, loadsN, adr, added, cr1, crossed])⟩
theorem row4E : RowOk β 78 4352 96 6 := fun S k hO => by
    refine ⟨by rfl, by first | rfl | (simp [oN, exN, waitB, oCr, doneN, main, mainN, secondN, thirdN, loadsN, adr, added, cr1, crossed])⟩
theorem row50 : RowOk β 80 8448 192 2 := fun S k hO => by
    have e1 : exS 8448 192 (oAt 192 S) (oS 192 S) = if takenB 8448 S.p then withPC (next S) (goTo S) else next S := rfl
    have e2 : doneN 80 S = branchN 1 false S := rfl
    have e3 : done 80 S = branch 1 false S := rfl
    have e4 : exN 8448 (oCr 192 S) (oS 192 S) = if takenB 8448 S.p then (if crossed (goTo S) ((S.pc + 1) % 65536) then 2 else 1) else 0 := rfl
    have e5 : oN 8448 192 S = 0 := by simp [oN, waitB]
    have e6 : takenB 8448 S.p = decide (on S.p (flagOf 1) = false) := by simp [takenB, flagOf]
    rw [e1, e2, e3, e4, e5]
    unfold branch branchN
    by_cases h : on S.p (flagOf 1) = false
    · rw [e6, decide_eq_true h, if_pos (show true = true from rfl), if_pos (show true = true from rfl), if_pos h, if_pos h]
      refine ⟨rfl, ?_⟩
      by_cases g : goTo S / 256 = (S.pc + 1) % 65536 / 256
      · simp [crossed, g]
      · simp [crossed, g]
    · rw [e6, decide_eq_false h, if_neg (show ¬ (false = true) by decide), if_neg (show ¬ (false = true) by decide), if_neg h, if_neg h]
      exact ⟨rfl, rfl⟩
theorem row51 : RowOk β 81 512 176 5 := fun S k hO => by
    have hi := inPage_byte (nextV S) (nextV_byte hO)
    have eA : oAt 176 S = (pairV (next S).b (nextV S) ((nextV S + 1) % 256) + S.y) % 65536 := by show (pairV (next S).b (nextV S) (inPage (nextV S)) + S.y) % 65536 = _; rw [hi]
    have eS : oS 176 S = withB (next S) (pairB (next S).b (nextV S) ((nextV S + 1) % 256)) := by show withB (next S) (pairB (next S).b (nextV S) (inPage (nextV S))) = _; rw [hi]
    have eC : oCr 176 S = crossed ((pairV (next S).b (nextV S) ((nextV S + 1) % 256) + S.y) % 65536) (pairV (next S).b (nextV S) ((nextV S + 1) % 256)) := by show crossed ((pairV (next S).b (nextV S) (inPage (nextV S)) + S.y) % 65536) (pairV (next S).b (nextV S) (inPage (nextV S))) = _; rw [hi]
    refine ⟨by rw [eA, eS]; rfl, by first | rfl | (unfold oN; rw [eC]; simp [oN, exN, waitB, oCr, doneN, main, mainN, secondN, thirdN, loadsN, adr, added, cr1, crossed])⟩
theorem row55 : RowOk β 85 512 64 4 := fun S k hO => by
    refine ⟨by rfl, by first | rfl | (simp [oN, exN, waitB, oCr, doneN, main, mainN, secondN, thirdN, loadsN, adr, added, cr1, crossed])⟩
theorem row56 : RowOk β 86 4352 64 6 := fun S k hO => by
    refine ⟨by rfl, by first | rfl | (simp [oN, exN, waitB, oCr, doneN, main, mainN, secondN, thirdN, loadsN, adr, added, cr1, crossed])⟩
theorem row58 : RowOk β 88 10240 0 2 := fun S k hO => by
    refine ⟨by rfl, by first | rfl | (simp [oN, exN, waitB, oCr, doneN, main, mainN, secondN, thirdN, loadsN, adr, added, cr1, crossed])⟩
theorem row59 : RowOk β 89 512 128 4 := fun S k hO => by
    refine ⟨by rfl, by first | rfl | (simp [oN, exN, waitB, oCr, doneN, main, mainN, secondN, thirdN, loadsN, adr, added, cr1, crossed])⟩
theorem row5D : RowOk β 93 512 112 4 := fun S k hO => by
    refine ⟨by rfl, by first | rfl | (simp [oN, exN, waitB, oCr, doneN, main, mainN, secondN, thirdN, loadsN, adr, added, cr1, crossed])⟩
theorem row5E : RowOk β 94 4352 112 7 := fun S k hO => by
    refine ⟨by rfl, by first | rfl | (simp [oN, exN, waitB, oCr, doneN, main, mainN, secondN, thirdN, loadsN, adr, added, cr1, crossed])⟩
theorem row60 : RowOk β 96 12544 0 6 := fun S k hO => by
    refine ⟨by rfl, by first | rfl | (simp [oN, exN, waitB, oCr, doneN, main, mainN, secondN, thirdN, loadsN, adr, added, cr1, crossed])⟩
theorem row61 : RowOk β 97 768 160 6 := fun S k hO => by
    have hi := inPage_byte ((nextV S + S.x) % 256) (mod_byte _)
    have eA : oAt 160 S = pairV (next S).b ((nextV S + S.x) % 256) ((((nextV S + S.x) % 256) + 1) % 256) := by show pairV (next S).b ((nextV S + S.x) % 256) (inPage ((nextV S + S.x) % 256)) = _; rw [hi]
    have eS : oS 160 S = withB (next S) (pairB (next S).b ((nextV S + S.x) % 256) ((((nextV S + S.x) % 256) + 1) % 256)) := by show withB (next S) (pairB (next S).b ((nextV S + S.x) % 256) (inPage ((nextV S + S.x) % 256))) = _; rw [hi]
    refine ⟨by rw [eA, eS]; show takeS 768 _ _ = _; refine (adc_eq _ _ ?_).trans ?_; exact hO.pf; rfl, by first | rfl | (simp [oN, exN, waitB, oCr, doneN, main, mainN, secondN, thirdN, loadsN, adr, added, cr1, crossed])⟩
theorem row65 : RowOk β 101 768 48 3 := fun S k hO => by
    refine ⟨by show takeS 768 _ _ = _; refine (adc_eq _ _ ?_).trans ?_; exact hO.pf; rfl, by first | rfl | (simp [oN, exN, waitB, oCr, doneN, main, mainN, secondN, thirdN, loadsN, adr, added, cr1, crossed])⟩
theorem row66 : RowOk β 102 4608 48 5 := fun S k hO => by
    refine ⟨by rfl, by first | rfl | (simp [oN, exN, waitB, oCr, doneN, main, mainN, secondN, thirdN, loadsN, adr, added, cr1, crossed])⟩
theorem row68 : RowOk β 104 13312 0 4 := fun S k hO => by
    refine ⟨by rfl, by first | rfl | (simp [oN, exN, waitB, oCr, doneN, main, mainN, secondN, thirdN, loadsN, adr, added, cr1, crossed])⟩
theorem row69 : RowOk β 105 768 32 2 := fun S k hO => by
    refine ⟨by show takeS 768 _ _ = _; refine (adc_eq _ _ ?_).trans ?_; exact hO.pf; rfl, by first | rfl | (simp [oN, exN, waitB, oCr, doneN, main, mainN, secondN, thirdN, loadsN, adr, added, cr1, crossed])⟩
theorem row6A : RowOk β 106 4608 16 2 := fun S k hO => by
    refine ⟨by rfl, by first | rfl | (simp [oN, exN, waitB, oCr, doneN, main, mainN, secondN, thirdN, loadsN, adr, added, cr1, crossed])⟩
theorem row6C : RowOk β 108 12032 144 5 := fun S k hO => by
    refine ⟨by rfl, by first | rfl | (simp [oN, exN, waitB, oCr, doneN, main, mainN, secondN, thirdN, loadsN, adr, added, cr1, crossed])⟩
theorem row6D : RowOk β 109 768 96 4 := fun S k hO => by
    refine ⟨by show takeS 768 _ _ = _; refine (adc_eq _ _ ?_).trans ?_; exact hO.pf; rfl, by first | rfl | (simp [oN, exN, waitB, oCr, doneN, main, mainN, secondN, thirdN, loadsN, adr, added, cr1, crossed])⟩
theorem row6E : RowOk β 110 4608 96 6 := fun S k hO => by
    refine ⟨by rfl, by first | rfl | (simp [oN, exN, waitB, oCr, doneN, main, mainN, secondN, thirdN, loadsN, adr, added, cr1, crossed])⟩
theorem row70 : RowOk β 112 8704 192 2 := fun S k hO => by
    have e1 : exS 8704 192 (oAt 192 S) (oS 192 S) = if takenB 8704 S.p then withPC (next S) (goTo S) else next S := rfl
    have e2 : doneN 112 S = branchN 1 true S := rfl
    have e3 : done 112 S = branch 1 true S := rfl
    have e4 : exN 8704 (oCr 192 S) (oS 192 S) = if takenB 8704 S.p then (if crossed (goTo S) ((S.pc + 1) % 65536) then 2 else 1) else 0 := rfl
    have e5 : oN 8704 192 S = 0 := by simp [oN, waitB]
    have e6 : takenB 8704 S.p = decide (on S.p (flagOf 1) = true) := by simp [takenB, flagOf]
    rw [e1, e2, e3, e4, e5]
    unfold branch branchN
    by_cases h : on S.p (flagOf 1) = true
    · rw [e6, decide_eq_true h, if_pos (show true = true from rfl), if_pos (show true = true from rfl), if_pos h, if_pos h]
      refine ⟨rfl, ?_⟩
      by_cases g : goTo S / 256 = (S.pc + 1) % 65536 / 256
      · simp [crossed, g]
      · simp [crossed, g]
    · rw [e6, decide_eq_false h, if_neg (show ¬ (false = true) by decide), if_neg (show ¬ (false = true) by decide), if_neg h, if_neg h]
      exact ⟨rfl, rfl⟩
theorem row71 : RowOk β 113 768 176 5 := fun S k hO => by
    have hi := inPage_byte (nextV S) (nextV_byte hO)
    have eA : oAt 176 S = (pairV (next S).b (nextV S) ((nextV S + 1) % 256) + S.y) % 65536 := by show (pairV (next S).b (nextV S) (inPage (nextV S)) + S.y) % 65536 = _; rw [hi]
    have eS : oS 176 S = withB (next S) (pairB (next S).b (nextV S) ((nextV S + 1) % 256)) := by show withB (next S) (pairB (next S).b (nextV S) (inPage (nextV S))) = _; rw [hi]
    have eC : oCr 176 S = crossed ((pairV (next S).b (nextV S) ((nextV S + 1) % 256) + S.y) % 65536) (pairV (next S).b (nextV S) ((nextV S + 1) % 256)) := by show crossed ((pairV (next S).b (nextV S) (inPage (nextV S)) + S.y) % 65536) (pairV (next S).b (nextV S) (inPage (nextV S))) = _; rw [hi]
    refine ⟨by rw [eA, eS]; show takeS 768 _ _ = _; refine (adc_eq _ _ ?_).trans ?_; exact hO.pf; rfl, by first | rfl | (unfold oN; rw [eC]; simp [oN, exN, waitB, oCr, doneN, main, mainN, secondN, thirdN, loadsN, adr, added, cr1, crossed])⟩
theorem row75 : RowOk β 117 768 64 4 := fun S k hO => by
    refine ⟨by show takeS 768 _ _ = _; refine (adc_eq _ _ ?_).trans ?_; exact hO.pf; rfl, by first | rfl | (simp [oN, exN, waitB, oCr, doneN, main, mainN, secondN, thirdN, loadsN, adr, added, cr1, crossed])⟩
theorem row76 : RowOk β 118 4608 64 6 := fun S k hO => by
    refine ⟨by rfl, by first | rfl | (simp [oN, exN, waitB, oCr, doneN, main, mainN, secondN, thirdN, loadsN, adr, added, cr1, crossed])⟩
theorem row78 : RowOk β 120 11264 0 2 := fun S k hO => by
    refine ⟨by rfl, by first | rfl | (simp [oN, exN, waitB, oCr, doneN, main, mainN, secondN, thirdN, loadsN, adr, added, cr1, crossed])⟩
theorem row79 : RowOk β 121 768 128 4 := fun S k hO => by
    refine ⟨by show takeS 768 _ _ = _; refine (adc_eq _ _ ?_).trans ?_; exact hO.pf; rfl, by first | rfl | (simp [oN, exN, waitB, oCr, doneN, main, mainN, secondN, thirdN, loadsN, adr, added, cr1, crossed])⟩
theorem row7D : RowOk β 125 768 112 4 := fun S k hO => by
    refine ⟨by show takeS 768 _ _ = _; refine (adc_eq _ _ ?_).trans ?_; exact hO.pf; rfl, by first | rfl | (simp [oN, exN, waitB, oCr, doneN, main, mainN, secondN, thirdN, loadsN, adr, added, cr1, crossed])⟩
theorem row7E : RowOk β 126 4608 112 7 := fun S k hO => by
    refine ⟨by rfl, by first | rfl | (simp [oN, exN, waitB, oCr, doneN, main, mainN, secondN, thirdN, loadsN, adr, added, cr1, crossed])⟩
theorem row81 : RowOk β 129 3072 160 6 := fun S k hO => by
    have hi := inPage_byte ((nextV S + S.x) % 256) (mod_byte _)
    have eA : oAt 160 S = pairV (next S).b ((nextV S + S.x) % 256) ((((nextV S + S.x) % 256) + 1) % 256) := by show pairV (next S).b ((nextV S + S.x) % 256) (inPage ((nextV S + S.x) % 256)) = _; rw [hi]
    have eS : oS 160 S = withB (next S) (pairB (next S).b ((nextV S + S.x) % 256) ((((nextV S + S.x) % 256) + 1) % 256)) := by show withB (next S) (pairB (next S).b ((nextV S + S.x) % 256) (inPage ((nextV S + S.x) % 256))) = _; rw [hi]
    refine ⟨by rw [eA, eS]; rfl, by first | rfl | (simp [oN, exN, waitB, oCr, doneN, main, mainN, secondN, thirdN, loadsN, adr, added, cr1, crossed])⟩
theorem row84 : RowOk β 132 3584 48 3 := fun S k hO => by
    refine ⟨by rfl, by first | rfl | (simp [oN, exN, waitB, oCr, doneN, main, mainN, secondN, thirdN, loadsN, adr, added, cr1, crossed])⟩
theorem row85 : RowOk β 133 3072 48 3 := fun S k hO => by
    refine ⟨by rfl, by first | rfl | (simp [oN, exN, waitB, oCr, doneN, main, mainN, secondN, thirdN, loadsN, adr, added, cr1, crossed])⟩
theorem row86 : RowOk β 134 3328 48 3 := fun S k hO => by
    refine ⟨by rfl, by first | rfl | (simp [oN, exN, waitB, oCr, doneN, main, mainN, secondN, thirdN, loadsN, adr, added, cr1, crossed])⟩
theorem row88 : RowOk β 136 5632 0 2 := fun S k hO => by
    refine ⟨by rfl, by first | rfl | (simp [oN, exN, waitB, oCr, doneN, main, mainN, secondN, thirdN, loadsN, adr, added, cr1, crossed])⟩
theorem row8A : RowOk β 138 6912 0 2 := fun S k hO => by
    refine ⟨by rfl, by first | rfl | (simp [oN, exN, waitB, oCr, doneN, main, mainN, secondN, thirdN, loadsN, adr, added, cr1, crossed])⟩
theorem row8C : RowOk β 140 3584 96 4 := fun S k hO => by
    refine ⟨by rfl, by first | rfl | (simp [oN, exN, waitB, oCr, doneN, main, mainN, secondN, thirdN, loadsN, adr, added, cr1, crossed])⟩
theorem row8D : RowOk β 141 3072 96 4 := fun S k hO => by
    refine ⟨by rfl, by first | rfl | (simp [oN, exN, waitB, oCr, doneN, main, mainN, secondN, thirdN, loadsN, adr, added, cr1, crossed])⟩
theorem row8E : RowOk β 142 3328 96 4 := fun S k hO => by
    refine ⟨by rfl, by first | rfl | (simp [oN, exN, waitB, oCr, doneN, main, mainN, secondN, thirdN, loadsN, adr, added, cr1, crossed])⟩
theorem row90 : RowOk β 144 8960 192 2 := fun S k hO => by
    have e1 : exS 8960 192 (oAt 192 S) (oS 192 S) = if takenB 8960 S.p then withPC (next S) (goTo S) else next S := rfl
    have e2 : doneN 144 S = branchN 2 false S := rfl
    have e3 : done 144 S = branch 2 false S := rfl
    have e4 : exN 8960 (oCr 192 S) (oS 192 S) = if takenB 8960 S.p then (if crossed (goTo S) ((S.pc + 1) % 65536) then 2 else 1) else 0 := rfl
    have e5 : oN 8960 192 S = 0 := by simp [oN, waitB]
    have e6 : takenB 8960 S.p = decide (on S.p (flagOf 2) = false) := by simp [takenB, flagOf]
    rw [e1, e2, e3, e4, e5]
    unfold branch branchN
    by_cases h : on S.p (flagOf 2) = false
    · rw [e6, decide_eq_true h, if_pos (show true = true from rfl), if_pos (show true = true from rfl), if_pos h, if_pos h]
      refine ⟨rfl, ?_⟩
      by_cases g : goTo S / 256 = (S.pc + 1) % 65536 / 256
      · simp [crossed, g]
      · simp [crossed, g]
    · rw [e6, decide_eq_false h, if_neg (show ¬ (false = true) by decide), if_neg (show ¬ (false = true) by decide), if_neg h, if_neg h]
      exact ⟨rfl, rfl⟩
theorem row91 : RowOk β 145 3072 176 6 := fun S k hO => by
    have hi := inPage_byte (nextV S) (nextV_byte hO)
    have eA : oAt 176 S = (pairV (next S).b (nextV S) ((nextV S + 1) % 256) + S.y) % 65536 := by show (pairV (next S).b (nextV S) (inPage (nextV S)) + S.y) % 65536 = _; rw [hi]
    have eS : oS 176 S = withB (next S) (pairB (next S).b (nextV S) ((nextV S + 1) % 256)) := by show withB (next S) (pairB (next S).b (nextV S) (inPage (nextV S))) = _; rw [hi]
    have eC : oCr 176 S = crossed ((pairV (next S).b (nextV S) ((nextV S + 1) % 256) + S.y) % 65536) (pairV (next S).b (nextV S) ((nextV S + 1) % 256)) := by show crossed ((pairV (next S).b (nextV S) (inPage (nextV S)) + S.y) % 65536) (pairV (next S).b (nextV S) (inPage (nextV S))) = _; rw [hi]
    refine ⟨by rw [eA, eS]; rfl, by first | rfl | (unfold oN; rw [eC]; simp [oN, exN, waitB, oCr, doneN, main, mainN, secondN, thirdN, loadsN, adr, added, cr1, crossed])⟩
theorem row94 : RowOk β 148 3584 64 4 := fun S k hO => by
    refine ⟨by rfl, by first | rfl | (simp [oN, exN, waitB, oCr, doneN, main, mainN, secondN, thirdN, loadsN, adr, added, cr1, crossed])⟩
theorem row95 : RowOk β 149 3072 64 4 := fun S k hO => by
    refine ⟨by rfl, by first | rfl | (simp [oN, exN, waitB, oCr, doneN, main, mainN, secondN, thirdN, loadsN, adr, added, cr1, crossed])⟩
theorem row96 : RowOk β 150 3328 80 4 := fun S k hO => by
    refine ⟨by rfl, by first | rfl | (simp [oN, exN, waitB, oCr, doneN, main, mainN, secondN, thirdN, loadsN, adr, added, cr1, crossed])⟩
theorem row98 : RowOk β 152 7168 0 2 := fun S k hO => by
    refine ⟨by rfl, by first | rfl | (simp [oN, exN, waitB, oCr, doneN, main, mainN, secondN, thirdN, loadsN, adr, added, cr1, crossed])⟩
theorem row99 : RowOk β 153 3072 128 5 := fun S k hO => by
    refine ⟨by rfl, by first | rfl | (simp [oN, exN, waitB, oCr, doneN, main, mainN, secondN, thirdN, loadsN, adr, added, cr1, crossed])⟩
theorem row9A : RowOk β 154 7680 0 2 := fun S k hO => by
    refine ⟨by rfl, by first | rfl | (simp [oN, exN, waitB, oCr, doneN, main, mainN, secondN, thirdN, loadsN, adr, added, cr1, crossed])⟩
theorem row9D : RowOk β 157 3072 112 5 := fun S k hO => by
    refine ⟨by rfl, by first | rfl | (simp [oN, exN, waitB, oCr, doneN, main, mainN, secondN, thirdN, loadsN, adr, added, cr1, crossed])⟩
theorem rowA0 : RowOk β 160 2816 32 2 := fun S k hO => by
    refine ⟨by rfl, by first | rfl | (simp [oN, exN, waitB, oCr, doneN, main, mainN, secondN, thirdN, loadsN, adr, added, cr1, crossed])⟩
theorem rowA1 : RowOk β 161 2304 160 6 := fun S k hO => by
    have hi := inPage_byte ((nextV S + S.x) % 256) (mod_byte _)
    have eA : oAt 160 S = pairV (next S).b ((nextV S + S.x) % 256) ((((nextV S + S.x) % 256) + 1) % 256) := by show pairV (next S).b ((nextV S + S.x) % 256) (inPage ((nextV S + S.x) % 256)) = _; rw [hi]
    have eS : oS 160 S = withB (next S) (pairB (next S).b ((nextV S + S.x) % 256) ((((nextV S + S.x) % 256) + 1) % 256)) := by show withB (next S) (pairB (next S).b ((nextV S + S.x) % 256) (inPage ((nextV S + S.x) % 256))) = _; rw [hi]
    refine ⟨by rw [eA, eS]; rfl, by first | rfl | (simp [oN, exN, waitB, oCr, doneN, main, mainN, secondN, thirdN, loadsN, adr, added, cr1, crossed])⟩
theorem rowA2 : RowOk β 162 2560 32 2 := fun S k hO => by
    refine ⟨by rfl, by first | rfl | (simp [oN, exN, waitB, oCr, doneN, main, mainN, secondN, thirdN, loadsN, adr, added, cr1, crossed])⟩
theorem rowA4 : RowOk β 164 2816 48 3 := fun S k hO => by
    refine ⟨by rfl, by first | rfl | (simp [oN, exN, waitB, oCr, doneN, main, mainN, secondN, thirdN, loadsN, adr, added, cr1, crossed])⟩
theorem rowA5 : RowOk β 165 2304 48 3 := fun S k hO => by
    refine ⟨by rfl, by first | rfl | (simp [oN, exN, waitB, oCr, doneN, main, mainN, secondN, thirdN, loadsN, adr, added, cr1, crossed])⟩
theorem rowA6 : RowOk β 166 2560 48 3 := fun S k hO => by
    refine ⟨by rfl, by first | rfl | (simp [oN, exN, waitB, oCr, doneN, main, mainN, secondN, thirdN, loadsN, adr, added, cr1, crossed])⟩
theorem rowA8 : RowOk β 168 6656 0 2 := fun S k hO => by
    refine ⟨by rfl, by first | rfl | (simp [oN, exN, waitB, oCr, doneN, main, mainN, secondN, thirdN, loadsN, adr, added, cr1, crossed])⟩
theorem rowA9 : RowOk β 169 2304 32 2 := fun S k hO => by
    refine ⟨by rfl, by first | rfl | (simp [oN, exN, waitB, oCr, doneN, main, mainN, secondN, thirdN, loadsN, adr, added, cr1, crossed])⟩
theorem rowAA : RowOk β 170 6400 0 2 := fun S k hO => by
    refine ⟨by rfl, by first | rfl | (simp [oN, exN, waitB, oCr, doneN, main, mainN, secondN, thirdN, loadsN, adr, added, cr1, crossed])⟩
theorem rowAC : RowOk β 172 2816 96 4 := fun S k hO => by
    refine ⟨by rfl, by first | rfl | (simp [oN, exN, waitB, oCr, doneN, main, mainN, secondN, thirdN, loadsN, adr, added, cr1, crossed])⟩
theorem rowAD : RowOk β 173 2304 96 4 := fun S k hO => by
    refine ⟨by rfl, by first | rfl | (simp [oN, exN, waitB, oCr, doneN, main, mainN, secondN, thirdN, loadsN, adr, added, cr1, crossed])⟩
theorem rowAE : RowOk β 174 2560 96 4 := fun S k hO => by
    refine ⟨by rfl, by first | rfl | (simp [oN, exN, waitB, oCr, doneN, main, mainN, secondN, thirdN, loadsN, adr, added, cr1, crossed])⟩
theorem rowB0 : RowOk β 176 9216 192 2 := fun S k hO => by
    have e1 : exS 9216 192 (oAt 192 S) (oS 192 S) = if takenB 9216 S.p then withPC (next S) (goTo S) else next S := rfl
    have e2 : doneN 176 S = branchN 2 true S := rfl
    have e3 : done 176 S = branch 2 true S := rfl
    have e4 : exN 9216 (oCr 192 S) (oS 192 S) = if takenB 9216 S.p then (if crossed (goTo S) ((S.pc + 1) % 65536) then 2 else 1) else 0 := rfl
    have e5 : oN 9216 192 S = 0 := by simp [oN, waitB]
    have e6 : takenB 9216 S.p = decide (on S.p (flagOf 2) = true) := by simp [takenB, flagOf]
    rw [e1, e2, e3, e4, e5]
    unfold branch branchN
    by_cases h : on S.p (flagOf 2) = true
    · rw [e6, decide_eq_true h, if_pos (show true = true from rfl), if_pos (show true = true from rfl), if_pos h, if_pos h]
      refine ⟨rfl, ?_⟩
      by_cases g : goTo S / 256 = (S.pc + 1) % 65536 / 256
      · simp [crossed, g]
      · simp [crossed, g]
    · rw [e6, decide_eq_false h, if_neg (show ¬ (false = true) by decide), if_neg (show ¬ (false = true) by decide), if_neg h, if_neg h]
      exact ⟨rfl, rfl⟩
theorem rowB1 : RowOk β 177 2304 176 5 := fun S k hO => by
    have hi := inPage_byte (nextV S) (nextV_byte hO)
    have eA : oAt 176 S = (pairV (next S).b (nextV S) ((nextV S + 1) % 256) + S.y) % 65536 := by show (pairV (next S).b (nextV S) (inPage (nextV S)) + S.y) % 65536 = _; rw [hi]
    have eS : oS 176 S = withB (next S) (pairB (next S).b (nextV S) ((nextV S + 1) % 256)) := by show withB (next S) (pairB (next S).b (nextV S) (inPage (nextV S))) = _; rw [hi]
    have eC : oCr 176 S = crossed ((pairV (next S).b (nextV S) ((nextV S + 1) % 256) + S.y) % 65536) (pairV (next S).b (nextV S) ((nextV S + 1) % 256)) := by show crossed ((pairV (next S).b (nextV S) (inPage (nextV S)) + S.y) % 65536) (pairV (next S).b (nextV S) (inPage (nextV S))) = _; rw [hi]
    refine ⟨by rw [eA, eS]; rfl, by first | rfl | (unfold oN; rw [eC]; simp [oN, exN, waitB, oCr, doneN, main, mainN, secondN, thirdN, loadsN, adr, added, cr1, crossed])⟩
theorem rowB4 : RowOk β 180 2816 64 4 := fun S k hO => by
    refine ⟨by rfl, by first | rfl | (simp [oN, exN, waitB, oCr, doneN, main, mainN, secondN, thirdN, loadsN, adr, added, cr1, crossed])⟩
theorem rowB5 : RowOk β 181 2304 64 4 := fun S k hO => by
    refine ⟨by rfl, by first | rfl | (simp [oN, exN, waitB, oCr, doneN, main, mainN, secondN, thirdN, loadsN, adr, added, cr1, crossed])⟩
theorem rowB6 : RowOk β 182 2560 80 4 := fun S k hO => by
    refine ⟨by rfl, by first | rfl | (simp [oN, exN, waitB, oCr, doneN, main, mainN, secondN, thirdN, loadsN, adr, added, cr1, crossed])⟩
theorem rowB8 : RowOk β 184 10496 0 2 := fun S k hO => by
    refine ⟨by rfl, by first | rfl | (simp [oN, exN, waitB, oCr, doneN, main, mainN, secondN, thirdN, loadsN, adr, added, cr1, crossed])⟩
theorem rowB9 : RowOk β 185 2304 128 4 := fun S k hO => by
    refine ⟨by rfl, by first | rfl | (simp [oN, exN, waitB, oCr, doneN, main, mainN, secondN, thirdN, loadsN, adr, added, cr1, crossed])⟩
theorem rowBA : RowOk β 186 7424 0 2 := fun S k hO => by
    refine ⟨by rfl, by first | rfl | (simp [oN, exN, waitB, oCr, doneN, main, mainN, secondN, thirdN, loadsN, adr, added, cr1, crossed])⟩
theorem rowBC : RowOk β 188 2816 112 4 := fun S k hO => by
    refine ⟨by rfl, by first | rfl | (simp [oN, exN, waitB, oCr, doneN, main, mainN, secondN, thirdN, loadsN, adr, added, cr1, crossed])⟩
theorem rowBD : RowOk β 189 2304 112 4 := fun S k hO => by
    refine ⟨by rfl, by first | rfl | (simp [oN, exN, waitB, oCr, doneN, main, mainN, secondN, thirdN, loadsN, adr, added, cr1, crossed])⟩
theorem rowBE : RowOk β 190 2560 128 4 := fun S k hO => by
    refine ⟨by rfl, by first | rfl | (simp [oN, exN, waitB, oCr, doneN, main, mainN, secondN, thirdN, loadsN, adr, added, cr1, crossed])⟩
theorem rowC0 : RowOk β 192 1792 32 2 := fun S k hO => by
    refine ⟨by rfl, by first | rfl | (simp [oN, exN, waitB, oCr, doneN, main, mainN, secondN, thirdN, loadsN, adr, added, cr1, crossed])⟩
theorem rowC1 : RowOk β 193 1280 160 6 := fun S k hO => by
    have hi := inPage_byte ((nextV S + S.x) % 256) (mod_byte _)
    have eA : oAt 160 S = pairV (next S).b ((nextV S + S.x) % 256) ((((nextV S + S.x) % 256) + 1) % 256) := by show pairV (next S).b ((nextV S + S.x) % 256) (inPage ((nextV S + S.x) % 256)) = _; rw [hi]
    have eS : oS 160 S = withB (next S) (pairB (next S).b ((nextV S + S.x) % 256) ((((nextV S + S.x) % 256) + 1) % 256)) := by show withB (next S) (pairB (next S).b ((nextV S + S.x) % 256) (inPage ((nextV S + S.x) % 256))) = _; rw [hi]
    refine ⟨by rw [eA, eS]; rfl, by first | rfl | (simp [oN, exN, waitB, oCr, doneN, main, mainN, secondN, thirdN, loadsN, adr, added, cr1, crossed])⟩
theorem rowC4 : RowOk β 196 1792 48 3 := fun S k hO => by
    refine ⟨by rfl, by first | rfl | (simp [oN, exN, waitB, oCr, doneN, main, mainN, secondN, thirdN, loadsN, adr, added, cr1, crossed])⟩
theorem rowC5 : RowOk β 197 1280 48 3 := fun S k hO => by
    refine ⟨by rfl, by first | rfl | (simp [oN, exN, waitB, oCr, doneN, main, mainN, secondN, thirdN, loadsN, adr, added, cr1, crossed])⟩
theorem rowC6 : RowOk β 198 4864 48 5 := fun S k hO => by
    refine ⟨by refine Eq.trans ?_ (show withB (withP (oS 48 S) (zn (setF S.p 1 (on S.p 1)) _)) _ = _ from rfl); rw [setF_on]; rfl, by first | rfl | (simp [oN, exN, waitB, oCr, doneN, main, mainN, secondN, thirdN, loadsN, adr, added, cr1, crossed])⟩
theorem rowC8 : RowOk β 200 6144 0 2 := fun S k hO => by
    refine ⟨by rfl, by first | rfl | (simp [oN, exN, waitB, oCr, doneN, main, mainN, secondN, thirdN, loadsN, adr, added, cr1, crossed])⟩
theorem rowC9 : RowOk β 201 1280 32 2 := fun S k hO => by
    refine ⟨by rfl, by first | rfl | (simp [oN, exN, waitB, oCr, doneN, main, mainN, secondN, thirdN, loadsN, adr, added, cr1, crossed])⟩
theorem rowCA : RowOk β 202 5376 0 2 := fun S k hO => by
    refine ⟨by rfl, by first | rfl | (simp [oN, exN, waitB, oCr, doneN, main, mainN, secondN, thirdN, loadsN, adr, added, cr1, crossed])⟩
theorem rowCC : RowOk β 204 1792 96 4 := fun S k hO => by
    refine ⟨by rfl, by first | rfl | (simp [oN, exN, waitB, oCr, doneN, main, mainN, secondN, thirdN, loadsN, adr, added, cr1, crossed])⟩
theorem rowCD : RowOk β 205 1280 96 4 := fun S k hO => by
    refine ⟨by rfl, by first | rfl | (simp [oN, exN, waitB, oCr, doneN, main, mainN, secondN, thirdN, loadsN, adr, added, cr1, crossed])⟩
theorem rowCE : RowOk β 206 4864 96 6 := fun S k hO => by
    refine ⟨by refine Eq.trans ?_ (show withB (withP (oS 96 S) (zn (setF S.p 1 (on S.p 1)) _)) _ = _ from rfl); rw [setF_on]; rfl, by first | rfl | (simp [oN, exN, waitB, oCr, doneN, main, mainN, secondN, thirdN, loadsN, adr, added, cr1, crossed])⟩
theorem rowD0 : RowOk β 208 9472 192 2 := fun S k hO => by
    have e1 : exS 9472 192 (oAt 192 S) (oS 192 S) = if takenB 9472 S.p then withPC (next S) (goTo S) else next S := rfl
    have e2 : doneN 208 S = branchN 3 false S := rfl
    have e3 : done 208 S = branch 3 false S := rfl
    have e4 : exN 9472 (oCr 192 S) (oS 192 S) = if takenB 9472 S.p then (if crossed (goTo S) ((S.pc + 1) % 65536) then 2 else 1) else 0 := rfl
    have e5 : oN 9472 192 S = 0 := by simp [oN, waitB]
    have e6 : takenB 9472 S.p = decide (on S.p (flagOf 3) = false) := by simp [takenB, flagOf]
    rw [e1, e2, e3, e4, e5]
    unfold branch branchN
    by_cases h : on S.p (flagOf 3) = false
    · rw [e6, decide_eq_true h, if_pos (show true = true from rfl), if_pos (show true = true from rfl), if_pos h, if_pos h]
      refine ⟨rfl, ?_⟩
      by_cases g : goTo S / 256 = (S.pc + 1) % 65536 / 256
      · simp [crossed, g]
      · simp [crossed, g]
    · rw [e6, decide_eq_false h, if_neg (show ¬ (false = true) by decide), if_neg (show ¬ (false = true) by decide), if_neg h, if_neg h]
      exact ⟨rfl, rfl⟩
theorem rowD1 : RowOk β 209 1280 176 5 := fun S k hO => by
    have hi := inPage_byte (nextV S) (nextV_byte hO)
    have eA : oAt 176 S = (pairV (next S).b (nextV S) ((nextV S + 1) % 256) + S.y) % 65536 := by show (pairV (next S).b (nextV S) (inPage (nextV S)) + S.y) % 65536 = _; rw [hi]
    have eS : oS 176 S = withB (next S) (pairB (next S).b (nextV S) ((nextV S + 1) % 256)) := by show withB (next S) (pairB (next S).b (nextV S) (inPage (nextV S))) = _; rw [hi]
    have eC : oCr 176 S = crossed ((pairV (next S).b (nextV S) ((nextV S + 1) % 256) + S.y) % 65536) (pairV (next S).b (nextV S) ((nextV S + 1) % 256)) := by show crossed ((pairV (next S).b (nextV S) (inPage (nextV S)) + S.y) % 65536) (pairV (next S).b (nextV S) (inPage (nextV S))) = _; rw [hi]
    refine ⟨by rw [eA, eS]; rfl, by first | rfl | (unfold oN; rw [eC]; simp [oN, exN, waitB, oCr, doneN, main, mainN, secondN, thirdN, loadsN, adr, added, cr1, crossed])⟩
theorem rowD5 : RowOk β 213 1280 64 4 := fun S k hO => by
    refine ⟨by rfl, by first | rfl | (simp [oN, exN, waitB, oCr, doneN, main, mainN, secondN, thirdN, loadsN, adr, added, cr1, crossed])⟩
theorem rowD6 : RowOk β 214 4864 64 6 := fun S k hO => by
    refine ⟨by refine Eq.trans ?_ (show withB (withP (oS 64 S) (zn (setF S.p 1 (on S.p 1)) _)) _ = _ from rfl); rw [setF_on]; rfl, by first | rfl | (simp [oN, exN, waitB, oCr, doneN, main, mainN, secondN, thirdN, loadsN, adr, added, cr1, crossed])⟩
theorem rowD8 : RowOk β 216 10752 0 2 := fun S k hO => by
    refine ⟨by rfl, by first | rfl | (simp [oN, exN, waitB, oCr, doneN, main, mainN, secondN, thirdN, loadsN, adr, added, cr1, crossed])⟩
theorem rowD9 : RowOk β 217 1280 128 4 := fun S k hO => by
    refine ⟨by rfl, by first | rfl | (simp [oN, exN, waitB, oCr, doneN, main, mainN, secondN, thirdN, loadsN, adr, added, cr1, crossed])⟩
theorem rowDD : RowOk β 221 1280 112 4 := fun S k hO => by
    refine ⟨by rfl, by first | rfl | (simp [oN, exN, waitB, oCr, doneN, main, mainN, secondN, thirdN, loadsN, adr, added, cr1, crossed])⟩
theorem rowDE : RowOk β 222 4864 112 7 := fun S k hO => by
    refine ⟨by refine Eq.trans ?_ (show withB (withP (oS 112 S) (zn (setF S.p 1 (on S.p 1)) _)) _ = _ from rfl); rw [setF_on]; rfl, by first | rfl | (simp [oN, exN, waitB, oCr, doneN, main, mainN, secondN, thirdN, loadsN, adr, added, cr1, crossed])⟩
theorem rowE0 : RowOk β 224 1536 32 2 := fun S k hO => by
    refine ⟨by rfl, by first | rfl | (simp [oN, exN, waitB, oCr, doneN, main, mainN, secondN, thirdN, loadsN, adr, added, cr1, crossed])⟩
theorem rowE1 : RowOk β 225 1024 160 6 := fun S k hO => by
    have hi := inPage_byte ((nextV S + S.x) % 256) (mod_byte _)
    have eA : oAt 160 S = pairV (next S).b ((nextV S + S.x) % 256) ((((nextV S + S.x) % 256) + 1) % 256) := by show pairV (next S).b ((nextV S + S.x) % 256) (inPage ((nextV S + S.x) % 256)) = _; rw [hi]
    have eS : oS 160 S = withB (next S) (pairB (next S).b ((nextV S + S.x) % 256) ((((nextV S + S.x) % 256) + 1) % 256)) := by show withB (next S) (pairB (next S).b ((nextV S + S.x) % 256) (inPage ((nextV S + S.x) % 256))) = _; rw [hi]
    refine ⟨by rw [eA, eS]; show takeS 1024 _ _ = _; refine (sbc_eq _ _ ?_).trans ?_; exact hO.pf; rfl, by first | rfl | (simp [oN, exN, waitB, oCr, doneN, main, mainN, secondN, thirdN, loadsN, adr, added, cr1, crossed])⟩
theorem rowE4 : RowOk β 228 1536 48 3 := fun S k hO => by
    refine ⟨by rfl, by first | rfl | (simp [oN, exN, waitB, oCr, doneN, main, mainN, secondN, thirdN, loadsN, adr, added, cr1, crossed])⟩
theorem rowE5 : RowOk β 229 1024 48 3 := fun S k hO => by
    refine ⟨by show takeS 1024 _ _ = _; refine (sbc_eq _ _ ?_).trans ?_; exact hO.pf; rfl, by first | rfl | (simp [oN, exN, waitB, oCr, doneN, main, mainN, secondN, thirdN, loadsN, adr, added, cr1, crossed])⟩
theorem rowE6 : RowOk β 230 5120 48 5 := fun S k hO => by
    refine ⟨by refine Eq.trans ?_ (show withB (withP (oS 48 S) (zn (setF S.p 1 (on S.p 1)) _)) _ = _ from rfl); rw [setF_on]; rfl, by first | rfl | (simp [oN, exN, waitB, oCr, doneN, main, mainN, secondN, thirdN, loadsN, adr, added, cr1, crossed])⟩
theorem rowE8 : RowOk β 232 5888 0 2 := fun S k hO => by
    refine ⟨by rfl, by first | rfl | (simp [oN, exN, waitB, oCr, doneN, main, mainN, secondN, thirdN, loadsN, adr, added, cr1, crossed])⟩
theorem rowE9 : RowOk β 233 1024 32 2 := fun S k hO => by
    refine ⟨by show takeS 1024 _ _ = _; refine (sbc_eq _ _ ?_).trans ?_; exact hO.pf; rfl, by first | rfl | (simp [oN, exN, waitB, oCr, doneN, main, mainN, secondN, thirdN, loadsN, adr, added, cr1, crossed])⟩
theorem rowEA : RowOk β 234 11776 0 2 := fun S k hO => by
    refine ⟨by rfl, by first | rfl | (simp [oN, exN, waitB, oCr, doneN, main, mainN, secondN, thirdN, loadsN, adr, added, cr1, crossed])⟩
theorem rowEC : RowOk β 236 1536 96 4 := fun S k hO => by
    refine ⟨by rfl, by first | rfl | (simp [oN, exN, waitB, oCr, doneN, main, mainN, secondN, thirdN, loadsN, adr, added, cr1, crossed])⟩
theorem rowED : RowOk β 237 1024 96 4 := fun S k hO => by
    refine ⟨by show takeS 1024 _ _ = _; refine (sbc_eq _ _ ?_).trans ?_; exact hO.pf; rfl, by first | rfl | (simp [oN, exN, waitB, oCr, doneN, main, mainN, secondN, thirdN, loadsN, adr, added, cr1, crossed])⟩
theorem rowEE : RowOk β 238 5120 96 6 := fun S k hO => by
    refine ⟨by refine Eq.trans ?_ (show withB (withP (oS 96 S) (zn (setF S.p 1 (on S.p 1)) _)) _ = _ from rfl); rw [setF_on]; rfl, by first | rfl | (simp [oN, exN, waitB, oCr, doneN, main, mainN, secondN, thirdN, loadsN, adr, added, cr1, crossed])⟩
theorem rowF0 : RowOk β 240 9728 192 2 := fun S k hO => by
    have e1 : exS 9728 192 (oAt 192 S) (oS 192 S) = if takenB 9728 S.p then withPC (next S) (goTo S) else next S := rfl
    have e2 : doneN 240 S = branchN 3 true S := rfl
    have e3 : done 240 S = branch 3 true S := rfl
    have e4 : exN 9728 (oCr 192 S) (oS 192 S) = if takenB 9728 S.p then (if crossed (goTo S) ((S.pc + 1) % 65536) then 2 else 1) else 0 := rfl
    have e5 : oN 9728 192 S = 0 := by simp [oN, waitB]
    have e6 : takenB 9728 S.p = decide (on S.p (flagOf 3) = true) := by simp [takenB, flagOf]
    rw [e1, e2, e3, e4, e5]
    unfold branch branchN
    by_cases h : on S.p (flagOf 3) = true
    · rw [e6, decide_eq_true h, if_pos (show true = true from rfl), if_pos (show true = true from rfl), if_pos h, if_pos h]
      refine ⟨rfl, ?_⟩
      by_cases g : goTo S / 256 = (S.pc + 1) % 65536 / 256
      · simp [crossed, g]
      · simp [crossed, g]
    · rw [e6, decide_eq_false h, if_neg (show ¬ (false = true) by decide), if_neg (show ¬ (false = true) by decide), if_neg h, if_neg h]
      exact ⟨rfl, rfl⟩
theorem rowF1 : RowOk β 241 1024 176 5 := fun S k hO => by
    have hi := inPage_byte (nextV S) (nextV_byte hO)
    have eA : oAt 176 S = (pairV (next S).b (nextV S) ((nextV S + 1) % 256) + S.y) % 65536 := by show (pairV (next S).b (nextV S) (inPage (nextV S)) + S.y) % 65536 = _; rw [hi]
    have eS : oS 176 S = withB (next S) (pairB (next S).b (nextV S) ((nextV S + 1) % 256)) := by show withB (next S) (pairB (next S).b (nextV S) (inPage (nextV S))) = _; rw [hi]
    have eC : oCr 176 S = crossed ((pairV (next S).b (nextV S) ((nextV S + 1) % 256) + S.y) % 65536) (pairV (next S).b (nextV S) ((nextV S + 1) % 256)) := by show crossed ((pairV (next S).b (nextV S) (inPage (nextV S)) + S.y) % 65536) (pairV (next S).b (nextV S) (inPage (nextV S))) = _; rw [hi]
    refine ⟨by rw [eA, eS]; show takeS 1024 _ _ = _; refine (sbc_eq _ _ ?_).trans ?_; exact hO.pf; rfl, by first | rfl | (unfold oN; rw [eC]; simp [oN, exN, waitB, oCr, doneN, main, mainN, secondN, thirdN, loadsN, adr, added, cr1, crossed])⟩
theorem rowF5 : RowOk β 245 1024 64 4 := fun S k hO => by
    refine ⟨by show takeS 1024 _ _ = _; refine (sbc_eq _ _ ?_).trans ?_; exact hO.pf; rfl, by first | rfl | (simp [oN, exN, waitB, oCr, doneN, main, mainN, secondN, thirdN, loadsN, adr, added, cr1, crossed])⟩
theorem rowF6 : RowOk β 246 5120 64 6 := fun S k hO => by
    refine ⟨by refine Eq.trans ?_ (show withB (withP (oS 64 S) (zn (setF S.p 1 (on S.p 1)) _)) _ = _ from rfl); rw [setF_on]; rfl, by first | rfl | (simp [oN, exN, waitB, oCr, doneN, main, mainN, secondN, thirdN, loadsN, adr, added, cr1, crossed])⟩
theorem rowF8 : RowOk β 248 11520 0 2 := fun S k hO => by
    refine ⟨by rfl, by first | rfl | (simp [oN, exN, waitB, oCr, doneN, main, mainN, secondN, thirdN, loadsN, adr, added, cr1, crossed])⟩
theorem rowF9 : RowOk β 249 1024 128 4 := fun S k hO => by
    refine ⟨by show takeS 1024 _ _ = _; refine (sbc_eq _ _ ?_).trans ?_; exact hO.pf; rfl, by first | rfl | (simp [oN, exN, waitB, oCr, doneN, main, mainN, secondN, thirdN, loadsN, adr, added, cr1, crossed])⟩
theorem rowFD : RowOk β 253 1024 112 4 := fun S k hO => by
    refine ⟨by show takeS 1024 _ _ = _; refine (sbc_eq _ _ ?_).trans ?_; exact hO.pf; rfl, by first | rfl | (simp [oN, exN, waitB, oCr, doneN, main, mainN, secondN, thirdN, loadsN, adr, added, cr1, crossed])⟩
theorem rowFE : RowOk β 254 5120 112 7 := fun S k hO => by
    refine ⟨by refine Eq.trans ?_ (show withB (withP (oS 112 S) (zn (setF S.p 1 (on S.p 1)) _)) _ = _ from rfl); rw [setF_on]; rfl, by first | rfl | (simp [oN, exN, waitB, oCr, doneN, main, mainN, secondN, thirdN, loadsN, adr, added, cr1, crossed])⟩

/-- Every row of the table does what the account says. -/
theorem rows_ok : ∀ r : Nat, r < 151 → RowOk β (keyN r : Nat) (doesN r : Nat) (modeN r : Nat) (cycN r : Nat)
  | 0, _ => row00
  | 1, _ => row01
  | 2, _ => row05
  | 3, _ => row06
  | 4, _ => row08
  | 5, _ => row09
  | 6, _ => row0A
  | 7, _ => row0D
  | 8, _ => row0E
  | 9, _ => row10
  | 10, _ => row11
  | 11, _ => row15
  | 12, _ => row16
  | 13, _ => row18
  | 14, _ => row19
  | 15, _ => row1D
  | 16, _ => row1E
  | 17, _ => row20
  | 18, _ => row21
  | 19, _ => row24
  | 20, _ => row25
  | 21, _ => row26
  | 22, _ => row28
  | 23, _ => row29
  | 24, _ => row2A
  | 25, _ => row2C
  | 26, _ => row2D
  | 27, _ => row2E
  | 28, _ => row30
  | 29, _ => row31
  | 30, _ => row35
  | 31, _ => row36
  | 32, _ => row38
  | 33, _ => row39
  | 34, _ => row3D
  | 35, _ => row3E
  | 36, _ => row40
  | 37, _ => row41
  | 38, _ => row45
  | 39, _ => row46
  | 40, _ => row48
  | 41, _ => row49
  | 42, _ => row4A
  | 43, _ => row4C
  | 44, _ => row4D
  | 45, _ => row4E
  | 46, _ => row50
  | 47, _ => row51
  | 48, _ => row55
  | 49, _ => row56
  | 50, _ => row58
  | 51, _ => row59
  | 52, _ => row5D
  | 53, _ => row5E
  | 54, _ => row60
  | 55, _ => row61
  | 56, _ => row65
  | 57, _ => row66
  | 58, _ => row68
  | 59, _ => row69
  | 60, _ => row6A
  | 61, _ => row6C
  | 62, _ => row6D
  | 63, _ => row6E
  | 64, _ => row70
  | 65, _ => row71
  | 66, _ => row75
  | 67, _ => row76
  | 68, _ => row78
  | 69, _ => row79
  | 70, _ => row7D
  | 71, _ => row7E
  | 72, _ => row81
  | 73, _ => row84
  | 74, _ => row85
  | 75, _ => row86
  | 76, _ => row88
  | 77, _ => row8A
  | 78, _ => row8C
  | 79, _ => row8D
  | 80, _ => row8E
  | 81, _ => row90
  | 82, _ => row91
  | 83, _ => row94
  | 84, _ => row95
  | 85, _ => row96
  | 86, _ => row98
  | 87, _ => row99
  | 88, _ => row9A
  | 89, _ => row9D
  | 90, _ => rowA0
  | 91, _ => rowA1
  | 92, _ => rowA2
  | 93, _ => rowA4
  | 94, _ => rowA5
  | 95, _ => rowA6
  | 96, _ => rowA8
  | 97, _ => rowA9
  | 98, _ => rowAA
  | 99, _ => rowAC
  | 100, _ => rowAD
  | 101, _ => rowAE
  | 102, _ => rowB0
  | 103, _ => rowB1
  | 104, _ => rowB4
  | 105, _ => rowB5
  | 106, _ => rowB6
  | 107, _ => rowB8
  | 108, _ => rowB9
  | 109, _ => rowBA
  | 110, _ => rowBC
  | 111, _ => rowBD
  | 112, _ => rowBE
  | 113, _ => rowC0
  | 114, _ => rowC1
  | 115, _ => rowC4
  | 116, _ => rowC5
  | 117, _ => rowC6
  | 118, _ => rowC8
  | 119, _ => rowC9
  | 120, _ => rowCA
  | 121, _ => rowCC
  | 122, _ => rowCD
  | 123, _ => rowCE
  | 124, _ => rowD0
  | 125, _ => rowD1
  | 126, _ => rowD5
  | 127, _ => rowD6
  | 128, _ => rowD8
  | 129, _ => rowD9
  | 130, _ => rowDD
  | 131, _ => rowDE
  | 132, _ => rowE0
  | 133, _ => rowE1
  | 134, _ => rowE4
  | 135, _ => rowE5
  | 136, _ => rowE6
  | 137, _ => rowE8
  | 138, _ => rowE9
  | 139, _ => rowEA
  | 140, _ => rowEC
  | 141, _ => rowED
  | 142, _ => rowEE
  | 143, _ => rowF0
  | 144, _ => rowF1
  | 145, _ => rowF5
  | 146, _ => rowF6
  | 147, _ => rowF8
  | 148, _ => rowF9
  | 149, _ => rowFD
  | 150, _ => rowFE
  | r + 151, h => absurd h (by omega)
end

theorem key_up : ∀ r : Fin 150, keyN r < keyN (r + 1) := by decide +kernel
theorem key_mono (i j : Nat) (hj : j < 151) (h : i < j) : keyN i < keyN j := by
  induction j with
  | zero => omega
  | succ j ih =>
    have h1 : keyN j < keyN (j + 1) := key_up ⟨j, by omega⟩
    by_cases e : i = j
    · subst e; exact h1
    · exact Nat.lt_trans (ih (by omega) (by omega)) h1
theorem known_words : ∀ op : Fin 256, known (op : Nat) = words.any (fun x => x / 65536 == (op : Nat)) := by decide +kernel
theorem words_len : words.length = 151 := by decide +kernel
theorem wd_get (r : Nat) (h : r < words.length) : words[r] = wd r := by unfold wd; simp [List.getD, h]
/-- A row that is not there: the opcode is unknown. -/
theorem not_known (op r : Nat) (ho : op < 256) (hF : Found op r) (h : r = 151 ∨ (r < 151 ∧ keyN r ≠ op)) : known op = false := by
  have hk := known_words ⟨op, ho⟩
  simp only at hk
  rw [hk, List.any_eq_false]
  intro x hx he
  obtain ⟨i, hi, rfl⟩ := List.getElem_of_mem hx
  rw [wd_get i hi] at he
  have hi2 : i < 151 := by rw [← words_len]; exact hi
  have he2 : keyN i = op := by simpa [keyN] using he
  obtain ⟨h1, h2, h3⟩ := hF
  by_cases hir : i < r
  · rcases h2 with h2 | h2
    · omega
    · by_cases e : i = r - 1
      · subst e; omega
      · have := key_mono i (r - 1) (by omega) (by omega); omega
  · rcases h with h | ⟨h4, h5⟩
    · omega
    · by_cases e : i = r
      · subst e; exact h5 he2
      · have := key_mono r i hi2 (by omega)
        rcases h3 with h3 | h3
        · omega
        · omega
theorem is_known (r : Nat) (h : r < 151) : known (keyN r : Nat) = true ∧ keyN r < 256 := by
  have h256 : ∀ r : Fin 151, keyN r < 256 := by decide +kernel
  have hlt := h256 ⟨r, h⟩
  have hk := known_words ⟨keyN r, hlt⟩
  simp only at hk hlt
  refine ⟨?_, hlt⟩
  rw [hk, List.any_eq_true]
  have hr : r < words.length := by rw [words_len]; exact h
  exact ⟨words[r], List.getElem_mem hr, by rw [wd_get r hr]; simp [keyN]⟩
/-- What stands in the table. -/
def isD (d : Int) : Prop := d = 0 ∨ d = 256 ∨ d = 512 ∨ d = 768 ∨ d = 1024 ∨ d = 1280 ∨ d = 1536 ∨ d = 1792 ∨ d = 2048 ∨ d = 2304 ∨ d = 2560 ∨ d = 2816 ∨ d = 3072 ∨ d = 3328 ∨ d = 3584 ∨ d = 3840 ∨ d = 4096 ∨ d = 4352 ∨ d = 4608 ∨ d = 4864 ∨ d = 5120 ∨ d = 5376 ∨ d = 5632 ∨ d = 5888 ∨ d = 6144 ∨ d = 6400 ∨ d = 6656 ∨ d = 6912 ∨ d = 7168 ∨ d = 7424 ∨ d = 7680 ∨ d = 7936 ∨ d = 8192 ∨ d = 8448 ∨ d = 8704 ∨ d = 8960 ∨ d = 9216 ∨ d = 9472 ∨ d = 9728 ∨ d = 9984 ∨ d = 10240 ∨ d = 10496 ∨ d = 10752 ∨ d = 11008 ∨ d = 11264 ∨ d = 11520 ∨ d = 11776 ∨ d = 12032 ∨ d = 12288 ∨ d = 12544 ∨ d = 12800 ∨ d = 13056 ∨ d = 13312 ∨ d = 13568 ∨ d = 13824 ∨ d = 14080
def isM (m : Int) : Prop := m = 0 ∨ m = 16 ∨ m = 32 ∨ m = 48 ∨ m = 64 ∨ m = 80 ∨ m = 96 ∨ m = 112 ∨ m = 128 ∨ m = 144 ∨ m = 160 ∨ m = 176 ∨ m = 192
theorem row_dm : ∀ r : Fin 151, doesN r % 256 = 0 ∧ doesN r / 256 < 56 ∧ modeN r % 16 = 0 ∧ modeN r / 16 < 13 ∧ cycN r < 16 := by decide +kernel
theorem row_isD (r : Nat) (h : r < 151) : isD (doesN r : Nat) ∧ isM (modeN r : Nat) ∧ cycN r < 16 := by
  obtain ⟨h1, h2, h3, h4, h5⟩ := row_dm ⟨r, h⟩
  simp only at h1 h2 h3 h4 h5
  refine ⟨?_, ?_, h5⟩
  · unfold isD; omega
  · unfold isM; omega

end Ms
end Go.Proofs.YtlnpadekgakghaaDoor
