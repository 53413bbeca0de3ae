/-
  The 6502 in plain whole numbers, over any bus: of no program. No condition.
-/
import Derived.Test.YtlnpadekgakghaaDoorAlMath
namespace Go.Proofs.YtlnpadekgakghaaDoor
open Go.RowKit
namespace Ms
open Al (byte)

def u16 (x : Int) : Prop := 0 ≤ x ∧ x < 65536

/-- What a bus is: what is read at an address, what reading and writing leave, and what holds of it as long as few bytes were written. -/
class Io (β : Type) where
  rv : β → Int → Int
  rb : β → Int → β
  wb : β → Int → Int → β
  ok : Nat → β → Prop
  rv_ok : ∀ {n b} a, ok n b → byte (rv b a)
  rb_ok : ∀ {n b} a, ok n b → ok n (rb b a)
  wb_ok : ∀ {n b} a v, ok n b → u16 a → byte v → ok (n + 1) (wb b a v)
  up : ∀ {n m b}, ok n b → n ≤ m → ok m b

/-- Registers, and a bus. -/
structure St (β : Type) where
  a : Int
  x : Int
  y : Int
  s : Int
  p : Int
  pc : Int
  h : Bool
  b : β

section
variable {β : Type} [Io β]
open Io

structure Ok (n : Nat) (S : St β) : Prop where
  a : byte S.a
  x : byte S.x
  y : byte S.y
  s : byte S.s
  p : byte S.p
  bu : S.p / 16 % 4 = 0
  pc : u16 S.pc
  b : ok n S.b

/-! Flags -/
def setF (p k : Int) (on : Bool) : Int := (if p / k % 2 = 1 then p - k else p) + (if on then k else 0)
def on (p k : Int) : Bool := p / k % 2 == 1
def zn (p v : Int) : Int := setF (setF p 2 (v == 0)) 128 (decide (128 ≤ v))
def isF (k : Int) : Prop := k = 1 ∨ k = 2 ∨ k = 4 ∨ k = 8 ∨ k = 64 ∨ k = 128

/-! Memory -/
def push (S : St β) (v : Int) : St β := ⟨S.a, S.x, S.y, (S.s - 1) % 256, S.p, S.pc, S.h, wb S.b (256 + S.s) v⟩
def pullV (S : St β) : Int := rv S.b (256 + (S.s + 1) % 256)
def pull (S : St β) : St β := ⟨S.a, S.x, S.y, (S.s + 1) % 256, S.p, S.pc, S.h, rb S.b (256 + (S.s + 1) % 256)⟩
def nextV (S : St β) : Int := rv S.b S.pc
def next (S : St β) : St β := ⟨S.a, S.x, S.y, S.s, S.p, (S.pc + 1) % 65536, S.h, rb S.b S.pc⟩
def wordV (S : St β) : Int := nextV S + 256 * nextV (next S)
def word (S : St β) : St β := next (next S)
def pairV (b : β) (i j : Int) : Int := rv b i + 256 * rv (rb b i) j
def pairB (b : β) (i j : Int) : β := rb (rb b i) j
def pushW (S : St β) (w : Int) : St β := push (push S (w / 256)) (w % 256)
def pullWV (S : St β) : Int := pullV S + 256 * pullV (pull S)
def pullW (S : St β) : St β := pull (pull S)

/-! Addresses -/
structure Ad where
  ad : Int
  cr : Bool
  rd : Int
  put : Int
  chg : Int
def added (w n rd put chg : Int) : Ad := ⟨(w + n) % 65536, (w + n) % 65536 / 256 != w / 256, rd, put, chg⟩
def adr (mode : Int) (S : St β) : Ad :=
  if mode = 2 then ⟨S.pc, false, 2, 0, 0⟩
  else if mode = 3 then ⟨wordV S, false, 4, 4, 6⟩
  else if mode = 6 then added (wordV S) S.y 4 5 7
  else if mode = 7 then added (wordV S) S.x 4 5 7
  else if mode = 1 then ⟨nextV S, false, 3, 3, 5⟩
  else if mode = 5 then ⟨(nextV S + S.x) % 256, false, 4, 4, 6⟩
  else if mode = 8 then ⟨(nextV S + S.y) % 256, false, 4, 4, 6⟩
  else if mode = 4 then added (pairV (next S).b (nextV S) ((nextV S + 1) % 256)) S.y 5 6 0
  else ⟨pairV (next S).b ((nextV S + S.x) % 256) (((nextV S + S.x) % 256 + 1) % 256), false, 6, 6, 0⟩
def adrPC (mode : Int) (S : St β) : Int :=
  if mode = 3 ∨ mode = 6 ∨ mode = 7 then ((S.pc + 1) % 65536 + 1) % 65536 else (S.pc + 1) % 65536
def adrB (mode : Int) (S : St β) : β :=
  if mode = 2 then S.b
  else if mode = 3 ∨ mode = 6 ∨ mode = 7 then (word S).b
  else if mode = 1 ∨ mode = 5 ∨ mode = 8 then (next S).b
  else if mode = 4 then pairB (next S).b (nextV S) ((nextV S + 1) % 256)
  else pairB (next S).b ((nextV S + S.x) % 256) (((nextV S + S.x) % 256 + 1) % 256)

/-! What is done -/
def cmpP (p r v : Int) : Int := setF (setF (setF p 1 (Al.cmpC r v)) 2 (Al.cmpZ r v)) 128 (Al.cmpN r v)
def addP (p a v : Int) : Int := zn (setF (setF p 1 (Al.addC a v (on p 1))) 64 (Al.addO a v (on p 1))) (Al.addR a v (on p 1))
def subP (p a v : Int) : Int := zn (setF (setF p 1 (Al.subC a v (on p 1))) 64 (Al.subO a v (on p 1))) (Al.subR a v (on p 1))
def bitP (p a v : Int) : Int := setF (setF (setF p 2 (Al.bitZ a v)) 128 (Al.bitN v)) 64 (Al.bitO v)
/-- A and P behind an instruction that reads M = v: 0 ORA, 1 AND, 2 EOR, 3 ADC, 5 LDA, 6 CMP, 7 SBC. -/
def mainA (what a p v : Int) : Int :=
  if what = 0 then Go.bits .or .u8 a v else if what = 1 then Go.bits .and .u8 a v else if what = 2 then Go.bits .xor .u8 a v
  else if what = 3 then Al.addR a v (on p 1) else if what = 5 then v else if what = 6 then a else Al.subR a v (on p 1)
def mainP (what a p v : Int) : Int :=
  if what = 3 then addP p a v else if what = 6 then cmpP p a v else if what = 7 then subP p a v else zn p (mainA what a p v)
def cr1 (c : Bool) : Int := if c then 1 else 0
def mainN (what mode : Int) (S : St β) : Int := if what = 4 then (adr mode S).put else (adr mode S).rd + cr1 (adr mode S).cr
def main (what mode : Int) (S : St β) : St β :=
  if what = 4 then ⟨S.a, S.x, S.y, S.s, S.p, adrPC mode S, S.h, wb (adrB mode S) (adr mode S).ad S.a⟩
  else ⟨mainA what S.a S.p (rv (adrB mode S) (adr mode S).ad), S.x, S.y, S.s, mainP what S.a S.p (rv (adrB mode S) (adr mode S).ad), adrPC mode S, S.h, rb (adrB mode S) (adr mode S).ad⟩
/-- What becomes of a byte: 0 ASL, 1 ROL, 2 LSR, 3 ROR, 6 DEC, 7 INC. -/
def chV (what p v : Int) : Int :=
  if what = 0 then Al.leftR v false else if what = 1 then Al.leftR v (on p 1) else if what = 2 then Al.rightR v false else if what = 3 then Al.rightR v (on p 1)
  else if what = 6 then (v - 1) % 256 else (v + 1) % 256
def chC (what p v : Int) : Bool :=
  if what = 0 ∨ what = 1 then Al.leftC v else if what = 2 ∨ what = 3 then Al.rightC v else on p 1
def chP (what p v : Int) : Int := zn (setF p 1 (chC what p v)) (chV what p v)
/-- LDX, LDY, STX, STY: by X or not, stored or loaded. -/
def loadsN (mode : Int) (store : Bool) (S : St β) : Int := if store then (adr mode S).put else (adr mode S).rd + cr1 (adr mode S).cr
def loads (mode : Int) (isX store : Bool) (S : St β) : St β :=
  if store then ⟨S.a, S.x, S.y, S.s, S.p, adrPC mode S, S.h, wb (adrB mode S) (adr mode S).ad (if isX then S.x else S.y)⟩
  else if isX then ⟨S.a, rv (adrB mode S) (adr mode S).ad, S.y, S.s, zn S.p (rv (adrB mode S) (adr mode S).ad), adrPC mode S, S.h, rb (adrB mode S) (adr mode S).ad⟩
  else ⟨S.a, S.x, rv (adrB mode S) (adr mode S).ad, S.s, zn S.p (rv (adrB mode S) (adr mode S).ad), adrPC mode S, S.h, rb (adrB mode S) (adr mode S).ad⟩
/-- Memory is changed. -/
def change (what mode : Int) (S : St β) : St β :=
  ⟨S.a, S.x, S.y, S.s, chP what S.p (rv (adrB mode S) (adr mode S).ad), adrPC mode S, S.h, wb (rb (adrB mode S) (adr mode S).ad) (adr mode S).ad (chV what S.p (rv (adrB mode S) (adr mode S).ad))⟩
/-- TXA, TAX, DEX, NOP (4 to 7), TXS, TSX (4, 5, by the stack). -/
def single (what : Int) (stack : Bool) (S : St β) : St β :=
  if stack then
    if what = 4 then ⟨S.a, S.x, S.y, S.x, S.p, S.pc, S.h, S.b⟩ else ⟨S.a, S.s, S.y, S.s, zn S.p S.s, S.pc, S.h, S.b⟩
  else if what = 4 then ⟨S.x, S.x, S.y, S.s, zn S.p S.x, S.pc, S.h, S.b⟩
  else if what = 5 then ⟨S.a, S.a, S.y, S.s, zn S.p S.a, S.pc, S.h, S.b⟩
  else if what = 6 then ⟨S.a, (S.x - 1) % 256, S.y, S.s, zn S.p ((S.x - 1) % 256), S.pc, S.h, S.b⟩
  else S
/-- Opcodes whose lowest two bits are 2. -/
def secondN (what mode : Int) (S : St β) : Int :=
  if mode = 0 then 2
  else if mode = 2 ∨ mode = 6 then 2
  else if what = 4 ∨ what = 5 then loadsN (if mode = 5 then 8 else if mode = 7 then 6 else mode) (what == 4) S
  else (adr mode S).chg
def second (what mode : Int) (S : St β) : St β :=
  if mode = 0 then loads 2 true false S
  else if mode = 2 ∧ what < 4 then ⟨chV what S.p S.a, S.x, S.y, S.s, chP what S.p S.a, S.pc, S.h, S.b⟩
  else if mode = 2 ∨ mode = 6 then single what (mode == 6) S
  else if what = 4 ∨ what = 5 then loads (if mode = 5 then 8 else if mode = 7 then 6 else mode) true (what == 4) S
  else change what mode S
/-- Branches by a flag's number. -/
def flagOf (which : Int) : Int := if which = 0 then 128 else if which = 1 then 64 else if which = 2 then 1 else 2
def goTo (S : St β) : Int := ((S.pc + 1) % 65536 + Al.sg (nextV S)) % 65536
def branchN (which : Int) (must : Bool) (S : St β) : Int :=
  if on S.p (flagOf which) = must then (if goTo S / 256 = (S.pc + 1) % 65536 / 256 then 3 else 4) else 2
def branch (which : Int) (must : Bool) (S : St β) : St β :=
  ⟨S.a, S.x, S.y, S.s, S.p, if on S.p (flagOf which) = must then goTo S else (S.pc + 1) % 65536, S.h, rb S.b S.pc⟩
/-- P without B and U. -/
def noBU (v : Int) : Int := v - v / 16 % 4 * 16
/-- PHP, PLP, PHA, PLA, DEY, TAY, INY, INX. -/
def stackN (n : Int) : Int := if n = 0 ∨ n = 2 then 3 else if n = 1 ∨ n = 3 then 4 else 2
def stack (n : Int) (S : St β) : St β :=
  if n = 0 then push S (S.p + 48)
  else if n = 1 then ⟨S.a, S.x, S.y, (S.s + 1) % 256, noBU (pullV S), S.pc, S.h, (pull S).b⟩
  else if n = 2 then push S S.a
  else if n = 3 then ⟨pullV S, S.x, S.y, (S.s + 1) % 256, zn S.p (pullV S), S.pc, S.h, (pull S).b⟩
  else if n = 4 then ⟨S.a, S.x, (S.y - 1) % 256, S.s, zn S.p ((S.y - 1) % 256), S.pc, S.h, S.b⟩
  else if n = 5 then ⟨S.a, S.x, S.a, S.s, zn S.p S.a, S.pc, S.h, S.b⟩
  else if n = 6 then ⟨S.a, S.x, (S.y + 1) % 256, S.s, zn S.p ((S.y + 1) % 256), S.pc, S.h, S.b⟩
  else ⟨S.a, (S.x + 1) % 256, S.y, S.s, zn S.p ((S.x + 1) % 256), S.pc, S.h, S.b⟩
/-- CLC, SEC, CLI, SEI, TYA, CLV, CLD, SED. -/
def flags (n : Int) (S : St β) : St β :=
  if n = 4 then ⟨S.y, S.x, S.y, S.s, zn S.p S.y, S.pc, S.h, S.b⟩
  else ⟨S.a, S.x, S.y, S.s, if n = 0 ∨ n = 1 then setF S.p 1 (n == 1) else if n = 2 ∨ n = 3 then setF S.p 4 (n == 3) else if n = 5 then setF S.p 64 false else setF S.p 8 (n == 7), S.pc, S.h, S.b⟩
/-- BRK, JSR, RTI, RTS. -/
def jumpN (what : Int) : Int := if what = 0 then 7 else 6
def withPC (S : St β) (pc : Int) : St β := ⟨S.a, S.x, S.y, S.s, S.p, pc, S.h, S.b⟩
def withP (S : St β) (p : Int) : St β := ⟨S.a, S.x, S.y, S.s, p, S.pc, S.h, S.b⟩
/-- The word at a place, in order, is PC; I is set ahead. -/
def vector (S : St β) (i j : Int) : St β := ⟨S.a, S.x, S.y, S.s, S.p, pairV S.b i j, S.h, pairB S.b i j⟩
def jump (what : Int) (S : St β) : St β :=
  if what = 0 then vector (withP (push (pushW S ((S.pc + 1) % 65536)) (S.p + 48)) (setF S.p 4 true)) 65534 65535
  else if what = 1 then withPC (pushW (word S) (((word S).pc - 1) % 65536)) (wordV S)
  else if what = 2 then withPC (pullW (withP (pull S) (noBU (pullV S)))) (pullWV (withP (pull S) (noBU (pullV S))))
  else withPC (pullW S) ((pullWV S + 1) % 65536)
/-- Opcodes whose lowest two bits are 0. -/
def thirdN (what mode : Int) (S : St β) : Int :=
  if mode = 4 then branchN (what / 2) (what % 2 == 1) S
  else if mode = 2 then stackN what
  else if mode = 6 then 2
  else if mode = 0 ∧ what < 4 then jumpN what
  else if what = 2 ∧ mode = 3 then 3
  else if what = 3 ∧ mode = 3 then 5
  else if what = 1 then (adr mode S).rd
  else if what = 4 then loadsN mode true S
  else if what = 5 then loadsN (if mode = 0 then 2 else mode) false S
  else (adr (if mode = 0 then 2 else mode) S).rd
def third (what mode : Int) (S : St β) : St β :=
  if mode = 4 then branch (what / 2) (what % 2 == 1) S
  else if mode = 2 then stack what S
  else if mode = 6 then flags what S
  else if mode = 0 ∧ what < 4 then jump what S
  else if what = 2 ∧ mode = 3 then withPC (word S) (wordV S)
  else if what = 3 ∧ mode = 3 then vector (word S) (wordV S) (wordV S / 256 * 256 + (wordV S + 1) % 256)
  else if what = 1 then ⟨S.a, S.x, S.y, S.s, bitP S.p S.a (rv (adrB mode S) (adr mode S).ad), adrPC mode S, S.h, rb (adrB mode S) (adr mode S).ad⟩
  else if what = 4 then loads mode false true S
  else if what = 5 then loads (if mode = 0 then 2 else mode) false false S
  else
    let m := if mode = 0 then 2 else mode
    ⟨S.a, S.x, S.y, S.s, cmpP S.p (if what = 7 then S.x else S.y) (rv (adrB m S) (adr m S).ad), adrPC m S, S.h, rb (adrB m S) (adr m S).ad⟩

/-- Does an opcode stand in the table? -/
def known (op : Int) : Bool :=
  let what := op / 32
  let mode := op / 4 % 8
  if op % 4 = 1 then what != 4 || mode != 2
  else if op % 4 = 2 then
    if mode = 0 then what == 5 else if mode = 6 then what == 4 || what == 5 else mode != 4 && (mode != 7 || what != 4)
  else if op % 4 = 3 then false
  else if mode = 0 then what != 4 else if mode = 1 then what == 1 || decide (4 ≤ what) else if mode = 3 then what != 0 else if mode = 5 then what == 4 || what == 5 else mode != 7 || what == 5
def doneN (op : Int) (S : St β) : Int :=
  if op % 4 = 0 then thirdN (op / 32) (op / 4 % 8) S else if op % 4 = 1 then mainN (op / 32) (op / 4 % 8) S else secondN (op / 32) (op / 4 % 8) S
def done (op : Int) (S : St β) : St β :=
  if op % 4 = 0 then third (op / 32) (op / 4 % 8) S else if op % 4 = 1 then main (op / 32) (op / 4 % 8) S else second (op / 32) (op / 4 % 8) S
def halted (S : St β) (b : β) : St β := ⟨S.a, S.x, S.y, S.s, S.p, S.pc, true, b⟩
def stepN (S : St β) : Int := if S.h then 0 else if known (nextV S) then doneN (nextV S) (next S) else 0
def step (S : St β) : St β := if S.h then S else if known (nextV S) then done (nextV S) (next S) else halted S (rb S.b S.pc)
def interruptN (S : St β) : Int := if S.h then 0 else 7
def interrupt (S : St β) (v : Int) : St β := if S.h then S else vector (withP (push (pushW S S.pc) (S.p + 32)) (setF S.p 4 true)) v ((v + 1) % 65536)
def reset (S : St β) : St β := ⟨0, 0, 0, 253, 4, pairV S.b 65532 65533, false, pairB S.b 65532 65533⟩
end

end Ms
end Go.Proofs.YtlnpadekgakghaaDoor
