/- Bytecodes as plain functions: what one byte, two or three tell; what bytes tell at a place, and one behind the other. -/
import Derived.Test.YtmcikjihkgplaaaDoorKBase
namespace Go.Proofs.YtmcikjihkgplaaaDoor
open Go.RowKit

/-- Something to do: its kind, two numbers, how many bytes it has. -/
structure OpT where
  k : Int
  n : Int
  m : Int
  l : Int
deriving DecidableEq
def o3 (k n m : Int) : OpT := ⟨k, n, m, 0⟩
def OpT.v (o : OpT) : Value := .agg #[.int .i64 o.k, .int .i64 o.n, .int .i64 o.m, .int .i64 o.l]
def zeroO : OpT := ⟨0, 0, 0, 0⟩

def longN (c : Int) : Int := if c = 132 ∨ c = 134 then 3 else if (128 ≤ c ∧ c ≤ 133) ∨ (160 ≤ c ∧ c ≤ 175) then 2 else 1
def oopAt (i : Int) : Int := if i = 0 then 0 else if i = 1 then 4 else if i = 2 then 6 else if i = 3 then 2 else if i = 4 then -1 else if i = 5 then 1 else if i = 6 then 3 else 5
def shortO (c : Int) : OpT :=
  if c < 16 then o3 1 c 0 else if c < 32 then o3 2 (c - 16) 0 else if c < 64 then o3 3 (c - 32) 0 else if c < 96 then o3 4 (c - 64) 0
  else if c < 104 then o3 8 (c - 96) 0 else if c < 112 then o3 9 (c - 104) 0 else if c = 112 then o3 11 0 0 else if c < 120 then o3 12 (oopAt (c - 112)) 0
  else if c = 120 then o3 13 0 0 else if c < 124 then o3 14 (oopAt (c - 120)) 0 else if c < 126 then o3 (c - 109) 0 0
  else if 135 ≤ c ∧ c ≤ 137 then o3 (c - 116) 0 0 else if 144 ≤ c ∧ c ≤ 151 then o3 22 (c - 143) 0 else if 152 ≤ c ∧ c ≤ 159 then o3 24 (c - 151) 0
  else if 176 ≤ c ∧ c ≤ 191 then o3 25 (c - 176) 0 else if 192 ≤ c ∧ c ≤ 207 then o3 26 (c - 192) 0 else if 208 ≤ c then o3 17 (c % 16) (c / 16 - 13) else o3 0 0 0
def wideO (c n m : Int) : OpT :=
  if c = 128 then o3 (1 + n / 64) (n % 64) 0
  else if c ≤ 130 ∧ n / 64 = 2 then o3 0 0 0
  else if c = 129 ∧ n / 64 = 3 then o3 7 (n % 64) 0
  else if c = 130 ∧ n / 64 = 3 then o3 10 (n % 64) 0
  else if c = 129 then o3 (5 + n / 64) (n % 64) 0
  else if c = 130 then o3 (8 + n / 64) (n % 64) 0
  else if c = 131 then o3 17 (n % 32) (n / 32)
  else if c = 132 then o3 17 m n
  else if c = 133 then o3 18 (n % 32) (n / 32)
  else if c = 134 then o3 18 m n
  else if c < 168 then o3 22 ((c - 164) * 256 + n) 0
  else if c < 172 then o3 23 ((c - 168) * 256 + n) 0
  else o3 24 ((c - 172) * 256 + n) 0
/-- What is told by three bytes, of which as many count as the first one says. -/
def tellO (c n m : Int) : OpT :=
  { (if longN c = 1 then shortO c else if longN c = 2 then wideO c n 0 else wideO c n m) with l := longN c }
/-- The byte at a place, 0 where there is none. -/
def byt (bs : List Int) (i : Nat) : Int := bs.getD i 0
/-- What is told at a place, and the error. -/
def atE (bs : List Int) (at' : Int) : Int :=
  if at' < 0 ∨ (bs.length : Int) ≤ at' then 4 else if (bs.length : Int) - at' < longN (byt bs at'.toNat) then 5 else 0
def atO (bs : List Int) (at' : Int) : OpT :=
  if atE bs at' = 0 then tellO (byt bs at'.toNat) (byt bs (at'.toNat + 1)) (byt bs (at'.toNat + 2)) else zeroO

theorem longN_rng (c : Int) : longN c = 1 ∨ longN c = 2 ∨ longN c = 3 := by
  unfold longN; split
  · exact .inr (.inr rfl)
  · split
    · exact .inr (.inl rfl)
    · exact .inl rfl
end Go.Proofs.YtmcikjihkgplaaaDoor
