/- What the package's guess reckons, as plain functions; that it is the only one that may be. -/
import Derived.Test.YtmcikjihkgplaaaDoorKBy
import Derived.Test.YtmcikjihkgplaaaDoorKTa
namespace Go.Proofs.YtmcikjihkgplaaaDoor
set_option maxRecDepth 1000000
open Go.RowKit

def oopIx (n : Int) : Int := if n = 4 then 0 else if n = 6 then 1 else if n = 2 then 2 else if n = -1 then 3 else if n = 1 then 4 else if n = 3 then 5 else if n = 5 then 6 else -1
def placeO (k n m : Int) : Int :=
  if k = 12 ∨ k = 14 then oopIx n else if k = 22 ∨ k = 24 then IntKind.i64.wrap (n - 1) else if k = 17 then IntKind.i64.wrap (IntKind.i64.wrap (16 * m) + n) else n
def G1 (k n m : Int) : Int := IntKind.u8.wrap (IntKind.i64.wrap ((headAt k.toNat).1 + placeO k n m))
def lowO (k n m : Int) : Int := IntKind.i64.wrap (IntKind.i64.wrap ((headAt k.toNat).2.2.1 + IntKind.i64.wrap (32 * m)) + n)
def G2 (k n m : Int) : Int := IntKind.u8.wrap (IntKind.i64.wrap ((headAt k.toNat).2.1 + lowO k n m / 256))
def G2' (k n m : Int) : Int := IntKind.u8.wrap (lowO k n m)
def G3 (k : Int) : Int := IntKind.u8.wrap (headAt k.toNat).2.2.2

theorem g1_all : ∀ c : Nat, c < 256 → longN (c : Int) = 1 → (shortO c).k ≠ 0 → G1 (shortO c).k (shortO c).n (shortO c).m = c := by decide +kernel
theorem g2_all : ∀ d : Nat, d < 48 → ∀ n : Nat, n < 256 → longN ((128 + d : Nat) : Int) = 2 → (wideO ((128 + d : Nat) : Int) n 0).k ≠ 0 → G2 (wideO ((128 + d : Nat) : Int) n 0).k (wideO ((128 + d : Nat) : Int) n 0).n (wideO ((128 + d : Nat) : Int) n 0).m = ((128 + d : Nat) : Int) ∧ G2' (wideO ((128 + d : Nat) : Int) n 0).k (wideO ((128 + d : Nat) : Int) n 0).n (wideO ((128 + d : Nat) : Int) n 0).m = n := by decide +kernel
end Go.Proofs.YtmcikjihkgplaaaDoor
