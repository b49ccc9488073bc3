/-
  What octets tell, on lists: the readers. No walks here.
-/
import Derived.Test.YtflmplnampgflaaO9
import Derived.Test.YtflmplnampgflaaM4
namespace Go.Proofs.Ytflmplnampgflaa
open Go.RowKit
set_option maxRecDepth 100000

attribute [local go_sem ↓] ex_ld23 ex_st23 ex_al23 ex_bu23 ex_eq23 ex_ne23 ex_ld26 ex_st26 ex_al26 ex_ld23o ex_st23o ex_bu26 ex_bu26k ex_bu26m ex_bu26l ex_bu26v ex_bu26w ex_eq29 ex_ne29
attribute [local go_sem] ptrB_at okPtr_at aggC_at agg32 agg36 isM_at eqV_m isRow_new isRow_new26 World.setRow_alloc_new ptr3_at okPtr3_at cutM_at putM_at isI_at isL_at bK_at bKM_at bKL_at bKVM_at bKV_at isV_at toV_at

/-- A sub. -/
structure Sb where
  k : Int
  m : Int
  v : Int
  M : Mk
  L : List Tr
deriving DecidableEq
theorem Sb.ext' {X Y : Sb} (h1 : X.k = Y.k) (h2 : X.m = Y.m) (h3 : X.v = Y.v) (h4 : X.M = Y.M) (h5 : X.L = Y.L) : X = Y := by
  cases X; cases Y; simp_all
def Sb.may (X : Sb) : Bool := mayS X.k X.m X.v X.M X.L
def Sb.oct (X : Sb) : List UInt8 := putS X.k X.m X.v X.M X.L

def modeR : List UInt8 → Option Sb
  | [u] => some ⟨1, (u.toNat : Int), 0, zM, []⟩
  | _ => none
def tripR (r : List UInt8) : Option Sb := if r.length ≤ 510 then (getL r).map fun L => ⟨3, 0, 0, zM, L⟩ else none
def forwR (f : Int) : List UInt8 → Option Sb
  | [] => none
  | c :: t => if c = 2 ∧ (f = 253 ∨ t = []) ∧ t.length ≤ 32 then some ⟨2, 0, f, padM t, []⟩ else none
def kindR (f : Int) (r : List UInt8) : Option Sb := if f = 1 then modeR r else if f = 3 then tripR r else forwR f r
/-- What octets tell. -/
def getS : List UInt8 → Option Sb
  | [] => none
  | f :: r => (kindR (f.toNat : Int) r).filter Sb.may

theorem forwR_cons (f : Int) (c : UInt8) (t : List UInt8) : forwR f (c :: t) = if c = 2 ∧ (f = 253 ∨ t = []) ∧ t.length ≤ 32 then some ⟨2, 0, f, padM t, []⟩ else none := rfl
theorem getS_cons (f : UInt8) (r : List UInt8) : getS (f :: r) = (kindR (f.toNat : Int) r).filter Sb.may := rfl
theorem modeR_no {r : List UInt8} (h : r.length ≠ 1) : modeR r = none := by
  match r, h with
  | [], _ => rfl
  | [_], h => exact absurd rfl h
  | _ :: _ :: _, _ => rfl
theorem one_of {r : List UInt8} (h : r.length = 1) : ∃ u, r = [u] := by
  match r, h with
  | [u], _ => exact ⟨u, rfl⟩

end Go.Proofs.Ytflmplnampgflaa
