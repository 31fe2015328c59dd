import PyProof.Rows.All
import Wide.All
import OpenK.AllK
import Wide.FinOn
import PySem.Syntax
import HandS.ForMost
import HandS.ForExc
import HandS.ExcInit
import HandS.CallSlots
import HandS.Wide
import HandS.Zip
import HandS.Flow
import HandS.Style
import HandS.TupAny
import HandS.TupMul
import PyProof.ReprRoads
import PyProof.ReprHeadsEmpty
import PyProof.StrReplace2
import PyProof.StrLawsRepr
import KE.KIntText
import PyProof.Rows.StrOr
import HandS.RaiseMore
import KE.IntTextLaws
import HandS.IsInst
import HandS.Deep
import KE.KTupSum
import HandS.ExcOwn
import HandS.ExcField
import KE.GoesMore
import KE.GoesEnum
import HandS.SortKw
import HandS.Conv
import KE.DatumOrd
import HandS.Comp
import HandS.Small
import HandS.TryOnly
import HandS.Codes
import HandS.Words
import PySem.Challenge.RW_threerims_k01_integers_and_partitions
set_option Elab.async false
set_option linter.all false
set_option maxRecDepth 100000
/-! Mi: a small evaluator for the Python subset of the program and the laws, over pure values and a store of changeable lists and dicts. Its soundness over the library's model stands in MiS. -/
namespace MI
open PySem

/-- a value that never changes (a list or a dict in it is one that nobody changes any more) -/
inductive PV where
  | non | bl (b : Bool) | int (i : Int) | str (x : Str)
  | tup (xs : List PV) | lst (xs : List PV) | dic (ks vs : List PV) | exc (c : Nat) (fs : List PV)
  deriving Inhabited
/-- a value, or the place of a changeable object -/
inductive MV where
  | pv (v : PV) | loc (n : Nat)
  deriving Inhabited
abbrev DKey := Sum Int Str
/-- a changeable object; lock: a list that is only read -/
inductive MO where
  | lst (xs : List MV) | lock (xs : List PV) | dct (kvs : List (DKey × MV))
abbrev Sto := List MO
abbrev Env := List (Option MV)
inductive R (α : Type) where
  | ok (a : α) | exc (c : Nat) (fs : List PV) (h : Sto) | bad
abbrev RE := R (MV × Sto)

inductive BO where | add | sub | mul | fdiv | mod | pow
  deriving DecidableEq
inductive CO where | eq | ne | lt | le | gt | ge | is | isnot | in_ | notin
  deriving DecidableEq
inductive TyN where | int | bool | str | tuple | list
  deriving DecidableEq
inductive BF where | len | tuple | list | repr | str | int | min | max | sum | sorted | abs | all | any
  deriving DecidableEq
inductive TG where | nm (i : Nat) | tp (l : List Nat)
/-- what has no constructor of its own: list(range(a)); min(l, default=d) -/
inductive EX where | lrng | mind (d : Int)
  deriving DecidableEq
mutual
inductive IE where
  | var (i : Nat) | k (v : PV) | glob (x : Str) (v : PV)
  | bin (o : BO) (a b : IE) | neg (a : IE)
  | cmp (o : CO) (a b : IE) | cmp2 (o o2 : CO) (a b c : IE)
  | and (a b : IE) | or (a b : IE) | not (a : IE) | ite (c a b : IE)
  | tup (es : IEs) | lst (es : IEs) | newl (es : IEs) | newd (ks : List Str) (es : IEs) | emp
  | idx (a b : IE) | sl (a : IE) (lo hi : IO) | rev (a : IE)
  | call (f : Nat) (es : IEs) (ds : List PV)
  | callk (f : Nat) (es : IEs) (ns : List Str) (ks : IEs) (perm : List Nat)
  | isI (t : TyN) (e : IE)
  | blt (b : BF) (es : IEs)
  | comp (new : Bool) (tg : TG) (own : List Nat) (it : IT) (cs : IEs) (e : IE)
  | app (o e : IE)
  | fld (e : IE) (x : Str)
  | mkb (o : BO) (a b : IE) | mkl (a : IE)
  | cmp3 (o o2 o3 : CO) (a b c d : IE) | frz (a : IE)
  | lcn (new : Bool) (own : List Nat) (tg : TG) (it : IT) (cs : IEs) (r : ICl)
  | ext (x : EX) (es : IEs)
inductive IEs where | nil | cons (e : IE) (es : IEs)
inductive IO where | no | so (e : IE)
inductive IT where | val (e : IE) | rng1 (a : IE) | rng2 (a b : IE) | enum (e : IE) | zip (a b : IE)
/-- the clauses behind the first, and the element; vs: the slots of the target -/
inductive ICl where | el (e : IE) | cons (tg : TG) (vs : List Nat) (it : IT) (cs : IEs) (r : ICl)
end
mutual
inductive IS where
  | set (i : Nat) (e : IE) | par (i j : Nat) (a b : IE) | unp (l : List Nat) (e : IE) | sub (o i e : IE)
  | ret (e : IE) | retn | ex (e : IE) | iff (c : IE) (a b : ISs) | for_ (tg : TG) (it : IT) (b : ISs) | whl (c : IE) (b : ISs)
  | rai (c : Nat) (es : IEs) (ds : List PV) | tri (b : ISs) (c : Nat) (as_ : Option Nat) (hd : ISs) | pass | brk | cnt
inductive ISs where | nil | cons (s : IS) (ss : ISs)
end
/-- what a statement ends in -/
inductive Fl where
  | nx (e : Env) | rt (v : MV) | bk (e : Env) | ct (e : Env) | ex (c : Nat) (fs : List PV) (e : Env)
abbrev RS := Option (Fl × Sto)

/-- an item that a loop is given: one value, or a new tuple of values -/
inductive Item where | one (v : MV) | many (vs : List MV)

/-- what is around: calls (function, base, arguments), the turns that a while may take, the base below which objects take pure values only, the text of repr, the fields' names of an exception class -/
structure Cn where
  C : Nat → Nat → List MV → Sto → RE
  fuel : Nat
  B : Nat
  rp : PV → Str
  fields : Nat → List Str
  nx : Nat → Bool
  sub : Nat → Nat → Bool

def sizeLim : Nat := 16777216
def seq1 {β : Type} (r : RE) (f : MV → Sto → R β) : R β := match r with
  | .ok (v, h) => f v h
  | .exc c fs h => .exc c fs h
  | .bad => .bad
def seqL {β : Type} (r : R (List MV × Sto)) (f : List MV → Sto → R β) : R β := match r with
  | .ok (v, h) => f v h
  | .exc c fs h => .exc c fs h
  | .bad => .bad
@[simp] theorem seq1_ok {β : Type} (v : MV) (h : Sto) (f : MV → Sto → R β) : seq1 (.ok (v, h)) f = f v h := rfl
@[simp] theorem seqL_ok {β : Type} (v : List MV) (h : Sto) (f : List MV → Sto → R β) : seqL (.ok (v, h)) f = f v h := rfl

def pure? : MV → Option PV
  | .pv v => some v
  | .loc _ => none
def pures : List MV → Option (List PV)
  | [] => some []
  | .pv v :: r => match pures r with | some vs => some (v :: vs) | none => none
  | .loc _ :: _ => none
/-- the items of a list or tuple -/
def seqv (v : MV) (h : Sto) : Option (List MV) := match v with
  | .pv (.tup xs) => some (xs.map .pv)
  | .pv (.lst xs) => some (xs.map .pv)
  | .loc n => match h[n]? with
    | some (.lst xs) => some xs
    | some (.lock xs) => some (xs.map .pv)
    | _ => none
  | _ => none
/-- the pure items of a list or tuple -/
def seqp (v : MV) (h : Sto) : Option (List PV) := match seqv v h with
  | some xs => pures xs
  | none => none
/-- the pure items of a list -/
def seqpL (v : MV) (h : Sto) : Option (List PV) := match v with
  | .pv (.tup _) => none
  | v => seqp v h
/-- the value as it stands -/
def snap (v : MV) (h : Sto) : Option PV := match v with
  | .pv v => some v
  | .loc n => match h[n]? with
    | some (.lst xs) => (match pures xs with | some ps => some (.lst ps) | none => none)
    | _ => none
/-- the value, also of a list that is only read -/
def snapK (v : MV) (h : Sto) : Option PV := match v with
  | .loc n => (match h[n]? with
    | some (.lock xs) => some (.lst xs)
    | _ => snap (.loc n) h)
  | .pv v => some v
mutual
def pvEq : PV → PV → Bool
  | .non, .non => true
  | .bl a, .bl b => a == b
  | .bl a, .int j => (if a then 1 else 0) == j
  | .int i, .bl b => i == (if b then 1 else 0)
  | .int i, .int j => i == j
  | .str x, .str y => x == y
  | .tup xs, .tup ys => pvEqs xs ys
  | .lst xs, .lst ys => pvEqs xs ys
  | _, _ => false
def pvEqs : List PV → List PV → Bool
  | [], [] => true
  | x :: xs, y :: ys => pvEq x y && pvEqs xs ys
  | _, _ => false
end
mutual
/-- no dict, no error in it; not deeper than d -/
def plain (d : Nat) : PV → Bool
  | .str x => x.cps.all (· < 1114112)
  | .tup xs => match d with | 0 => false | d + 1 => plains d xs
  | .lst xs => match d with | 0 => false | d + 1 => plains d xs
  | .dic _ _ => false
  | .exc _ _ => false
  | _ => true
def plains (d : Nat) : List PV → Bool
  | [] => true
  | x :: xs => plain d x && plains d xs
end
mutual
/-- room for the text of repr; none: no such text here -/
def rlen (d : Nat) : PV → Option Nat
  | .non => some 4
  | .bl _ => some 5
  | .int i => if i.natAbs.log2 < 1920 then some 1922 else if i.natAbs.log2 < 12000 then some 12002 else none
  | .str x => if x.cps.all (· < 1114112) = true then some (10 * x.length + 2) else none
  | .dic ks vs => if (ks.isEmpty && vs.isEmpty) = true then some 2 else none
  | .tup xs => match d with | 0 => none | d + 1 => (rlens d xs).map (· + 3)
  | .lst xs => match d with | 0 => none | d + 1 => (rlens d xs).map (· + 3)
  | _ => none
def rlens (d : Nat) : List PV → Option Nat
  | [] => some 0
  | x :: xs => match rlen d x, rlens d xs with
    | some a, some b => some (a + b + 2)
    | _, _ => none
end
def truth (v : MV) (h : Sto) : Option Bool := match v with
  | .pv .non => some false
  | .pv (.bl b) => some b
  | .pv (.int i) => some (i != 0)
  | .pv (.str x) => if x.length ≤ sizeLim then some (x.length != 0) else none
  | .pv (.tup xs) => some (!xs.isEmpty)
  | .pv (.lst xs) => some (!xs.isEmpty)
  | .loc n => match h[n]? with
    | some (.lst xs) => some (!xs.isEmpty)
    | some (.lock xs) => some (!xs.isEmpty)
    | _ => none
  | _ => none
def ixN (n : Nat) (i : Int) : Option Nat := if 0 ≤ i then (if i < n then some i.toNat else none) else if -(n : Int) ≤ i then some (i + n).toNat else none
def keyOf : MV → Option DKey
  | .pv (.int i) => some (.inl i)
  | .pv (.str x) => some (.inr x)
  | _ => none
def klook (k : DKey) (kvs : List (DKey × MV)) : Option MV := (kvs.find? fun kv => decide (kv.1 = k)).map (·.2)
def kput (k : DKey) (v : MV) (kvs : List (DKey × MV)) : List (DKey × MV) :=
  if (kvs.any fun kv => decide (kv.1 = k)) = true then kvs.map (fun kv => if kv.1 = k then (kv.1, v) else kv) else kvs ++ [(k, v)]
def sIx (n d : Nat) : Option Int → Nat
  | none => d
  | some v => if v < 0 then (v + (n : Int)).toNat else min v.toNat n
def cut {α : Type} (xs : List α) (lo hi : Option Int) : List α := (xs.drop (sIx xs.length 0 lo)).take (sIx xs.length xs.length hi - sIx xs.length 0 lo)

def okP (v : PV) (h : Sto) : RE := .ok (.pv v, h)
def lists (x : PV) (y : PV) : Option (List PV × List PV) := match x, y with
  | .lst xs, .lst ys => some (xs, ys)
  | _, _ => none
/-- a op b -/
def oBin (o : BO) (x y : MV) (h : Sto) : RE := match o, snap x h, snap y h with
  | .add, some (.int i), some (.int j) => okP (.int (i + j)) h
  | .add, some (.tup xs), some (.tup ys) => if xs.length + ys.length ≤ sizeLim then okP (.tup (xs ++ ys)) h else .bad
  | .add, some (.lst xs), some (.lst ys) => if xs.length + ys.length ≤ sizeLim then okP (.lst (xs ++ ys)) h else .bad
  | .add, some (.str a), some (.str b) => if a.length + b.length ≤ sizeLim then okP (.str (a ++ b)) h else .bad
  | .add, some (.bl i), some (.int j) => okP (.int ((if i = true then (1 : Int) else 0) + j)) h
  | .sub, some (.int i), some (.int j) => okP (.int (i - j)) h
  | .sub, some (.bl i), some (.int j) => okP (.int ((if i = true then (1 : Int) else 0) - j)) h
  | .sub, some (.int i), some (.bl j) => okP (.int (i - if j = true then (1 : Int) else 0)) h
  | .mul, some (.int i), some (.int j) => if i.natAbs.log2 + j.natAbs.log2 < 1000000 then okP (.int (i * j)) h else .bad
  | .mul, some (.tup xs), some (.int k) => if k = 1 ∨ 2 ≤ k ∧ k ≤ 1000 ∧ xs.isEmpty = false ∧ xs.length ≤ 1000 then okP (.tup (List.replicate k.toNat xs).flatten) h else .bad
  | .mul, some (.lst xs), some (.int k) => if 0 ≤ k ∧ k ≤ 1000 ∧ xs.length * k.toNat ≤ sizeLim then okP (.lst (List.replicate k.toNat xs).flatten) h else .bad
  | .mul, some (.str a), some (.int k) => if 2 ≤ k ∧ k ≤ 1000 ∧ 0 < a.length ∧ a.length ≤ 1000 then okP (.str ⟨(List.replicate k.toNat a.cps).foldl (· ++ ·) #[]⟩) h else .bad
  | .fdiv, some (.int i), some (.int j) => if 0 < j ∧ j.natAbs.log2 < 9000 then okP (.int (i / j)) h else .bad
  | .mod, some (.int i), some (.int j) => if 0 < j then okP (.int (i % j)) h else .bad
  | .pow, some (.int i), some (.int j) => if 0 ≤ j ∧ j ≤ 1000 ∧ i.natAbs ≤ 1000 then okP (.int (i ^ j.toNat)) h else .bad
  | _, _, _ => .bad
/-- any tuple == (), a list with something in it == [] -/
def nilEq (x y : PV) : Option Bool := match x, y with
  | .tup xs, .tup [] => some xs.isEmpty
  | .lst (_ :: _), .lst [] => some false
  | _, _ => none
/-- a == b of plain data, and of a tuple with () -/
def eqOf (x y : PV) : Option Bool := match x, y with
  | .str a, .str b => some (a == b)
  | x, y => if plain 60 x = true ∧ plain 60 y = true then some (pvEq x y) else nilEq x y
/-- x in a list -/
def inOf (x y : PV) : Option Bool := match y with
  | .lst ys => if plain 60 x = true ∧ plain 60 (.lst ys) = true then some (ys.any fun z => pvEq z x) else none
  | _ => none
def isNon : MV → Bool
  | .pv .non => true
  | _ => false
def okB (b : Option Bool) (h : Sto) : RE := match b with
  | some b => okP (.bl b) h
  | none => .bad
def ints2 (f : Int → Int → Bool) (x y : MV) (h : Sto) : RE := match x, y with
  | .pv (.int i), .pv (.int j) => okP (.bl (f i j)) h
  | _, _ => .bad
def oCmp (o : CO) (x y : MV) (h : Sto) : RE := match o with
  | .eq => (match snap x h, snap y h with | some a, some b => okB (eqOf a b) h | _, _ => .bad)
  | .ne => (match snap x h, snap y h with | some a, some b => okB ((eqOf a b).map (!·)) h | _, _ => .bad)
  | .lt => ints2 (fun i j => decide (i < j)) x y h
  | .le => ints2 (fun i j => decide (i ≤ j)) x y h
  | .gt => ints2 (fun i j => decide (j < i)) x y h
  | .ge => ints2 (fun i j => decide (j ≤ i)) x y h
  | .is => if isNon y then okP (.bl (isNon x)) h else .bad
  | .isnot => if isNon y then okP (.bl (!isNon x)) h else .bad
  | .in_ => (match snap x h, snap y h with | some a, some b => okB (inOf a b) h | _, _ => .bad)
  | .notin => (match snap x h, snap y h with | some a, some b => okB ((inOf a b).map (!·)) h | _, _ => .bad)
/-- a[b] -/
def oIdx (x y : MV) (h : Sto) : RE := match x with
  | .loc n => match h[n]? with
    | some (.dct kvs) => (match keyOf y with
      | some k => (match klook k kvs with | some v => .ok (v, h) | none => .bad)
      | none => .bad)
    | some (.lst xs) => (match y with
      | .pv (.int i) => (match ixN xs.length i with
        | some j => (match xs[j]? with | some v => .ok (v, h) | none => .bad)
        | none => .bad)
      | _ => .bad)
    | some (.lock xs) => (match y with
      | .pv (.int i) => (match ixN xs.length i with
        | some j => (match xs[j]? with | some v => okP v h | none => .bad)
        | none => .bad)
      | _ => .bad)
    | none => .bad
  | .pv (.tup xs) => (match y with
    | .pv (.int i) => (match ixN xs.length i with
      | some j => (match xs[j]? with | some v => okP v h | none => .bad)
      | none => .bad)
    | _ => .bad)
  | .pv (.lst xs) => (match y with
    | .pv (.int i) => (match ixN xs.length i with
      | some j => (match xs[j]? with | some v => okP v h | none => .bad)
      | none => .bad)
    | _ => .bad)
  | _ => .bad
def optI : Option MV → Option (Option Int)
  | none => some none
  | some (.pv (.int i)) => some (some i)
  | _ => none
def oSl (x : MV) (lo hi : Option MV) (h : Sto) : RE := match optI lo, optI hi, snapK x h with
  | some l, some u, some (.tup xs) => okP (.tup (cut xs l u)) h
  | some l, some u, some (.lst xs) => okP (.lst (cut xs l u)) h
  | _, _, _ => .bad
def oRev (x : MV) (h : Sto) : RE := match snap x h with
  | some (.tup xs) => okP (.tup xs.reverse) h
  | some (.lst xs) => okP (.lst xs.reverse) h
  | _ => .bad
def isTy (t : TyN) (v : MV) (h : Sto) : RE := match t, snap v h with
  | .int, some (.int _) => okP (.bl true) h
  | .int, some (.bl _) => okP (.bl true) h
  | .bool, some (.bl _) => okP (.bl true) h
  | .str, some (.str _) => okP (.bl true) h
  | .tuple, some (.tup _) => okP (.bl true) h
  | .list, some (.lst _) => okP (.bl true) h
  | _, some (.exc _ _) => .bad
  | _, some _ => okP (.bl false) h
  | _, none => .bad
def toInts : List PV → Option (List Int)
  | [] => some []
  | .int i :: r => match toInts r with | some l => some (i :: l) | none => none
  | _ :: _ => none
def toBools : List PV → Option (List Bool)
  | [] => some []
  | .bl i :: r => match toBools r with | some l => some (i :: l) | none => none
  | _ :: _ => none
def minI (a : Int) (l : List Int) : Int := l.foldl (fun m x => if x < m then x else m) a
def maxI (a : Int) (l : List Int) : Int := l.foldl (fun m x => if m < x then x else m) a
def isDig (x : Str) : Bool := x.cps.toList.all fun c => decide (48 ≤ c) && decide (c ≤ 57)
def digVal (x : Str) : Nat := x.cps.toList.foldl (fun acc c => acc * 10 + (c - 48)) 0
def oBlt (rp : PV → Str) (b : BF) (vs : List MV) (h : Sto) : RE := match b, vs with
  | .len, [v] => (match seqv v h with | some xs => okP (.int xs.length) h | none => .bad)
  | .tuple, [v] => (match seqp v h with | some xs => okP (.tup xs) h | none => .bad)
  | .list, [v] => (match seqp v h with | some xs => okP (.lst xs) h | none => .bad)
  | .repr, [v] => (match snap v h with
    | some p => (match rlen 60 p with | some n => if n ≤ 16000000 then okP (.str (rp p)) h else .bad | none => .bad)
    | none => .bad)
  | .str, [.pv (.int i)] => if i.natAbs.log2 < 12000 then okP (.str (rp (.int i))) h else .bad
  | .str, [.pv (.bl i)] => okP (.str (rp (.bl i))) h
  | .str, [.pv (.tup xs)] => (match toInts xs, rlen 60 (.tup xs) with | some l, some n => if (l.all fun i => decide (i.natAbs.log2 < 1920)) = true ∧ n ≤ 16000000 then okP (.str (rp (.tup xs))) h else .bad | _, _ => .bad)
  | .str, [.pv (.str x)] => okP (.str x) h
  | .int, [.pv (.int i)] => okP (.int i) h
  | .int, [.pv (.str x)] => if isDig x = true ∧ 0 < x.length ∧ x.length ≤ 4300 then okP (.int (digVal x : Nat)) h else .bad
  | .min, [.pv (.int i), .pv (.int j)] => okP (.int (if j < i then j else i)) h
  | .max, [.pv (.int i), .pv (.int j)] => okP (.int (if j > i then j else i)) h
  | .min, [.pv (.int i), .pv (.int j), .pv (.int k)] => okP (.int (minI i [j, k])) h
  | .max, [.pv (.int i), .pv (.int j), .pv (.int k)] => okP (.int (maxI i [j, k])) h
  | .min, [v] => (match seqp v h with
    | some xs => (match toInts xs with | some (a :: l) => okP (.int (minI a l)) h | _ => .bad)
    | none => .bad)
  | .max, [v] => (match seqp v h with
    | some xs => (match toInts xs with | some (a :: l) => okP (.int (maxI a l)) h | _ => .bad)
    | none => .bad)
  | .sum, [v] => (match seqp v h with
    | some xs => (match toInts xs with | some l => okP (.int l.sum) h | none => .bad)
    | none => .bad)
  | .abs, [.pv (.int i)] => okP (.int (if i < 0 then -i else i)) h
  | .all, [v] => (match seqpL v h with
    | some xs => (match toBools xs with | some l => okP (.bl (l.all id)) h | none => .bad)
    | none => .bad)
  | .any, [v] => (match seqpL v h with
    | some xs => (match toBools xs with | some l => okP (.bl (l.any id)) h | none => .bad)
    | none => .bad)
  | _, _ => .bad
def oExt (rp : PV → Str) (x : EX) (vs : List MV) (h : Sto) : RE := match x, vs with
  | .lrng, [.pv (.int j)] => if 0 ≤ j ∧ j ≤ 1000000 then okP (.lst ((List.range j.toNat).map fun (i : Nat) => .int (i : Int))) h else .bad
  | .mind d, [v] => (match seqpL v h with
    | some xs => (match toInts xs with | some [] => okP (.int d) h | some (a :: l) => okP (.int (minI a l)) h | none => .bad)
    | none => .bad)
  | _, _ => .bad
/-- a value may go into the object at n -/
def may (B n : Nat) : MV → Bool
  | .pv _ => true
  | .loc _ => !decide (n < B)
/-- o[i] = v -/
def oSet (B : Nat) (o i v : MV) (h : Sto) : Option Sto := match o with
  | .loc n => if may B n v = true then (match h[n]? with
    | some (.lst xs) => (match i with
      | .pv (.int i) => (match ixN xs.length i with | some j => some (h.set n (.lst (xs.set j v))) | none => none)
      | _ => none)
    | some (.dct kvs) => (match keyOf i with
      | some k => if kvs.length < 1000000 then some (h.set n (.dct (kput k v kvs))) else none
      | none => none)
    | _ => none) else none
  | .pv _ => none
def oApp (B : Nat) (o v : MV) (h : Sto) : RE := match o with
  | .loc n => if may B n v = true then (match h[n]? with
    | some (.lst xs) => if xs.length < sizeLim then okP .non (h.set n (.lst (xs ++ [v]))) else .bad
    | _ => .bad) else .bad
  | .pv _ => .bad
/-- a list that may change -/
def isOpenL (x : MV) (h : Sto) : Bool := match x with
  | .loc n => (match h[n]? with | some (.lst _) => true | _ => false)
  | .pv _ => false
def oLst (new : Bool) (vs : List MV) (h : Sto) : RE :=
  if vs.length ≤ sizeLim then (if new = true then .ok (.loc h.length, h ++ [.lst vs]) else match pures vs with
    | some xs => okP (.lst xs) h
    | none => .bad) else .bad
/-- the new list is one that may change -/
def mkOf (r : RE) : RE := match r with
  | .ok (.pv (.lst xs), h) => .ok (.loc h.length, h ++ [.lst (xs.map .pv)])
  | _ => .bad
def zipD (ks : List Str) (vs : List MV) : List (DKey × MV) := (ks.map Sum.inr).zip vs
def fieldOf (nx : Nat → Bool) (fields : Nat → List Str) (v : MV) (x : Str) (h : Sto) : RE := match v with
  | .pv (.exc c fs) => if nx c = true then (match ((fields c).zip fs).lookup x with | some v => okP v h | none => .bad) else .bad
  | _ => .bad
/-- the arguments in the parameters' order -/
def permute (perm : List Nat) (vs : List MV) : Option (List MV) := match perm with
  | [] => some []
  | i :: r => match vs[i]?, permute r vs with
    | some v, some l => some (v :: l)
    | _, _ => none
def setAll : List Nat → List MV → Env → Option Env
  | [], [], e => some e
  | i :: r, v :: vs, e => setAll r vs (e.set i (some v))
  | _, _, _ => none
/-- an item given to a target -/
def give (tg : TG) (x : Item) (h : Sto) (e : Env) : Option Env := match tg, x with
  | .nm i, .one v => some (e.set i (some v))
  | .nm i, .many vs => (match pures vs with | some xs => some (e.set i (some (.pv (.tup xs)))) | none => none)
  | .tp l, .many vs => setAll l vs e
  | .tp l, .one (.pv (.tup xs)) => setAll l (xs.map .pv) e
  | .tp _, .one _ => none
def wipe (e : Env) : List Nat → Env
  | [] => e
  | v :: vs => (wipe e vs).set v none
def itemsOf (v : MV) (h : Sto) : Option (List MV) := match v with
  | .pv (.tup xs) => some (xs.map .pv)
  | .pv (.lst xs) => some (xs.map .pv)
  | .loc n => (match h[n]? with | some (.lock xs) => some (xs.map .pv) | _ => none)
  | _ => none
def isTupV : MV → Bool
  | .pv (.tup _) => true
  | _ => false
def enumFrom (n : Nat) : List MV → List Item
  | [] => []
  | x :: xs => .many [.pv (.int n), x] :: enumFrom (n + 1) xs
def zipI : List MV → List MV → List Item
  | x :: xs, y :: ys => .many [x, y] :: zipI xs ys
  | _, _ => []
def rangeI (lo : Int) (n : Nat) : List Item := (List.range n).map fun (k : Nat) => .one (.pv (.int (lo + (k : Int))))
def small (i : Int) : Bool := decide (-(2 ^ 62) ≤ i) && decide (i < 2 ^ 62)
/-- a list that nobody changes any more: its value, and the store behind it -/
def frzL (f : MV → Sto → Option (PV × Sto)) : List MV → Sto → Option (List PV × Sto)
  | [], h => some ([], h)
  | x :: xs, h => match f x h with
    | some (p, h1) => (match frzL f xs h1 with
      | some (ps, h2) => some (p :: ps, h2)
      | none => none)
    | none => none
def frzV : Nat → MV → Sto → Option (PV × Sto)
  | 0, v, h => (match v with | .pv v => some (v, h) | .loc _ => none)
  | d + 1, v, h => match v with
    | .pv v => some (v, h)
    | .loc k => match h[k]? with
      | some (.lst xs) => (match frzL (frzV d) xs h with
        | some (ps, h1) => (match h1[k]? with
          | some (.lst _) => some (.lst ps, h1.set k (.lock ps))
          | _ => none)
        | none => none)
      | _ => none
def isLock (v : MV) (h : Sto) : Bool := match v with
  | .loc k => (match h[k]? with | some (.lock _) => true | _ => false)
  | .pv _ => false
def oFrz (v : MV) (h : Sto) : RE := if isLock v h = true then .ok (v, h) else match frzV 4 v h with
  | some (p, h1) => okP p h1
  | none => .bad
/-- a comprehension's turns -/
def turns (f : Item → Sto → R (Option MV × Sto)) : List Item → Sto → R (List MV × Sto)
  | [], h => .ok ([], h)
  | x :: xs, h => match f x h with
    | .ok (o, h1) => (match turns f xs h1 with
      | .ok (vs, h2) => .ok ((match o with | some v => v :: vs | none => vs), h2)
      | .exc c fs h2 => .exc c fs h2
      | .bad => .bad)
    | .exc c fs h1 => .exc c fs h1
    | .bad => .bad
/-- the slots of all targets -/
def dvs : ICl → List Nat
  | .el _ => []
  | .cons _ vs _ _ r => vs ++ dvs r
/-- the turns of a clause -/
def iterN (f : Item → Sto → Option Sto) : List Item → Sto → Option Sto
  | [], h => some h
  | x :: xs, h => match f x h with
    | some h1 => iterN f xs h1
    | none => none
mutual
def evE (c : Cn) : IE → Env → Sto → RE
  | .var i, e, h => (match e[i]? with | some (some v) => .ok (v, h) | _ => .bad)
  | .k v, _, h => okP v h
  | .glob _ v, _, h => okP v h
  | .bin o a b, e, h => seq1 (evE c a e h) fun x h => seq1 (evE c b e h) fun y h => oBin o x y h
  | .neg a, e, h => seq1 (evE c a e h) fun x h => (match x with | .pv (.int i) => okP (.int (-i)) h | _ => .bad)
  | .cmp o a b, e, h => seq1 (evE c a e h) fun x h => seq1 (evE c b e h) fun y h => oCmp o x y h
  | .cmp2 o o2 a b d, e, h => seq1 (evE c a e h) fun x h => seq1 (evE c b e h) fun y h => seq1 (oCmp o x y h) fun r h => (match r with
      | .pv (.bl true) => seq1 (evE c d e h) fun z h => oCmp o2 y z h
      | .pv (.bl false) => okP (.bl false) h
      | _ => .bad)
  | .and a b, e, h => seq1 (evE c a e h) fun x h => (match x with
      | .pv (.bl true) => evE c b e h
      | .pv (.bl false) => okP (.bl false) h
      | _ => .bad)
  | .or a b, e, h => seq1 (evE c a e h) fun x h => (match x with
      | .pv (.bl false) => evE c b e h
      | .pv (.bl true) => okP (.bl true) h
      | _ => .bad)
  | .not a, e, h => seq1 (evE c a e h) fun x h => okB ((truth x h).map (!·)) h
  | .ite t a b, e, h => (match evT c t e h with
      | .ok (true, h) => evE c a e h
      | .ok (false, h) => evE c b e h
      | .exc c fs h => .exc c fs h
      | .bad => .bad)
  | .tup es, e, h => seqL (evEs c es e h) fun vs h => if vs.length ≤ sizeLim then (match pures vs with | some xs => okP (.tup xs) h | none => .bad) else .bad
  | .lst es, e, h => seqL (evEs c es e h) fun vs h => oLst false vs h
  | .newl es, e, h => seqL (evEs c es e h) fun vs h => oLst true vs h
  | .newd ks es, e, h => seqL (evEs c es e h) fun vs h => if vs.length = ks.length ∧ vs.length ≤ 15 ∧ ks.Nodup then .ok (.loc h.length, h ++ [.dct (zipD ks vs)]) else .bad
  | .emp, _, h => okP (.dic [] []) h
  | .idx a b, e, h => seq1 (evE c a e h) fun x h => seq1 (evE c b e h) fun y h => oIdx x y h
  | .sl a lo hi, e, h => seq1 (evE c a e h) fun x h => (match evO c lo e h with
      | .ok (l, h) => (match evO c hi e h with
        | .ok (u, h) => oSl x l u h
        | .exc c fs h => .exc c fs h
        | .bad => .bad)
      | .exc c fs h => .exc c fs h
      | .bad => .bad)
  | .rev a, e, h => seq1 (evE c a e h) fun x h => oRev x h
  | .call f es ds, e, h => seqL (evEs c es e h) fun vs h => c.C f c.B (vs ++ ds.map .pv) h
  | .callk f es _ ks perm, e, h => seqL (evEs c es e h) fun vs h => seqL (evEs c ks e h) fun ws h => (match permute perm (vs ++ ws) with
      | some l => c.C f c.B l h
      | none => .bad)
  | .isI t a, e, h => seq1 (evE c a e h) fun x h => isTy t x h
  | .blt b es, e, h => seqL (evEs c es e h) fun vs h => oBlt c.rp b vs h
  | .comp new tg own it cs el, e, h => (match evI c it e h with
      | .ok (its, h) => seqL (turns (fun x h => match give tg x h (wipe e own) with
          | some e' => (match evC c cs e' h with
            | .ok (true, h) => (match evE c el e' h with
              | .ok (v, h) => .ok (some v, h)
              | _ => .bad)
            | .ok (false, h) => .ok (none, h)
            | _ => .bad)
          | none => .bad) its h) fun vs h => oLst new vs h
      | .exc c fs h => .exc c fs h
      | .bad => .bad)
  | .app o a, e, h => seq1 (evE c o e h) fun x h => if isOpenL x h = true then seq1 (evE c a e h) fun y h => oApp c.B x y h else .bad
  | .fld a x, e, h => seq1 (evE c a e h) fun v h => fieldOf c.nx c.fields v x h
  | .mkb o a b, e, h => seq1 (evE c a e h) fun x h => seq1 (evE c b e h) fun y h => mkOf (oBin o x y h)
  | .mkl a, e, h => seq1 (evE c a e h) fun x h => mkOf (oBlt c.rp .list [x] h)
  | .cmp3 o o2 o3 a b d f, e, h => seq1 (evE c a e h) fun x h => seq1 (evE c b e h) fun y h => seq1 (oCmp o x y h) fun r h => (match r with
      | .pv (.bl true) => seq1 (evE c d e h) fun z h => seq1 (oCmp o2 y z h) fun r h => (match r with
        | .pv (.bl true) => seq1 (evE c f e h) fun w h => oCmp o3 z w h
        | .pv (.bl false) => okP (.bl false) h
        | _ => .bad)
      | .pv (.bl false) => okP (.bl false) h
      | _ => .bad)
  | .frz a, e, h => seq1 (evE c a e h) fun x h => oFrz x h
  | .lcn new own tg it cs r, e, h => (match evI c it e h with
      | .ok (its, h0) => (match iterN (fun x h => match give tg x h (wipe e own) with
          | some e' => (match evC c cs e' h with
            | .ok (true, h) => evD c r h0.length e' h
            | .ok (false, h) => some h
            | _ => none)
          | none => none) its (h0 ++ [.lst []]) with
        | some h1 => if new = true then .ok (.loc h0.length, h1) else oFrz (.loc h0.length) h1
        | none => .bad)
      | .exc c fs h => .exc c fs h
      | .bad => .bad)
  | .ext x es, e, h => seqL (evEs c es e h) fun vs h => oExt c.rp x vs h
/-- a turn behind its tests; d: the list that grows -/
def evD (c : Cn) : ICl → Nat → Env → Sto → Option Sto
  | .el a, d, e, h => (match evE c a e h with
      | .ok (v, h) => (match oApp c.B (.loc d) v h with
        | .ok (_, h) => some h
        | _ => none)
      | _ => none)
  | .cons tg vs it cs r, d, e, h => (match evI c it e h with
      | .ok (its, h) => iterN (fun x h => match give tg x h (wipe e (vs ++ dvs r)) with
          | some e' => (match evC c cs e' h with
            | .ok (true, h) => evD c r d e' h
            | .ok (false, h) => some h
            | _ => none)
          | none => none) its h
      | _ => none)
/-- a test -/
def evT (c : Cn) : IE → Env → Sto → R (Bool × Sto)
  | .and a b, e, h => (match evT c a e h with
      | .ok (true, h) => evT c b e h
      | .ok (false, h) => .ok (false, h)
      | .exc c fs h => .exc c fs h
      | .bad => .bad)
  | .or a b, e, h => (match evT c a e h with
      | .ok (false, h) => evT c b e h
      | .ok (true, h) => .ok (true, h)
      | .exc c fs h => .exc c fs h
      | .bad => .bad)
  | .not a, e, h => (match evT c a e h with
      | .ok (b, h) => .ok (!b, h)
      | .exc c fs h => .exc c fs h
      | .bad => .bad)
  | .cmp o a b, e, h => seq1 (seq1 (evE c a e h) fun x h => seq1 (evE c b e h) fun y h => oCmp o x y h) fun v h => (match truth v h with | some b => .ok (b, h) | none => .bad)
  | .cmp2 o o2 a b d, e, h => seq1 (seq1 (evE c a e h) fun x h => seq1 (evE c b e h) fun y h => seq1 (oCmp o x y h) fun r h => (match r with
      | .pv (.bl true) => seq1 (evE c d e h) fun z h => oCmp o2 y z h
      | .pv (.bl false) => okP (.bl false) h
      | _ => .bad)) fun v h => (match truth v h with | some b => .ok (b, h) | none => .bad)
  | .var i, e, h => (match e[i]? with | some (some v) => (match truth v h with | some b => .ok (b, h) | none => .bad) | _ => .bad)
  | .call f es ds, e, h => seq1 (seqL (evEs c es e h) fun vs h => c.C f c.B (vs ++ ds.map .pv) h) fun v h => (match truth v h with | some b => .ok (b, h) | none => .bad)
  | .isI t a, e, h => seq1 (seq1 (evE c a e h) fun x h => isTy t x h) fun v h => (match truth v h with | some b => .ok (b, h) | none => .bad)
  | .blt f es, e, h => seq1 (seqL (evEs c es e h) fun vs h => oBlt c.rp f vs h) fun v h => (match truth v h with | some b => .ok (b, h) | none => .bad)
  | .ext x es, e, h => seq1 (seqL (evEs c es e h) fun vs h => oExt c.rp x vs h) fun v h => (match truth v h with | some b => .ok (b, h) | none => .bad)
  | _, _, _ => .bad
def evEs (c : Cn) : IEs → Env → Sto → R (List MV × Sto)
  | .nil, _, h => .ok ([], h)
  | .cons a es, e, h => seq1 (evE c a e h) fun x h => seqL (evEs c es e h) fun xs h => .ok (x :: xs, h)
/-- the tests of a comprehension -/
def evC (c : Cn) : IEs → Env → Sto → R (Bool × Sto)
  | .nil, _, h => .ok (true, h)
  | .cons a .nil, e, h => evT c a e h
  | .cons _ (.cons _ _), _, _ => .bad
def evO (c : Cn) : IO → Env → Sto → R (Option MV × Sto)
  | .no, _, h => .ok (none, h)
  | .so a, e, h => seq1 (evE c a e h) fun x h => (match x with | .pv (.int i) => .ok (some (.pv (.int i)), h) | _ => .bad)
/-- what is walked -/
def evI (c : Cn) : IT → Env → Sto → R (List Item × Sto)
  | .val a, e, h => seq1 (evE c a e h) fun x h => (match itemsOf x h with | some l => .ok (l.map .one, h) | none => .bad)
  | .rng1 a, e, h => seq1 (evE c a e h) fun x h => (match x with | .pv (.int j) => if small j = true then .ok (rangeI 0 j.toNat, h) else .bad | _ => .bad)
  | .rng2 a b, e, h => seq1 (evE c a e h) fun x h => seq1 (evE c b e h) fun y h => (match x, y with
      | .pv (.int i), .pv (.int j) => if small i = true ∧ small j = true then .ok (rangeI i (j - i).toNat, h) else .bad
      | _, _ => .bad)
  | .enum a, e, h => seq1 (evE c a e h) fun x h => (match itemsOf x h with | some l => .ok (enumFrom 0 l, h) | none => .bad)
  | .zip a b, e, h => seq1 (evE c a e h) fun x h => seq1 (evE c b e h) fun y h => if isTupV x = isTupV y then (match itemsOf x h, itemsOf y h with
      | some l, some r => .ok (zipI l r, h)
      | _, _ => .bad) else .bad
end
/-- the turns of a for -/
def loop (f : Item → Env → Sto → RS) : List Item → Env → Sto → RS
  | [], e, h => some (.nx e, h)
  | x :: xs, e, h => match f x e h with
    | some (.nx e1, h1) => loop f xs e1 h1
    | some (.ct e1, h1) => loop f xs e1 h1
    | some (.bk e1, h1) => some (.nx e1, h1)
    | some (.rt v, h1) => some (.rt v, h1)
    | some (.ex c fs e1, h1) => some (.ex c fs e1, h1)
    | none => none
def wloop (t : Env → Sto → R (Bool × Sto)) (f : Env → Sto → RS) : Nat → Env → Sto → RS
  | 0, _, _ => none
  | n + 1, e, h => match t e h with
    | .ok (true, h1) => (match f e h1 with
      | some (.nx e1, h2) => wloop t f n e1 h2
      | some (.ct e1, h2) => wloop t f n e1 h2
      | some (.bk e1, h2) => some (.nx e1, h2)
      | some (.rt v, h2) => some (.rt v, h2)
      | some (.ex c fs e1, h2) => some (.ex c fs e1, h2)
      | none => none)
    | .ok (false, h1) => some (.nx e, h1)
    | .exc c fs h1 => some (.ex c fs e, h1)
    | .bad => none
/-- an expression's value goes on -/
def useV {α : Type} (r : R α) (e : Env) (f : α → RS) (h? : α → Sto) : RS := match r with
  | .ok a => f a
  | .exc c fs h => some (.ex c fs e, h)
  | .bad => none
mutual
def evS (c : Cn) : IS → Env → Sto → RS
  | .set i a, e, h => (match evE c a e h with
      | .ok (v, h) => some (.nx (e.set i (some v)), h)
      | .exc c fs h => some (.ex c fs e, h)
      | .bad => none)
  | .par i j a b, e, h => (match evEs c (.cons a (.cons b .nil)) e h with
      | .ok ([v, w], h) => some (.nx ((e.set i (some v)).set j (some w)), h)
      | .ok (_, _) => none
      | .exc c fs h => some (.ex c fs e, h)
      | .bad => none)
  | .unp l a, e, h => (match evE c a e h with
      | .ok (v, h) => (match give (.tp l) (.one v) h e with | some e' => some (.nx e', h) | none => none)
      | .exc c fs h => some (.ex c fs e, h)
      | .bad => none)
  | .sub o i a, e, h => (match evE c a e h with
      | .ok (v, h) => (match evE c o e h with
        | .ok (x, h) => (match evE c i e h with
          | .ok (y, h) => (match oSet c.B x y v h with | some h' => some (.nx e, h') | none => none)
          | .exc c fs h => some (.ex c fs e, h)
          | .bad => none)
        | .exc c fs h => some (.ex c fs e, h)
        | .bad => none)
      | .exc c fs h => some (.ex c fs e, h)
      | .bad => none)
  | .ret a, e, h => (match evE c a e h with
      | .ok (v, h) => some (.rt v, h)
      | .exc c fs h => some (.ex c fs e, h)
      | .bad => none)
  | .retn, _, h => some (.rt (.pv .non), h)
  | .ex a, e, h => (match evE c a e h with
      | .ok (_, h) => some (.nx e, h)
      | .exc c fs h => some (.ex c fs e, h)
      | .bad => none)
  | .iff t a b, e, h => (match evT c t e h with
      | .ok (true, h) => evB c a e h
      | .ok (false, h) => evB c b e h
      | .exc c fs h => some (.ex c fs e, h)
      | .bad => none)
  | .for_ tg it b, e, h => (match evI c it e h with
      | .ok (its, h) => loop (fun x e h => match give tg x h e with | some e' => evB c b e' h | none => none) its e h
      | .exc c fs h => some (.ex c fs e, h)
      | .bad => none)
  | .whl t b, e, h => wloop (fun e h => evT c t e h) (fun e h => evB c b e h) c.fuel e h
  | .rai k es ds, e, h => (match evEs c es e h with
      | .ok (vs, h) => (match pures vs with | some xs => some (.ex k (xs ++ ds) e, h) | none => none)
      | .exc c fs h => some (.ex c fs e, h)
      | .bad => none)
  | .tri b k as_ hd, e, h => (match evB c b e h with
      | some (.ex k' fs e1, h1) => if c.nx k' = true then (if c.sub k' k = true then (match as_ with
          | some i => (match evB c hd (e1.set i (some (.pv (.exc k' fs)))) h1 with
            | some (.nx e2, h2) => some (.nx (e2.set i none), h2)
            | some (.rt v, h2) => some (.rt v, h2)
            | _ => none)
          | none => (match evB c hd e1 h1 with
            | some (.nx e2, h2) => some (.nx e2, h2)
            | some (.rt v, h2) => some (.rt v, h2)
            | _ => none))
        else some (.ex k' fs e1, h1)) else none
      | r => r)
  | .pass, e, h => some (.nx e, h)
  | .brk, e, h => some (.bk e, h)
  | .cnt, e, h => some (.ct e, h)
def evB (c : Cn) : ISs → Env → Sto → RS
  | .nil, e, h => some (.nx e, h)
  | .cons s ss, e, h => match evS c s e h with
    | some (.nx e1, h1) => evB c ss e1 h1
    | r => r
end
/-- a def: its name, its parameters, all its names by slot, its body; keep: what it makes stays changeable -/
structure Fn where
  name : Str
  ps : List Str
  N : List Str
  body : ISs
  keep : Bool := false
structure Prg where
  fns : Nat → Option Fn
  rp : PV → Str
  fields : Nat → List Str
  fuel : Nat
  nx : Nat → Bool
  sub : Nat → Nat → Bool
/-- behind a def: what it made and changed is let go, or is a value from now on -/
def close (keep : Bool) (n : Nat) (v : MV) (h : Sto) : RE := if keep = true then .ok (v, h) else match v with
  | .pv p => .ok (.pv p, h.take n)
  | .loc k => if k < n then .ok (.loc k, h.take n) else (match snap (.loc k) h with
    | some p => .ok (.pv p, h.take n)
    | none => .bad)
def start (N : List Str) (vs : List MV) : Env := vs.map some ++ List.replicate (N.length - vs.length) none
def run (P : Prg) (C : Nat → Nat → List MV → Sto → RE) (f B : Nat) (vs : List MV) (h : Sto) : RE := match P.fns f with
  | none => .bad
  | some F => if vs.length = F.ps.length then (match evB ⟨C, P.fuel, if F.keep = true then B else h.length, P.rp, P.fields, P.nx, P.sub⟩ F.body (start F.N vs) h with
    | some (.rt v, h') => close F.keep h.length v h'
    | some (.nx _, h') => close F.keep h.length (.pv .non) h'
    | some (.ex c fs _, h') => .exc c fs (if F.keep = true then h' else h'.take h.length)
    | _ => .bad) else .bad
/-- calls, n deep -/
def callI (P : Prg) : Nat → Nat → Nat → List MV → Sto → RE
  | 0 => fun _ _ _ _ => .bad
  | n + 1 => run P (callI P n)
end MI

/-! MiS1: how the evaluator's values and store stand in the abstract heap -/
namespace MI
open PySem PySem.Spec L2

/-- what is fixed: the written part, the classes' addresses, the fields' names -/
structure Gb where
  K : PySem.W.Frag
  cA : Nat → Addr
  fields : Nat → List Str
def TupK (K : PySem.W.Frag) (a : Addr) (xs : List V) : Prop :=
  ∃ (o : Obj) (its : Array Value) (n : Nat), K.lookup a = some o ∧ o.cls = .type "tuple" ∧ o.data = .seq its n ∧ its.size ≤ sizeLine ∧ Vals xs its.toList
def LstK (K : PySem.W.Frag) (a : Addr) (xs : List V) : Prop :=
  ∃ (o : Obj) (its : Array Value) (n : Nat), K.lookup a = some o ∧ o.cls = .type "list" ∧ o.dict = none ∧ o.data = .seq its n ∧ its.size ≤ sizeLine ∧ Vals xs its.toList
/-- a tuple, a list that stays -/
def PTu (K : PySem.W.Frag) (P : Addr → Prop) (H : Hp) (a : Addr) (xs : List V) : Prop := (P a ∧ Rd H a (.tup xs)) ∨ TupK K a xs
def PLi (K : PySem.W.Frag) (P : Addr → Prop) (H : Hp) (a : Addr) (xs : List V) : Prop := (P a ∧ Rd H a (.lst xs)) ∨ LstK K a xs
theorem PTu.sq {K : PySem.W.Frag} {P : Addr → Prop} {H : Hp} {a : Addr} {xs : List V} (h : PTu K P H a xs) : SqT K H a xs := h.elim (fun x => .inl x.2) .inr
theorem PLi.sq {K : PySem.W.Frag} {P : Addr → Prop} {H : Hp} {a : Addr} {xs : List V} (h : PLi K P H a xs) : SqL K H a xs := h.elim (fun x => .inl x.2) .inr
/-- an own error's object at a, its own dict at d -/
def exq (a C d : Addr) : HO := .ext fun h => ∃ oe vs, h.get? a = some oe ∧ Zc (.ref C) (some d) oe ∧ oe.data = .fields vs
mutual
def RV (G : Gb) (P : Addr → Prop) (H : Hp) : PV → V → Prop
  | .non, v => v = .non
  | .bl b, v => v = .bl b
  | .int i, v => v = .int i
  | .str x, v => v = .str x
  | .tup xs, v => ∃ a vs, v = .ref a ∧ PTu G.K P H a vs ∧ RVs G P H xs vs
  | .lst xs, v => ∃ a vs, v = .ref a ∧ (P a ∧ H a = some (.lst vs)) ∧ RVs G P H xs vs
  | .dic ks vs, v => ks = [] ∧ vs = [] ∧ ∃ a, v = .ref a ∧ P a ∧ H a = some (.dK [])
  | .exc c fs, v => ∃ a d vs fvs, v = .ref a ∧ P a ∧ H a = some (exq a (G.cA c) d) ∧ P d ∧ H d = some (.xd fvs) ∧ RVs G P H fs vs ∧ ∀ x, fvs.lookup x = ((G.fields c).zip vs).lookup x
def RVs (G : Gb) (P : Addr → Prop) (H : Hp) : List PV → List V → Prop
  | [], vs => vs = []
  | x :: xs, vs => ∃ y ys, vs = y :: ys ∧ RV G P H x y ∧ RVs G P H xs ys
end
theorem RVs.length {G : Gb} {P : Addr → Prop} {H : Hp} : ∀ {xs : List PV} {vs : List V}, RVs G P H xs vs → xs.length = vs.length
  | [], vs, h => by simp only [RVs] at h; subst h; try rfl
  | x :: xs, vs, h => by
    simp only [RVs] at h
    obtain ⟨y, ys, rfl, _, h2⟩ := h
    simp [RVs.length h2]
theorem RVs.get {G : Gb} {P : Addr → Prop} {H : Hp} : ∀ {xs : List PV} {vs : List V} {i : Nat} {x : PV}, RVs G P H xs vs → xs[i]? = some x → ∃ y, vs[i]? = some y ∧ RV G P H x y
  | [], _, _, _, _, e => by simp at e
  | x :: xs, vs, 0, z, h, e => by
    simp only [RVs] at h
    obtain ⟨y, ys, rfl, h1, _⟩ := h
    simp at e; subst e
    exact ⟨y, rfl, h1⟩
  | x :: xs, vs, i + 1, z, h, e => by
    simp only [RVs] at h
    obtain ⟨y, ys, rfl, _, h2⟩ := h
    have := RVs.get (i := i) h2 (by simpa using e)
    simpa using this
theorem RVs.append {G : Gb} {P : Addr → Prop} {H : Hp} : ∀ {xs ys : List PV} {vs ws : List V}, RVs G P H xs vs → RVs G P H ys ws → RVs G P H (xs ++ ys) (vs ++ ws)
  | [], _, _, _, h, q => by simp only [RVs] at h; subst h; exact q
  | x :: xs, ys, vs, ws, h, q => by
    simp only [RVs] at h
    obtain ⟨y, r, rfl, h1, h2⟩ := h
    exact ⟨y, r ++ ws, rfl, h1, RVs.append h2 q⟩
theorem RVs.take {G : Gb} {P : Addr → Prop} {H : Hp} : ∀ {xs : List PV} {vs : List V} (n : Nat), RVs G P H xs vs → RVs G P H (xs.take n) (vs.take n)
  | [], _, n, h => by simp only [RVs] at h; subst h; simp [RVs]
  | x :: xs, vs, 0, h => by simp [RVs]
  | x :: xs, vs, n + 1, h => by
    simp only [RVs] at h
    obtain ⟨y, r, rfl, h1, h2⟩ := h
    exact ⟨y, r.take n, rfl, h1, RVs.take n h2⟩
theorem RVs.drop {G : Gb} {P : Addr → Prop} {H : Hp} : ∀ {xs : List PV} {vs : List V} (n : Nat), RVs G P H xs vs → RVs G P H (xs.drop n) (vs.drop n)
  | [], _, n, h => by simp only [RVs] at h; subst h; simp [RVs]
  | x :: xs, vs, 0, h => h
  | x :: xs, vs, n + 1, h => by
    simp only [RVs] at h
    obtain ⟨y, r, rfl, h1, h2⟩ := h
    exact RVs.drop n h2
theorem RVs.reverse {G : Gb} {P : Addr → Prop} {H : Hp} : ∀ {xs : List PV} {vs : List V}, RVs G P H xs vs → RVs G P H xs.reverse vs.reverse
  | [], _, h => by simp only [RVs] at h; subst h; simp [RVs]
  | x :: xs, vs, h => by
    simp only [RVs] at h
    obtain ⟨y, r, rfl, h1, h2⟩ := h
    rw [List.reverse_cons, List.reverse_cons]
    exact RVs.append (RVs.reverse h2) ⟨y, [], rfl, h1, rfl⟩
theorem RVs.rep {G : Gb} {P : Addr → Prop} {H : Hp} {xs : List PV} {vs : List V} (h : RVs G P H xs vs) : ∀ k : Nat, RVs G P H (List.replicate k xs).flatten (List.replicate k vs).flatten
  | 0 => by simp [RVs]
  | k + 1 => by
    rw [List.replicate_succ, List.replicate_succ, List.flatten_cons, List.flatten_cons]
    exact RVs.append h (RVs.rep h k)
section
variable {G : Gb} {P P' : Addr → Prop} {H H' : Hp}
theorem PTu.mono {K : PySem.W.Frag} {a : Addr} {xs : List V} (h : PTu K P H a xs) (p : ∀ a, P a → P' a) (k : ∀ a o, P a → H a = some o → H' a = some o) : PTu K P' H' a xs := by
  rcases h with ⟨q, r⟩ | h
  · refine .inl ⟨p _ q, ?_⟩
    rcases r with r | ⟨o, r⟩
    · exact .inl (k _ _ q r)
    · exact .inr ⟨o, k _ _ q r⟩
  · exact .inr h
theorem PLi.mono {K : PySem.W.Frag} {a : Addr} {xs : List V} (h : PLi K P H a xs) (p : ∀ a, P a → P' a) (k : ∀ a o, P a → H a = some o → H' a = some o) : PLi K P' H' a xs := by
  rcases h with ⟨q, r⟩ | h
  · refine .inl ⟨p _ q, ?_⟩
    rcases r with r | ⟨o, r⟩
    · exact .inl (k _ _ q r)
    · exact .inr ⟨o, k _ _ q r⟩
  · exact .inr h
mutual
theorem RV.mono (p : ∀ a, P a → P' a) (k : ∀ a o, P a → H a = some o → H' a = some o) : ∀ (v : PV) (x : V), RV G P H v x → RV G P' H' v x
  | .non, _, h => h
  | .bl _, _, h => h
  | .int _, _, h => h
  | .str _, _, h => h
  | .tup xs, _, h => by
    simp only [RV] at h ⊢
    obtain ⟨a, vs, e, q, r⟩ := h
    exact ⟨a, vs, e, q.mono p k, RVs.mono p k xs vs r⟩
  | .lst xs, _, h => by
    simp only [RV] at h ⊢
    obtain ⟨a, vs, e, ⟨q1, q2⟩, r⟩ := h
    exact ⟨a, vs, e, ⟨p _ q1, k _ _ q1 q2⟩, RVs.mono p k xs vs r⟩
  | .dic ks vs, _, h => by
    simp only [RV] at h ⊢
    obtain ⟨e1, e2, a, e, q, r⟩ := h
    exact ⟨e1, e2, a, e, p _ q, k _ _ q r⟩
  | .exc c fs, _, h => by
    simp only [RV] at h ⊢
    obtain ⟨a, d, vs, fvs, e, pa, ha, pd, hd, r, l⟩ := h
    exact ⟨a, d, vs, fvs, e, p _ pa, k _ _ pa ha, p _ pd, k _ _ pd hd, RVs.mono p k fs vs r, l⟩
theorem RVs.mono (p : ∀ a, P a → P' a) (k : ∀ a o, P a → H a = some o → H' a = some o) : ∀ (xs : List PV) (vs : List V), RVs G P H xs vs → RVs G P' H' xs vs
  | [], _, h => h
  | x :: xs, vs, h => by
    simp only [RVs] at h ⊢
    obtain ⟨y, ys, e, h1, h2⟩ := h
    exact ⟨y, ys, e, RV.mono p k x y h1, RVs.mono p k xs ys h2⟩
end
end

def RMV (G : Gb) (m : Nat → Addr) (P : Addr → Prop) (N : Nat) (H : Hp) : MV → V → Prop
  | .pv v, x => RV G P H v x
  | .loc n, x => n < N ∧ x = .ref (m n)
abbrev RMs (G : Gb) (m : Nat → Addr) (P : Addr → Prop) (N : Nat) (H : Hp) : List MV → List V → Prop := Paired (RMV G m P N H)
def MO.isOpen : MO → Bool
  | .lock _ => false
  | _ => true
def RO (G : Gb) (m : Nat → Addr) (P : Addr → Prop) (N : Nat) (H : Hp) : MO → Addr → Prop
  | .lst xs, a => ∃ vs, H a = some (.lst vs) ∧ RMs G m P N H xs vs
  | .lock xs, a => ∃ vs, PLi G.K P H a vs ∧ RVs G P H xs vs
  | .dct kvs, a => ∃ kws, H a = some (.dK kws) ∧ Paired (fun (p : DKey × MV) (q : Key × V) => p.1 = q.1 ∧ RMV G m P N H p.2 q.2) kvs kws
/-- the places that an object names -/
def MO.locs : MO → List Nat
  | .lst xs => xs.filterMap fun | .loc n => some n | .pv _ => none
  | .lock _ => []
  | .dct kvs => kvs.filterMap fun | (_, .loc n) => some n | (_, .pv _) => none
structure SR (G : Gb) (m : Nat → Addr) (P : Addr → Prop) (h : Sto) (H : Hp) : Prop where
  obj : ∀ n o, h[n]? = some o → RO G m P h.length H o (m n)
  inj : ∀ i j oi oj, h[i]? = some oi → h[j]? = some oj → oi.isOpen = true → oj.isOpen = true → m i = m j → i = j
  np : ∀ n o, h[n]? = some o → o.isOpen = true → ¬ P (m n)
  pd : ∀ a, P a → H a ≠ none
structure Ext (B : Nat) (m : Nat → Addr) (P : Addr → Prop) (h : Sto) (H : Hp) (m' : Nat → Addr) (P' : Addr → Prop) (h' : Sto) (H' : Hp) : Prop where
  len : h.length ≤ h'.length
  agree : ∀ n, n < h.length → m' n = m n
  sub : ∀ a, P a → P' a
  fr : ∀ a o, H a = some o → (∀ n ob, h[n]? = some ob → ob.isOpen = true → m n ≠ a) → H' a = some o
  lk : ∀ n o', n < h.length → h'[n]? = some o' → o'.isOpen = true → ∃ o, h[n]? = some o ∧ o.isOpen = true
  new : ∀ n, h.length ≤ n → n < h'.length → H (m' n) = none
  dom : ∀ a, H a ≠ none → H' a ≠ none
  cl : ∀ n o', n < B → n < h.length → h'[n]? = some o' → ∀ k, k ∈ o'.locs → ∃ o, h[n]? = some o ∧ k ∈ o.locs
  pn : ∀ a, P' a → P a ∨ H a = none ∨ ∃ n o, h[n]? = some o ∧ o.isOpen = true ∧ m n = a
section
variable {G : Gb} {B : Nat} {m m1 m2 : Nat → Addr} {P P1 P2 : Addr → Prop} {h h1 h2 : Sto} {H H1 H2 : Hp}
theorem Ext.refl : Ext B m P h H m P h H := ⟨Nat.le_refl _, fun _ _ => rfl, fun _ p => p, fun _ _ e _ => e, fun n o' _ e q => ⟨o', e, q⟩, fun n h1 h2 => absurd h2 (by omega), fun _ q => q, fun n o' _ _ e k hk => ⟨o', e, hk⟩, fun a q => .inl q⟩
theorem get_lt {α : Type} {l : List α} {n : Nat} (h : n < l.length) : ∃ x, l[n]? = some x := ⟨l[n], List.getElem?_eq_getElem h⟩
theorem lt_get {α : Type} {l : List α} {n : Nat} {x : α} (h : l[n]? = some x) : n < l.length := (List.getElem?_eq_some_iff.mp h).1
theorem Ext.trans (a : Ext B m P h H m1 P1 h1 H1) (b : Ext B m1 P1 h1 H1 m2 P2 h2 H2) : Ext B m P h H m2 P2 h2 H2 where
  len := Nat.le_trans a.len b.len
  agree := fun n hn => (b.agree n (Nat.lt_of_lt_of_le hn a.len)).trans (a.agree n hn)
  sub := fun x p => b.sub x (a.sub x p)
  fr := fun x o e q => b.fr x o (a.fr x o e q) fun n ob en on => by
    by_cases hn : n < h.length
    · obtain ⟨o1, e1, q1⟩ := a.lk n ob hn en on
      rw [a.agree n hn]
      exact q n o1 e1 q1
    · intro z
      have := a.new n (by omega) (lt_get en)
      rw [z, e] at this
      cases this
  lk := fun n o' hn e q => by
    obtain ⟨o1, e1, q1⟩ := b.lk n o' (Nat.lt_of_lt_of_le hn a.len) e q
    exact a.lk n o1 hn e1 q1
  new := fun n h1' h2' => by
    by_cases hn : n < h1.length
    · rw [b.agree n hn]
      exact a.new n h1' hn
    · have z := b.new n (by omega) h2'
      cases q : H (m2 n) with
      | none => rfl
      | some o => exact absurd z (a.dom _ (by rw [q]; simp))
  dom := fun x q => b.dom x (a.dom x q)
  cl := fun n o' hB hn e k hk => by
    obtain ⟨o1, e1, k1⟩ := b.cl n o' hB (Nat.lt_of_lt_of_le hn a.len) e k hk
    exact a.cl n o1 hB hn e1 k k1
  pn := fun x q => by
    have back : H1 x = none → H x = none := fun q => by
      cases z : H x with
      | none => rfl
      | some o => exact absurd q (a.dom x (by rw [z]; simp))
    rcases b.pn x q with q | q | ⟨n, o, e, ho, rfl⟩
    · exact a.pn x q
    · exact .inr (.inl (back q))
    · by_cases hn : n < h.length
      · obtain ⟨o1, e1, q1⟩ := a.lk n o hn e ho
        exact .inr (.inr ⟨n, o1, e1, q1, (a.agree n hn).symm⟩)
      · exact .inr (.inl (a.new n (by omega) (lt_get e)))
end
section
variable {G : Gb} {B : Nat} {m m' : Nat → Addr} {P P' : Addr → Prop} {h h' : Sto} {H H' : Hp} {N N' : Nat}
theorem RMV.mono (ag : ∀ n, n < N → m' n = m n) (hN : N ≤ N') (p : ∀ a, P a → P' a) (k : ∀ a o, P a → H a = some o → H' a = some o) {v : MV} {x : V} (r : RMV G m P N H v x) : RMV G m' P' N' H' v x := by
  cases v with
  | pv v => exact RV.mono p k v x r
  | loc n => exact ⟨Nat.lt_of_lt_of_le r.1 hN, by rw [ag n r.1]; exact r.2⟩
theorem RMs.mono (ag : ∀ n, n < N → m' n = m n) (hN : N ≤ N') (p : ∀ a, P a → P' a) (k : ∀ a o, P a → H a = some o → H' a = some o) {vs : List MV} {xs : List V} (r : RMs G m P N H vs xs) : RMs G m' P' N' H' vs xs :=
  Paired.mono (fun _ _ q => RMV.mono ag hN p k q) r
theorem RO.mono (ag : ∀ n, n < N → m' n = m n) (hN : N ≤ N') (p : ∀ a, P a → P' a) (k : ∀ a o, P a → H a = some o → H' a = some o) {o : MO} {a : Addr} (ha : o.isOpen = true → ∀ u, H a = some u → H' a = some u) (r : RO G m P N H o a) : RO G m' P' N' H' o a := by
  cases o with
  | lst xs =>
    obtain ⟨vs, e, q⟩ := r
    exact ⟨vs, ha rfl _ e, RMs.mono ag hN p k q⟩
  | lock xs =>
    obtain ⟨vs, e, q⟩ := r
    exact ⟨vs, e.mono p k, RVs.mono p k xs vs q⟩
  | dct kvs =>
    obtain ⟨kws, e, q⟩ := r
    exact ⟨kws, ha rfl _ e, Paired.mono (fun _ _ z => ⟨z.1, RMV.mono ag hN p k z.2⟩) q⟩
theorem RO.some (hi : H (m 0) = H (m 0)) {o : MO} {a : Addr} (ho : o.isOpen = true) (r : RO G m P N H o a) : ∃ u, H a = some u ∧ (∀ x, u ≠ .own x) ∧ (∀ x, u ≠ .tup x) := by
  cases o with
  | lst xs => obtain ⟨vs, e, _⟩ := r; exact ⟨_, e, (fun _ z => nomatch z), (fun _ z => nomatch z)⟩
  | lock xs => cases ho
  | dct kvs => obtain ⟨vs, e, _⟩ := r; exact ⟨_, e, (fun _ z => nomatch z), (fun _ z => nomatch z)⟩
theorem SR.root (S : SR G m P h H) {n : Nat} {o : MO} (e : h[n]? = some o) (ho : o.isOpen = true) : ∃ u, H (m n) = some u ∧ (∀ x, u ≠ .own x) ∧ (∀ x, u ≠ .tup x) := RO.some rfl ho (S.obj n o e)
/-- what stays is kept -/
theorem Ext.pk (S : SR G m P h H) (x : Ext B m P h H m' P' h' H') : ∀ a o, P a → H a = some o → H' a = some o := fun a o p e =>
  x.fr a o e fun n ob en on z => S.np n ob en on (z ▸ p)
theorem Ext.rv (S : SR G m P h H) (x : Ext B m P h H m' P' h' H') {v : PV} {y : V} (r : RV G P H v y) : RV G P' H' v y := RV.mono x.sub (x.pk S) v y r
theorem Ext.rmv (S : SR G m P h H) (x : Ext B m P h H m' P' h' H') {v : MV} {y : V} (r : RMV G m P h.length H v y) : RMV G m' P' h'.length H' v y := RMV.mono x.agree x.len x.sub (x.pk S) r
theorem Ext.rms (S : SR G m P h H) (x : Ext B m P h H m' P' h' H') {v : List MV} {y : List V} (r : RMs G m P h.length H v y) : RMs G m' P' h'.length H' v y := RMs.mono x.agree x.len x.sub (x.pk S) r
/-- a new object that stays -/
theorem SR.allocP (S : SR G m P h H) {p : Addr} {u : HO} (hp : H p = none) : SR G m (fun a => P a ∨ a = p) h (upd H p u) ∧ Ext B m P h H m (fun a => P a ∨ a = p) h (upd H p u) := by
  have kp : ∀ a o, H a = some o → upd H p u a = some o := fun a o e => by rw [upd_ne (ne_of_none e hp)]; exact e
  refine ⟨⟨fun n o e => ?_, S.inj, fun n o e ho q => ?_, fun a q => ?_⟩, ⟨Nat.le_refl _, fun _ _ => rfl, fun _ q => .inl q, fun a o e _ => kp a o e, fun n o' _ e q => ⟨o', e, q⟩, fun n h1 h2 => absurd h2 (by omega), fun a q => ?_, fun n o' _ _ e k hk => ⟨o', e, hk⟩, fun a q => q.elim .inl fun e => .inr (.inl (e ▸ hp))⟩⟩
  · exact RO.mono (fun _ _ => rfl) (Nat.le_refl _) (fun _ q => .inl q) (fun a o _ e => kp a o e) (fun _ u e => kp _ u e) (S.obj n o e)
  · rcases q with q | q
    · exact S.np n o e ho q
    · obtain ⟨u', e', _⟩ := S.root e ho
      rw [q, hp] at e'; cases e'
  · by_cases z : a = p
    · subst z; rw [upd_same]; simp
    · rw [upd_ne z]
      rcases q with q | q
      · exact S.pd a q
      · exact absurd q z
  · by_cases z : a = p
    · subst z; rw [upd_same]; simp
    · rw [upd_ne z]; exact q
theorem get_app {α : Type} {l : List α} {a : α} {n : Nat} {x : α} (h : (l ++ [a])[n]? = some x) : (n < l.length ∧ l[n]? = some x) ∨ (n = l.length ∧ x = a) := by
  by_cases hn : n < l.length
  · rw [List.getElem?_append_left hn] at h
    exact .inl ⟨hn, h⟩
  · rw [List.getElem?_append_right (by omega)] at h
    cases q : n - l.length with
    | zero => rw [q] at h; simp at h; exact .inr ⟨by omega, h.symm⟩
    | succ k => rw [q] at h; simp at h
/-- a new object that may change -/
def mAt (m : Nat → Addr) (k : Nat) (p : Addr) : Nat → Addr := fun n => if n = k then p else m n
theorem mAt_same {m : Nat → Addr} {k : Nat} {p : Addr} : mAt m k p k = p := if_pos rfl
theorem mAt_ne {m : Nat → Addr} {k : Nat} {p : Addr} {n : Nat} (h : n ≠ k) : mAt m k p n = m n := if_neg h
theorem SR.allocR (S : SR G m P h H) {p : Addr} {u : HO} {o : MO} (hp : H p = none) (ro : RO G (mAt m h.length p) P (h.length + 1) (upd H p u) o p) :
    SR G (mAt m h.length p) P (h ++ [o]) (upd H p u) ∧ Ext B m P h H (mAt m h.length p) P (h ++ [o]) (upd H p u) := by
  have kp : ∀ a o, H a = some o → upd H p u a = some o := fun a o e => by rw [upd_ne (ne_of_none e hp)]; exact e
  have ag : ∀ n, n < h.length → mAt m h.length p n = m n := fun n hn => mAt_ne (by omega)
  have hl : (h ++ [o]).length = h.length + 1 := by simp
  have nP : ∀ {a}, P a → a ≠ p := fun {a} q z => by rw [z] at q; exact S.pd p q hp
  have mp : ∀ n ob, h[n]? = some ob → ob.isOpen = true → m n ≠ p := fun n ob e hb z => by
    obtain ⟨u', e', _⟩ := S.root e hb
    rw [z, hp] at e'; cases e'
  refine ⟨⟨fun n ob e => ?_, fun i j oi oj ei ej hi hj e => ?_, fun n ob e ho q => ?_, fun a q => ?_⟩, ⟨by omega, ag, fun _ q => q, fun a o e _ => kp a o e, fun n o' hn e q => ?_, fun n h1 h2 => ?_, fun a q => ?_, fun n o' _ hn e k hk => ?_, fun a q => .inl q⟩⟩
  · rcases get_app e with ⟨hn, e⟩ | ⟨rfl, rfl⟩
    · rw [ag n hn, hl]
      exact RO.mono ag (by omega) (fun _ q => q) (fun a o _ e => kp a o e) (fun _ u e => kp _ u e) (S.obj n ob e)
    · rw [mAt_same, hl]; exact ro
  · rcases get_app ei with ⟨h1, ei⟩ | ⟨h1, e1⟩
    · rcases get_app ej with ⟨h2, ej⟩ | ⟨h2, e2⟩
      · rw [ag i h1, ag j h2] at e
        exact S.inj i j _ _ ei ej hi hj e
      · rw [h2, mAt_same, ag i h1] at e
        exact absurd e (mp i _ ei hi)
    · rcases get_app ej with ⟨h2, ej⟩ | ⟨h2, e2⟩
      · rw [h1, mAt_same, ag j h2] at e
        exact absurd e.symm (mp j _ ej hj)
      · omega
  · rcases get_app e with ⟨hn, e⟩ | ⟨rfl, rfl⟩
    · rw [ag n hn] at q; exact S.np n ob e ho q
    · rw [mAt_same] at q; exact nP q rfl
  · rw [upd_ne (nP q)]; exact S.pd a q
  · rw [List.getElem?_append_left hn] at e; exact ⟨o', e, q⟩
  · have : n = h.length := by omega
    rw [this, mAt_same]; exact hp
  · by_cases z : a = p
    · subst z; rw [upd_same]; simp
    · rw [upd_ne z]; exact q
  · rw [List.getElem?_append_left hn] at e; exact ⟨o', e, hk⟩

theorem get_set {α : Type} {l : List α} {a : α} {n k : Nat} {x : α} (h : (l.set n a)[k]? = some x) : (k ≠ n ∧ l[k]? = some x) ∨ (k = n ∧ n < l.length ∧ x = a) := by
  by_cases e : n = k
  · subst e
    by_cases hl : n < l.length
    · rw [List.getElem?_set_self hl] at h
      exact .inr ⟨rfl, hl, (Option.some.inj h).symm⟩
    · rw [List.getElem?_eq_none (by simpa using hl)] at h; cases h
  · rw [List.getElem?_set_ne e] at h
    exact .inl ⟨fun z => e z.symm, h⟩
/-- an object is changed -/
theorem SR.write (S : SR G m P h H) {n : Nat} {ob ob' : MO} {u : HO} (e : h[n]? = some ob) (ho : ob.isOpen = true) (ho' : ob'.isOpen = true) (ro : RO G m P h.length (upd H (m n) u) ob' (m n))
    (cl : n < B → ∀ k, k ∈ ob'.locs → k ∈ ob.locs) : SR G m P (h.set n ob') (upd H (m n) u) ∧ Ext B m P h H m P (h.set n ob') (upd H (m n) u) := by
  have ne : ∀ k o, h[k]? = some o → o.isOpen = true → k ≠ n → m k ≠ m n := fun k o ek hk hn z => hn (S.inj k n _ _ ek e hk ho z)
  have kp : ∀ a o, P a → H a = some o → upd H (m n) u a = some o := fun a o p q => by rw [upd_ne (fun z => S.np n ob e ho (by rw [← z]; exact p))]; exact q
  have hl : (h.set n ob').length = h.length := List.length_set
  refine ⟨⟨fun k o ek => ?_, fun i j oi oj ei ej hi hj q => ?_, fun k o ek hk q => ?_, fun a q => ?_⟩, ⟨by omega, fun _ _ => rfl, fun _ q => q, fun a o q z => ?_, fun k o' hk ek q => ?_, fun k h1 h2 => absurd h2 (by omega), fun a q => ?_, fun k o' hB hk ek j hj => ?_, fun a q => .inl q⟩⟩
  · rw [hl]
    rcases get_set ek with ⟨hk, ek⟩ | ⟨rfl, _, rfl⟩
    · refine RO.mono (fun _ _ => rfl) (Nat.le_refl _) (fun _ q => q) kp (fun hop u' q => ?_) (S.obj k o ek)
      rw [upd_ne (ne k o ek hop hk)]; exact q
    · exact ro
  · have g : ∀ {i : Nat} {oi : MO}, (h.set n ob')[i]? = some oi → oi.isOpen = true → ∃ o, h[i]? = some o ∧ o.isOpen = true := fun {i oi} ei hi => by
      rcases get_set ei with ⟨_, ei⟩ | ⟨rfl, _, rfl⟩
      · exact ⟨_, ei, hi⟩
      · exact ⟨_, e, ho⟩
    obtain ⟨_, e1, o1⟩ := g ei hi
    obtain ⟨_, e2, o2⟩ := g ej hj
    exact S.inj i j _ _ e1 e2 o1 o2 q
  · rcases get_set ek with ⟨_, ek⟩ | ⟨rfl, _, rfl⟩
    · exact S.np k o ek hk q
    · exact S.np _ ob e ho q
  · by_cases z : a = m n
    · subst z; rw [upd_same]; simp
    · rw [upd_ne z]; exact S.pd a q
  · rw [upd_ne (fun y => z n ob e ho y.symm)]; exact q
  · rcases get_set ek with ⟨_, ek⟩ | ⟨rfl, _, rfl⟩
    · exact ⟨o', ek, q⟩
    · exact ⟨ob, e, ho⟩
  · by_cases z : a = m n
    · subst z; rw [upd_same]; simp
    · rw [upd_ne z]; exact q
  · rcases get_set ek with ⟨_, ek⟩ | ⟨rfl, _, rfl⟩
    · exact ⟨o', ek, hj⟩
    · exact ⟨ob, e, cl hB j hj⟩

/-! ### the readings of the evaluator's words -/
/-- an own error in the air, its own dict at d -/
def XR (G : Gb) (P : Addr → Prop) (H : Hp) (c : Nat) (fs : List PV) (d : Addr) : Prop := P d ∧ ∃ vs fvs, H d = some (.xd fvs) ∧ RVs G P H fs vs ∧ ∀ x, fvs.lookup x = ((G.fields c).zip vs).lookup x
structure REnv (G : Gb) (m : Nat → Addr) (P : Addr → Prop) (N : Nat) (H : Hp) (e : Env) (σ : St) : Prop where
  len : e.length = σ.length
  at_ : ∀ (i : Nat) (v : MV), e[i]? = some (some v) → ∃ x, σ[i]? = some (some x) ∧ RMV G m P N H v x
theorem REnv.mono (ag : ∀ n, n < N → m' n = m n) (hN : N ≤ N') (p : ∀ a, P a → P' a) (k : ∀ a o, P a → H a = some o → H' a = some o) {e : Env} {σ : St} (r : REnv G m P N H e σ) : REnv G m' P' N' H' e σ :=
  ⟨r.len, fun i v q => let ⟨x, a, b⟩ := r.at_ i v q; ⟨x, a, RMV.mono ag hN p k b⟩⟩
theorem Ext.env (S : SR G m P h H) (x : Ext B m P h H m' P' h' H') {e : Env} {σ : St} (r : REnv G m P h.length H e σ) : REnv G m' P' h'.length H' e σ := REnv.mono x.agree x.len x.sub (x.pk S) r
theorem REnv.set {e : Env} {σ : St} (r : REnv G m P N H e σ) {i : Nat} {v : MV} {x : V} (q : RMV G m P N H v x) : REnv G m P N H (e.set i (some v)) (σ.set i (some x)) :=
  ⟨by simp [r.len], fun j w ej => by
    rcases get_set ej with ⟨hj, ej⟩ | ⟨rfl, hl, ew⟩
    · obtain ⟨y, a, b⟩ := r.at_ j w ej
      exact ⟨y, by rw [List.getElem?_set_ne (Ne.symm hj)]; exact a, b⟩
    · cases ew
      exact ⟨x, List.getElem?_set_self (by rw [← r.len]; exact hl), q⟩⟩
theorem REnv.unset {e : Env} {σ : St} (r : REnv G m P N H e σ) {i : Nat} : REnv G m P N H (e.set i none) (σ.set i none) :=
  ⟨by simp [r.len], fun j w ej => by
    rcases get_set ej with ⟨hj, ej⟩ | ⟨rfl, hl, ew⟩
    · obtain ⟨y, a, b⟩ := r.at_ j w ej
      exact ⟨y, by rw [List.getElem?_set_ne (Ne.symm hj)]; exact a, b⟩
    · cases ew⟩
end
/-- the frame's words: base, what is wished of errors -/
structure Fx where
  G : Gb
  B : Nat
  W : WX
section
variable (F : Fx) (σ : St) (m : Nat → Addr) (P : Addr → Prop) (h : Sto) (H : Hp)
/-- an error is wished for -/
def Aft0 (c : Nat) (fs : List PV) (h' : Sto) : Prop := ∀ d H' m' P', Ext F.B m P h H m' P' h' H' → SR F.G m' P' h' H' → XR F.G P' H' c fs d → F.W (.ref (F.G.cA c)) (some d) σ H'
def AftE (r : RE) (Q : VK) : Prop := match r with
  | .ok (v, h') => ∀ x H' m' P', Ext F.B m P h H m' P' h' H' → SR F.G m' P' h' H' → RMV F.G m' P' h'.length H' v x → Q x H'
  | .exc c fs h' => Aft0 F σ m P h H c fs h'
  | .bad => False
def AftA (r : R (List MV × Sto)) (Q : List V → Hp → Prop) : Prop := match r with
  | .ok (v, h') => ∀ x H' m' P', Ext F.B m P h H m' P' h' H' → SR F.G m' P' h' H' → RMs F.G m' P' h'.length H' v x → Q x H'
  | .exc c fs h' => Aft0 F σ m P h H c fs h'
  | .bad => False
def AftT (r : R (Bool × Sto)) (Q : Bool → Hp → Prop) : Prop := match r with
  | .ok (b, h') => ∀ H' m' P', Ext F.B m P h H m' P' h' H' → SR F.G m' P' h' H' → Q b H'
  | .exc c fs h' => Aft0 F σ m P h H c fs h'
  | .bad => False
def AftS (D : Ends) (r : RS) : Prop := match r with
  | some (.nx e, h') => ∀ σ' H' m' P', Ext F.B m P h H m' P' h' H' → SR F.G m' P' h' H' → REnv F.G m' P' h'.length H' e σ' → D.nx σ' H'
  | some (.bk e, h') => ∀ σ' H' m' P', Ext F.B m P h H m' P' h' H' → SR F.G m' P' h' H' → REnv F.G m' P' h'.length H' e σ' → D.bk σ' H'
  | some (.ct e, h') => ∀ σ' H' m' P', Ext F.B m P h H m' P' h' H' → SR F.G m' P' h' H' → REnv F.G m' P' h'.length H' e σ' → D.ct σ' H'
  | some (.rt v, h') => ∀ x H' m' P', Ext F.B m P h H m' P' h' H' → SR F.G m' P' h' H' → RMV F.G m' P' h'.length H' v x → D.rt x H'
  | some (.ex c fs e, h') => ∀ d σ' H' m' P', Ext F.B m P h H m' P' h' H' → SR F.G m' P' h' H' → XR F.G P' H' c fs d → REnv F.G m' P' h'.length H' e σ' → F.W (.ref (F.G.cA c)) (some d) σ' H'
  | none => False
end
/-- a state of the evaluator stands here -/
def Stn (F : Fx) (e : Env) (h : Sto) (σ : St) (m : Nat → Addr) (P : Addr → Prop) (H : Hp) : Prop := REnv F.G m P h.length H e σ ∧ SR F.G m P h H
def tE (F : Fx) (r : Env → Sto → RE) : TE := fun σ H Q => ∃ e h m P, Stn F e h σ m P H ∧ AftE F σ m P h H (r e h) Q
def tA (F : Fx) (r : Env → Sto → R (List MV × Sto)) : TA := fun σ H Q => ∃ e h m P, Stn F e h σ m P H ∧ AftA F σ m P h H (r e h) Q
def tT (F : Fx) (r : Env → Sto → R (Bool × Sto)) : TT := fun σ H Q => ∃ e h m P, Stn F e h σ m P H ∧ AftT F σ m P h H (r e h) Q
def tS (F : Fx) (r : Env → Sto → RS) : TS := fun D σ H => ∃ e h m P, Stn F e h σ m P H ∧ AftS F m P h H D (r e h)
section
variable {F : Fx} {σ : St} {m m' : Nat → Addr} {P P' : Addr → Prop} {h h' : Sto} {H H' : Hp}
theorem Aft0.af {c : Nat} {fs : List PV} {h2 : Sto} (x : Ext F.B m P h H m' P' h' H') (a : Aft0 F σ m P h H c fs h2) : Aft0 F σ m' P' h' H' c fs h2 := fun d H2 m2 P2 y => a d H2 m2 P2 (x.trans y)
theorem AftE.af {r : RE} {Q : VK} (x : Ext F.B m P h H m' P' h' H') (a : AftE F σ m P h H r Q) : AftE F σ m' P' h' H' r Q := by
  cases r with
  | ok v => exact fun y H2 m2 P2 z => a y H2 m2 P2 (x.trans z)
  | exc c fs h2 => exact Aft0.af x a
  | bad => exact a
theorem AftA.af {r : R (List MV × Sto)} {Q : List V → Hp → Prop} (x : Ext F.B m P h H m' P' h' H') (a : AftA F σ m P h H r Q) : AftA F σ m' P' h' H' r Q := by
  cases r with
  | ok v => exact fun y H2 m2 P2 z => a y H2 m2 P2 (x.trans z)
  | exc c fs h2 => exact Aft0.af x a
  | bad => exact a
theorem AftT.af {r : R (Bool × Sto)} {Q : Bool → Hp → Prop} (x : Ext F.B m P h H m' P' h' H') (a : AftT F σ m P h H r Q) : AftT F σ m' P' h' H' r Q := by
  cases r with
  | ok v => exact fun H2 m2 P2 z => a H2 m2 P2 (x.trans z)
  | exc c fs h2 => exact Aft0.af x a
  | bad => exact a
theorem AftS.af {D : Ends} {r : RS} (x : Ext F.B m P h H m' P' h' H') (a : AftS F m P h H D r) : AftS F m' P' h' H' D r := by
  match r, a with
  | none, a => exact a
  | some (.nx e, h2), a => exact fun σ H2 m2 P2 z => a σ H2 m2 P2 (x.trans z)
  | some (.bk e, h2), a => exact fun σ H2 m2 P2 z => a σ H2 m2 P2 (x.trans z)
  | some (.ct e, h2), a => exact fun σ H2 m2 P2 z => a σ H2 m2 P2 (x.trans z)
  | some (.rt e, h2), a => exact fun σ H2 m2 P2 z => a σ H2 m2 P2 (x.trans z)
  | some (.ex c fs e, h2), a => exact fun d σ H2 m2 P2 z => a d σ H2 m2 P2 (x.trans z)
/-- the first part runs, then the rest -/
theorem AftE.seq {r : RE} {f : MV → Sto → RE} {Q : VK} (S : SR F.G m P h H) (a : AftE F σ m P h H (seq1 r f) Q) :
    AftE F σ m P h H r fun x H1 => ∃ v h1 m1 P1, Ext F.B m P h H m1 P1 h1 H1 ∧ SR F.G m1 P1 h1 H1 ∧ RMV F.G m1 P1 h1.length H1 v x ∧ AftE F σ m1 P1 h1 H1 (f v h1) Q := by
  match r, a with
  | .ok (v, h1), a => exact fun x H1 m1 P1 e s q => ⟨v, h1, m1, P1, e, s, q, AftE.af e a⟩
  | .exc c fs h1, a => exact a
  | .bad, a => exact a
theorem AftE.seqL {r : R (List MV × Sto)} {f : List MV → Sto → RE} {Q : VK} (S : SR F.G m P h H) (a : AftE F σ m P h H (seqL r f) Q) :
    AftA F σ m P h H r fun x H1 => ∃ v h1 m1 P1, Ext F.B m P h H m1 P1 h1 H1 ∧ SR F.G m1 P1 h1 H1 ∧ RMs F.G m1 P1 h1.length H1 v x ∧ AftE F σ m1 P1 h1 H1 (f v h1) Q := by
  match r, a with
  | .ok (v, h1), a => exact fun x H1 m1 P1 e s q => ⟨v, h1, m1, P1, e, s, q, AftE.af e a⟩
  | .exc c fs h1, a => exact a
  | .bad, a => exact a
end
/-- by values -/
def R1of (F : Fx) (f : MV → Sto → RE) : V → Hp → VK → Prop := fun x H Q => ∃ σ v h m P, SR F.G m P h H ∧ RMV F.G m P h.length H v x ∧ AftE F σ m P h H (f v h) Q
def R2of (F : Fx) (f : MV → MV → Sto → RE) : R2 := fun x y H Q => ∃ σ u v h m P, SR F.G m P h H ∧ RMV F.G m P h.length H u x ∧ RMV F.G m P h.length H v y ∧ AftE F σ m P h H (f u v h) Q
def RLof (F : Fx) (f : List MV → Sto → RE) : List V → Hp → VK → Prop := fun xs H Q => ∃ σ vs h m P, SR F.G m P h H ∧ RMs F.G m P h.length H vs xs ∧ AftE F σ m P h H (f vs h) Q
section
variable {F : Fx} {σ : St} {H : Hp} {Q : VK}
theorem tE_un {ra : Env → Sto → RE} {f : MV → Sto → RE} (t : tE F (fun e h => seq1 (ra e h) f) σ H Q) : tUn (R1of F f) (tE F ra) σ H Q := by
  obtain ⟨e, h, m, P, ⟨re, S⟩, a⟩ := t
  refine ⟨e, h, m, P, ⟨re, S⟩, ?_⟩
  have b := AftE.seq S a
  revert b
  cases ra e h with
  | ok v => exact fun b x H1 m1 P1 e1 s1 q1 => let ⟨v, h1, m2, P2, _, s2, q2, a2⟩ := b x H1 m1 P1 e1 s1 q1; ⟨σ, v, h1, m2, P2, s2, q2, a2⟩
  | exc c fs h1 => exact fun b => b
  | bad => exact fun b => b
theorem tE_op {ra rb : Env → Sto → RE} {f : MV → MV → Sto → RE} (t : tE F (fun e h => seq1 (ra e h) fun x h => seq1 (rb e h) fun y h => f x y h) σ H Q) : tOp (R2of F f) (tE F ra) (tE F rb) σ H Q := by
  obtain ⟨e, h, m, P, ⟨re, S⟩, a⟩ := t
  refine ⟨e, h, m, P, ⟨re, S⟩, ?_⟩
  have b := AftE.seq S a
  revert b
  cases ra e h with
  | exc c fs h1 => exact fun b => b
  | bad => exact fun b => b
  | ok v =>
    refine fun b x H1 m1 P1 e1 s1 q1 => ?_
    obtain ⟨v, h1, m1, P1, e1, s1, q1, a1⟩ := b x H1 m1 P1 e1 s1 q1
    refine ⟨e, h1, m1, P1, ⟨e1.env S re, s1⟩, ?_⟩
    have b2 := AftE.seq s1 a1
    revert b2
    cases rb e h1 with
    | exc c fs h1 => exact fun b => b
    | bad => exact fun b => b
    | ok w =>
      refine fun b y H2 m2 P2 e2 s2 q2 => ?_
      obtain ⟨w, h2, m2, P2, e2, s2, q2, a2⟩ := b y H2 m2 P2 e2 s2 q2
      exact ⟨σ, v, w, h2, m2, P2, s2, e2.rmv s1 q1, q2, a2⟩
theorem tE_call {ra : Env → Sto → R (List MV × Sto)} {f : List MV → Sto → RE} (t : tE F (fun e h => seqL (ra e h) f) σ H Q) : tCB (RLof F f) (tA F ra) σ H Q := by
  obtain ⟨e, h, m, P, ⟨re, S⟩, a⟩ := t
  refine ⟨e, h, m, P, ⟨re, S⟩, ?_⟩
  have b := AftE.seqL S a
  revert b
  cases ra e h with
  | ok v => exact fun b x H1 m1 P1 e1 s1 q1 => let ⟨v, h1, m2, P2, _, s2, q2, a2⟩ := b x H1 m1 P1 e1 s1 q1; ⟨σ, v, h1, m2, P2, s2, q2, a2⟩
  | exc c fs h1 => exact fun b => b
  | bad => exact fun b => b
end
end MI

/-! MiS2: the operators -/
namespace MI
open PySem PySem.Spec L2
section
variable {G : Gb} {m : Nat → Addr} {P : Addr → Prop} {h : Sto} {H : Hp} {N : Nat}
theorem pures_rms : ∀ {vs : List MV} {ps : List PV} {xs : List V}, RMs G m P N H vs xs → pures vs = some ps → RVs G P H ps xs
  | [], ps, xs, r, e => by
    cases r
    simp only [pures, Option.some.injEq] at e
    subst e
    rfl
  | .pv v :: r, ps, xs, q, e => by
    cases q with
    | cons q1 q2 =>
      simp only [pures] at e
      split at e
      · rename_i l el
        cases e
        exact ⟨_, _, rfl, q1, pures_rms q2 el⟩
      · cases e
  | .loc n :: r, ps, xs, q, e => by simp [pures] at e
theorem pures_map : ∀ (ps : List PV), pures (ps.map .pv) = some ps
  | [] => rfl
  | p :: ps => by simp only [List.map_cons, pures, pures_map ps]
theorem rms_of_rvs : ∀ {ps : List PV} {xs : List V}, RVs G P H ps xs → RMs G m P N H (ps.map .pv) xs
  | [], xs, r => by simp only [RVs] at r; subst r; exact .nil
  | p :: ps, xs, r => by
    simp only [RVs] at r
    obtain ⟨y, ys, rfl, r1, r2⟩ := r
    exact .cons r1 (rms_of_rvs r2)
/-- a list as it stands -/
theorem snap_lst (S : SR G m P h H) {u : MV} {x : V} {xs : List PV} (r : RMV G m P h.length H u x) (e : snap u h = some (.lst xs)) : ∃ a vs, x = .ref a ∧ H a = some (.lst vs) ∧ RVs G P H xs vs := by
  cases u with
  | pv v =>
    simp only [snap, Option.some.injEq] at e
    subst e
    obtain ⟨a, vs, rfl, ⟨_, q⟩, r⟩ := r
    exact ⟨a, vs, rfl, q, r⟩
  | loc n =>
    obtain ⟨hn, rfl⟩ := r
    simp only [snap] at e
    split at e
    · rename_i ys eo
      split at e
      · rename_i ps ep
        cases e
        obtain ⟨vs, q, rr⟩ := S.obj n _ eo
        exact ⟨_, vs, rfl, q, pures_rms rr ep⟩
      · cases e
    · cases e
/-- any other value is the value itself -/
theorem snap_pv {u : MV} {x : V} {p : PV} (r : RMV G m P N H u x) (e : snap u h = some p) (hp : ∀ xs, p ≠ .lst xs) : RV G P H p x := by
  cases u with
  | pv v =>
    simp only [snap, Option.some.injEq] at e
    subst e
    exact r
  | loc n =>
    simp only [snap] at e
    split at e
    · split at e
      · cases e
        exact absurd rfl (hp _)
      · cases e
    · cases e
theorem snapK_tup {u : MV} {x : V} {xs : List PV} (r : RMV G m P N H u x) (e : snapK u h = some (.tup xs)) : ∃ a vs, x = .ref a ∧ PTu G.K P H a vs ∧ RVs G P H xs vs := by
  cases u with
  | pv v =>
    simp only [snapK, Option.some.injEq] at e
    subst e
    exact r
  | loc n =>
    simp only [snapK] at e
    split at e
    · cases e
    · exact absurd e fun e => by
        simp only [snap] at e
        split at e
        · split at e <;> cases e
        · cases e
theorem snapK_lst (S : SR G m P h H) {u : MV} {x : V} {xs : List PV} (r : RMV G m P h.length H u x) (e : snapK u h = some (.lst xs)) : ∃ a vs, x = .ref a ∧ SqL G.K H a vs ∧ RVs G P H xs vs := by
  cases u with
  | pv v =>
    simp only [snapK, Option.some.injEq] at e
    subst e
    obtain ⟨a, vs, rfl, ⟨_, q⟩, r⟩ := r
    exact ⟨a, vs, rfl, .of q, r⟩
  | loc n =>
    simp only [snapK] at e
    split at e
    · rename_i ys eo
      cases e
      obtain ⟨hn, rfl⟩ := r
      obtain ⟨vs, q, rr⟩ := S.obj n _ eo
      exact ⟨m n, vs, rfl, q.sq, rr⟩
    · obtain ⟨a, vs, e1, q, rr⟩ := snap_lst S r e
      exact ⟨a, vs, e1, .of q, rr⟩
theorem snap_int {u : MV} {x : V} {i : Int} (r : RMV G m P N H u x) (e : snap u h = some (.int i)) : x = .int i := snap_pv r e fun _ z => nomatch z
theorem snap_bl {u : MV} {x : V} {i : Bool} (r : RMV G m P N H u x) (e : snap u h = some (.bl i)) : x = .bl i := snap_pv r e fun _ z => nomatch z
theorem snap_str {u : MV} {x : V} {i : Str} (r : RMV G m P N H u x) (e : snap u h = some (.str i)) : x = .str i := snap_pv r e fun _ z => nomatch z
theorem snap_tup {u : MV} {x : V} {xs : List PV} (r : RMV G m P N H u x) (e : snap u h = some (.tup xs)) : ∃ a vs, x = .ref a ∧ PTu G.K P H a vs ∧ RVs G P H xs vs := snap_pv r e fun _ z => nomatch z
theorem sizeLim_eq : sizeLim = sizeLine := by rw [sizeLine_eq]; try rfl
end
section
variable {F : Fx} {σ : St} {m : Nat → Addr} {P : Addr → Prop} {h : Sto} {H : Hp} {Q : VK}
/-- the answer is a value that is there -/
theorem AftE.okp {p : PV} {x : V} (S : SR F.G m P h H) (a : AftE F σ m P h H (okP p h) Q) (r : RV F.G P H p x) : Q x H := a x H m P Ext.refl S r
/-- .. a new tuple, a new list -/
theorem AftE.newT {xs : List PV} {vs : List V} {p : Addr} (S : SR F.G m P h H) (a : AftE F σ m P h H (okP (.tup xs) h) Q) (r : RVs F.G P H xs vs) (hp : H p = none) : Q (.ref p) (upd H p (.tup vs)) := by
  obtain ⟨S', E'⟩ := S.allocP (B := F.B) (u := .tup vs) hp
  exact a _ _ m _ E' S' ⟨p, vs, rfl, .inl ⟨.inr rfl, .inl upd_same⟩, RVs.mono E'.sub (E'.pk S) _ _ r⟩
theorem AftE.newL {xs : List PV} {vs : List V} {p : Addr} (S : SR F.G m P h H) (a : AftE F σ m P h H (okP (.lst xs) h) Q) (r : RVs F.G P H xs vs) (hp : H p = none) : Q (.ref p) (upd H p (.lst vs)) := by
  obtain ⟨S', E'⟩ := S.allocP (B := F.B) (u := .lst vs) hp
  exact a _ _ m _ E' S' ⟨p, vs, rfl, ⟨.inr rfl, upd_same⟩, RVs.mono E'.sub (E'.pk S) _ _ r⟩
/-- .. a new list that may change -/
theorem AftE.newR {ms : List MV} {vs : List V} {p : Addr} (S : SR F.G m P h H) (a : AftE F σ m P h H (.ok (.loc h.length, h ++ [.lst ms])) Q) (r : RMs F.G m P h.length H ms vs) (hp : H p = none) : Q (.ref p) (upd H p (.lst vs)) := by
  have kp : ∀ a o, H a = some o → upd H p (.lst vs) a = some o := fun a o e => by rw [upd_ne (ne_of_none e hp)]; exact e
  have ro : RO F.G (mAt m h.length p) P (h.length + 1) (upd H p (.lst vs)) (.lst ms) p := ⟨vs, upd_same, RMs.mono (fun n hn => mAt_ne (by omega)) (by omega) (fun _ q => q) (fun a o _ e => kp a o e) r⟩
  obtain ⟨S', E'⟩ := S.allocR (B := F.B) hp ro
  exact a _ _ _ _ E' S' ⟨by simp, by rw [mAt_same]⟩
end
def opOf : BO → Operator
  | .add => .Add | .sub => .Sub | .mul => .Mult | .fdiv => .FloorDiv | .mod => .Mod | .pow => .Pow
section
variable {X : Cx} {F : Fx}
theorem op_add_bi : OpR X (binaryOp .Add) (fun x y H Q => ∃ (i : Bool) (k : Int), x = .bl i ∧ y = .int k ∧ Q (.int ((if i = true then (1 : Int) else 0) + k)) H) := by
  rintro pins s σ H x y v u Q I rx ry ⟨i, k, rfl, rfl, q⟩
  cases rx
  obtain ⟨t, rfl⟩ := ry
  exact PySem.IntBool.add_bool_int ⟨.int _, H, I.tok _, ⟨_, rfl⟩, q⟩
theorem op_sub_bi : OpR X (binaryOp .Sub) (fun x y H Q => ∃ (i : Bool) (k : Int), x = .bl i ∧ y = .int k ∧ Q (.int ((if i = true then (1 : Int) else 0) - k)) H) := by
  rintro pins s σ H x y v u Q I rx ry ⟨i, k, rfl, rfl, q⟩
  cases rx
  obtain ⟨t, rfl⟩ := ry
  exact PySem.IntBool.sub_bool_int ⟨.int _, H, I.tok _, ⟨_, rfl⟩, q⟩
theorem op_sub_ib : OpR X (binaryOp .Sub) (fun x y H Q => ∃ (i : Int) (k : Bool), x = .int i ∧ y = .bl k ∧ Q (.int (i - if k = true then (1 : Int) else 0)) H) := by
  rintro pins s σ H x y v u Q I rx ry ⟨i, k, rfl, rfl, q⟩
  cases ry
  obtain ⟨t, rfl⟩ := rx
  exact PySem.IntBool.sub_int_bool ⟨.int _, H, I.tok _, ⟨_, rfl⟩, q⟩
theorem size_rep {a : Array Nat} : ∀ (n : Nat) (b : Array Nat), ((List.replicate n a).foldl (· ++ ·) b).size = b.size + n * a.size
  | 0, b => by simp
  | n + 1, b => by
    rw [List.replicate_succ, List.foldl_cons, size_rep n, Array.size_append, Nat.succ_mul]
    omega
theorem op_repS : OpR X (binaryOp .Mult) (fun x y H Q => ∃ (a : Str) (k : Int), x = .str a ∧ y = .int k ∧ 2 ≤ k ∧ k ≤ 1000 ∧ 0 < a.length ∧ a.length ≤ 1000 ∧ Q (.str ⟨(List.replicate k.toNat a.cps).foldl (· ++ ·) #[]⟩) H) := by
  rintro pins s σ H x y v u Q I rx ry ⟨a, k, rfl, rfl, h1, h2, h3, h4, q⟩
  obtain ⟨t, rfl⟩ := rx
  obtain ⟨t', rfl⟩ := ry
  have hz : a.length * k.toNat ≤ 1000 * 1000 := Nat.mul_le_mul h4 (by omega)
  have n1 : ¬ k < 1 := by omega
  have n2 : ¬ (k == 1 || a.length == 0) = true := by simp; omega
  refine PySem.P.mul_str (by simp; omega) (fun _ _ => ?_) (fun _ _ => ?_) ?_
  · have hk : (a.length : Int) * k ≤ 1000 * 1000 := by
      have := Int.ofNat_le.mpr hz
      rw [Int.natCast_mul, Int.toNat_of_nonneg (by omega)] at this
      exact this
    have := Int.le_ediv_of_mul_le (a := (a.length : Int)) (b := 2 ^ 63 - 1) (c := k) (by omega) (by omega)
    omega
  · unfold PySem.Builtin.Str.tooLong
    rw [sizeLine_eq]
    simp; omega
  · rw [if_neg n1, if_neg n2]
    refine ⟨?_, .str _, H, I.tok _, ⟨_, rfl⟩, q⟩
    have := size_rep (a := a.cps) k.toNat #[]
    show Array.size _ ≤ _
    rw [this, sizeLine_eq, Nat.mul_comm]
    show 0 + a.length * k.toNat ≤ _
    omega
theorem or_add (hK : X.K = F.G.K) : OpR X (binaryOp .Add) (R2of F (oBin .add)) := by
  intro pins s σ H x y v u Q I rx ry ⟨σ', a, b, h, m, P, S, ra, rb, af⟩
  simp only [oBin] at af
  split at af
  · rename_i i j _ ea eb
    have e1 := snap_int ra ea
    have e2 := snap_int rb eb
    exact op_add pins s σ H x y v u Q I rx ry ⟨i, j, e1, e2, af.okp S rfl⟩
  · rename_i xs ys _ ea eb
    split at af
    · rename_i hz
      obtain ⟨p, vs, e1, t1, r1⟩ := snap_tup ra ea
      obtain ⟨q, ws, e2, t2, r2⟩ := snap_tup rb eb
      have l1 := r1.length
      have l2 := r2.length
      rw [sizeLim_eq] at hz
      refine op_catA pins s σ H x y v u Q I rx ry ⟨p, q, vs, ws, e1, e2, by rw [hK]; exact t1.sq, by rw [hK]; exact t2.sq, by omega, fun z => ?_, fun _ z => ?_, fun _ _ p hp => af.newT S (r1.append r2) hp⟩
      · subst z
        have : xs = [] := List.length_eq_zero_iff.mp l1
        subst this
        exact af.okp S ⟨q, ws, rfl, t2, r2⟩
      · subst z
        have : ys = [] := List.length_eq_zero_iff.mp l2
        subst this
        rw [List.append_nil] at af
        exact af.okp S ⟨p, vs, rfl, t1, r1⟩
    · exact af.elim
  · rename_i xs ys _ ea eb
    split at af
    · rename_i hz
      obtain ⟨p, vs, e1, t1, r1⟩ := snap_lst S ra ea
      obtain ⟨q, ws, e2, t2, r2⟩ := snap_lst S rb eb
      have l1 := r1.length
      have l2 := r2.length
      rw [sizeLim_eq] at hz
      exact op_cat pins s σ H x y v u Q I rx ry ⟨p, q, vs, ws, e1, e2, t1, t2, by omega, fun p hp => af.newL S (r1.append r2) hp⟩
    · exact af.elim
  · rename_i i j _ ea eb
    split at af
    · rename_i hz
      have e1 := snap_str ra ea
      have e2 := snap_str rb eb
      rw [sizeLim_eq] at hz
      exact op_add_str pins s σ H x y v u Q I rx ry ⟨i, j, e1, e2, hz, af.okp S rfl⟩
    · exact af.elim
  · rename_i i j _ ea eb
    exact op_add_bi pins s σ H x y v u Q I rx ry ⟨i, j, snap_bl ra ea, snap_int rb eb, af.okp S rfl⟩
  all_goals first | exact af.elim | simp_all

theorem or_sub (hK : X.K = F.G.K) : OpR X (binaryOp .Sub) (R2of F (oBin .sub)) := by
  intro pins s σ H x y v u Q I rx ry ⟨σ', a, b, h, m, P, S, ra, rb, af⟩
  simp only [oBin] at af
  split at af
  all_goals try (first | exact af.elim | (simp_all; done))
  · rename_i i j _ ea eb
    exact op_sub pins s σ H x y v u Q I rx ry ⟨i, j, snap_int ra ea, snap_int rb eb, af.okp S rfl⟩
  · rename_i i j _ ea eb
    exact op_sub_bi pins s σ H x y v u Q I rx ry ⟨i, j, snap_bl ra ea, snap_int rb eb, af.okp S rfl⟩
  · rename_i i j _ ea eb
    exact op_sub_ib pins s σ H x y v u Q I rx ry ⟨i, j, snap_int ra ea, snap_bl rb eb, af.okp S rfl⟩
theorem tuple_mulW1 (l : Addr) (items : Array Value) (n : Nat) (dd : Option Addr) (sl : Array (Option Value)) (u : Tok) :
    Meets (Builtin.«tuple.__mul__» ⟨[.ref l, .int 1 u], []⟩) (fun _ R s => s.heap.get? l = some { cls := .type "tuple", dict := dd, data := .seq items n, slots := sl } ∧ R (.ok (.ret (Value.ref l))) s) :=
  .of_wp fun prog w A R s h => by
    obtain ⟨hp, g, d, tk, os⟩ := s
    obtain ⟨hl, h⟩ := h
    have f1 := AutoSeq1.idx_int
    have c0 : (decide ((1 : Int) < -(2 ^ 63)) || decide ((1 : Int) ≥ 2 ^ 63)) = false := by decide
    have c1 : (items.isEmpty || (1 : Int) == 1) = true := by simp
    wp_walk using wpAny_loadPart' hl
    repeat (first
      | (refine wpAny_ite_false (decide_eq_false (by rw [c0]; exact Bool.false_ne_true)) ?_; wp_walk using wpAny_loadPart' hl)
      | (refine wpAny_ite_true (decide_eq_true c1) ?_; wp_walk using wpAny_loadPart' hl))
    exact ⟨_, rfl, h⟩
theorem op_repT1 : OpR X (binaryOp .Mult) (fun x y H Q => ∃ l xs, x = .ref l ∧ y = .int 1 ∧ SqT X.K H l xs ∧ Q (.ref l) H) := by
  intro pins s σ H x y v u Q I rx ry h
  obtain ⟨l, xs, rfl, rfl, hT, q⟩ := h
  cases rx
  obtain ⟨t, rfl⟩ := ry
  obtain ⟨its, r, ⟨⟨cls, dd, data, sl⟩, ho, hc, n, hd⟩, hs⟩ := I.tuple hT
  simp only at hc hd
  subst hc hd
  refine wpAny_binaryOp_repeat_ref (T := "tuple") (U := "int") (by decide) ⟨_, ho, rfl⟩ (fun s' => typeIs_int s' 1 t) noFill_tuple_mul PySem.F.fills_int_mul PySem.F.slot_int_rmul repeat_tuple PySem.F.slot_int_index.lookup
    (call_meets PySem.F.slot_int_rmul (typeIs_int s 1 t) PySem.F.entry_int_rmul (PySem.F.args_int_rmul_2 _ _) (int_rmul_tuple 1 t l its.toArray n dd sl)
      ⟨ho, rfl, ⟨_, ho, rfl⟩, call_meets PySem.F.slot_tuple_mul ⟨_, ho, rfl⟩ PySem.F.entry_tuple_mul (PySem.F.args_tuple_mul_2 _ _) (tuple_mulW1 l its.toArray n dd sl t) ⟨ho, ?_⟩⟩)
  exact ⟨.ref l, H, I, rfl, q⟩
theorem or_mul (hK : X.K = F.G.K) : OpR X (binaryOp .Mult) (R2of F (oBin .mul)) := by
  intro pins s σ H x y v u Q I rx ry ⟨σ', a, b, h, m, P, S, ra, rb, af⟩
  simp only [oBin] at af
  split at af
  all_goals try (first | exact af.elim | (simp_all; done))
  · rename_i i j _ ea eb
    split at af
    · rename_i hz
      exact op_mulW pins s σ H x y v u Q I rx ry ⟨i, j, snap_int ra ea, snap_int rb eb, hz, af.okp S rfl⟩
    · exact af.elim
  · rename_i xs k _ ea eb
    split at af
    · rename_i hz
      rcases hz with rfl | hz
      · obtain ⟨p, vs, e1, t1, r1⟩ := snap_tup ra ea
        have e0 : (List.replicate (1 : Int).toNat xs).flatten = xs := by simp
        rw [e0] at af
        exact op_repT1 pins s σ H x y v u Q I rx ry ⟨p, vs, e1, snap_int rb eb, by rw [hK]; exact t1.sq, af.okp S ⟨p, vs, rfl, t1, r1⟩⟩
      obtain ⟨h1, h2, h3, h4⟩ := hz
      obtain ⟨p, vs, e1, t1, r1⟩ := snap_tup ra ea
      have l1 := r1.length
      refine op_repT pins s σ H x y v u Q I rx ry ⟨p, k, vs, e1, snap_int rb eb, by rw [hK]; exact t1.sq, fun z => ?_, h1, h2, by omega, fun p hp => af.newT S (r1.rep _) hp⟩
      subst z
      have : xs = [] := List.length_eq_zero_iff.mp l1
      subst this
      cases h3
    · exact af.elim
  · rename_i xs k _ ea eb
    split at af
    · rename_i hz
      obtain ⟨h1, h2, h3⟩ := hz
      obtain ⟨p, vs, e1, t1, r1⟩ := snap_lst S ra ea
      have l1 := r1.length
      rw [sizeLim_eq] at h3
      exact op_rep pins s σ H x y v u Q I rx ry ⟨p, k, vs, e1, snap_int rb eb, t1, by omega, by omega, by rw [← l1]; exact h3, fun p hp => af.newL S (r1.rep _) hp⟩
    · exact af.elim
  · rename_i a k _ ea eb
    split at af
    · rename_i hz
      obtain ⟨h1, h2, h3, h4⟩ := hz
      exact op_repS pins s σ H x y v u Q I rx ry ⟨a, k, snap_str ra ea, snap_int rb eb, h1, h2, h3, h4, af.okp S rfl⟩
    · exact af.elim
theorem or_fdiv (hK : X.K = F.G.K) : OpR X (binaryOp .FloorDiv) (R2of F (oBin .fdiv)) := by
  intro pins s σ H x y v u Q I rx ry ⟨σ', a, b, h, m, P, S, ra, rb, af⟩
  simp only [oBin] at af
  split at af
  all_goals try (first | exact af.elim | (simp_all; done))
  rename_i i j _ ea eb
  split at af
  · rename_i hz
    exact op_fdivW pins s σ H x y v u Q I rx ry ⟨i, j, snap_int ra ea, snap_int rb eb, hz, af.okp S rfl⟩
  · exact af.elim
theorem or_mod (hK : X.K = F.G.K) : OpR X (binaryOp .Mod) (R2of F (oBin .mod)) := by
  intro pins s σ H x y v u Q I rx ry ⟨σ', a, b, h, m, P, S, ra, rb, af⟩
  simp only [oBin] at af
  split at af
  all_goals try (first | exact af.elim | (simp_all; done))
  rename_i i j _ ea eb
  split at af
  · rename_i hz
    exact op_mod pins s σ H x y v u Q I rx ry ⟨i, j, snap_int ra ea, snap_int rb eb, hz, af.okp S rfl⟩
  · exact af.elim
theorem or_pow (hK : X.K = F.G.K) : OpR X (binaryOp .Pow) (R2of F (oBin .pow)) := by
  intro pins s σ H x y v u Q I rx ry ⟨σ', a, b, h, m, P, S, ra, rb, af⟩
  simp only [oBin] at af
  split at af
  all_goals try (first | exact af.elim | (simp_all; done))
  rename_i i j _ ea eb
  split at af
  · rename_i hz
    exact op_pow pins s σ H x y v u Q I rx ry ⟨i, j, snap_int ra ea, snap_int rb eb, ⟨hz.1, by omega, Nat.lt_of_le_of_lt hz.2.2 (by decide)⟩, af.okp S rfl⟩
  · exact af.elim
theorem or_bin (hK : X.K = F.G.K) (o : BO) : OpR X (binaryOp (opOf o)) (R2of F (oBin o)) := by
  cases o with
  | add => exact or_add hK
  | sub => exact or_sub hK
  | mul => exact or_mul hK
  | fdiv => exact or_fdiv hK
  | mod => exact or_mod hK
  | pow => exact or_pow hK
/-- the new list of a op b may change -/
theorem or_mkb (hK : X.K = F.G.K) (o : BO) : OpR X (binaryOp (opOf o)) (R2of F fun x y h => mkOf (oBin o x y h)) := by
  intro pins s σ H x y v u Q I rx ry ⟨σ', a, b, h, m, P, S, ra, rb, af⟩
  have key : ∀ xs, oBin o a b h = .ok (.pv (.lst xs), h) → ∃ vs, RVs F.G P H xs vs ∧ ((∀ p, H p = none → Q (.ref p) (upd H p (.lst vs))) → wpAny (model X.prog X.w) X.A (binaryOp (opOf o) v u) (EP X pins σ Q) X.xe s) := by
    intro xs e
    cases o <;> simp only [oBin] at e <;> split at e
    all_goals try (first | (cases e; done) | (simp_all; done) | (split at e <;> cases e; done))
    · rename_i xs' ys _ ea eb
      split at e
      · rename_i hz
        cases e
        obtain ⟨p, vs, e1, t1, r1⟩ := snap_lst S ra ea
        obtain ⟨q, ws, e2, t2, r2⟩ := snap_lst S rb eb
        have l1 := r1.length
        have l2 := r2.length
        rw [sizeLim_eq] at hz
        exact ⟨_, r1.append r2, fun k => op_cat pins s σ H x y v u Q I rx ry ⟨p, q, vs, ws, e1, e2, t1, t2, by omega, k⟩⟩
      · cases e
    · rename_i xs' k _ ea eb
      split at e
      · rename_i hz
        cases e
        obtain ⟨h1, h2, h3⟩ := hz
        obtain ⟨p, vs, e1, t1, r1⟩ := snap_lst S ra ea
        have l1 := r1.length
        rw [sizeLim_eq] at h3
        exact ⟨_, r1.rep _, fun q => op_rep pins s σ H x y v u Q I rx ry ⟨p, k, vs, e1, snap_int rb eb, t1, by omega, by omega, by rw [← l1]; exact h3, q⟩⟩
      · cases e
  have low : ∀ v' h', oBin o a b h = .ok (v', h') → h' = h := by
    intro v' h' e
    cases o <;> simp only [oBin] at e <;> split at e
    all_goals first | (cases e; done) | (cases e; try rfl) | (simp_all; done) | (split at e <;> first | (cases e; done) | (cases e; try rfl))
  dsimp only at af
  cases e : oBin o a b h with
  | ok r =>
    obtain ⟨v', h'⟩ := r
    have eh := low v' h' e
    subst eh
    rw [e] at af
    cases v' with
    | loc n => exact af.elim
    | pv p =>
      cases p with
      | lst xs =>
        obtain ⟨vs, r, k⟩ := key xs e
        exact k fun p hp => AftE.newR S af (rms_of_rvs r) hp
      | _ => exact af.elim
  | exc c fs h' => rw [e] at af; exact af.elim
  | bad => rw [e] at af; exact af.elim
end

/-! ### comparisons -/
mutual
def toD : PV → PyData
  | .non => .none
  | .bl b => .bool b
  | .int i => .int i
  | .str x => .str x
  | .tup xs => .tuple (toDs xs)
  | .lst xs => .list (toDs xs)
  | .dic _ _ => .dict []
  | .exc _ _ => .none
def toDs : List PV → List PyData
  | [] => []
  | x :: xs => toD x :: toDs xs
end
section
variable {G : Gb} {P : Addr → Prop} {H : Hp}
mutual
theorem dp_of (d : Nat) : ∀ (p : PV) (x : V), RV G P H p x → plain d p = true → Dp G.K H x (toD p)
  | .non, _, r, _ => by cases r; exact .non
  | .bl b, _, r, _ => by cases r; exact .bl b
  | .int i, _, r, _ => by cases r; exact .int i
  | .str x, _, r, _ => by cases r; exact .str x
  | .tup xs, _, r, e => by
    obtain ⟨a, vs, rfl, t, rs⟩ := r
    cases d with
    | zero => simp [plain] at e
    | succ d => exact .tup t.sq (dps_of d xs vs rs (by simpa [plain] using e))
  | .lst xs, _, r, e => by
    obtain ⟨a, vs, rfl, ⟨_, t⟩, rs⟩ := r
    cases d with
    | zero => simp [plain] at e
    | succ d => exact .lst (.of t) (dps_of d xs vs rs (by simpa [plain] using e))
  | .dic _ _, _, _, e => by simp [plain] at e
  | .exc _ _, _, _, e => by simp [plain] at e
theorem dps_of (d : Nat) : ∀ (xs : List PV) (vs : List V), RVs G P H xs vs → plains d xs = true → DpAll G.K H vs (toDs xs)
  | [], _, r, _ => by simp only [RVs] at r; subst r; exact .nil
  | x :: xs, _, r, e => by
    simp only [RVs] at r
    obtain ⟨y, ys, rfl, r1, r2⟩ := r
    simp only [plains, Bool.and_eq_true] at e
    exact .cons (dp_of d x y r1 e.1) (dps_of d xs ys r2 e.2)
end
mutual
theorem depth_of (d : Nat) : ∀ p : PV, plain d p = true → (toD p).depth ≤ d
  | .non, _ => by simp [toD, PyData.depth]
  | .bl b, _ => by simp [toD, PyData.depth]
  | .int i, _ => by simp [toD, PyData.depth]
  | .str x, _ => by simp [toD, PyData.depth]
  | .tup xs, e => by
    cases d with
    | zero => simp [plain] at e
    | succ d =>
      have := depths_of d xs (by simpa [plain] using e)
      simp only [toD, PyData.depth]; omega
  | .lst xs, e => by
    cases d with
    | zero => simp [plain] at e
    | succ d =>
      have := depths_of d xs (by simpa [plain] using e)
      simp only [toD, PyData.depth]; omega
  | .dic _ _, e => by simp [plain] at e
  | .exc _ _, e => by simp [plain] at e
theorem depths_of (d : Nat) : ∀ xs : List PV, plains d xs = true → PyData.depthAll (toDs xs) ≤ d
  | [], _ => by simp [toDs, PyData.depthAll]
  | x :: xs, e => by
    simp only [plains, Bool.and_eq_true] at e
    have h1 := depth_of d x e.1
    have h2 := depths_of d xs e.2
    simp only [toDs, PyData.depthAll]; omega
end
mutual
theorem eqv_of : ∀ (d : Nat) (p q : PV), plain d p = true → plain d q = true → PyData.eqv (toD p) (toD q) = pvEq p q
  | d, .tup xs, .tup ys, e, e' => by
    cases d with
    | zero => simp [plain] at e
    | succ d => simp only [toD, PyData.eqv, pvEq]; exact eqvs_of d xs ys (by simpa [plain] using e) (by simpa [plain] using e')
  | d, .lst xs, .lst ys, e, e' => by
    cases d with
    | zero => simp [plain] at e
    | succ d => simp only [toD, PyData.eqv, pvEq]; exact eqvs_of d xs ys (by simpa [plain] using e) (by simpa [plain] using e')
  | d, .dic _ _, _, e, _ => by simp [plain] at e
  | d, .exc _ _, _, e, _ => by simp [plain] at e
  | d, .non, q, _, e => by cases q <;> first | rfl | simp [plain] at e
  | d, .bl _, q, _, e => by cases q <;> first | rfl | simp [plain] at e
  | d, .int _, q, _, e => by cases q <;> first | rfl | simp [plain] at e
  | d, .str _, q, _, e => by cases q <;> first | rfl | simp [plain] at e
  | d, .tup _, .non, _, _ => rfl
  | d, .tup _, .bl _, _, _ => rfl
  | d, .tup _, .int _, _, _ => rfl
  | d, .tup _, .str _, _, _ => rfl
  | d, .tup _, .lst _, _, _ => rfl
  | d, .tup _, .dic _ _, _, e => by simp [plain] at e
  | d, .tup _, .exc _ _, _, e => by simp [plain] at e
  | d, .lst _, .non, _, _ => rfl
  | d, .lst _, .bl _, _, _ => rfl
  | d, .lst _, .int _, _, _ => rfl
  | d, .lst _, .str _, _, _ => rfl
  | d, .lst _, .tup _, _, _ => rfl
  | d, .lst _, .dic _ _, _, e => by simp [plain] at e
  | d, .lst _, .exc _ _, _, e => by simp [plain] at e
theorem eqvs_of : ∀ (d : Nat) (xs ys : List PV), plains d xs = true → plains d ys = true → PyData.eqvAll (toDs xs) (toDs ys) = pvEqs xs ys
  | d, [], [], _, _ => rfl
  | d, [], _ :: _, _, _ => rfl
  | d, _ :: _, [], _, _ => rfl
  | d, x :: xs, y :: ys, e, e' => by
    simp only [plains, Bool.and_eq_true] at e e'
    simp only [toDs, PyData.eqvAll, pvEqs, eqv_of d x y e.1 e'.1, eqvs_of d xs ys e.2 e'.2]
end
end
end MI

/-! MiR: the text of repr, of data with long ints, texts and {} -/
namespace MI
open PySem PySem.Spec L2
open PyProof.Rows hiding St
/-- nothing was said about the number of digits -/
def NoDig (K : PySem.W.Frag) : Prop := PySem.W.nsIn K cStatics "sys.int_max_str_digits" = some none
def Over (h0 : Heap) (s : Shared) : Prop := ∀ b o, h0.get? b = some o → s.heap.get? b = some o
section
variable {K : PySem.W.Frag} {h0 : Heap}
theorem looks_max {M : Model} (X : K.In h0) (nd : NoDig K) {A : Around} {E : Value → Shared → Prop} {s : Shared} {Q : Nat → Shared → Prop} (k : Over h0 s) (q : Q 4300 s) : wpAny M A Builtin.intMaxStrDigits Q E s := by
  unfold Builtin.intMaxStrDigits
  exact wpAny_bind (PySem.W.looks_nsIn (M := M) X nd A _ E s k (wpAny_pure q))
theorem looks_over {M : Model} (X : K.In h0) (nd : NoDig K) {a : Int} (hb : a.natAbs.log2 < 12000) {A : Around} {E : Value → Shared → Prop} {s : Shared} {Q : Option Nat → Shared → Prop} (k : Over h0 s) (q : Q none s) : wpAny M A (Builtin.overDigitLimit? a) Q E s := by
  by_cases h : a.natAbs.log2 < 1920
  · rw [PySem.overDigitLimit_small h]; exact wpAny_pure q
  · unfold Builtin.overDigitLimit?
    rw [if_neg h]
    refine wpAny_bind (looks_max X nd k ?_)
    have c : ¬ (a.natAbs.log2 / 30 + 1 > 1000) := by omega
    have d : (((4300 : Nat) == 0) || decide (a.natAbs.log2 < 3 * 4300)) = true := by simp; omega
    simp only [c, if_false, d, if_true]
    exact wpAny_pure q
theorem gives_big (X : K.In h0) (nd : NoDig K) {a : Int} (t : Tok) (hb : a.natAbs.log2 < 12000) : GivesAt (Over h0) (Builtin.«int.__repr__» ⟨[.int a t], []⟩) (.str (toString a)) := by
  intro prog w A R s k h
  unfold Builtin.«int.__repr__»
  show wpAny (model prog w) A.in1 (do let r ← Builtin.overDigitLimit? a; _) _ _ s
  refine wpAny_bind (looks_over X nd hb k ?_)
  exact (Gives.of_eq (m := .str (toString a)) rfl) prog w A R s h
theorem big_len {a : Int} (hb : a.natAbs.log2 < 12000) : (Str.ofString (toString a)).length ≤ 12001 := by
  have e := int_text_length_le (k := 12000) (by decide) hb
  rw [PySem.ofString_length]; exact e
variable {prog : Program} {w : World}
theorem reprO_big (X : K.In h0) (nd : NoDig K) {a : Int} {t : Tok} (hb : a.natAbs.log2 < 12000) {A : Around} {E : Value → Shared → Prop} {s : Shared} {Q : Value → Shared → Prop} (k : Over h0 s) (q : Q (.str (toString a) s.toks) { s with toks := s.toks + 1 }) : wpAny (model prog w) A (pyReprObj (.int a t)) Q E s := by
  have hz : (Str.ofString (toString a)).length ≤ sizeLine := by have := big_len hb; rw [sizeLine_eq]; omega
  unfold pyReprObj
  simp only [cRoomFor, show [Value.int a t].any Value.onHeap = false from rfl, Bool.false_eq_true, if_false, pure_bind]
  refine wpAny_bind (wpAny_specialOf (name := Str.ofString "__repr__") (typeIs_int s a t) F.slot_int_repr.lookup ?_)
  refine wpAny_bind (m := callSpecialIfBound? (.int a t) (Str.ofString "__repr__")) (wpAny_callSpecialIfBound?_slot (name := Str.ofString "__repr__") (typeIs_int s a t) F.slot_int_repr (call_givesAt F.slot_int_repr (typeIs_int s a t) F.entry_int_repr (F.args_int_repr_1 _) (gives_big X nd t hb) k ⟨hz, ?_⟩))
  exact wpAny_bind (wpAny_isInstance (T := "str") (b := true) rfl isSubtype_str_str (wpAny_pure q))
theorem call_repr_big (X : K.In h0) (nd : NoDig K) {a : Int} {t : Tok} (hb : a.natAbs.log2 < 12000) {A : Around} {E : Value → Shared → Prop} {s : Shared} {Q : Value → Shared → Prop} (hu : A.units + 1 < cLine) (k : Over h0 s) (q : Q (.str (toString a) s.toks) { s with toks := s.toks + 1 }) : wpAny (model prog w) A (call (.builtin "repr") [.int a t]) Q E s := by
  have hz : (Str.ofString (toString a)).length ≤ sizeLine := by have := big_len hb; rw [sizeLine_eq]; omega
  exact call_repr_slot hu (typeIs_int s a t) F.slot_int_repr.toG (call_givesAt F.slot_int_repr (typeIs_int s a t) F.entry_int_repr (F.args_int_repr_1 _) (gives_big X nd t hb) k ⟨hz, _, _, rfl, q⟩)
theorem rk_big (X : K.In h0) (nd : NoDig K) {a : Int} (t : Tok) (hb : a.natAbs.log2 < 12000) (bs : List Addr) (d : Nat) : ReprK prog w bs h0 d (.int a t) (toString a) := fun base hz A g E s Q _ _ _ k hQ => by
  have hn' : base ≤ sizeLine := by omega
  rw [pyReprUnder_leaf (v := .int a t) hn' (fun _ e => nomatch e)]
  unfold pyRepr
  exact wpAny_bind (reprO_big X nd hb k (wpAny_pure (hQ s.heap _ fun _ _ e => e)))
theorem str_big (X : K.In h0) (nd : NoDig K) {a : Int} {t : Tok} (hb : a.natAbs.log2 < 12000) {A : Around} {E : Value → Shared → Prop} {s : Shared} {Q : Value → Shared → Prop} (k : Over h0 s) (q : Q (.str (toString a) s.toks) { s with toks := s.toks + 1 }) : wpAny (model prog w) A (call (.type "str") [.int a t]) Q E s := by
  have hz : (Str.ofString (toString a)).length ≤ sizeLine := by have := big_len hb; rw [sizeLine_eq]; omega
  refine callType_new F.called_str (by decide) (F.typeCall_str_1 _) (F.newCall_str_1 _) (fun obj => F.args_object_init_2 obj _) F.entry_str_new
    (meets_str_new (S := fun A R s => Over h0 s ∧ R (.ok (.ret (.str (toString a) s.toks))) { s with toks := s.toks + 1 }) fun pr w' A R s hq => ?_) ⟨k, typeIs_str _ _ _, q⟩
  obtain ⟨hk, hq⟩ := hq
  unfold Builtin.Str.strOf
  rw [show Builtin.Str.isExactStr (.int a t) = false from rfl]
  try (have hv : [Value.int a t].any Value.onHeap = false := rfl; simp only [cRoomFor, hv, Bool.false_eq_true, if_false, pure_bind])
  refine wpAny_bind (m := callSpecial? (.int a t) (Str.ofString "__str__")) (wpAny_callSpecial?_slot (name := Str.ofString "__str__") (typeIs_int s a t) F.slot_int_str ?_)
  refine wpAny_call_entry F.slot_int_str (typeIs_int s a t) entry_object_str ?_ (args_object_str _)
  unfold Builtin.«object.__str__»
  refine wpAny_bind (m := slotArgs "__str__" 0 _) (wpAny_pure ?_)
  try (have hv : [Value.int a t].any Value.onHeap = false := rfl; simp only [cRoomFor, hv, Bool.false_eq_true, if_false, pure_bind])
  refine wpAny_bind (m := callSpecialIfBound? (.int a t) (Str.ofString "__repr__")) (wpAny_callSpecialIfBound?_slot (name := Str.ofString "__repr__") (typeIs_int s a t) F.slot_int_repr
    (call_givesAt F.slot_int_repr (typeIs_int s a t) F.entry_int_repr (F.args_int_repr_1 _) (gives_big X nd t hb) hk ⟨hz, ?_⟩))
  exact wpAny_pure ⟨_, rfl, wpAny_pure hq⟩
/-! ### int(text) of more than 640 digits -/
theorem wp_textB {M : Model} {A : Around} {E : Value → Shared → Prop} {s : Shared} {Q : Value → Shared → Prop} {v : Value} {text : List Nat} {n : Int} (X : K.In h0) (nd : NoDig K) (k : Over h0 s)
    (hs : ¬ (text.takeWhile (· != 0)).length ≤ 640) (hr : (int_private% "readNumeral") 4300 10 (text.takeWhile (· != 0)) = (int_private% "Numeral.value") n)
    (ha : ((text.takeWhile (· != 0)).length == text.length) = true) (h : Q (.int n s.toks) { s with toks := s.toks + 1 }) :
    wpAny M A ((int_private% "intFromText") v text 10) Q E s := by
  obtain ⟨hp, g, d, tk, os⟩ := s
  repeat (any_goals (first
    | assumption
    | (with_reducible refine wpAny_ite_false (decide_eq_false hs) ?_)
    | (with_reducible refine wpAny_ite_true (decide_eq_true ha) ?_)
    | (with_reducible refine looks_max X nd k ?_)
    | wp_step))
  all_goals (try rw [hr])
  all_goals (try dsimp only)
  repeat (any_goals (first
    | assumption
    | (with_reducible refine wpAny_ite_true (decide_eq_true ha) ?_)
    | wp_step))
structure HidT (p : Prop) : Prop where
  out : p
set_option maxHeartbeats 4000000 in
theorem gives_textB (X : K.In h0) (nd : NoDig K) {x : PySem.Str} {u : Tok} {n : Int} (hl : ¬ (numSeenOf x).length ≤ 640) (hz : x.length ≤ sizeLine) (hn : PySem.intText? x = some n) : GivesAt (Over h0) (Builtin.«int.__new__» ⟨[.type "int", .str x u], []⟩) (.int n) := by
  intro prog w A R s k0 h
  have hr : (int_private% "readNumeral") 4300 10 (numSeenOf x) = (int_private% "Numeral.value") n ∧ ((numSeenOf x).length == (numTextOf x).length) = true := by
    rcases read4300 x hz with ⟨m, h1, h2, h3⟩ | ⟨h1, _⟩
    · rw [hn] at h1
      injection h1 with h1
      subst h1
      exact ⟨h3, h2⟩
    · rw [hn] at h1
      cases h1
  obtain ⟨hp, g, d, tk, os⟩ := s
  have f1 := F.conv_sub_int
  have f2 := F.madeHere_int
  have f3 := PySem.W.KIN.str_int
  have f4 := PySem.W.KIN.str_idx
  have f5 := PySem.W.KIN.str_trunc
  have f6 : typeOf (.str x u) = pure (.type "str") := rfl
  have hk := HidT.mk (And.intro hl (And.intro hr k0))
  clear hr hl hn hz k0
  repeat (any_goals (first
    | assumption
    | ((with_reducible show wpAny _ _ ((int_private% "intFromText") _ _ _) _ _ _); refine wp_textB X nd (fun b o e => hk.out.2.2 b o e) hk.out.1 hk.out.2.1.1 hk.out.2.1.2 ?_)
    | wp_step))
  all_goals first | exact ⟨_, rfl, h⟩ | skip
/-- a value that stands as data, and its text -/
def RkV (prog : Program) (w : World) (h0 : Heap) (u : Value) (d : PyData) : Prop := ∃ as bs, Reads h0 u d as ∧ ReadAtMost h0 d.depth bs ∧ ReprK prog w bs h0 d.depth u d.shown
def RkVs (prog : Program) (w : World) (h0 : Heap) (us : List Value) (ds : List PyData) : Prop := ∃ as bs, ReadsAll h0 us ds as ∧ ReadAtMost h0 (PyData.depthAll ds) bs ∧ ReprAllK prog w bs h0 (PyData.depthAll ds) us (PyData.shownAll ds)
theorem RkVs.cons {u : Value} {us : List Value} {d : PyData} {ds : List PyData} (a : RkV prog w h0 u d) (b : RkVs prog w h0 us ds) : RkVs prog w h0 (u :: us) (d :: ds) := by
  obtain ⟨as, bs, r1, k1, q1⟩ := a
  obtain ⟨cs, es, r2, k2, q2⟩ := b
  refine ⟨as ++ cs, bs ++ es, .cons r1 r2, ?_, ?_⟩
  · simp only [PyData.depthAll]
    exact (k1.mono (Nat.le_max_left _ _)).append (k2.mono (Nat.le_max_right _ _))
  · simp only [PyData.depthAll, PyData.shownAll]
    exact .cons ((q1.more fun b hb => List.mem_append_left _ hb).level_le (Nat.le_max_left _ _)) (q2.more_le (fun b hb => List.mem_append_right _ hb) (Nat.le_max_right _ _))
theorem RkVs.nil : RkVs prog w h0 [] [] := ⟨[], [], .nil, fun _ h => (nomatch h), by simp only [PyData.shownAll]; exact .nil⟩
/-- the parts of a tuple or list at a -/
theorem RkVs.apart {a : Addr} {us : List Value} {ds : List PyData} {d : PyData} {as bs : List Addr} (r : Reads h0 (.ref a) d as) (hd : PyData.depthAll ds < d.depth) (k : ReadAtMost h0 (PyData.depthAll ds) bs) : a ∉ bs := not_mem_of_deeper r hd k
theorem rk_tup {a : Addr} {us : List Value} {ds : List PyData} (t : IsTup h0 a us.toArray) (q : RkVs prog w h0 us ds) : RkV prog w h0 (.ref a) (.tuple ds) := by
  obtain ⟨as, bs, r, k, z⟩ := q
  obtain ⟨o, ho, hc, n, hd⟩ := t
  have rr : Reads h0 (.ref a) (.tuple ds) as := .tuple ho hc hd (by simpa using r)
  have na : a ∉ bs := not_mem_of_deeper rr (by simp only [PyData.depth]; omega) k
  refine ⟨_, a :: bs, rr, ReadAtMost.cons rr (by simp only [PyData.depth]; omega) k, ?_⟩
  simp only [PyData.depth, PyData.shown]
  exact ReprK.tuple ho hc hd na (by simpa using z)
theorem rk_lst {a : Addr} {us : List Value} {ds : List PyData} (t : PlainL h0 a us.toArray) (q : RkVs prog w h0 us ds) : RkV prog w h0 (.ref a) (.list ds) := by
  obtain ⟨as, bs, r, k, z⟩ := q
  obtain ⟨o, n, ho, hc, _, hd⟩ := t
  have rr : Reads h0 (.ref a) (.list ds) (a :: as) := .list ho hc hd (by simpa using r)
  have na : a ∉ bs := not_mem_of_deeper rr (by simp only [PyData.depth]; omega) k
  refine ⟨_, a :: bs, rr, ReadAtMost.cons rr (by simp only [PyData.depth]; omega) k, ?_⟩
  simp only [PyData.depth, PyData.shown]
  cases us with
  | nil =>
    cases r
    simp only [PyData.shownAll, listText_nil]
    exact ReprK.listEmpty ho hc hd
  | cons x l => exact ReprK.list ho hc hd na (by simpa using z.length_eq) (fun i y e => z.item i y (by simpa using e))
theorem rk_dic {a : Addr} {o : Obj} {n : Nat} (ho : h0.get? a = some o) (hc : o.cls = .type "dict") (hd : o.data = .dict #[] n) (hs : (a == sysModules) = false) : RkV prog w h0 (.ref a) (.dict []) := by
  have rr : Reads h0 (.ref a) (.dict []) (a :: [] ++ []) := .dict ho hc hd (by simpa using ReadsAll.nil) (by simpa using ReadsAll.nil)
  refine ⟨_, [a], rr, ReadAtMost.cons (n := 0) rr (by omega) (fun _ h => (nomatch h)), ?_⟩
  simp only [PyData.depth, PyData.shown, PyData.shownKv, PyData.depthKv]
  exact ReprK.dict (as := []) ho hc hd hs (by simp) (ReprEntriesK.of_two [] [] [] .nil .nil)
end
section
variable {prog : Program} {w : World} {h0 : Heap} {A : Around} {E : Value → Shared → Prop} {s : Shared} {Q : Value → Shared → Prop}
theorem top_tup {a : Addr} {us : List Value} {ds : List PyData} (t : IsTup h0 a us.toArray) (q : RkVs prog w h0 us ds) (hg : A.guards = some []) (hu : A.units + 1 + (PyData.depthAll ds + 1) < cLine) (k : Over h0 s) (hz : (tupleText (PyData.shownAll ds)).length ≤ sizeLine)
    (hQ : ∀ h' u tk, (∀ b o, s.heap.get? b = some o → h'.get? b = some o) → Q (.str (tupleText (PyData.shownAll ds)) u) { s with heap := h', toks := tk }) : wpAny (model prog w) A (call (.builtin "repr") [.ref a]) Q E s := by
  obtain ⟨as, bs, r, kk, z⟩ := q
  obtain ⟨o, ho, hc, n, hd⟩ := t
  have rr : Reads h0 (.ref a) (.tuple ds) as := .tuple ho hc hd (by simpa using r)
  have na : a ∉ bs := not_mem_of_deeper rr (by simp only [PyData.depth]; omega) kk
  exact call_repr_slot (by omega) ⟨o, k _ _ ho, hc⟩ F.slot_tuple_repr (call_tuple_reprK ho hc hd na (by simpa using z) (show A.in1.guards = _ from hg) (fun b _ => Clear.nil b) (by show A.units + 1 + _ < _; omega) k (fun h' u tk hk => ⟨_, _, rfl, hQ h' u tk hk⟩) hz)
theorem top_lst {a : Addr} {us : List Value} {ds : List PyData} (t : PlainL h0 a us.toArray) (q : RkVs prog w h0 us ds) (hg : A.guards = some []) (hu : A.units + 1 + (PyData.depthAll ds + 1) < cLine) (k : Over h0 s) (hz : (listText (PyData.shownAll ds)).length ≤ sizeLine)
    (hQ : ∀ h' u tk, (∀ b o, s.heap.get? b = some o → h'.get? b = some o) → Q (.str (listText (PyData.shownAll ds)) u) { s with heap := h', toks := tk }) : wpAny (model prog w) A (call (.builtin "repr") [.ref a]) Q E s := by
  obtain ⟨as, bs, r, kk, z⟩ := q
  obtain ⟨o, n, ho, hc, _, hd⟩ := t
  have rr : Reads h0 (.ref a) (.list ds) (a :: as) := .list ho hc hd (by simpa using r)
  have na : a ∉ bs := not_mem_of_deeper rr (by simp only [PyData.depth]; omega) kk
  cases us with
  | nil =>
    cases r
    simp only [PyData.shownAll, listText_nil] at hQ
    exact call_repr_slot (by omega) ⟨o, k _ _ ho, hc⟩ F.slot_list_repr.toG (call_list_repr_empty ⟨o, k _ _ ho, hc⟩ (k _ _ ho) hd ⟨_, _, rfl, hQ s.heap _ _ fun _ _ e => e⟩)
  | cons x l => exact call_repr_slot (by omega) ⟨o, k _ _ ho, hc⟩ F.slot_list_repr.toG (call_list_reprK ho hc hd na (by simpa using z.length_eq) (fun i y e => z.item i y (by simpa using e)) (show A.in1.guards = _ from hg) (fun b _ => Clear.nil b) (by show A.units + 1 + _ < _; omega) k (fun h' u tk hk => ⟨_, _, rfl, hQ h' u tk hk⟩) hz)
theorem top_dic {a : Addr} {o : Obj} {n : Nat} (ho : h0.get? a = some o) (hc : o.cls = .type "dict") (hd : o.data = .dict #[] n) (hs : (a == sysModules) = false) (hg : A.guards = some []) (hu : A.units + 5 < cLine) (k : Over h0 s)
    (hQ : ∀ h' u tk, (∀ b o, s.heap.get? b = some o → h'.get? b = some o) → Q (.str (dictText []) u) { s with heap := h', toks := tk }) : wpAny (model prog w) A (call (.builtin "repr") [.ref a]) Q E s :=
  call_repr_slot (by omega) ⟨o, k _ _ ho, hc⟩ F.slot_dict_repr (call_dict_reprK (as := []) (d := 0) ho hc hd hs (by simp) (ReprEntriesK.of_two [] [] [] .nil .nil) (show A.in1.guards = _ from hg) (fun b _ => Clear.nil b) (by show A.units + 1 + _ < _; omega) k (fun h' u tk hk => ⟨_, _, rfl, hQ h' u tk hk⟩) (by rw [sizeLine_eq]; decide +kernel))
end
/-! ### the evaluator's values -/
mutual
def show2 : PV → Bool
  | .int i => decide (i.natAbs.log2 < 12000)
  | .tup xs => show2s xs
  | .lst xs => show2s xs
  | .dic ks vs => ks.isEmpty && vs.isEmpty
  | .exc _ _ => false
  | _ => true
def show2s : List PV → Bool
  | [] => true
  | x :: xs => show2 x && show2s xs
end
section
variable {X : Cx} {pins : List (Addr × Obj)} {σ : St} {H : Hp} {s : Shared} {G : Gb} {P : Addr → Prop}
theorem dic_at (I : L2.Inv X pins σ H s) {a : Addr} (e : H a = some (.dK [])) : ∃ o n, s.heap.get? a = some o ∧ o.cls = .type "dict" ∧ o.data = .dict #[] n ∧ (a == sysModules) = false := by
  obtain ⟨z, y, vs, r, o, es, ep, ho, hx, hd, _, hl, _⟩ := I.hok a _ e
  cases r
  have : es = #[] := by
    obtain ⟨l⟩ := es
    cases hl
    rfl
  subst this
  exact ⟨o, ep, ho, hx.1, hd, y⟩
mutual
theorem rv_rk (I : L2.Inv X pins σ H s) (hK : X.K = G.K) (nd : NoDig X.K) : ∀ (p : PV) (x : V) (u : Value), RV G P H p x → RelV x u → show2 p = true → (toD p).shown.length ≤ sizeLine → RkV X.prog X.w s.heap u (toD p)
  | .non, _, _, r, ru, _, _ => by
    cases r; cases ru
    exact ⟨[], [], .none, fun _ h => (nomatch h), by simp only [toD, PyData.shown]; exact .of_is ReprIs.none _ _ _⟩
  | .bl b, _, _, r, ru, _, _ => by
    cases r; cases ru
    exact ⟨[], [], .bool b, fun _ h => (nomatch h), by simp only [toD, PyData.shown]; exact .of_is (ReprIs.bool b) _ _ _⟩
  | .int i, _, _, r, ru, e, _ => by
    cases r; obtain ⟨t, rfl⟩ := ru
    exact ⟨[], [], .int i t, fun _ h => (nomatch h), by simp only [toD, PyData.shown]; exact rk_big I.kIn nd t (by simpa [show2] using e) _ _⟩
  | .str x, _, _, r, ru, _, hz => by
    cases r; obtain ⟨t, rfl⟩ := ru
    exact ⟨[], [], .str x t, fun _ h => (nomatch h), by simp only [toD, PyData.shown]; exact .of_is (ReprIs.str x t (by simpa only [toD, PyData.shown] using hz)) _ _ _⟩
  | .tup xs, _, _, r, ru, e, hz => by
    obtain ⟨a, vs, rfl, t, rs⟩ := r
    cases ru
    obtain ⟨its, rr, tt, _⟩ := I.tuple (a := a) (xs := vs) (by rw [hK]; exact t.sq)
    have hz' : (tupleText (PyData.shownAll (toDs xs))).length ≤ sizeLine := by simpa only [toD, PyData.shown] using hz
    exact rk_tup tt (rvs_rk I hK nd xs vs its rs rr (by simpa [show2] using e) fun z hm => Nat.le_trans (tupleText_mem_le hm) hz')
  | .lst xs, _, _, r, ru, e, hz => by
    obtain ⟨a, vs, rfl, ⟨_, t⟩, rs⟩ := r
    cases ru
    obtain ⟨its, rr, tt, _⟩ := I.list (a := a) (xs := vs) (.of t)
    have hz' : (listText (PyData.shownAll (toDs xs))).length ≤ sizeLine := by simpa only [toD, PyData.shown] using hz
    exact rk_lst tt (rvs_rk I hK nd xs vs its rs rr (by simpa [show2] using e) fun z hm => Nat.le_trans (listText_mem_le hm) hz')
  | .dic ks vs, _, _, r, ru, e, hz => by
    obtain ⟨rfl, rfl, a, rfl, _, q⟩ := r
    cases ru
    obtain ⟨o, n, ho, hc, hd, hs⟩ := dic_at I q
    exact rk_dic ho hc hd hs
  | .exc _ _, _, _, _, _, e, _ => by simp [show2] at e
theorem rvs_rk (I : L2.Inv X pins σ H s) (hK : X.K = G.K) (nd : NoDig X.K) : ∀ (xs : List PV) (vs : List V) (us : List Value), RVs G P H xs vs → Vals vs us → show2s xs = true → (∀ t ∈ PyData.shownAll (toDs xs), t.length ≤ sizeLine) → RkVs X.prog X.w s.heap us (toDs xs)
  | [], _, _, r, ru, _, _ => by
    simp only [RVs] at r; subst r
    cases ru
    exact RkVs.nil
  | x :: xs, _, _, r, ru, e, hz => by
    simp only [RVs] at r
    obtain ⟨y, ys, rfl, r1, r2⟩ := r
    cases ru with
    | cons ru1 ru2 =>
      simp only [show2s, Bool.and_eq_true] at e
      exact RkVs.cons (rv_rk I hK nd x y _ r1 ru1 e.1 (hz _ (by simp only [toDs, PyData.shownAll]; exact List.mem_cons_self))) (rvs_rk I hK nd xs ys _ r2 ru2 e.2 fun t ht => hz t (by simp only [toDs, PyData.shownAll]; exact List.mem_cons_of_mem _ ht))
end
end
/-! ### room -/
mutual
theorem rlen_ok (d : Nat) : ∀ (p : PV) (n : Nat), rlen d p = some n → (toD p).shown.length ≤ n ∧ show2 p = true ∧ (toD p).depth ≤ d + 1
  | .non, n, e => by
    simp only [rlen, Option.some.injEq] at e; subst e
    exact ⟨by simp only [toD, PyData.shown]; decide, by simp [show2], by simp [toD, PyData.depth]⟩
  | .bl b, n, e => by
    simp only [rlen, Option.some.injEq] at e; subst e
    exact ⟨by cases b <;> (simp only [toD, PyData.shown]; decide), by simp [show2], by simp [toD, PyData.depth]⟩
  | .int i, n, e => by
    simp only [rlen] at e
    split at e
    · rename_i hi
      cases e
      exact ⟨by simp only [toD, PyData.shown]; exact Nat.le_succ_of_le (PyProof.Rows.int_text_len_1921 hi), by simp [show2]; omega, by simp [toD, PyData.depth]⟩
    · split at e
      · rename_i hi
        cases e
        exact ⟨by simp only [toD, PyData.shown]; exact Nat.le_succ_of_le (big_len hi), by simp [show2, hi], by simp [toD, PyData.depth]⟩
      · cases e
  | .str x, n, e => by
    simp only [rlen] at e
    split at e
    · rename_i hx
      cases e
      refine ⟨?_, by simp [show2], by simp [toD, PyData.depth]⟩
      simp only [toD, PyData.shown]
      refine PySem.StrLaws.reprText_len x fun c hc => ?_
      rw [Array.all_eq_true_iff_forall_mem] at hx
      have := hx c (by simpa using hc)
      simp only [decide_eq_true_eq] at this
      omega
    · cases e
  | .dic ks vs, n, e => by
    simp only [rlen] at e
    split at e
    · rename_i hx
      cases e
      simp only [Bool.and_eq_true] at hx
      refine ⟨?_, by simp [show2, hx.1, hx.2], by simp [toD, PyData.depth, PyData.depthKv]⟩
      simp only [toD, PyData.shown, PyData.shownKv]
      decide +kernel
    · cases e
  | .exc _ _, n, e => by simp [rlen] at e
  | .tup xs, n, e => by
    cases d with
    | zero => simp [rlen] at e
    | succ d =>
      simp only [rlen, Option.map_eq_some_iff] at e
      obtain ⟨k, ek, rfl⟩ := e
      obtain ⟨h1, h2, h4⟩ := rlens_ok d xs k ek
      refine ⟨?_, by simpa [show2] using h2, by simp only [toD, PyData.depth]; omega⟩
      have := PySem.tupleText_len_le (PyData.shownAll (toDs xs))
      simp only [toD, PyData.shown]; omega
  | .lst xs, n, e => by
    cases d with
    | zero => simp [rlen] at e
    | succ d =>
      simp only [rlen, Option.map_eq_some_iff] at e
      obtain ⟨k, ek, rfl⟩ := e
      obtain ⟨h1, h2, h4⟩ := rlens_ok d xs k ek
      refine ⟨?_, by simpa [show2] using h2, by simp only [toD, PyData.depth]; omega⟩
      have := PySem.listText_len_le (PyData.shownAll (toDs xs))
      simp only [toD, PyData.shown]; omega
theorem rlens_ok (d : Nat) : ∀ (xs : List PV) (n : Nat), rlens d xs = some n → ((PyData.shownAll (toDs xs)).map (·.length)).sum + 2 * (PyData.shownAll (toDs xs)).length ≤ n ∧ show2s xs = true ∧ PyData.depthAll (toDs xs) ≤ d + 1
  | [], n, e => by
    simp only [rlens, Option.some.injEq] at e; subst e
    simp [toDs, PyData.shownAll, show2s, PyData.depthAll]
  | x :: xs, n, e => by
    simp only [rlens] at e
    split at e
    · rename_i a b ea eb
      cases e
      obtain ⟨h1, h2, h4⟩ := rlen_ok d x a ea
      obtain ⟨k1, k2, k4⟩ := rlens_ok d xs b eb
      refine ⟨?_, by simp [show2s, h2, k2], by simp only [toDs, PyData.depthAll]; omega⟩
      simp only [toDs, PyData.shownAll, List.map_cons, List.sum_cons, List.length_cons]; omega
    · cases e
end
/-- the text of repr -/
def rpOf (p : PV) : Str := (toD p).shown
end MI

/-! MiS3: comparisons, subscripts, kinds, built-in functions -/
namespace MI
open PySem PySem.Spec L2
open PyProof.Rows hiding St
mutual
theorem lay_of (d : Nat) : ∀ p : PV, plain d p = true → (toD p).canLay0 = true
  | .non, _ => by simp [toD, PyData.canLay0]
  | .bl b, _ => by simp [toD, PyData.canLay0]
  | .int i, _ => by simp [toD, PyData.canLay0]
  | .str x, e => by simp only [toD, PyData.canLay0, PyData.strOk]; simpa [plain] using e
  | .tup xs, e => by
    cases d with
    | zero => simp [plain] at e
    | succ d => simp only [toD, PyData.canLay0]; exact lays_of d xs (by simpa [plain] using e)
  | .lst xs, e => by
    cases d with
    | zero => simp [plain] at e
    | succ d => simp only [toD, PyData.canLay0]; exact lays_of d xs (by simpa [plain] using e)
  | .dic _ _, e => by simp [plain] at e
  | .exc _ _, e => by simp [plain] at e
theorem lays_of (d : Nat) : ∀ xs : List PV, plains d xs = true → PyData.canLayAll0 (toDs xs) = true
  | [], _ => by simp [toDs, PyData.canLayAll0]
  | x :: xs, e => by
    simp only [plains, Bool.and_eq_true] at e
    simp only [toDs, PyData.canLayAll0, lay_of d x e.1, lays_of d xs e.2, Bool.and_self]
end
mutual
theorem plain_up {d d' : Nat} (hd : d ≤ d') : ∀ p : PV, plain d p = true → plain d' p = true
  | .non, _ => by simp [plain]
  | .bl b, _ => by simp [plain]
  | .int i, _ => by simp [plain]
  | .str x, e => by simpa [plain] using e
  | .tup xs, e => by
    cases d with
    | zero => simp [plain] at e
    | succ d =>
      cases d' with
      | zero => omega
      | succ d' => simp only [plain] at e ⊢; exact plains_up (by omega) xs e
  | .lst xs, e => by
    cases d with
    | zero => simp [plain] at e
    | succ d =>
      cases d' with
      | zero => omega
      | succ d' => simp only [plain] at e ⊢; exact plains_up (by omega) xs e
  | .dic _ _, e => by simp [plain] at e
  | .exc _ _, e => by simp [plain] at e
theorem plains_up {d d' : Nat} (hd : d ≤ d') : ∀ xs : List PV, plains d xs = true → plains d' xs = true
  | [], _ => by simp [plains]
  | x :: xs, e => by
    simp only [plains, Bool.and_eq_true] at e ⊢
    exact ⟨plain_up hd x e.1, plains_up hd xs e.2⟩
end
theorem shaped_of {p : PV} (e : plain 60 p = true) : SeqAt.shaped (toD p) = true := by
  have h1 := depth_of 60 p e
  show ((toD p).canLay0 && decide ((toD p).depth ≤ 64)) = true
  rw [Bool.and_eq_true]
  exact ⟨lay_of 60 p e, decide_eq_true (by omega)⟩
section
variable {G : Gb} {m : Nat → Addr} {P : Addr → Prop} {h : Sto} {H : Hp} {N : Nat}
theorem dp_snap (S : SR G m P h H) {u : MV} {x : V} {p : PV} (r : RMV G m P h.length H u x) (e : snap u h = some p) (hp : plain 60 p = true) : Dp G.K H x (toD p) := by
  by_cases hl : ∃ xs, p = .lst xs
  · obtain ⟨xs, rfl⟩ := hl
    obtain ⟨a, vs, rfl, t, rs⟩ := snap_lst S r e
    exact .lst (.of t) (dps_of 59 xs vs rs (by simpa [plain] using hp))
  · exact dp_of 60 p x (snap_pv r e fun xs z => hl ⟨xs, z⟩) hp
end
section
variable {X : Cx} {F : Fx}
theorem dec_strs {a b : Str} : decide (V.str a = V.str b) = (a == b) := by
  by_cases h : a = b
  · subst h; simp
  · rw [decide_eq_false (fun z => h (V.str.inj z))]; simp [h]
theorem emp_all {n : Nat} {a : Array Value} : ((List.range (min a.size (#[] : Array Value).size)).all (fun _ => true) && a.size == (#[] : Array Value).size) = (a.size == 0) := by simp
theorem op_eqN (hu : X.A.units < cLine) : OpR X (compareOp .Eq) (fun x y H Q => ∃ a b vs, x = .ref a ∧ y = .ref b ∧ SqT X.K H a vs ∧ SqT X.K H b [] ∧ Q (.bl (vs.length == 0)) H) := by
  rintro pins s σ H x y v u Q I rx ry ⟨a, b, vs, rfl, rfl, h1, h2, q⟩
  cases rx; cases ry
  obtain ⟨its, rv, t1, _⟩ := I.tuple h1
  obtain ⟨its2, rv2, t2, _⟩ := I.tuple h2
  cases rv2
  have hl := rv.length
  refine SeqAt.eq_tupleAt (e := fun _ => true) t1 t2 hu (fun j _ k => absurd k (by simp)) ?_
  rw [emp_all (n := 0), show its.toArray.size = vs.length by simp [hl]]
  exact ⟨.bl _, H, I, rfl, q⟩
theorem op_neN (hu : X.A.units < cLine) : OpR X (compareOp .NotEq) (fun x y H Q => ∃ a b vs, x = .ref a ∧ y = .ref b ∧ SqT X.K H a vs ∧ SqT X.K H b [] ∧ Q (.bl (!(vs.length == 0))) H) := by
  rintro pins s σ H x y v u Q I rx ry ⟨a, b, vs, rfl, rfl, h1, h2, q⟩
  cases rx; cases ry
  obtain ⟨its, rv, t1, _⟩ := I.tuple h1
  obtain ⟨its2, rv2, t2, _⟩ := I.tuple h2
  cases rv2
  have hl := rv.length
  refine SeqAt.RcNeAt.tuples (e := fun _ => true) t1 t2 hu (fun j _ k => absurd k (by simp)) X.prog X.w X.xe _ ?_
  rw [emp_all (n := 0), show its.toArray.size = vs.length by simp [hl]]
  exact ⟨.bl _, H, I, rfl, q⟩
theorem op_eqL (hu : X.A.units < cLine) : OpR X (compareOp .Eq) (fun x y H Q => ∃ a b vs, x = .ref a ∧ y = .ref b ∧ SqL X.K H a vs ∧ SqL X.K H b [] ∧ vs ≠ [] ∧ Q (.bl false) H) := by
  rintro pins s σ H x y v u Q I rx ry ⟨a, b, vs, rfl, rfl, h1, h2, hn, q⟩
  cases rx; cases ry
  obtain ⟨its, rv, t1, _⟩ := I.list h1
  obtain ⟨its2, rv2, t2, _⟩ := I.list h2
  cases rv2
  have hl := rv.length
  refine SeqAt.eq_list_lengthsAt t1.isList t2.isList ?_ hu ⟨.bl _, H, I, rfl, q⟩
  cases its with
  | nil => exact absurd (List.length_eq_zero_iff.mp hl) hn
  | cons x l => rfl
theorem op_neL (hu : X.A.units < cLine) : OpR X (compareOp .NotEq) (fun x y H Q => ∃ a b vs, x = .ref a ∧ y = .ref b ∧ SqL X.K H a vs ∧ SqL X.K H b [] ∧ vs ≠ [] ∧ Q (.bl true) H) := by
  rintro pins s σ H x y v u Q I rx ry ⟨a, b, vs, rfl, rfl, h1, h2, hn, q⟩
  cases rx; cases ry
  obtain ⟨its, rv, t1, _⟩ := I.list h1
  obtain ⟨its2, rv2, t2, _⟩ := I.list h2
  cases rv2
  have hl := rv.length
  refine SeqAt.RcNeAt.lists_lengths t1.isList t2.isList ?_ hu X.prog X.w X.xe _ ⟨.bl _, H, I, rfl, q⟩
  cases its with
  | nil => exact absurd (List.length_eq_zero_iff.mp hl) hn
  | cons x l => rfl
theorem nil_sq {G : Gb} {m : Nat → Addr} {P : Addr → Prop} {h : Sto} {H : Hp} {u w : MV} {x y : V} {p q : PV} {b : Bool} (S : SR G m P h H) (ra : RMV G m P h.length H u x) (rb : RMV G m P h.length H w y) (ea : snap u h = some p) (eb : snap w h = some q) (e : nilEq p q = some b) :
    (∃ a c vs, x = .ref a ∧ y = .ref c ∧ SqT G.K H a vs ∧ SqT G.K H c [] ∧ b = (vs.length == 0)) ∨ (∃ a c vs, x = .ref a ∧ y = .ref c ∧ SqL G.K H a vs ∧ SqL G.K H c [] ∧ vs ≠ [] ∧ b = false) := by
  unfold nilEq at e
  split at e
  · rename_i xs
    cases e
    obtain ⟨a, vs, e1, t1, r1⟩ := snap_tup ra ea
    obtain ⟨c, ws, e2, t2, r2⟩ := snap_tup rb eb
    have l1 := r1.length
    have l2 := r2.length
    have : ws = [] := List.length_eq_zero_iff.mp l2.symm
    subst this
    refine .inl ⟨a, c, vs, e1, e2, t1.sq, t2.sq, ?_⟩
    rw [← l1]
    cases xs <;> rfl
  · rename_i z zs
    cases e
    obtain ⟨a, vs, e1, t1, r1⟩ := snap_lst S ra ea
    obtain ⟨c, ws, e2, t2, r2⟩ := snap_lst S rb eb
    have l1 := r1.length
    have l2 := r2.length
    have : ws = [] := List.length_eq_zero_iff.mp l2.symm
    subst this
    exact .inr ⟨a, c, vs, e1, e2, .of t1, .of t2, fun q => by rw [q] at l1; simp at l1, rfl⟩
  · cases e
theorem oc_eq (hK : X.K = F.G.K) (hu : X.A.units + 64 < cLine) : OpR X (compareOp .Eq) (R2of F (oCmp .eq)) := by
  intro pins s σ H x y v u Q I rx ry ⟨σ', a, b, h, m, P, S, ra, rb, af⟩
  simp only [oCmp] at af
  split at af
  · rename_i p q ea eb
    unfold eqOf at af
    split at af
    · rename_i c d
      have e1 := snap_str ra ea
      have e2 := snap_str rb eb
      subst e1 e2
      exact op_eq pins s σ H _ _ v u Q I rx ry ⟨rfl, by rw [dec_strs]; exact af.okp S rfl⟩
    · split at af
      · rename_i hp
        have d1 := dp_snap S ra ea hp.1
        have d2 := dp_snap S rb eb hp.2
        refine op_eqD hu pins s σ H x y v u Q I rx ry ⟨_, _, by rw [hK]; exact d1, by rw [hK]; exact d2, shaped_of hp.1, shaped_of hp.2, ?_⟩
        rw [eqv_of 60 p q hp.1 hp.2]
        exact af.okp S rfl
      · cases e : nilEq p q with
        | none => rw [e] at af; exact af.elim
        | some z =>
          rw [e] at af
          rcases nil_sq S ra rb ea eb e with ⟨a', c', vs, e1, e2, t1, t2, ez⟩ | ⟨a', c', vs, e1, e2, t1, t2, hn, ez⟩
          · subst ez
            exact op_eqN (by omega) pins s σ H x y v u Q I rx ry ⟨a', c', vs, e1, e2, by rw [hK]; exact t1, by rw [hK]; exact t2, af.okp S rfl⟩
          · subst ez
            exact op_eqL (by omega) pins s σ H x y v u Q I rx ry ⟨a', c', vs, e1, e2, by rw [hK]; exact t1, by rw [hK]; exact t2, hn, af.okp S rfl⟩
  · exact af.elim
theorem oc_ne (hK : X.K = F.G.K) (hu : X.A.units + 64 < cLine) : OpR X (compareOp .NotEq) (R2of F (oCmp .ne)) := by
  intro pins s σ H x y v u Q I rx ry ⟨σ', a, b, h, m, P, S, ra, rb, af⟩
  simp only [oCmp] at af
  split at af
  · rename_i p q ea eb
    unfold eqOf at af
    split at af
    · rename_i c d
      have e1 := snap_str ra ea
      have e2 := snap_str rb eb
      subst e1 e2
      exact op_ne pins s σ H _ _ v u Q I rx ry ⟨rfl, by rw [dec_strs]; exact af.okp S rfl⟩
    · split at af
      · rename_i hp
        have d1 := dp_snap S ra ea hp.1
        have d2 := dp_snap S rb eb hp.2
        refine op_neD hu pins s σ H x y v u Q I rx ry ⟨_, _, by rw [hK]; exact d1, by rw [hK]; exact d2, shaped_of hp.1, shaped_of hp.2, ?_⟩
        rw [eqv_of 60 p q hp.1 hp.2]
        exact af.okp S rfl
      · cases e : nilEq p q with
        | none => rw [e] at af; exact af.elim
        | some z =>
          rw [e] at af
          rcases nil_sq S ra rb ea eb e with ⟨a', c', vs, e1, e2, t1, t2, ez⟩ | ⟨a', c', vs, e1, e2, t1, t2, hn, ez⟩
          · subst ez
            exact op_neN (by omega) pins s σ H x y v u Q I rx ry ⟨a', c', vs, e1, e2, by rw [hK]; exact t1, by rw [hK]; exact t2, af.okp S rfl⟩
          · subst ez
            exact op_neL (by omega) pins s σ H x y v u Q I rx ry ⟨a', c', vs, e1, e2, by rw [hK]; exact t1, by rw [hK]; exact t2, hn, af.okp S rfl⟩
  · exact af.elim
theorem oc_int {op : CmpOp} {f : Int → Int → Bool} (ho : OpR X (compareOp op) (rI0 fun i j => .bl (f i j))) : OpR X (compareOp op) (R2of F (ints2 f)) := by
  intro pins s σ H x y v u Q I rx ry ⟨σ', a, b, h, m, P, S, ra, rb, af⟩
  unfold ints2 at af
  split at af
  · rename_i i j
    exact ho pins s σ H x y v u Q I rx ry ⟨i, j, ra, rb, af.okp S rfl⟩
  · exact af.elim
theorem oc_is : OpR X (compareOp .Is) (R2of F (oCmp .is)) := by
  intro pins s σ H x y v u Q I rx ry ⟨σ', a, b, h, m, P, S, ra, rb, af⟩
  simp only [oCmp] at af
  split at af
  · rename_i hb
    have ey : y = .non := by
      cases b with
      | loc n => cases hb
      | pv p => cases p <;> first | exact rb | cases hb
    have ex : decide (x = .non) = isNon a := by
      cases a with
      | loc n => obtain ⟨_, rfl⟩ := ra; try rfl
      | pv p =>
        cases p with
        | non => cases ra; try rfl
        | bl b => cases ra; try rfl
        | int b => cases ra; try rfl
        | str b => cases ra; try rfl
        | tup xs => obtain ⟨_, _, rfl, _⟩ := ra; try rfl
        | lst xs => obtain ⟨_, _, rfl, _⟩ := ra; try rfl
        | dic ks vs => obtain ⟨_, _, _, rfl, _⟩ := ra; try rfl
        | exc c fs => obtain ⟨_, _, _, _, rfl, _⟩ := ra; try rfl
    exact op_isN pins s σ H x y v u Q I rx ry ⟨ey, by rw [ex]; exact af.okp S rfl⟩
  · exact af.elim
theorem oc_isnot : OpR X (compareOp .IsNot) (R2of F (oCmp .isnot)) := by
  intro pins s σ H x y v u Q I rx ry ⟨σ', a, b, h, m, P, S, ra, rb, af⟩
  simp only [oCmp] at af
  split at af
  · rename_i hb
    have ey : y = .non := by
      cases b with
      | loc n => cases hb
      | pv p => cases p <;> first | exact rb | cases hb
    have ex : decide (x = .non) = isNon a := by
      cases a with
      | loc n => obtain ⟨_, rfl⟩ := ra; try rfl
      | pv p =>
        cases p with
        | non => cases ra; try rfl
        | bl b => cases ra; try rfl
        | int b => cases ra; try rfl
        | str b => cases ra; try rfl
        | tup xs => obtain ⟨_, _, rfl, _⟩ := ra; try rfl
        | lst xs => obtain ⟨_, _, rfl, _⟩ := ra; try rfl
        | dic ks vs => obtain ⟨_, _, _, rfl, _⟩ := ra; try rfl
        | exc c fs => obtain ⟨_, _, _, _, rfl, _⟩ := ra; try rfl
    exact op_notN pins s σ H x y v u Q I rx ry ⟨ey, by rw [ex]; exact af.okp S rfl⟩
  · exact af.elim
def opC : CO → CmpOp
  | .eq => .Eq | .ne => .NotEq | .lt => .Lt | .le => .LtE | .gt => .Gt | .ge => .GtE | .is => .Is | .isnot => .IsNot | .in_ => .In | .notin => .NotIn
theorem any_eqv {p : PV} (hp : plain 60 p = true) : ∀ {d : Nat} {ys : List PV}, d ≤ 60 → plains d ys = true → (toDs ys).any (fun z => PyData.eqv z (toD p)) = ys.any fun z => pvEq z p
  | _, [], _, _ => rfl
  | d, y :: ys, hd, e => by
    simp only [plains, Bool.and_eq_true] at e
    have up : ∀ {d d' : Nat}, d ≤ d' → ∀ q : PV, plain d q = true → plain d' q = true := plain_up
    simp only [toDs, List.any_cons, any_eqv hp hd e.2, eqv_of 60 y p (up hd y e.1) hp]
theorem oc_in (hK : X.K = F.G.K) (hu : X.A.units + 65 < cLine) : OpR X (compareOp .In) (R2of F (oCmp .in_)) := by
  intro pins s σ H x y v u Q I rx ry ⟨σ', a, b, h, m, P, S, ra, rb, af⟩
  simp only [oCmp] at af
  split at af
  · rename_i p q ea eb
    unfold inOf at af
    split at af
    · rename_i ys
      split at af
      · rename_i hp
        have d1 := dp_snap S ra ea hp.1
        have d2 := dp_snap S rb eb hp.2
        refine op_inD hu pins s σ H x y v u Q I rx ry ⟨_, toDs ys, by rw [hK]; exact d1, by rw [hK]; exact d2, shaped_of hp.1, shaped_of (p := .lst ys) hp.2, ?_⟩
        rw [any_eqv hp.1 (d := 59) (by omega) (by simpa [plain] using hp.2)]
        exact af.okp S rfl
      · exact af.elim
    · exact af.elim
  · exact af.elim
theorem oc_notin (hK : X.K = F.G.K) (hu : X.A.units + 65 < cLine) : OpR X (compareOp .NotIn) (R2of F (oCmp .notin)) := by
  intro pins s σ H x y v u Q I rx ry ⟨σ', a, b, h, m, P, S, ra, rb, af⟩
  simp only [oCmp] at af
  split at af
  · rename_i p q ea eb
    unfold inOf at af
    split at af
    · rename_i ys
      split at af
      · rename_i hp
        have d1 := dp_snap S ra ea hp.1
        have d2 := dp_snap S rb eb hp.2
        refine op_notInD hu pins s σ H x y v u Q I rx ry ⟨_, toDs ys, by rw [hK]; exact d1, by rw [hK]; exact d2, shaped_of hp.1, shaped_of (p := .lst ys) hp.2, ?_⟩
        rw [any_eqv hp.1 (d := 59) (by omega) (by simpa [plain] using hp.2)]
        exact af.okp S rfl
      · exact af.elim
    · exact af.elim
  · exact af.elim
theorem oc_cmp (hK : X.K = F.G.K) (hu : X.A.units + 65 < cLine) (o : CO) : OpR X (compareOp (opC o)) (R2of F (oCmp o)) := by
  cases o with
  | eq => exact oc_eq hK (by omega)
  | ne => exact oc_ne hK (by omega)
  | lt => exact oc_int op_lt
  | le => exact oc_int op_le
  | gt => exact oc_int op_gt
  | ge => exact oc_int op_ge
  | is => exact oc_is
  | isnot => exact oc_isnot
  | in_ => exact oc_in hK hu
  | notin => exact oc_notin hK hu

/-! ### subscripts -/
theorem ix_dict (hu : X.A.units + 1 < cLine) : IxR X (fun x y H Q => ∃ a v, x = .ref a ∧ DGet H a y (some v) ∧ Q v H) := by
  intro value slice pins s σ H x y v u Q I rx ry h hs
  obtain ⟨a, w', rfl, g, q⟩ := h
  obtain rfl : v = Value.ref a := rx
  have hT := dict_typeIs I g
  unfold subscriptTail
  refine wpAny_bind ?_
  rw [getitemInPython_of_ne hT.not_modules]
  refine wpAny_bind (wpAny_specialOf hT PySem.F.slot_dict_getitem.lookup ?_)
  have fin : wpAny (model X.prog X.w) X.A (subscripted slice false (.ref a) u) (fun r s₃ => wpAny (model X.prog X.w) X.A (letTemporaryGo value (.ref a) r >>= fun _ => pure r) (EP X pins σ Q) X.xe s₃) X.xe s := by
    rw [hs]
    exact wpAny_operating (wpAny_mono (d_getItem hu I g ry (Q := EP X pins σ Q) fun w2 s3 I3 rw' => ⟨w', H, I3, rw', q⟩) (fun r s₃ h₃ => wpAny_bind (wpAny_letTemporaryGo (wpAny_pure h₃))) fun _ _ x => x)
  first
    | exact wpAny_pure (wpAny_bind fin)
    | exact wpAny_bind (wpAny_pure (wpAny_bind fin))
    | exact wpAny_bind fin
theorem ixN_same (n : Nat) (i : Int) : MI.ixN n i = L2.ixN n i := rfl
theorem paired_get {α β : Type} {R : α → β → Prop} : ∀ {xs : List α} {ys : List β} {i : Nat} {x : α}, Paired R xs ys → xs[i]? = some x → ∃ y, ys[i]? = some y ∧ R x y
  | _, _, _, _, .nil, e => by simp at e
  | _, _, 0, x, .cons r _, e => by simp at e; subst e; exact ⟨_, rfl, r⟩
  | _, _, i + 1, x, .cons _ t, e => by
    obtain ⟨y, h1, h2⟩ := paired_get (i := i) t (by simpa using e)
    exact ⟨y, by simpa using h1, h2⟩
theorem klook_val {G : Gb} {m : Nat → Addr} {P : Addr → Prop} {N : Nat} {H : Hp} {k : DKey} : ∀ {kvs : List (DKey × MV)} {kws : List (Key × V)} {v : MV},
    Paired (fun (p : DKey × MV) (q : Key × V) => p.1 = q.1 ∧ RMV G m P N H p.2 q.2) kvs kws → klook k kvs = some v → ∃ x, valV kws k = some x ∧ RMV G m P N H v x
  | _, _, _, .nil, e => by simp [klook] at e
  | p :: kvs, q :: kws, v, .cons ⟨e1, r⟩ t, e => by
    by_cases hk : p.1 = k
    · rw [valV_pos (e1 ▸ hk)]
      simp only [klook, List.find?_cons, hk, decide_true, Option.map_some, Option.some.injEq] at e
      subst e
      exact ⟨_, rfl, r⟩
    · rw [valV_neg (e1 ▸ hk)]
      refine klook_val t ?_
      simpa [klook, List.find?_cons, hk] using e
theorem key_rel {G : Gb} {m : Nat → Addr} {P : Addr → Prop} {N : Nat} {H : Hp} {v : MV} {x : V} {k : DKey} (r : RMV G m P N H v x) (e : keyOf v = some k) : x = kV k := by
  cases v with
  | loc n => simp [keyOf] at e
  | pv p =>
    cases p with
    | int i => simp only [keyOf, Option.some.injEq] at e; subst e; exact r
    | str i => simp only [keyOf, Option.some.injEq] at e; subst e; exact r
    | _ => simp [keyOf] at e
theorem ox_idx (hK : X.K = F.G.K) (hu : X.A.units + 1 < cLine) : IxR X (R2of F oIdx) := by
  intro value slice pins s σ H x y v u Q I rx ry ⟨σ', a, b, h, m, P, S, ra, rb, af⟩ hs
  unfold oIdx at af
  split at af
  · -- a place
    rename_i n
    obtain ⟨hn, rfl⟩ := ra
    split at af
    · rename_i kvs eo
      split at af
      · rename_i k ek
        split at af
        · rename_i v' el
          obtain ⟨kws, eh, rk⟩ := S.obj n _ eo
          obtain ⟨x', e1, r1⟩ := klook_val rk el
          have ey := key_rel rb ek
          subst ey
          exact ix_dict hu value slice pins s σ H _ _ v u Q I rx ry ⟨_, x', rfl, e1 ▸ DGet.k eh, af _ H m P Ext.refl S r1⟩ hs
        · exact af.elim
      · exact af.elim
    · rename_i xs eo
      split at af
      · rename_i i
        split at af
        · rename_i j ej
          split at af
          · rename_i v' el
            obtain ⟨vs, eh, rk⟩ := S.obj n _ eo
            obtain ⟨x', e1, r1⟩ := paired_get rk el
            have hl := Paired.length rk
            refine ix_list value slice pins s σ H _ _ v u Q I rx ry ⟨_, vs, i, x', rfl, rb, by rw [hK]; exact .of eh, ?_, af _ H m P Ext.refl S r1⟩ hs
            unfold atI
            rw [← hl, ← ixN_same, ej]
            exact e1
          · exact af.elim
        · exact af.elim
      · exact af.elim
    · rename_i xs eo
      split at af
      · rename_i i
        split at af
        · rename_i j ej
          split at af
          · rename_i v' el
            obtain ⟨vs, eh, rk⟩ := S.obj n _ eo
            obtain ⟨x', e1, r1⟩ := rk.get el
            have hl := rk.length
            refine ix_list value slice pins s σ H _ _ v u Q I rx ry ⟨_, vs, i, x', rfl, rb, by rw [hK]; exact eh.sq, ?_, af.okp S r1⟩ hs
            unfold atI
            rw [← hl, ← ixN_same, ej]
            exact e1
          · exact af.elim
        · exact af.elim
      · exact af.elim
    · exact af.elim
  · rename_i xs
    obtain ⟨p, vs, rfl, t, rk⟩ := ra
    split at af
    · rename_i i
      split at af
      · rename_i j ej
        split at af
        · rename_i v' el
          obtain ⟨x', e1, r1⟩ := rk.get el
          have hl := rk.length
          refine ix_tup value slice pins s σ H _ _ v u Q I rx ry ⟨_, vs, i, x', rfl, rb, by rw [hK]; exact t.sq, ?_, af.okp S r1⟩ hs
          unfold atI
          rw [← hl, ← ixN_same, ej]
          exact e1
        · exact af.elim
      · exact af.elim
    · exact af.elim
  · rename_i xs
    obtain ⟨p, vs, rfl, ⟨_, t⟩, rk⟩ := ra
    split at af
    · rename_i i
      split at af
      · rename_i j ej
        split at af
        · rename_i v' el
          obtain ⟨x', e1, r1⟩ := rk.get el
          have hl := rk.length
          refine ix_list value slice pins s σ H _ _ v u Q I rx ry ⟨_, vs, i, x', rfl, rb, by rw [hK]; exact .of t, ?_, af.okp S r1⟩ hs
          unfold atI
          rw [← hl, ← ixN_same, ej]
          exact e1
        · exact af.elim
      · exact af.elim
    · exact af.elim
  · exact af.elim

/-! ### slices -/
theorem sIx_same (n d : Nat) (o : Option Int) : MI.sIx n d o = HT.sIx n d o := by cases o <;> rfl
theorem RVs.cut {G : Gb} {P : Addr → Prop} {H : Hp} {xs : List PV} {vs : List V} (r : RVs G P H xs vs) (lo hi : Option Int) : RVs G P H (MI.cut xs lo hi) (cutV vs lo hi) := by
  have hl := r.length
  unfold MI.cut cutV
  rw [hl, sIx_same, sIx_same]
  exact (r.drop _).take _
/-- a slice by values -/
def RSof (F : Fx) : V → Option Int → Option Int → Hp → VK → Prop := fun x lo hi H Q => ∃ σ v l u h m P, SR F.G m P h H ∧ RMV F.G m P h.length H v x ∧ optI l = some lo ∧ optI u = some hi ∧ AftE F σ m P h H (oSl v l u h) Q
theorem os_sl (hK : X.K = F.G.K) : SlR X (RSof F) := by
  intro pins s σ H x v vl vu lo hi sl Q I rx hs pl pu ⟨σ', a, l, u, h, m, P, S, ra, el, eu, af⟩
  simp only [oSl, el, eu] at af
  split at af
  · rename_i l' u' xs e1 e2 ea
    cases e1; cases e2
    obtain ⟨p, vs, rfl, t, r⟩ := snapK_tup ra ea
    have hl := r.length
    refine sl_tupA pins s σ H _ v vl vu lo hi sl Q I rx hs pl pu ⟨p, vs, rfl, by rw [hK]; exact t.sq, fun hw => ?_, fun _ q hq => af.newT S (r.cut lo hi) hq⟩
    have : MI.cut xs lo hi = xs := by
      unfold MI.cut
      rw [sIx_same, sIx_same, hl, hw.1, hw.2, List.drop_zero, Nat.sub_zero, ← hl, List.take_length]
    rw [this] at af
    exact af.okp S ⟨p, vs, rfl, t, r⟩
  · rename_i l' u' xs e1 e2 ea
    cases e1; cases e2
    obtain ⟨p, vs, rfl, t, r⟩ := snapK_lst S ra ea
    exact sl_list pins s σ H _ v vl vu lo hi sl Q I rx hs pl pu ⟨p, vs, rfl, by rw [hK]; exact t, fun q hq => af.newL S (r.cut lo hi) hq⟩
  · exact af.elim

/-! ### kinds -/
def tyS : TyN → String
  | .int => "int" | .bool => "bool" | .str => "str" | .tuple => "tuple" | .list => "list"
theorem isi_list {pins : List (Addr × Obj)} {σ : St} {H : Hp} {s : Shared} {a : Addr} {vs : List V} {c : Value} {b : Bool} {Q : Value → Shared → Prop} {A : Around} {E : Value → Shared → Prop} (I : L2.Inv X pins σ H s) (e : H a = some (.lst vs)) (hk : PySem.W.kitOne X.K (.type "list") c = some b) (h : ∀ tk, Q (.bool b) { s with toks := tk }) :
    wpAny (model X.prog X.w) A (call (.builtin "isinstance") [.ref a, c]) Q E s := isinst_ok (x := .ref a) I rfl (.lst e) hk h
theorem isi_tup {pins : List (Addr × Obj)} {σ : St} {H : Hp} {s : Shared} {a : Addr} {vs : List V} {c : Value} {b : Bool} {Q : Value → Shared → Prop} {A : Around} {E : Value → Shared → Prop} (I : L2.Inv X pins σ H s) (e : SqT X.K H a vs) (hk : PySem.W.kitOne X.K (.type "tuple") c = some b) (h : ∀ tk, Q (.bool b) { s with toks := tk }) :
    wpAny (model X.prog X.w) A (call (.builtin "isinstance") [.ref a, c]) Q E s := by
  obtain ⟨its, _, ⟨o, ho, hc, _⟩, _⟩ := I.tuple e
  exact PySem.W.kia_one PySem.W.kitx_tuple I.kIn ⟨_, ho, hc⟩ hk (fun z => nomatch z) h
/-- isinstance(x, T) -/
theorem oi_isI (hK : X.K = F.G.K) (t : TyN) : CallR X (.builtin "isinstance") (fun xs H Q => ∃ x, xs = [x, .ty (tyS t)] ∧ R1of F (isTy t) x H Q) := by
  intro pins s σ H xs us Q I r h
  obtain ⟨x, rfl, σ', a, h, m, P, S, ra, af⟩ := h
  obtain ⟨u1, u2, rfl, r1, r2⟩ := vals2 r
  cases (show u2 = Value.type (tyS t) from r2)
  have fin : ∀ b, isTy t a h = okP (.bl b) h → ∀ tk, EP X pins σ Q (.bool b) { s with toks := tk } := fun b e tk => ⟨.bl b, H, I.tok tk, rfl, AftE.okp S (e ▸ af) (show RV F.G P H (.bl b) (.bl b) from rfl)⟩
  cases a with
  | loc n =>
    obtain ⟨hn, rfl⟩ := ra
    cases r1
    obtain ⟨o, eo⟩ := get_lt hn
    have key : ∀ {ps : List PV} {xs : List MV}, h[n]? = some (.lst xs) → snap (.loc n) h = some (.lst ps) → ∃ vs, H (m n) = some (.lst vs) := fun {ps xs} e _ => by
      obtain ⟨vs, q, _⟩ := S.obj n _ e
      exact ⟨vs, q⟩
    cases es : snap (.loc n) h with
    | none => cases t <;> simp [isTy, es] at af <;> exact af.elim
    | some p =>
      simp only [snap] at es
      split at es
      · rename_i ms em
        split at es
        · rename_i ps ep
          cases es
          obtain ⟨vs, q, _⟩ := S.obj n _ em
          have es2 : snap (.loc n) h = some (.lst ps) := by simp [snap, em, ep]
          cases t
          · exact isi_list I q (kit_ty (b := "int") (by decide +kernel)) (fin false (by simp [isTy, es2]))
          · exact isi_list I q (kit_ty (b := "bool") (by decide +kernel)) (fin false (by simp [isTy, es2]))
          · exact isi_list I q (kit_ty (b := "str") (by decide +kernel)) (fin false (by simp [isTy, es2]))
          · exact isi_list I q (kit_ty (b := "tuple") (by decide +kernel)) (fin false (by simp [isTy, es2]))
          · exact isi_list I q (kit_ty (b := "list") (by decide +kernel)) (fin true (by simp [isTy, es2]))
        · cases es
      · cases es
  | pv p =>
    cases p with
    | non =>
      have ex : x = .non := ra
      subst ex
      cases t <;> exact isinst_ok I r1 .non (kit_ty (by decide +kernel)) (fin false rfl)
    | bl b =>
      have ex : x = .bl b := ra
      subst ex
      cases t
      · exact isinst_ok I r1 (.bl b) (kit_ty (b := "int") (by decide +kernel)) (fin true rfl)
      · exact isinst_ok I r1 (.bl b) (kit_ty (b := "bool") (by decide +kernel)) (fin true rfl)
      · exact isinst_ok I r1 (.bl b) (kit_ty (b := "str") (by decide +kernel)) (fin false rfl)
      · exact isinst_ok I r1 (.bl b) (kit_ty (b := "tuple") (by decide +kernel)) (fin false rfl)
      · exact isinst_ok I r1 (.bl b) (kit_ty (b := "list") (by decide +kernel)) (fin false rfl)
    | int b =>
      have ex : x = .int b := ra
      subst ex
      cases t
      · exact isinst_ok I r1 (.int b) (kit_ty (b := "int") (by decide +kernel)) (fin true rfl)
      · exact isinst_ok I r1 (.int b) (kit_ty (b := "bool") (by decide +kernel)) (fin false rfl)
      · exact isinst_ok I r1 (.int b) (kit_ty (b := "str") (by decide +kernel)) (fin false rfl)
      · exact isinst_ok I r1 (.int b) (kit_ty (b := "tuple") (by decide +kernel)) (fin false rfl)
      · exact isinst_ok I r1 (.int b) (kit_ty (b := "list") (by decide +kernel)) (fin false rfl)
    | str b =>
      have ex : x = .str b := ra
      subst ex
      cases t
      · exact isinst_ok I r1 (.str b) (kit_ty (b := "int") (by decide +kernel)) (fin false rfl)
      · exact isinst_ok I r1 (.str b) (kit_ty (b := "bool") (by decide +kernel)) (fin false rfl)
      · exact isinst_ok I r1 (.str b) (kit_ty (b := "str") (by decide +kernel)) (fin true rfl)
      · exact isinst_ok I r1 (.str b) (kit_ty (b := "tuple") (by decide +kernel)) (fin false rfl)
      · exact isinst_ok I r1 (.str b) (kit_ty (b := "list") (by decide +kernel)) (fin false rfl)
    | tup b =>
      obtain ⟨q, vs, rfl, tq, _⟩ := ra
      cases r1
      have tq' : SqT X.K H q vs := by rw [hK]; exact tq.sq
      cases t
      · exact isi_tup I tq' (kit_ty (b := "int") (by decide +kernel)) (fin false rfl)
      · exact isi_tup I tq' (kit_ty (b := "bool") (by decide +kernel)) (fin false rfl)
      · exact isi_tup I tq' (kit_ty (b := "str") (by decide +kernel)) (fin false rfl)
      · exact isi_tup I tq' (kit_ty (b := "tuple") (by decide +kernel)) (fin true rfl)
      · exact isi_tup I tq' (kit_ty (b := "list") (by decide +kernel)) (fin false rfl)
    | lst b =>
      obtain ⟨q, vs, rfl, ⟨_, tq⟩, _⟩ := ra
      cases r1
      cases t
      · exact isi_list I tq (kit_ty (b := "int") (by decide +kernel)) (fin false rfl)
      · exact isi_list I tq (kit_ty (b := "bool") (by decide +kernel)) (fin false rfl)
      · exact isi_list I tq (kit_ty (b := "str") (by decide +kernel)) (fin false rfl)
      · exact isi_list I tq (kit_ty (b := "tuple") (by decide +kernel)) (fin false rfl)
      · exact isi_list I tq (kit_ty (b := "list") (by decide +kernel)) (fin true rfl)
    | dic ks vs =>
      obtain ⟨_, _, q, rfl, _, tq⟩ := ra
      cases t <;> exact isinst_ok I r1 (.dK tq) (kit_ty (by decide +kernel)) (fin false rfl)
    | exc c fs => cases t <;> exact (af : False).elim
/-! ### built-in functions -/
theorem seqv_sq {G : Gb} {m : Nat → Addr} {P : Addr → Prop} {h : Sto} {H : Hp} (S : SR G m P h H) {u : MV} {x : V} {ms : List MV} (r : RMV G m P h.length H u x) (e : seqv u h = some ms) :
    ∃ a vs, x = .ref a ∧ (SqL G.K H a vs ∨ SqT G.K H a vs) ∧ RMs G m P h.length H ms vs := by
  cases u with
  | loc n =>
    obtain ⟨hn, rfl⟩ := r
    simp only [seqv] at e
    split at e
    · rename_i xs eo
      cases e
      obtain ⟨vs, q, rr⟩ := S.obj n _ eo
      exact ⟨_, vs, rfl, .inl (.of q), rr⟩
    · rename_i xs eo
      cases e
      obtain ⟨vs, q, rr⟩ := S.obj n _ eo
      exact ⟨_, vs, rfl, .inl q.sq, rms_of_rvs rr⟩
    · cases e
  | pv p =>
    cases p with
    | tup xs =>
      simp only [seqv, Option.some.injEq] at e
      subst e
      obtain ⟨a, vs, rfl, q, rr⟩ := r
      exact ⟨a, vs, rfl, .inr q.sq, rms_of_rvs rr⟩
    | lst xs =>
      simp only [seqv, Option.some.injEq] at e
      subst e
      obtain ⟨a, vs, rfl, ⟨_, q⟩, rr⟩ := r
      exact ⟨a, vs, rfl, .inl (.of q), rms_of_rvs rr⟩
    | _ => simp [seqv] at e
theorem seqp_sq {G : Gb} {m : Nat → Addr} {P : Addr → Prop} {h : Sto} {H : Hp} (S : SR G m P h H) {u : MV} {x : V} {ps : List PV} (r : RMV G m P h.length H u x) (e : seqp u h = some ps) :
    ∃ a vs, x = .ref a ∧ (SqL G.K H a vs ∨ SqT G.K H a vs) ∧ RVs G P H ps vs := by
  unfold seqp at e
  split at e
  · rename_i ms em
    obtain ⟨a, vs, e1, q, rr⟩ := seqv_sq S r em
    exact ⟨a, vs, e1, q, pures_rms rr e⟩
  · cases e
theorem rms1 {G : Gb} {m : Nat → Addr} {P : Addr → Prop} {N : Nat} {H : Hp} {v : MV} {xs : List V} (r : RMs G m P N H [v] xs) : ∃ x, xs = [x] ∧ RMV G m P N H v x := by
  cases r with
  | cons r t => cases t; exact ⟨_, rfl, r⟩
theorem rms2 {G : Gb} {m : Nat → Addr} {P : Addr → Prop} {N : Nat} {H : Hp} {v w : MV} {xs : List V} (r : RMs G m P N H [v, w] xs) : ∃ x y, xs = [x, y] ∧ RMV G m P N H v x ∧ RMV G m P N H w y := by
  cases r with
  | cons r t => cases t with | cons r' t => cases t; exact ⟨_, _, rfl, r, r'⟩
theorem ob_len (hK : X.K = F.G.K) {rp : PV → Str} : CallR X (.builtin "len") (RLof F (oBlt rp .len)) := by
  intro pins s σ H xs us Q I r ⟨σ', vs, h, m, P, S, rv, af⟩
  simp only [oBlt] at af
  split at af <;> try (first | exact af.elim | (simp_all; done))
  rename_i v hv
  split at af
  · rename_i ms em
    obtain ⟨x, rfl, rx⟩ := rms1 rv
    obtain ⟨a, ws, rfl, q, rr⟩ := seqv_sq S rx em
    have hl := Paired.length rr
    refine call_len_seq pins s σ H _ us Q I r ⟨a, ws, rfl, by rw [hK]; exact q, ?_⟩
    rw [← hl]
    exact af.okp S rfl
  · exact af.elim

theorem seqp_case {G : Gb} {m : Nat → Addr} {P : Addr → Prop} {h : Sto} {H : Hp} (S : SR G m P h H) {u : MV} {x : V} {ps : List PV} (r : RMV G m P h.length H u x) (e : seqp u h = some ps) :
    (∃ a vs, x = .ref a ∧ SqL G.K H a vs ∧ RVs G P H ps vs) ∨ (∃ a vs, x = .ref a ∧ PTu G.K P H a vs ∧ RVs G P H ps vs) := by
  cases u with
  | loc n =>
    obtain ⟨hn, rfl⟩ := r
    simp only [seqp, seqv] at e
    split at e
    · rename_i ms em
      split at em
      · rename_i xs eo
        cases em
        obtain ⟨vs, q, rr⟩ := S.obj n _ eo
        exact .inl ⟨_, vs, rfl, .of q, pures_rms rr e⟩
      · rename_i xs eo
        cases em
        obtain ⟨vs, q, rr⟩ := S.obj n _ eo
        rw [pures_map] at e
        cases e
        exact .inl ⟨_, vs, rfl, q.sq, rr⟩
      · cases em
    · cases e
  | pv p =>
    cases p with
    | tup xs =>
      simp only [seqp, seqv, pures_map, Option.some.injEq] at e
      subst e
      obtain ⟨a, vs, rfl, q, rr⟩ := r
      exact .inr ⟨a, vs, rfl, q, rr⟩
    | lst xs =>
      simp only [seqp, seqv, pures_map, Option.some.injEq] at e
      subst e
      obtain ⟨a, vs, rfl, ⟨_, q⟩, rr⟩ := r
      exact .inl ⟨a, vs, rfl, .of q, rr⟩
    | _ => simp [seqp, seqv] at e
theorem seqpL_case {G : Gb} {m : Nat → Addr} {P : Addr → Prop} {h : Sto} {H : Hp} (S : SR G m P h H) {u : MV} {x : V} {ps : List PV} (r : RMV G m P h.length H u x) (e : seqpL u h = some ps) :
    ∃ a vs, x = .ref a ∧ SqL G.K H a vs ∧ RVs G P H ps vs := by
  cases u with
  | loc n =>
    have e' : seqp (.loc n) h = some ps := e
    obtain ⟨hn, rfl⟩ := r
    simp only [seqp, seqv] at e'
    split at e'
    · rename_i ms em
      split at em
      · rename_i xs eo
        cases em
        obtain ⟨vs, q, rr⟩ := S.obj n _ eo
        exact ⟨_, vs, rfl, .of q, pures_rms rr e'⟩
      · rename_i xs eo
        cases em
        obtain ⟨vs, q, rr⟩ := S.obj n _ eo
        rw [pures_map] at e'
        cases e'
        exact ⟨_, vs, rfl, q.sq, rr⟩
      · cases em
    · cases e'
  | pv p =>
    cases p with
    | lst xs =>
      simp only [seqpL, seqp, seqv, pures_map, Option.some.injEq] at e
      subst e
      obtain ⟨a, vs, rfl, ⟨_, q⟩, rr⟩ := r
      exact ⟨a, vs, rfl, .of q, rr⟩
    | _ => simp [seqpL, seqp, seqv] at e
theorem ob_tuple (hK : X.K = F.G.K) {rp : PV → Str} : CallR X (.type "tuple") (RLof F (oBlt rp .tuple)) := by
  intro pins s σ H xs us Q I r ⟨σ', vs, h, m, P, S, rv, af⟩
  simp only [oBlt] at af
  split at af <;> try (first | exact af.elim | (simp_all; done))
  rename_i v hv
  split at af
  · rename_i ps ep
    obtain ⟨x, rfl, rx⟩ := rms1 rv
    rcases seqp_case S rx ep with ⟨a, ws, rfl, q, rr⟩ | ⟨a, ws, rfl, q, rr⟩
    · exact call_tuple_of pins s σ H _ us Q I r ⟨a, ws, rfl, .inl ⟨by rw [hK]; exact q, fun p hp => af.newT S rr hp⟩⟩
    · exact call_tuple_of pins s σ H _ us Q I r ⟨a, ws, rfl, .inr ⟨by rw [hK]; exact q.sq, af.okp S ⟨a, ws, rfl, q, rr⟩⟩⟩
  · exact af.elim
theorem ob_list (hK : X.K = F.G.K) {rp : PV → Str} : CallR X (.type "list") (RLof F (oBlt rp .list)) := by
  intro pins s σ H xs us Q I r ⟨σ', vs, h, m, P, S, rv, af⟩
  simp only [oBlt] at af
  split at af <;> try (first | exact af.elim | (simp_all; done))
  rename_i v hv
  split at af
  · rename_i ps ep
    obtain ⟨x, rfl, rx⟩ := rms1 rv
    obtain ⟨a, ws, rfl, q, rr⟩ := seqp_sq S rx ep
    exact call_list_of pins s σ H _ us Q I r ⟨a, ws, rfl, by rw [hK]; exact q, fun p hp => af.newL S rr hp⟩
  · exact af.elim
theorem ob_mkl (hK : X.K = F.G.K) {rp : PV → Str} : CallR X (.type "list") (fun xs H Q => ∃ x, xs = [x] ∧ R1of F (fun v h => mkOf (oBlt rp .list [v] h)) x H Q) := by
  intro pins s σ H xs us Q I r hh
  obtain ⟨x, rfl, σ', v, h, m, P, S, rx, af⟩ := hh
  simp only [oBlt] at af
  split at af
  · rename_i ps ep
    obtain ⟨a, ws, rfl, q, rr⟩ := seqp_sq S rx ep
    exact call_list_of pins s σ H _ us Q I r ⟨a, ws, rfl, by rw [hK]; exact q, fun p hp => AftE.newR S af (rms_of_rvs rr) hp⟩
  · exact af.elim
section
variable {prog : Program} {w : World} {A : Around} {E : Value → Shared → Prop} {s : Shared} {l : Addr} {its : List Value} {ns : List Int} {Q : Value → Shared → Prop}
theorem iter_intTup {xs : Array (Int × Tok)} {Q : Value → Shared → Prop} (hl : s.heap.IsTuple l (intItems xs))
    (h : ∀ s₂ : Shared, s₂ = { s with heap := s.heap.push { cls := .type "tuple_iterator", data := .fields #[.ref l, .int 0 0] } } →
      (s₂.heap.IsTupleIter s.heap.objs.size l 0 ∧ s₂.heap.IsTuple l (intItems xs)) → (∀ b ∈ [s.heap.objs.size, l], b < s₂.heap.objs.size) → l ≠ s.heap.objs.size → Q (.ref s.heap.objs.size) s₂) :
    wpAny (model prog w) A (pyIter (.ref l)) Q E s := by
  have hlt : l < s.heap.objs.size := by obtain ⟨_, e, _⟩ := hl; exact Heap.lt_size e
  refine wpAny_pyIter_tuple hl (h _ rfl ⟨⟨_, Heap.get?_push_size _ rfl, rfl, rfl⟩, hl.push _⟩ (fun b hb => ?_) (Nat.ne_of_lt hlt))
  show b < (s.heap.push _).objs.size
  rw [Heap.size_push]
  rcases List.mem_cons.mp hb with rfl | hb
  · exact Nat.lt_succ_self _
  · rcases List.mem_cons.mp hb with rfl | hb
    · exact Nat.lt_succ_of_lt hlt
    · cases hb
theorem old_keptT {h' : Heap} (hk : ∀ b o, b ∉ [s.heap.objs.size] → (s.heap.push { cls := .type "tuple_iterator", data := .fields #[.ref l, .int 0 0] }).get? b = some o → h'.get? b = some o) :
    ∀ b o, s.heap.get? b = some o → h'.get? b = some o := fun b o e => by
  refine hk b o (fun hm => ?_) (Heap.get?_push_of_some _ e)
  rcases List.mem_cons.mp hm with e1 | hm
  · exact absurd (e1 ▸ Heap.lt_size e) (Nat.lt_irrefl _)
  · cases hm
theorem max_rawT (hh : A.handled = none) (hl : s.heap.IsTuple l its.toArray) (hi : IntsAre its ns) (hne : 0 < ns.length)
    (h : ∀ h' tk M t', (∀ b o, s.heap.get? b = some o → h'.get? b = some o) → M ∈ ns → (∀ a, a ∈ ns → a ≤ M) → Q (.int M t') { s with heap := h', toks := tk }) : wpAny (model prog w) A (call (.builtin "max") [.ref l]) Q E s := by
  obtain ⟨xs, e⟩ := hi.allInts.items
  have hn : numsOf (intItems xs).toList = ns := by rw [← e]; exact hi.numsOf
  rw [nums_intItems] at hn
  subst hn
  rw [e] at hl
  have hsz : 0 < xs.size := by simpa using hne
  refine call_max_walk (iter_intTup hl fun s₂ e st hfp hlI => ?_)
  subst e
  refine ⟨_, _, _, _, _, _, _, rfl, Walks.tuple (A := A.in1) hh _ l hlI (intItems xs), st, hfp, by simpa [intItems] using hsz, CmpOf.ints_gt (numAt xs) (fun _ _ => intItems_at), fun v h' tk hP hk => ?_⟩
  have hv : (intItems xs)[argBest (fun i j => decide (numAt xs i > numAt xs j)) (xs.size - 1)]? = some v := by simpa [intItems] using hP
  obtain ⟨t, rfl⟩ := intItems_at hv
  obtain ⟨h1, h2⟩ := argBest_gt (numAt xs) (xs.size - 1)
  refine h h' tk _ t (old_keptT hk) ?_ fun a ha => ?_
  · rw [numAt_eq]; exact PySem.getD_mem (by rw [List.length_map, Array.length_toList]; omega)
  · obtain ⟨j, hj, rfl⟩ := mem_getD ha
    rw [List.length_map, Array.length_toList] at hj
    rw [← numAt_eq]; exact h2 j (by omega)
theorem min_rawT (hh : A.handled = none) (hl : s.heap.IsTuple l its.toArray) (hi : IntsAre its ns) (hne : 0 < ns.length)
    (h : ∀ h' tk M t', (∀ b o, s.heap.get? b = some o → h'.get? b = some o) → M ∈ ns → (∀ a, a ∈ ns → M ≤ a) → Q (.int M t') { s with heap := h', toks := tk }) : wpAny (model prog w) A (call (.builtin "min") [.ref l]) Q E s := by
  obtain ⟨xs, e⟩ := hi.allInts.items
  have hn : numsOf (intItems xs).toList = ns := by rw [← e]; exact hi.numsOf
  rw [nums_intItems] at hn
  subst hn
  rw [e] at hl
  have hsz : 0 < xs.size := by simpa using hne
  refine call_min_walk (iter_intTup hl fun s₂ e st hfp hlI => ?_)
  subst e
  refine ⟨_, _, _, _, _, _, _, rfl, Walks.tuple (A := A.in1) hh _ l hlI (intItems xs), st, hfp, by simpa [intItems] using hsz, CmpOf.ints_lt (numAt xs) (fun _ _ => intItems_at), fun v h' tk hP hk => ?_⟩
  have hv : (intItems xs)[argBest (fun i j => decide (numAt xs i < numAt xs j)) (xs.size - 1)]? = some v := by simpa [intItems] using hP
  obtain ⟨t, rfl⟩ := intItems_at hv
  obtain ⟨h1, h2⟩ := argBest_lt (numAt xs) (xs.size - 1)
  refine h h' tk _ t (old_keptT hk) ?_ fun a ha => ?_
  · rw [numAt_eq]; exact PySem.getD_mem (by rw [List.length_map, Array.length_toList]; omega)
  · obtain ⟨j, hj, rfl⟩ := mem_getD ha
    rw [List.length_map, Array.length_toList] at hj
    rw [← numAt_eq]; exact h2 j (by omega)
theorem sum_rawT (hh : A.handled = none) (hl : s.heap.IsTuple l its.toArray) (hi : IntsAre its ns)
    (h : ∀ h' tk t', (∀ b o, s.heap.get? b = some o → h'.get? b = some o) → Q (.int ns.sum t') { s with heap := h', toks := tk }) : wpAny (model prog w) A (call (.builtin "sum") [.ref l]) Q E s := by
  obtain ⟨xs, hx⟩ := hi.allInts.items
  have hn : numsOf its.toArray.toList = ns := by rw [show its.toArray.toList = its from rfl, hi.numsOf]
  rw [hx] at hl hn
  rw [nums_intItems] at hn
  refine PySem.W.ktm_sumG hh hl fun h' tk t' hk => ?_
  have := h h' tk t' hk
  rw [preSum_eq, List.take_of_length_le (by simp), hn]
  exact this
end
theorem minI_spec : ∀ (l : List Int) (a : Int), minI a l ∈ a :: l ∧ ∀ y, y ∈ a :: l → minI a l ≤ y
  | [], a => ⟨by simp [minI], by simp [minI]⟩
  | b :: l, a => by
    obtain ⟨h1, h2⟩ := minI_spec l (if b < a then b else a)
    have e : minI a (b :: l) = minI (if b < a then b else a) l := rfl
    rw [e]
    refine ⟨?_, fun y hy => ?_⟩
    · rcases List.mem_cons.mp h1 with h1 | h1
      · rw [h1]; split <;> simp
      · exact List.mem_cons_of_mem _ (List.mem_cons_of_mem _ h1)
    · have h3 := h2 _ List.mem_cons_self
      have ha : minI (if b < a then b else a) l ≤ a := by split at h3 <;> rename_i z <;> simp only [z, if_true, if_false] at h3 ⊢ <;> omega
      have hb : minI (if b < a then b else a) l ≤ b := by split at h3 <;> rename_i z <;> simp only [z, if_true, if_false] at h3 ⊢ <;> omega
      rcases List.mem_cons.mp hy with rfl | hy
      · exact ha
      · rcases List.mem_cons.mp hy with rfl | hy
        · exact hb
        · exact h2 y (List.mem_cons_of_mem _ hy)
theorem maxI_spec : ∀ (l : List Int) (a : Int), maxI a l ∈ a :: l ∧ ∀ y, y ∈ a :: l → y ≤ maxI a l
  | [], a => ⟨by simp [maxI], by simp [maxI]⟩
  | b :: l, a => by
    obtain ⟨h1, h2⟩ := maxI_spec l (if a < b then b else a)
    have e : maxI a (b :: l) = maxI (if a < b then b else a) l := rfl
    rw [e]
    refine ⟨?_, fun y hy => ?_⟩
    · rcases List.mem_cons.mp h1 with h1 | h1
      · rw [h1]; split <;> simp
      · exact List.mem_cons_of_mem _ (List.mem_cons_of_mem _ h1)
    · have h3 := h2 _ List.mem_cons_self
      have ha : a ≤ maxI (if a < b then b else a) l := by split at h3 <;> rename_i z <;> simp only [z, if_true, if_false] at h3 ⊢ <;> omega
      have hb : b ≤ maxI (if a < b then b else a) l := by split at h3 <;> rename_i z <;> simp only [z, if_true, if_false] at h3 ⊢ <;> omega
      rcases List.mem_cons.mp hy with rfl | hy
      · exact ha
      · rcases List.mem_cons.mp hy with rfl | hy
        · exact hb
        · exact h2 y (List.mem_cons_of_mem _ hy)
theorem toInts_map {G : Gb} {P : Addr → Prop} {H : Hp} : ∀ {ps : List PV} {l : List Int} {vs : List V}, toInts ps = some l → RVs G P H ps vs → vs = l.map V.int
  | [], l, vs, e, r => by simp only [toInts, Option.some.injEq] at e; subst e; simp only [RVs] at r; subst r; try rfl
  | p :: ps, l, vs, e, r => by
    simp only [RVs] at r
    obtain ⟨y, ys, rfl, r1, r2⟩ := r
    cases p with
    | int i =>
      simp only [toInts] at e
      split at e
      · rename_i l' el
        cases e
        rw [toInts_map el r2, show y = .int i from r1]
        rfl
      · cases e
    | _ => simp [toInts] at e
/-- a call with a list or a tuple of ints -/
theorem cr_seqI {b : String} {r : List Int → VK → Hp → Prop} (rl : CallR X (.builtin b) fun vs H Q => ∃ (a : Addr) (ns : List Int), vs = [V.ref a] ∧ SqL X.K H a (ns.map V.int) ∧ r ns Q H)
    (rt : CallR X (.builtin b) fun vs H Q => ∃ (a : Addr) (ns : List Int), vs = [V.ref a] ∧ SqT X.K H a (ns.map V.int) ∧ r ns Q H) :
    CallR X (.builtin b) fun vs H Q => ∃ (a : Addr) (ns : List Int), vs = [V.ref a] ∧ (SqL X.K H a (ns.map V.int) ∨ SqT X.K H a (ns.map V.int)) ∧ r ns Q H := by
  intro pins s σ H vs us Q I rr h
  obtain ⟨a, ns, e, hs | hs, q⟩ := h
  · exact rl pins s σ H vs us Q I rr ⟨a, ns, e, hs, q⟩
  · exact rt pins s σ H vs us Q I rr ⟨a, ns, e, hs, q⟩
theorem cr_minA (hc : X.calm = true) : CallR X (.builtin "min") fun vs H Q => ∃ (a : Addr) (ns : List Int), vs = [V.ref a] ∧ (SqL X.K H a (ns.map V.int) ∨ SqT X.K H a (ns.map V.int)) ∧ (0 < ns.length ∧ ∀ m, m ∈ ns → (∀ y, y ∈ ns → m ≤ y) → Q (.int m) H) := by
  refine cr_seqI (r := fun ns Q H => 0 < ns.length ∧ ∀ m, m ∈ ns → (∀ y, y ∈ ns → m ≤ y) → Q (.int m) H) (cr_min hc) ?_
  intro pins s σ H vs us Q I r h
  obtain ⟨a, ns, rfl, hs, hne, q⟩ := h
  obtain ⟨its, rv, hl, _⟩ := I.tuple hs
  rw [Vals.ref1 r]
  exact min_rawT (I.ok.hd hc) hl rv.ints hne fun h' tk m t' hk h1 h2 => ⟨.int _, H, I.kept hk, ⟨_, rfl⟩, q m h1 h2⟩
theorem cr_maxA (hc : X.calm = true) : CallR X (.builtin "max") fun vs H Q => ∃ (a : Addr) (ns : List Int), vs = [V.ref a] ∧ (SqL X.K H a (ns.map V.int) ∨ SqT X.K H a (ns.map V.int)) ∧ (0 < ns.length ∧ ∀ m, m ∈ ns → (∀ y, y ∈ ns → y ≤ m) → Q (.int m) H) := by
  refine cr_seqI (r := fun ns Q H => 0 < ns.length ∧ ∀ m, m ∈ ns → (∀ y, y ∈ ns → y ≤ m) → Q (.int m) H) (cr_max hc) ?_
  intro pins s σ H vs us Q I r h
  obtain ⟨a, ns, rfl, hs, hne, q⟩ := h
  obtain ⟨its, rv, hl, _⟩ := I.tuple hs
  rw [Vals.ref1 r]
  exact max_rawT (I.ok.hd hc) hl rv.ints hne fun h' tk m t' hk h1 h2 => ⟨.int _, H, I.kept hk, ⟨_, rfl⟩, q m h1 h2⟩
theorem cr_sumA (hc : X.calm = true) : CallR X (.builtin "sum") fun vs H Q => ∃ (a : Addr) (ns : List Int), vs = [V.ref a] ∧ (SqL X.K H a (ns.map V.int) ∨ SqT X.K H a (ns.map V.int)) ∧ Q (.int ns.sum) H := by
  refine cr_seqI (r := fun ns Q H => Q (.int ns.sum) H) (cr_sum hc) ?_
  intro pins s σ H vs us Q I r h
  obtain ⟨a, ns, rfl, hs, q⟩ := h
  obtain ⟨its, rv, hl, _⟩ := I.tuple hs
  rw [Vals.ref1 r]
  exact sum_rawT (I.ok.hd hc) hl rv.ints fun h' tk t' hk => ⟨.int _, H, I.kept hk, ⟨_, rfl⟩, q⟩
theorem rms3 {G : Gb} {m : Nat → Addr} {P : Addr → Prop} {N : Nat} {H : Hp} {v w z : MV} {xs : List V} (r : RMs G m P N H [v, w, z] xs) : ∃ x y u, xs = [x, y, u] ∧ RMV G m P N H v x ∧ RMV G m P N H w y ∧ RMV G m P N H z u := by
  cases r with
  | cons r t => cases t with | cons r' t => cases t with | cons r2 t => cases t; exact ⟨_, _, _, rfl, r, r', r2⟩
theorem call_min3I (hc : X.calm = true) : CallR X (.builtin "min") (fun xs H Q => ∃ i j k, xs = [.int i, .int j, .int k] ∧ Q (.int (minI i [j, k])) H) := by
  intro pins s σ H xs us Q I r h
  obtain ⟨i, j, k, rfl, q⟩ := h
  cases r with | cons r1 r => cases r with | cons r2 r => cases r with | cons r3 r => cases r with
    | nil =>
      obtain ⟨t1, rfl⟩ := r1
      obtain ⟨t2, rfl⟩ := r2
      obtain ⟨t3, rfl⟩ := r3
      refine min_three_ints (I.ok.hd hc) fun h' tk kk => ⟨_, H, I.kept kk, ?_, q⟩
      simp only [minI, List.foldl_cons, List.foldl_nil]
      by_cases h1 : j < i
      · simp only [h1, if_true]
        by_cases h2 : k < j
        · simp only [h2, if_true]; exact ⟨_, rfl⟩
        · simp only [h2, if_false]; exact ⟨_, rfl⟩
      · simp only [h1, if_false]
        by_cases h2 : k < i
        · simp only [h2, if_true]; exact ⟨_, rfl⟩
        · simp only [h2, if_false]; exact ⟨_, rfl⟩
theorem call_max3I (hc : X.calm = true) : CallR X (.builtin "max") (fun xs H Q => ∃ i j k, xs = [.int i, .int j, .int k] ∧ Q (.int (maxI i [j, k])) H) := by
  intro pins s σ H xs us Q I r h
  obtain ⟨i, j, k, rfl, q⟩ := h
  cases r with | cons r1 r => cases r with | cons r2 r => cases r with | cons r3 r => cases r with
    | nil =>
      obtain ⟨t1, rfl⟩ := r1
      obtain ⟨t2, rfl⟩ := r2
      obtain ⟨t3, rfl⟩ := r3
      refine max_three_ints (I.ok.hd hc) fun h' tk kk => ⟨_, H, I.kept kk, ?_, q⟩
      simp only [maxI, List.foldl_cons, List.foldl_nil]
      by_cases h1 : i < j
      · simp only [gt_iff_lt, h1, if_true]
        by_cases h2 : j < k
        · simp only [h2, if_true]; exact ⟨_, rfl⟩
        · simp only [h2, if_false]; exact ⟨_, rfl⟩
      · simp only [gt_iff_lt, h1, if_false]
        by_cases h2 : i < k
        · simp only [h2, if_true]; exact ⟨_, rfl⟩
        · simp only [h2, if_false]; exact ⟨_, rfl⟩
theorem ob_min (hK : X.K = F.G.K) (hc : X.calm = true) {rp : PV → Str} : CallR X (.builtin "min") (RLof F (oBlt rp .min)) := by
  intro pins s σ H xs us Q I r ⟨σ', vs, h, m, P, S, rv, af⟩
  simp only [oBlt] at af
  split at af <;> try (first | exact af.elim | (simp_all; done))
  · rename_i i j hv
    obtain ⟨x, y, rfl, rx, ry⟩ := rms2 rv
    exact call_min2 hc pins s σ H _ us Q I r ⟨i, j, by rw [show x = .int i from rx, show y = .int j from ry], af.okp S rfl⟩
  · rename_i i j k hv
    obtain ⟨x, y, z, rfl, rx, ry, rz⟩ := rms3 rv
    exact call_min3I hc pins s σ H _ us Q I r ⟨i, j, k, by rw [show x = .int i from rx, show y = .int j from ry, show z = .int k from rz], af.okp S rfl⟩
  · rename_i v hv
    split at af
    · rename_i ps ep
      split at af
      · rename_i a l el
        obtain ⟨x, rfl, rx⟩ := rms1 rv
        obtain ⟨p, ws, rfl, q, rr⟩ := seqp_sq S rx ep
        rw [toInts_map el rr] at q
        refine cr_minA hc pins s σ H _ us Q I r ⟨p, a :: l, rfl, by rw [hK]; exact q, by simp, fun m h1 h2 => ?_⟩
        obtain ⟨k1, k2⟩ := minI_spec l a
        rw [show m = minI a l from Int.le_antisymm (h2 _ k1) (k2 _ h1)]
        exact af.okp S rfl
      · exact af.elim
    · exact af.elim
theorem ob_max (hK : X.K = F.G.K) (hc : X.calm = true) {rp : PV → Str} : CallR X (.builtin "max") (RLof F (oBlt rp .max)) := by
  intro pins s σ H xs us Q I r ⟨σ', vs, h, m, P, S, rv, af⟩
  simp only [oBlt] at af
  split at af <;> try (first | exact af.elim | (simp_all; done))
  · rename_i i j hv
    obtain ⟨x, y, rfl, rx, ry⟩ := rms2 rv
    exact call_max2 hc pins s σ H _ us Q I r ⟨i, j, by rw [show x = .int i from rx, show y = .int j from ry], af.okp S rfl⟩
  · rename_i i j k hv
    obtain ⟨x, y, z, rfl, rx, ry, rz⟩ := rms3 rv
    exact call_max3I hc pins s σ H _ us Q I r ⟨i, j, k, by rw [show x = .int i from rx, show y = .int j from ry, show z = .int k from rz], af.okp S rfl⟩
  · rename_i v hv
    split at af
    · rename_i ps ep
      split at af
      · rename_i a l el
        obtain ⟨x, rfl, rx⟩ := rms1 rv
        obtain ⟨p, ws, rfl, q, rr⟩ := seqp_sq S rx ep
        rw [toInts_map el rr] at q
        refine cr_maxA hc pins s σ H _ us Q I r ⟨p, a :: l, rfl, by rw [hK]; exact q, by simp, fun m h1 h2 => ?_⟩
        obtain ⟨k1, k2⟩ := maxI_spec l a
        rw [show m = maxI a l from Int.le_antisymm (k2 _ h1) (h2 _ k1)]
        exact af.okp S rfl
      · exact af.elim
    · exact af.elim
theorem ob_abs {rp : PV → Str} : CallR X (.builtin "abs") (RLof F (oBlt rp .abs)) := by
  intro pins s σ H xs us Q I r ⟨σ', vs, h, m, P, S, rv, af⟩
  simp only [oBlt] at af
  split at af <;> try (first | exact af.elim | (simp_all; done))
  rename_i i hv
  obtain ⟨x, rfl, rx⟩ := rms1 rv
  exact call_abs pins s σ H _ us Q I r ⟨i, by rw [show x = .int i from rx], af.okp S rfl⟩
theorem toInts_show : ∀ {xs : List PV} {l : List Int}, toInts xs = some l → (l.all fun i => decide (i.natAbs.log2 < 1920)) = true → PyData.showableAll (toDs xs) = true ∧ plains 1 xs = true
  | [], l, e, h => by simp [toDs, PyData.showableAll, plains]
  | p :: ps, l, e, h => by
    cases p with
    | int i =>
      simp only [toInts] at e
      split at e
      · rename_i l' el
        cases e
        simp only [List.all_cons, Bool.and_eq_true] at h
        obtain ⟨h1, h2⟩ := toInts_show el h.2
        simp only [toDs, toD, PyData.showableAll, PyData.showable, plains, MI.plain, h1, h2, h.1, Bool.and_self, and_self]
      · cases e
    | _ => simp [toInts] at e
/-- str(x) -/
theorem ob_str (hK : X.K = F.G.K) (nd : NoDig X.K) (hg : X.A.guards = some []) (hu : X.A.units + 65 < cLine) : CallR X (.type "str") (RLof F (oBlt rpOf .str)) := by
  intro pins s σ H xs us Q I r ⟨σ', vs, h, m, P, S, rv, af⟩
  simp only [oBlt] at af
  split at af <;> try (first | exact af.elim | (simp_all; done))
  · rename_i i hv
    split at af
    · rename_i hz
      obtain ⟨x, rfl, rx⟩ := rms1 rv
      obtain ⟨u, rfl, ru⟩ := vals1 r
      cases (show x = .int i from rx)
      obtain ⟨t, rfl⟩ := ru
      exact str_big I.kIn nd hz (fun _ _ z => z) ⟨.str _, H, I.tok _, ⟨_, rfl⟩, af.okp S (show RV F.G P H (.str (rpOf (.int i))) (.str (toString i)) from rfl)⟩
    · exact af.elim
  · rename_i b hv
    obtain ⟨x, rfl, rx⟩ := rms1 rv
    obtain ⟨u, rfl, ru⟩ := vals1 r
    cases (show x = .bl b from rx)
    cases ru
    exact PySem.P.str_of_bool ⟨.str _, H, I.tok _, ⟨_, rfl⟩, af.okp S (show RV F.G P H (.str (rpOf (.bl b))) (.str (if b then "True" else "False")) from rfl)⟩
  · rename_i ys hv
    split at af
    · rename_i l n el en
      split at af
      · rename_i hz
        obtain ⟨x, rfl, rx⟩ := rms1 rv
        obtain ⟨u, rfl, ru⟩ := vals1 r
        obtain ⟨h1, h2, h4⟩ := rlen_ok 60 (.tup ys) n en
        obtain ⟨s1, s2⟩ := toInts_show el hz.1
        have hp : MI.plain 60 (.tup ys) = true := by simp only [MI.plain]; exact plains_up (by omega) ys s2
        have hd := dp_of 60 (.tup ys) x rx hp
        obtain ⟨as, rd⟩ := Dp.reads I _ _ _ (by rw [hK]; exact hd) ru
        obtain ⟨a, ws, rfl, t, rs⟩ := rx
        cases ru
        have hl := lay_of 60 (.tup ys) hp
        exact str_of_reads rd (by simp only [toD, PyData.showable]; exact s1) (PyData.noDict_hsm (PyData.hasDict_of_canLay _ hl)) hg (by omega) (fun _ _ z => z) (fun h' uu tk k => ⟨.str _, H, I.kept (t' := tk) k, ⟨uu, rfl⟩, af.okp S (show RV F.G P H (.str (rpOf (.tup ys))) (.str (toD (.tup ys)).shown) from rfl)⟩) (by rw [sizeLine_eq]; omega)
      · exact af.elim
    · exact af.elim
  · rename_i y hv
    obtain ⟨x, rfl, rx⟩ := rms1 rv
    exact SkE.call_str_str pins s σ H _ us Q I r ⟨y, by rw [show x = .str y from rx], af.okp S rfl⟩
/-- int(x) -/
theorem ob_int (nd : NoDig X.K) : CallR X (.type "int") (RLof F (oBlt rpOf .int)) := by
  intro pins s σ H xs us Q I r ⟨σ', vs, h, m, P, S, rv, af⟩
  simp only [oBlt] at af
  split at af <;> try (first | exact af.elim | (simp_all; done))
  · rename_i i hv
    obtain ⟨x, rfl, rx⟩ := rms1 rv
    exact call_int1 pins s σ H _ us Q I r (.inl ⟨i, by rw [show x = .int i from rx], af.okp S rfl⟩)
  · rename_i y hv
    split at af
    · rename_i hz
      obtain ⟨hd, h0, h1⟩ := hz
      obtain ⟨x, rfl, rx⟩ := rms1 rv
      have ad : NumText.AllDigits y.cps.toList := fun c hc => by
        have := List.all_eq_true.mp hd c hc
        simp only [Bool.and_eq_true, decide_eq_true_eq] at this
        exact this
      have hn : PySem.intText? y = some ((digVal y : Nat) : Int) := PySem.intText_digits ad (fun z => by
        have : y.length = 0 := by show y.cps.size = 0; rw [← Array.length_toList, z]; try rfl
        omega) h1
      by_cases hs : (numSeenOf y).length ≤ 640
      · by_cases hl : y.length ≤ 640
        · exact call_int_str pins s σ H _ us Q I r ⟨y, _, by rw [show x = .str y from rx], hn, hl, af.okp S rfl⟩
        · exact absurd hs (by
            have := (PySem.numText_signs (x := y) fun c hc => .inr (ad c hc)).2
            rw [this, Array.length_toList]
            exact hl)
      · obtain ⟨u, rfl, ru⟩ := vals1 r
        cases (show x = .str y from rx)
        obtain ⟨t, rfl⟩ := ru
        exact PySem.call_int_1 (S := fun A R s' => Over s.heap s' ∧ (Made.int ((digVal y : Nat) : Int)).post (fun v s2 => R (.ok (.ret v)) s2) s') (fun pr w' A R s' hq => gives_textB I.kIn nd hs (by rw [sizeLine_eq]; omega) hn pr w' A R s' hq.1 hq.2)
          ⟨fun _ _ z => z, rfl, .int _, H, I.tok _, ⟨_, rfl⟩, af.okp S rfl⟩
    · exact af.elim
theorem toBools_map {G : Gb} {P : Addr → Prop} {H : Hp} : ∀ {ps : List PV} {l : List Bool} {vs : List V}, toBools ps = some l → RVs G P H ps vs → vs = l.map V.bl
  | [], l, vs, e, r => by simp only [toBools, Option.some.injEq] at e; subst e; simp only [RVs] at r; subst r; try rfl
  | p :: ps, l, vs, e, r => by
    simp only [RVs] at r
    obtain ⟨y, ys, rfl, r1, r2⟩ := r
    cases p with
    | bl i =>
      simp only [toBools] at e
      split at e
      · rename_i l' el
        cases e
        rw [toBools_map el r2, show y = .bl i from r1]
        rfl
      · cases e
    | _ => simp [toBools] at e
theorem ob_sum (hK : X.K = F.G.K) (hc : X.calm = true) {rp : PV → Str} : CallR X (.builtin "sum") (RLof F (oBlt rp .sum)) := by
  intro pins s σ H xs us Q I r ⟨σ', vs, h, m, P, S, rv, af⟩
  simp only [oBlt] at af
  split at af <;> try (first | exact af.elim | (simp_all; done))
  rename_i v hv
  split at af
  · rename_i ps ep
    split at af
    · rename_i l el
      obtain ⟨x, rfl, rx⟩ := rms1 rv
      obtain ⟨a, ws, rfl, q, rr⟩ := seqp_sq S rx ep
      rw [toInts_map el rr] at q
      exact cr_sumA hc pins s σ H _ us Q I r ⟨a, l, rfl, by rw [hK]; exact q, af.okp S rfl⟩
    · exact af.elim
  · exact af.elim
theorem ob_all (hK : X.K = F.G.K) (hc : X.calm = true) {rp : PV → Str} : CallR X (.builtin "all") (RLof F (oBlt rp .all)) := by
  intro pins s σ H xs us Q I r ⟨σ', vs, h, m, P, S, rv, af⟩
  simp only [oBlt] at af
  split at af <;> try (first | exact af.elim | (simp_all; done))
  rename_i v hv
  split at af
  · rename_i ps ep
    split at af
    · rename_i l el
      obtain ⟨x, rfl, rx⟩ := rms1 rv
      obtain ⟨a, ws, rfl, q, rr⟩ := seqpL_case S rx ep
      rw [toBools_map el rr] at q
      exact cr_all hc pins s σ H _ us Q I r ⟨a, l, rfl, by rw [hK]; exact q, af.okp S rfl⟩
    · exact af.elim
  · exact af.elim
theorem ob_any (hK : X.K = F.G.K) (hc : X.calm = true) {rp : PV → Str} : CallR X (.builtin "any") (RLof F (oBlt rp .any)) := by
  intro pins s σ H xs us Q I r ⟨σ', vs, h, m, P, S, rv, af⟩
  simp only [oBlt] at af
  split at af <;> try (first | exact af.elim | (simp_all; done))
  rename_i v hv
  split at af
  · rename_i ps ep
    split at af
    · rename_i l el
      obtain ⟨x, rfl, rx⟩ := rms1 rv
      obtain ⟨a, ws, rfl, q, rr⟩ := seqpL_case S rx ep
      rw [toBools_map el rr] at q
      exact cr_any hc pins s σ H _ us Q I r ⟨a, l, rfl, by rw [hK]; exact q, af.okp S rfl⟩
    · exact af.elim
  · exact af.elim

theorem ob_repr (hK : X.K = F.G.K) (nd : NoDig X.K) (hg : X.A.guards = some []) (hu : X.A.units + 65 < cLine) : CallR X (.builtin "repr") (RLof F (oBlt rpOf .repr)) := by
  intro pins s σ H xs us Q I r hh
  obtain ⟨σ', vs, h, m, P, S, rv, af⟩ := hh
  simp only [oBlt] at af
  split at af <;> try (first | exact af.elim | (simp_all; done))
  rename_i v hv
  split at af
  · rename_i p ep
    split at af
    · rename_i n en
      split at af
      · rename_i hn
        obtain ⟨x, rfl, rx⟩ := rms1 rv
        obtain ⟨u, rfl, ru⟩ := vals1 r
        obtain ⟨h1, h2, h4⟩ := rlen_ok 60 p n en
        have hsz : (toD p).shown.length ≤ sizeLine := by rw [sizeLine_eq]; omega
        have fin : ∀ h' uu tk, (∀ b o, s.heap.get? b = some o → h'.get? b = some o) → EP X pins σ Q (.str (toD p).shown uu) { s with heap := h', toks := tk } := fun h' uu tk k => ⟨.str _, H, I.kept (t' := tk) k, ⟨uu, rfl⟩, af.okp S (show RV F.G P H (.str (rpOf p)) (.str (toD p).shown) from rfl)⟩
        cases p with
        | non => cases (show x = .non from snap_pv rx ep fun _ z => nomatch z); cases ru; exact PySem.P.repr_of_none (fin s.heap _ _ fun _ _ z => z)
        | bl b => cases (show x = .bl b from snap_pv rx ep fun _ z => nomatch z); cases ru; exact PySem.P.repr_of_bool (fin s.heap _ _ fun _ _ z => z)
        | int i =>
          cases (show x = .int i from snap_pv rx ep fun _ z => nomatch z)
          obtain ⟨t, rfl⟩ := ru
          exact call_repr_big I.kIn nd (by simpa [show2] using h2) (by omega) (fun _ _ z => z) (fin s.heap _ _ fun _ _ z => z)
        | str y =>
          cases (show x = .str y from snap_pv rx ep fun _ z => nomatch z)
          obtain ⟨t, rfl⟩ := ru
          exact PySem.P.repr_of_str (fin s.heap _ _ fun _ _ z => z) hsz
        | dic ks vs =>
          obtain ⟨rfl, rfl, a, rfl, _, q⟩ := (show RV F.G P H (.dic ks vs) x from snap_pv rx ep fun _ z => nomatch z)
          cases ru
          obtain ⟨o, k, ho, hc, hd, hs⟩ := dic_at I q
          exact top_dic ho hc hd hs hg (by omega) (fun _ _ z => z) fin
        | exc _ _ => simp [rlen] at en
        | tup ys =>
          obtain ⟨a, ws, rfl, t, rs⟩ := snap_tup rx ep
          cases ru
          obtain ⟨its, rr, tt, _⟩ := I.tuple (a := a) (xs := ws) (by rw [hK]; exact t.sq)
          simp only [toD, PyData.depth] at h4
          exact top_tup tt (rvs_rk I hK nd ys ws its rs rr (by simpa [show2] using h2) fun z hm => Nat.le_trans (tupleText_mem_le hm) (by simpa only [toD, PyData.shown] using hsz)) hg (by omega) (fun _ _ z => z) (by simpa only [toD, PyData.shown] using hsz) fin
        | lst ys =>
          obtain ⟨a, ws, rfl, t, rs⟩ := snap_lst S rx ep
          cases ru
          obtain ⟨its, rr, tt, _⟩ := I.list (a := a) (xs := ws) (.of t)
          simp only [toD, PyData.depth] at h4
          exact top_lst tt (rvs_rk I hK nd ys ws its rs rr (by simpa [show2] using h2) fun z hm => Nat.le_trans (listText_mem_le hm) (by simpa only [toD, PyData.shown] using hsz)) hg (by omega) (fun _ _ z => z) (by simpa only [toD, PyData.shown] using hsz) fin
      · exact af.elim
    · exact af.elim
  · exact af.elim
end
end MI

/-! MiS4: contracts of defs, the context, expressions -/
namespace MI
open PySem PySem.Spec L2
open PyProof.Rows hiding St
/-- a def keeps its promise wherever no text of repr is being made -/
structure FnG (P : Program) (w : World) (K : PySem.W.Frag) (mg : Str → Option Value) (base : Heap) (k : Nat) (f : Addr) (fd : FuncData) (ps : List Str) (sp : Sp) : Prop where
  len : ∀ vs H Q E, sp vs H Q E → vs.length = ps.length
  run : ∀ (A : Around) (outer : List PySem.Env) (s : Shared) (H : Hp) (args : Args) (us : List Value) (vs : List V) (Q : VK) (E : XK), Room k A → A.guards = some [] → Env0 P w K mg base A outer s H → BindsTo s fd args (ps.zip us) → Vals vs us → sp vs H Q E →
    codeAny (model P w) A (.call (.ref f) args) (CR (L2.CX P w) outer P w H s Q E) s
theorem FnG.mono {P : Program} {w : World} {K : PySem.W.Frag} {mg : Str → Option Value} {base : Heap} {j k : Nat} {f : Addr} {fd : FuncData} {ps : List Str} {sp : Sp} (F : FnG P w K mg base j f fd ps sp) (h : j ≤ k) : FnG P w K mg base k f fd ps sp :=
  ⟨F.len, fun A outer s H args us vs Q E hr => F.run A outer s H args us vs Q E (hr.mono h)⟩
/-- the keywords' values in the parameters' order -/
def permV {α : Type} [Inhabited α] (perm : List Nat) (us ws : List α) : List α := perm.map fun i => (us ++ ws)[i]?.getD default
structure KB (fd : FuncData) (ps : List Str) (np : Nat) (ns : List Str) (perm : List Nat) : Prop where
  to : ∀ (s : Shared) (us ws : List Value), us.length = np → ws.length = ns.length → BindsTo s fd ⟨us, ns.zip ws⟩ (ps.zip (permV perm us ws))
  len : perm.length = ps.length
  ok : ∀ i ∈ perm, i < np + ns.length
structure Sc where
  N : List Str
  sc : Scope
  cel : Str → Bool
/-- what is fixed through a law -/
structure Tb where
  P : Program
  w : World
  mg : Str → Option Value
  base : Heap
  G : Gb
  prg : Prg
  consts : Str → Option PV
  bl : List Str
  binds : List (Nat × List PV)
  kbs : List (Nat × Nat × List Str × List Nat)
  /-- the names of the error classes, by number -/
  excs : Nat → Option Str
def sV : PV → Option V
  | .non => some .non
  | .bl b => some (.bl b)
  | .int i => some (.int i)
  | .str x => some (.str x)
  | _ => none
def lvl (n : Nat) : Nat := n + 5
/-- the promise of def j, calls n deep -/
def spI (T : Tb) (n j : Nat) : Sp := fun vs H Q E => ∃ ms h m P B σ, SR T.G m P h H ∧ RMs T.G m P h.length H ms vs ∧ AftE ⟨T.G, B, fun cls d _ H => E cls d H⟩ σ m P h H (callI T.prg n j B ms h) Q
/-- what the __init__ of an error class keeps -/
def spMk (C : Addr) (flds : List Str) : Sp := fun vs H Q E => ∃ a args, vs = .ref a :: args ∧ args.length = flds.length ∧ H a = some (exo a C none) ∧
  ∀ d fs, H d = none → d ≠ a → (∀ f, fs.lookup f = (flds.zip args).lookup f) → Q .non (upd (upd H d (exd d fs)) a (exo a C (some d)))
structure MkOk (T : Tb) (n c : Nat) (C : Addr) : Prop where
  oex : OexC T.G.K C
  init : ∃ fI fd ps, PySem.W.findIn T.G.K (.ref C) "__init__" = some (some (.ref fI)) ∧ PySem.W.typeIn T.G.K (.ref fI) = some (.type "function") ∧ FnOk T.P T.w T.G.K T.mg T.base (L2.CX T.P T.w) (n + 4) fI fd ps (spMk C (T.G.fields c)) ∧ Binds T.G.K fd ps []
structure TbOk (T : Tb) (n : Nat) : Prop where
  exc : ∀ c x, T.excs c = some x → T.mg x = some (.ref (T.G.cA c)) ∧ MkOk T n c (T.G.cA c)
  smd : NoDig T.G.K
  exf : ∀ c, T.prg.nx c = true → XfC T.G.K (T.G.cA c) ∧ ∀ f, f ∈ T.G.fields c → PySem.W.findIn T.G.K (.ref (T.G.cA c)) f = some none
  exm : ∀ k k', T.prg.nx k = true → T.prg.nx k' = true → PySem.W.exmOne T.G.K (.ref (T.G.cA k')) (.ref (T.G.cA k)) = some (T.prg.sub k' k)
  rp : T.prg.rp = rpOf
  fields : T.prg.fields = T.G.fields
  con : ∀ x v, T.consts x = some v → ∃ u x', T.mg x = some u ∧ RelV x' u ∧ ∀ P H, RV T.G P H v x'
  blt : ∀ x, x ∈ T.bl → T.mg x = none
  fn : ∀ j Fn, T.prg.fns j = some Fn → ∃ f fd, T.mg Fn.name = some (.ref f) ∧ PySem.W.keepIn T.G.K (.ref f) = true ∧ FnG T.P T.w T.G.K T.mg T.base (lvl n) f fd Fn.ps (spI T n j) ∧
    (∀ ds, (j, ds) ∈ T.binds → ∃ dvs dus, (ds.mapM sV) = some dvs ∧ Vals dvs dus ∧ Binds T.G.K fd Fn.ps dus) ∧ (∀ np ns perm, (j, np, ns, perm) ∈ T.kbs → KB fd Fn.ps np ns perm)
/-- the context of a body or a comprehension's block -/
structure Good (T : Tb) (S : Sc) (F : Fx) (n : Nat) (X : Cx) : Prop where
  prog : X.prog = T.P
  w : X.w = T.w
  K : X.K = T.G.K
  mg : X.mg = T.mg
  base : X.base = T.base
  G : F.G = T.G
  N : X.N = S.N
  nd : S.N.Nodup
  sc : X.env.scope = S.sc
  room : Room (lvl n) X.A
  gd : X.A.guards = some []
  calm : X.calm = true
  tk : Takes X F.W
  cel : ∀ x, S.cel x = true → X.fn x = true
  ok : TbOk T n
def cnOf (T : Tb) (F : Fx) (n : Nat) : Cn := ⟨callI T.prg n, T.prg.fuel, F.B, T.prg.rp, T.prg.fields, T.prg.nx, T.prg.sub⟩
section
variable {X : Cx} {F : Fx} {e : Expr}
theorem PE.imp {t t' : TE} (h : PE X e t) (i : ∀ σ H Q, t' σ H Q → t σ H Q) : PE X e t' := ⟨fun pins s σ H Q I q => h.run pins s σ H Q I (i σ H Q q)⟩
theorem PT.imp {t t' : TT} (h : PT X e t) (i : ∀ σ H Q, t' σ H Q → t σ H Q) : PT X e t' := ⟨fun pins s σ H Q I q => h.run pins s σ H Q I (i σ H Q q)⟩
theorem PA.imp {es : List Expr} {t t' : TA} (h : PA X es t) (i : ∀ σ H Q, t' σ H Q → t σ H Q) : PA X es t' := ⟨fun pos pins s σ H Q I q => h.run pos pins s σ H Q I (i σ H Q q)⟩
theorem PS.imp {e : Stmt} {t t' : TS} (h : PS X e t) (i : ∀ D σ H, t' D σ H → t D σ H) : PS X e t' := ⟨fun pins s σ H D I q => h.run pins s σ H D I (i D σ H q)⟩
theorem PSs.imp {e : List Stmt} {t t' : TS} (h : PSs X e t) (i : ∀ D σ H, t' D σ H → t D σ H) : PSs X e t' := ⟨fun pins s σ H D I q => h.run pins s σ H D I (i D σ H q)⟩
theorem PI.imp {tg : Expr} {t t' : TI} (h : PI X tg e t) (i : ∀ σ H R, t' σ H R → t σ H R) : PI X tg e t' := ⟨fun pins s σ H R I q => h.run pins s σ H R I (i σ H R q)⟩

/-! ### a call -/
theorem run_fnG {k : Nat} {f : Addr} {fd : FuncData} {ps : List Str} {sp : Sp} {dvs : List V} {ds : List Value} {E : XK} {pins : List (Addr × Obj)} {σ : St} {H : Hp} {s : Shared} {Q : VK} {us : List Value} {vs : List V}
    (Fg : FnG X.prog X.w X.K X.mg X.base k f fd ps sp) (hr : Room k X.A) (hg : X.A.guards = some []) (hb : Binds X.K fd ps ds) (hd : Vals dvs ds) (hx : PassesAt (L2.CX X.prog X.w) X σ E)
    (I : L2.Inv X pins σ H s) (r : Vals vs us) (h : sp (vs ++ dvs) H Q E) : wpAny (model X.prog X.w) X.A (call (.ref f) us) (EP X pins σ Q) X.xe s := by
  have r2 : Vals (vs ++ dvs) (us ++ ds) := r.append hd
  have hl : (us ++ ds).length = ps.length := by rw [← r2.length]; exact Fg.len _ _ _ _ h
  refine wpAny_call (codeAny_mono (Fg.run X.A X.stack s H ⟨us, []⟩ (us ++ ds) (vs ++ dvs) Q E hr hg I.env0 (hb s us I.kIn hl) r2 h) fun r s' hq => ?_)
  cases r with
  | error e => exact hx pins H s e s' I hq
  | ok fl =>
    cases fl with
    | ret u => exact I.after hq
    | next => exact False.elim hq
    | brk => exact False.elim hq
    | cont => exact False.elim hq
/-- f(e, ..) -/
theorem pe_callG {k : Nat} {f : Addr} {fd : FuncData} {ps : List Str} {sp : Sp} {dvs : List V} {ds : List Value} {E : St → XK} {x : Str} {p pos : Pos} {e : Expr} {es : List Expr} {t : TA}
    (Fg : FnG X.prog X.w X.K X.mg X.base k f fd ps sp) (hr : Room k X.A) (hgd : X.A.guards = some []) (hg : Gl X x) (hm : X.mg x = some (.ref f)) (hk : PySem.W.keepIn X.K (.ref f) = true) (hb : Binds X.K fd ps ds) (hd : Vals dvs ds) (hx : ∀ σ, PassesAt (L2.CX X.prog X.w) X σ (E σ))
    (ha : PA X (e :: es) t) (hdb : (x == ("__debug__" : Str)) = false) (he : starEach (e :: es) X.env = (false, eval e X.env) :: starEach es X.env) (hpl : (backTo pos (starEach es X.env)).any (·.1) = false) :
    PE X (.Call (.Name x p) (e :: es) [] pos) (tCallSD sp dvs E t) := by
  refine ⟨fun pins s σ H Q I h => ?_⟩
  refine wpAny_Call_Name_kw (ld_glob I hg hm ?_ hdb)
  refine PySem.W.callWith_K (h₀ := X.base) I.ok.mod.kin hk (thn (ha.run pos pins s σ H _ I h) fun us s1 ⟨vs, H1, I1, r, q⟩ => ⟨I1.kIn, ?_⟩) he hpl
  exact run_fnG Fg hr hgd hb hd (hx σ) I1 r q
end

section
variable {X : Cx}
/-- f() -/
theorem pe_callG0 {k : Nat} {f : Addr} {fd : FuncData} {ps : List Str} {sp : Sp} {dvs : List V} {ds : List Value} {E : St → XK} {x : Str} {p pos : Pos}
    (Fg : FnG X.prog X.w X.K X.mg X.base k f fd ps sp) (hr : Room k X.A) (hgd : X.A.guards = some []) (hg : Gl X x) (hm : X.mg x = some (.ref f)) (hk : PySem.W.keepIn X.K (.ref f) = true) (hb : Binds X.K fd ps ds) (hd : Vals dvs ds) (hx : ∀ σ, PassesAt (L2.CX X.prog X.w) X σ (E σ))
    (hdb : (x == ("__debug__" : Str)) = false) : PE X (.Call (.Name x p) [] [] pos) (tCallSD sp dvs E tNil) := by
  refine ⟨fun pins s σ H Q I h => ?_⟩
  refine wpAny_Call_Name_kw (ld_glob I hg hm ?_ hdb)
  exact PySem.W.callWith_K0 I.kIn hk (run_fnG (us := []) Fg hr hgd hb hd (hx σ) I .nil h)
end

/-! ### the text and the evaluator's form of it -/
def visB (sc : Scope) (x : Str) : Bool := match sc.names.lookup x with
  | some .local => true | some .cell => true | some .free => true | _ => false
def glB (sc : Scope) (x : Str) : Bool := sc.names.lookup x == some .globalImplicit
def notDbg (x : Str) : Bool := !(x == ("__debug__" : Str)) && !(x == ("__classdict__" : Str)) && !(x == ("__name__" : Str))
def sameC : PV → Const → Bool
  | .non, .none => true
  | .bl b, .bool c => b == c
  | .int i, .int j => i == j
  | .str x, .str y => x == y
  | _, _ => false
def bfS : BF → String
  | .len => "len" | .tuple => "tuple" | .list => "list" | .repr => "repr" | .str => "str" | .int => "int" | .min => "min" | .max => "max" | .sum => "sum" | .sorted => "sorted" | .abs => "abs" | .all => "all" | .any => "any"
/-- what has a rule as yet -/
def bfOk : BF → Bool
  | .len => true | .tuple => true | .list => true | .repr => true | .min => true | .max => true | .abs => true | .sum => true | .all => true | .any => true | .str => true | .int => true | _ => false
def bltB (T : Tb) (S : Sc) (x : Str) (n : String) : Bool := x == Str.ofString n && glB S.sc x && T.bl.contains x
def sameSv (a b : PV) : Bool := match a, b with
  | .non, .non => true
  | .bl b, .bl c => b == c
  | .int i, .int j => i == j
  | .str x, .str y => x == y
  | _, _ => false
mutual
/-- the same value, of the kinds that a module's constant has -/
def sameG : PV → PV → Bool
  | .non, .non => true
  | .bl b, .bl c => b == c
  | .int i, .int j => i == j
  | .str x, .str y => x == y
  | .tup xs, .tup ys => sameGs xs ys
  | _, _ => false
def sameGs : List PV → List PV → Bool
  | [], [] => true
  | x :: xs, y :: ys => sameG x y && sameGs xs ys
  | _, _ => false
end
mutual
theorem sameG_eq : ∀ {a b : PV}, sameG a b = true → a = b
  | .non, b, h => by cases b <;> simp [sameG] at h; try rfl
  | .bl _, b, h => by cases b <;> simp [sameG] at h; rw [h]
  | .int _, b, h => by cases b <;> simp [sameG] at h; rw [h]
  | .str _, b, h => by cases b <;> simp [sameG] at h; rw [h]
  | .tup xs, b, h => by
    cases b <;> simp [sameG] at h
    rw [sameGs_eq h]
  | .lst _, b, h => by cases b <;> simp [sameG] at h
  | .dic _ _, b, h => by cases b <;> simp [sameG] at h
  | .exc _ _, b, h => by cases b <;> simp [sameG] at h
theorem sameGs_eq : ∀ {a b : List PV}, sameGs a b = true → a = b
  | [], b, h => by cases b <;> simp [sameGs] at h; try rfl
  | x :: xs, b, h => by
    cases b <;> simp [sameGs] at h
    rw [sameG_eq h.1, sameGs_eq h.2]
end
def stoB (S : Sc) (x : Str) : Bool := S.sc.names.lookup x == some .local || (S.sc.names.lookup x == some .cell && S.cel x)
def nmB (S : Sc) : List Nat → List Expr → Bool
  | [], [] => true
  | i :: l, .Name x _ :: es => S.N[i]? == some x && stoB S x && nmB S l es
  | _, _ => false
def tgB (S : Sc) : TG → Expr → Bool
  | .nm i, .Name x _ => S.N[i]? == some x && stoB S x
  | .tp l, .Tuple es _ _ => nmB S l es
  | _, _ => false
def tgIn (own : List Nat) : TG → Bool
  | .nm i => own.contains i
  | .tp l => l.all own.contains
/-- enumerate, zip: to several names -/
def tupOk : IT → Expr → Bool
  | .enum _, .Tuple _ _ _ => true
  | .zip _ _, .Tuple _ _ _ => true
  | .enum _, _ => false
  | .zip _ _, _ => false
  | _, _ => true
def ownB (S : Sc) : List Nat → List (Str × Nat)
  | [] => []
  | i :: r => match S.N[i]? with | some x => (x, i) :: ownB S r | none => ownB S r
def bndB (T : Tb) (f : Nat) (ds : List PV) : Bool := T.binds.any fun (j, l) => j == f && l.length == ds.length && (l.zip ds).all fun (a, b) => sameSv a b
def mD : List Str → List (Option Expr) → Bool
  | [], [] => true
  | x :: ks, some (.Constant (.str y) _ _) :: es => x == y && mD ks es
  | _, _ => false
/-- where a method's call stands on lines -/
def appP (l : Expr) (p q : Pos) : Bool := (match l with | .Name _ _ => true | .Subscript _ _ _ => true | _ => false) && (p.endLine == q.line)
/-- the text of what has no constructor of its own: the parts that are evaluated -/
def exArgs (T : Tb) (S : Sc) : EX → Expr → Option (List Expr)
  | .lrng, .Call (.Name x _) [.Call (.Name y _) [l] [] _] [] _ => if bltB T S x "list" = true ∧ bltB T S y "range" = true then some [l] else none
  | .mind d, .Call (.Name x _) [l] [⟨some k, .Constant (.int i) _ _, _⟩] _ => if bltB T S x "min" = true ∧ k = ("default" : Str) ∧ i = d then some [l] else none
  | _, _ => none
theorem exArgs_call {T : Tb} {S : Sc} {x : EX} {e : Expr} {ls : List Expr} (h : exArgs T S x e = some ls) : ∃ f as ks p, e = .Call f as ks p := by
  cases e <;> first | exact ⟨_, _, _, _, rfl⟩ | (cases x <;> simp [exArgs] at h)
@[simp] theorem exArgs_star {T : Tb} {S : Sc} {x : EX} {a : Expr} {p : Pos} : exArgs T S x (.Starred a p) = none := by cases x <;> rfl
@[simp] theorem exArgs_slice {T : Tb} {S : Sc} {x : EX} {a b c : Option Expr} {p : Pos} : exArgs T S x (.Slice a b c p) = none := by cases x <;> rfl
@[simp] theorem exArgs_set {T : Tb} {S : Sc} {x : EX} {a : List Expr} {k : Nat} {p : Pos} : exArgs T S x (.Set a k p) = none := by cases x <;> rfl
mutual
def mE (T : Tb) (S : Sc) : IE → Expr → Bool
  | .var i, .Name x _ => S.N[i]? == some x && visB S.sc x && notDbg x
  | .k v, .Constant c _ _ => sameC v c
  | .glob y v, .Name x _ => y == x && glB S.sc x && notDbg x && (match T.consts x with | some u => sameG u v | none => false)
  | .bin o a b, .BinOp l op r _ => decide (op = opOf o) && mE T S a l && mE T S b r
  | .neg a, .UnaryOp .USub l _ => mE T S a l
  | .cmp o a b, .Compare l [op] [r] _ => decide (op = opC o) && mE T S a l && mE T S b r
  | .cmp2 o o2 a b d, .Compare l [op, op2] [r, q] _ => decide (op = opC o) && decide (op2 = opC o2) && decide (op ≠ .In) && decide (op ≠ .NotIn) && decide (op2 ≠ .In) && decide (op2 ≠ .NotIn) && mE T S a l && mE T S b r && mE T S d q
  | .and a b, .BoolOp .And (l :: r :: rest) p => mE T S a l && (match rest with | [] => mE T S b r | q :: qs => mE T S b (.BoolOp .And (r :: q :: qs) p))
  | .or a b, .BoolOp .Or (l :: r :: rest) p => mE T S a l && (match rest with | [] => mE T S b r | q :: qs => mE T S b (.BoolOp .Or (r :: q :: qs) p))
  | .not a, .UnaryOp .Not l _ => mE T S a l
  | .ite t a b, .IfExp c l r _ => mT T S t c && mE T S a l && mE T S b r
  | .tup es, .Tuple l _ _ => mEs T S es l
  | .lst es, .List l _ => mEs T S es l
  | .newl es, .List l _ => mEs T S es l
  | .idx a b, .Subscript l r _ => mE T S a l && mE T S b r
  | .sl a lo hi, .Subscript l (.Slice x y none _) _ => mE T S a l && mO T S lo x && mO T S hi y
  | .rev a, .Subscript l (.Slice none none (some (.UnaryOp .USub (.Constant (.int 1) _ _) _)) _) _ => mE T S a l
  | .call f es ds, .Call (.Name x _) as [] _ => glB S.sc x && notDbg x && (match T.prg.fns f with | some Fn => Fn.name == x | none => false) && bndB T f ds && mEs T S es as
  | .callk f es ns ks perm, .Call (.Name x _) as kws _ => glB S.sc x && notDbg x && (match T.prg.fns f with | some Fn => Fn.name == x | none => false) && T.kbs.any (fun (j, np, l, q) => j == f && np == as.length && l == ns && q == perm) && mEs T S es as && mK T S ns ks kws
  | .isI t a, .Call (.Name x _) [l, .Name y _] [] _ => bltB T S x "isinstance" && bltB T S y (tyS t) && mE T S a l
  | .blt b es, .Call (.Name x _) (a :: as) [] _ => bfOk b && bltB T S x (bfS b) && mEs T S es (a :: as)
  | .comp new tg own it cs el, .ListComp e [⟨t, i, fs, 0⟩] scope _ => mI T S it i && blkC S.N S.sc scope (ownB S own) && (ownB S own).map (·.2) == own &&
      tupOk it t && tgIn own tg && tgB ⟨S.N, relS scope S.sc, fun x => scope.names.lookup x == some .cell⟩ tg t && mC T ⟨S.N, relS scope S.sc, fun x => scope.names.lookup x == some .cell⟩ cs fs && mE T ⟨S.N, relS scope S.sc, fun x => scope.names.lookup x == some .cell⟩ el e
  | .mkb o a b, .BinOp l op r _ => decide (op = opOf o) && mE T S a l && mE T S b r
  | .mkl a, .Call (.Name x _) [l] [] _ => bltB T S x "list" && mE T S a l
  | .cmp3 o o2 o3 a b d f, .Compare l ops rs _ => (match ops, rs with
    | [op, op2, op3], [r, q, s] => decide (op = opC o) && decide (op2 = opC o2) && decide (op3 = opC o3) && decide (op ≠ .In) && decide (op ≠ .NotIn) && decide (op2 ≠ .In) && decide (op2 ≠ .NotIn) && decide (op3 ≠ .In) && decide (op3 ≠ .NotIn) && mE T S a l && mE T S b r && mE T S d q && mE T S f s
    | _, _ => false)
  | .lcn new own tg it cs r, .ListComp e (⟨t, i, fs, 0⟩ :: gs) scope _ => mI T S it i && blkC S.N S.sc scope (ownB S own) && (ownB S own).map (·.2) == own && tupOk it t && tgIn own tg && tgB ⟨S.N, relS scope S.sc, fun x => scope.names.lookup x == some .cell⟩ tg t && mC T ⟨S.N, relS scope S.sc, fun x => scope.names.lookup x == some .cell⟩ cs fs && ((dvs r).all fun j => own.contains j) && mL T ⟨S.N, relS scope S.sc, fun x => scope.names.lookup x == some .cell⟩ r gs e
  | .frz a, .Name x _ => (match a with | .var i => S.N[i]? == some x && visB S.sc x && notDbg x | _ => false)
  | .app o a, .Call (.Attribute l x p) [r] [] q => x == ("append" : Str) && appP l p q && mE T S o l && mE T S a r
  | .newd ks es, .Dict keys vs _ => mD ks keys && decide (ks ≠ []) && decide (keys.length = vs.length) && decide (keys.length ≤ 15) && mEs T S es vs
  | .emp, .Dict [] [] _ => true
  | .fld a x, .Attribute (.Name z p) y _ => x == y && mE T S a (.Name z p)
  | .ext x es, e => (match exArgs T S x e with | some ls => mEs T S es ls | none => false)
  | _, _ => false
/-- the clauses behind the first -/
def mL (T : Tb) (S : Sc) : ICl → List Comprehension → Expr → Bool
  | .el a, [], e => mE T S a e
  | .cons tg vs it cs r, ⟨t, i, fs, 0⟩ :: gs, e => mI T S it i && tupOk it t && tgIn vs tg && tgB S tg t && mC T S cs fs && mL T S r gs e
  | _, _, _ => false
def mT (T : Tb) (S : Sc) : IE → Expr → Bool
  | .and a b, .BoolOp .And (l :: r :: rest) p => mT T S a l && (match rest with | [] => mT T S b r | q :: qs => mT T S b (.BoolOp .And (r :: q :: qs) p))
  | .or a b, .BoolOp .Or (l :: r :: rest) p => mT T S a l && (match rest with | [] => mT T S b r | q :: qs => mT T S b (.BoolOp .Or (r :: q :: qs) p))
  | .not a, .UnaryOp .Not l _ => mT T S a l
  | .cmp o a b, .Compare l [op] [r] _ => decide (op = opC o) && mE T S a l && mE T S b r
  | .cmp2 o o2 a b d, .Compare l [op, op2] [r, q] _ => decide (op = opC o) && decide (op2 = opC o2) && decide (op ≠ .In) && decide (op ≠ .NotIn) && decide (op2 ≠ .In) && decide (op2 ≠ .NotIn) && mE T S a l && mE T S b r && mE T S d q
  | .var i, .Name x _ => S.N[i]? == some x && visB S.sc x && notDbg x
  | .call f es ds, .Call (.Name x _) as [] _ => glB S.sc x && notDbg x && (match T.prg.fns f with | some Fn => Fn.name == x | none => false) && bndB T f ds && mEs T S es as
  | .isI t a, .Call (.Name x _) [l, .Name y _] [] _ => bltB T S x "isinstance" && bltB T S y (tyS t) && mE T S a l
  | .blt b es, .Call (.Name x _) (a :: as) [] _ => bfOk b && bltB T S x (bfS b) && mEs T S es (a :: as)
  | .ext x es, .Call f as ks p => (match exArgs T S x (.Call f as ks p) with | some ls => mEs T S es ls | none => false)
  | _, _ => false
def mEs (T : Tb) (S : Sc) : IEs → List Expr → Bool
  | .nil, [] => true
  | .cons a es, l :: ls => mE T S a l && mEs T S es ls
  | _, _ => false
def mK (T : Tb) (S : Sc) : List Str → IEs → List Keyword → Bool
  | [], .nil, [] => true
  | x :: ns, .cons a es, ⟨y, l, _⟩ :: ls => y == some x && mE T S a l && mK T S ns es ls
  | _, _, _ => false
def mO (T : Tb) (S : Sc) : IO → Option Expr → Bool
  | .no, none => true
  | .so a, some l => mE T S a l
  | _, _ => false
def mC (T : Tb) (S : Sc) : IEs → List Expr → Bool
  | .nil, [] => true
  | .cons a .nil, [l] => mT T S a l
  | _, _ => false
def mI (T : Tb) (S : Sc) : IT → Expr → Bool
  | .val a, e => mE T S a e && (match e with | .Call (.Name x _) _ _ _ => !(T.bl.contains x) | _ => true)
  | .rng1 a, .Call (.Name x _) [l] [] _ => bltB T S x "range" && mE T S a l
  | .rng2 a b, .Call (.Name x _) [l, r] [] _ => bltB T S x "range" && mE T S a l && mE T S b r
  | .enum a, .Call (.Name x _) [l] [] _ => bltB T S x "enumerate" && mE T S a l
  | .zip a b, .Call (.Name x _) [l, r] [] _ => bltB T S x "zip" && mE T S a l && mE T S b r
  | _, _ => false
end
end MI

/-! MiS5: expressions, as they are evaluated -/
namespace MI
open PySem PySem.Spec L2
open PyProof.Rows hiding St
section
variable {T : Tb} {S : Sc} {F : Fx} {n : Nat} {X : Cx}
theorem Good.hK (g : Good T S F n X) : X.K = F.G.K := by rw [g.K, g.G]
theorem Good.un (g : Good T S F n X) : X.A.units + 65 < cLine := by have := g.room.un; omega
theorem Good.vis (g : Good T S F n X) {x : Str} (h : visB S.sc x = true) : Vis X.env.scope x := by
  unfold visB at h
  unfold Vis
  rw [g.sc]
  split at h
  · rename_i e; exact .inl e
  · rename_i e; exact .inr (.inl e)
  · rename_i e; exact .inr (.inr e)
  · cases h
theorem Good.gl (g : Good T S F n X) {x : Str} (h : glB S.sc x = true) : Gl X x := by
  show X.env.scope.names.lookup x = some .globalImplicit
  rw [g.sc]
  exact eq_of_beq h
theorem dbg1 {x : Str} (h : notDbg x = true) : (x == ("__debug__" : Str)) = false ∧ (x == ("__classdict__" : Str)) = false ∧ x ≠ "__name__" := by
  unfold notDbg at h
  simp only [Bool.and_eq_true, Bool.not_eq_true'] at h
  exact ⟨h.1.1, h.1.2, fun z => by rw [z] at h; exact absurd h.2 (by decide)⟩
theorem ext_no {x : EX} {e : Expr} {es : IEs} (h : mE T S (.ext x es) e = true) : ∃ f as ks p, e = .Call f as ks p := by
  rw [mE.eq_def] at h
  dsimp only at h
  split at h
  · rename_i ls q
    exact exArgs_call q
  · cases h
theorem star_of {ie : IE} {e : Expr} {es : List Expr} {env : PySem.Env} (h : mE T S ie e = true) : starEach (e :: es) env = (false, eval e env) :: starEach es env := by
  cases e <;> first | rfl | (cases ie <;> first | (simp [mE] at h; done) | (obtain ⟨_, _, _, _, z⟩ := ext_no h; cases z))
theorem stars_of {env : PySem.Env} {pos : Pos} : ∀ {es : IEs} {ls : List Expr}, mEs T S es ls = true → (backTo pos (starEach ls env)).any (·.1) = false
  | .nil, [], _ => rfl
  | .cons a es, l :: ls, h => by
    simp only [mEs, Bool.and_eq_true] at h
    rw [star_of h.1]
    show (false || (backTo pos (starEach ls env)).any (·.1)) = false
    rw [stars_of h.2]; try rfl
  | .nil, _ :: _, h => by simp [mEs] at h
  | .cons _ _, [], h => by simp [mEs] at h
theorem plainIx_of {ie : IE} {e : Expr} (h : mE T S ie e = true) : PlainIx e := by
  intro o i
  cases e <;> first | rfl | (cases ie <;> first | (simp [mE] at h; done) | (obtain ⟨_, _, _, _, z⟩ := ext_no h; cases z))
theorem sameC_ok {v : PV} {c : Const} {k : Nat} {pos : Pos} (h : sameC v c = true) : ∃ x, RV F.G (fun _ => False) (fun _ => none) v x ∧ (∀ P H, RV F.G P H v x) ∧ PE X (.Constant c k pos) (tC x) := by
  cases v <;> cases c <;> simp [sameC] at h
  · exact ⟨.non, rfl, fun _ _ => rfl, pe_non⟩
  · subst h; exact ⟨.bl _, rfl, fun _ _ => rfl, pe_bl⟩
  · subst h; exact ⟨.int _, rfl, fun _ _ => rfl, pe_int⟩
  · subst h; exact ⟨.str _, rfl, fun _ _ => rfl, pe_str⟩
theorem bltB_ok (g : Good T S F n X) {x : Str} {y : String} (h : bltB T S x y = true) : x = Str.ofString y ∧ Gl X x ∧ X.mg x = none := by
  unfold bltB at h
  simp only [Bool.and_eq_true] at h
  refine ⟨eq_of_beq h.1.1, g.gl h.1.2, ?_⟩
  rw [g.mg]
  exact g.ok.blt x (List.contains_iff_mem.mp h.2)
theorem opC_mark {o : CO} {e : Expr} {ie : IE} (h : mE T S ie e = true) : behindInMarks (opC o) e = false := by
  cases e <;> first | rfl | (cases ie <;> first | (simp [mE] at h; done) | (obtain ⟨_, _, _, _, z⟩ := ext_no h; cases z))

theorem e_var (g : Good T S F n X) {i : Nat} {x : Str} {pos : Pos} (h : mE T S (.var i) (.Name x pos) = true) : PE X (.Name x pos) (tE F (evE (cnOf T F n) (.var i))) := by
  simp only [mE, Bool.and_eq_true] at h
  obtain ⟨⟨h1, h2⟩, h3⟩ := h
  obtain ⟨d1, d2, _⟩ := dbg1 h3
  refine PE.imp (pe_var (i := i) (by rw [g.N]; exact eq_of_beq h1) (g.vis h2) d1 d2) ?_
  rintro σ H Q ⟨e, h, m, P, ⟨re, St⟩, a⟩
  rw [evE] at a
  split at a
  · rename_i v ev
    obtain ⟨x, ex, rx⟩ := re.at_ i v ev
    exact ⟨x, ex, a x H m P Ext.refl St rx⟩
  · exact a.elim
theorem e_k {v : PV} {e : Expr} (h : mE T S (.k v) e = true) : PE X e (tE F (evE (cnOf T F n) (.k v))) := by
  cases e <;> simp [mE] at h
  rename_i c k pos
  obtain ⟨x, _, r, pe⟩ := sameC_ok (F := F) (X := X) (k := k) (pos := pos) h
  refine PE.imp pe ?_
  rintro σ H Q ⟨e, h, m, P, ⟨re, St⟩, a⟩
  rw [evE] at a
  exact a x H m P Ext.refl St (r P H)
theorem sV_rv {G : Gb} {P : Addr → Prop} {H : Hp} {v : PV} {x : V} (h : sV v = some x) : RV G P H v x := by
  cases v <;> simp [sV] at h <;> subst h <;> rfl
theorem e_glob (g : Good T S F n X) {y : Str} {v : PV} {e : Expr} (h : mE T S (.glob y v) e = true) : PE X e (tE F (evE (cnOf T F n) (.glob y v))) := by
  cases e <;> simp [mE] at h
  rename_i x pos
  obtain ⟨⟨⟨h1, h2⟩, h3⟩, h4⟩ := h
  split at h4
  · rename_i u eu
    obtain ⟨val, x', hm, hr, hs⟩ := g.ok.con x u eu
    have : u = v := sameG_eq h4
    subst this
    obtain ⟨d1, d2, _⟩ := dbg1 h3
    refine PE.imp (pe_glob (g.gl h2) (by rw [g.mg]; exact hm) hr d1) ?_
    rintro σ H Q ⟨e, h, m, P, ⟨re, St⟩, a⟩
    rw [evE] at a
    exact a x' H m P Ext.refl St (by rw [g.G]; exact hs P H)
  · cases h4
theorem e_bin (g : Good T S F n X) {o : BO} {a b : IE} {l r : Expr} {pos : Pos} (ha : PE X l (tE F (evE (cnOf T F n) a))) (hb : PE X r (tE F (evE (cnOf T F n) b))) : PE X (.BinOp l (opOf o) r pos) (tE F (evE (cnOf T F n) (.bin o a b))) := by
  refine PE.imp (pe_op (or_bin g.hK o) ha hb) ?_
  rintro σ H Q ⟨e, h, m, P, st, a⟩
  rw [evE] at a
  exact tE_op ⟨e, h, m, P, st, a⟩
theorem e_mkb (g : Good T S F n X) {o : BO} {a b : IE} {l r : Expr} {pos : Pos} (ha : PE X l (tE F (evE (cnOf T F n) a))) (hb : PE X r (tE F (evE (cnOf T F n) b))) : PE X (.BinOp l (opOf o) r pos) (tE F (evE (cnOf T F n) (.mkb o a b))) := by
  refine PE.imp (pe_op (or_mkb g.hK o) ha hb) ?_
  rintro σ H Q ⟨e, h, m, P, st, a⟩
  rw [evE] at a
  exact tE_op ⟨e, h, m, P, st, a⟩
theorem un_neg' : UnR X (unaryOp .USub) (R1of F fun x h => (match x with | .pv (.int i) => okP (.int (-i)) h | _ => .bad)) := by
  intro pins s σ H x v Q I rx hh
  obtain ⟨σ', a, h, m, P, St, ra, af⟩ := hh
  dsimp only at af
  split at af
  · rename_i i
    exact un_neg pins s σ H x v Q I rx ⟨i, ra, af.okp St rfl⟩
  · exact af.elim
theorem e_neg {a : IE} {l : Expr} {pos : Pos} (ha : PE X l (tE F (evE (cnOf T F n) a))) : PE X (.UnaryOp .USub l pos) (tE F (evE (cnOf T F n) (.neg a))) := by
  refine PE.imp (pe_un (un_neg' (F := F)) ha) ?_
  rintro σ H Q ⟨e, h, m, P, st, a⟩
  rw [evE] at a
  exact tE_un ⟨e, h, m, P, st, a⟩
theorem e_cmp (g : Good T S F n X) {o : CO} {a b : IE} {l r : Expr} {pos : Pos} (hm : behindInMarks (opC o) r = false) (ha : PE X l (tE F (evE (cnOf T F n) a))) (hb : PE X r (tE F (evE (cnOf T F n) b))) : PE X (.Compare l [opC o] [r] pos) (tE F (evE (cnOf T F n) (.cmp o a b))) := by
  refine PE.imp (pe_cmpR (oc_cmp g.hK g.un o) ha hb hm) ?_
  rintro σ H Q ⟨e, h, m, P, st, a⟩
  rw [evE] at a
  exact tE_op ⟨e, h, m, P, st, a⟩
theorem e_idx (g : Good T S F n X) {a b : IE} {l r : Expr} {pos : Pos} (hb' : mE T S b r = true) (ha : PE X l (tE F (evE (cnOf T F n) a))) (hb : PE X r (tE F (evE (cnOf T F n) b))) : PE X (.Subscript l r pos) (tE F (evE (cnOf T F n) (.idx a b))) := by
  refine PE.imp (pe_ix (ox_idx g.hK (by have := g.un; omega)) ha hb (plainIx_of hb')) ?_
  rintro σ H Q ⟨e, h, m, P, st, a⟩
  rw [evE] at a
  exact tE_op ⟨e, h, m, P, st, a⟩
theorem tE_mono {r : Env → Sto → RE} {σ : St} {H : Hp} {Q Q' : VK} (t : tE F r σ H Q) (i : ∀ x H', Q x H' → Q' x H') : tE F r σ H Q' := by
  obtain ⟨e, h, m, P, st, a⟩ := t
  refine ⟨e, h, m, P, st, ?_⟩
  revert a
  cases r e h with
  | ok v => exact fun a x H' m' P' e1 s1 q1 => i _ _ (a x H' m' P' e1 s1 q1)
  | exc c fs h1 => exact fun a => a
  | bad => exact fun a => a
/-- the second part runs, by the first one's answer -/
theorem tE_cond {ra : Env → Sto → RE} {f : Env → MV → Sto → RE} {σ : St} {H : Hp} {Q : VK} (t : tE F (fun e h => seq1 (ra e h) fun v h1 => f e v h1) σ H Q) :
    tE F ra σ H fun x H1 => ∃ e v h1 m1 P1, Stn F e h1 σ m1 P1 H1 ∧ RMV F.G m1 P1 h1.length H1 v x ∧ AftE F σ m1 P1 h1 H1 (f e v h1) Q := by
  obtain ⟨e, h, m, P, ⟨re, St⟩, a⟩ := t
  refine ⟨e, h, m, P, ⟨re, St⟩, ?_⟩
  have b := AftE.seq St a
  revert b
  cases ra e h with
  | ok v => exact fun b x H1 m1 P1 e1 s1 q1 => let ⟨v, h1, m2, P2, e2, s2, q2, a2⟩ := b x H1 m1 P1 e1 s1 q1; ⟨e, v, h1, m2, P2, ⟨e2.env St re, s2⟩, q2, a2⟩
  | exc c fs h1 => exact fun b => b
  | bad => exact fun b => b
theorem e_and {a b : IE} {l r : Expr} {rest : List Expr} {pos : Pos} (ha : PE X l (tE F (evE (cnOf T F n) a))) (hb : PE X (.BoolOp .And (r :: rest) pos) (tE F (evE (cnOf T F n) b))) : PE X (.BoolOp .And (l :: r :: rest) pos) (tE F (evE (cnOf T F n) (.and a b))) := by
  refine PE.imp (pe_and ha hb) ?_
  rintro σ H Q ⟨e, h, m, P, st, a⟩
  rw [evE] at a
  obtain ⟨e, h, m, P, st, a⟩ := tE_cond (f := fun e x h => (match x with | .pv (.bl true) => evE (cnOf T F n) b e h | .pv (.bl false) => okP (.bl false) h | _ => .bad)) ⟨e, h, m, P, st, a⟩
  refine tE_mono ⟨e, h, m, P, st, a⟩ ?_
  rintro x H1 ⟨e2, v, h1, m2, P2, st2, q2, a2⟩
  split at a2
  · exact ⟨true, q2, ⟨e2, h1, m2, P2, st2, a2⟩⟩
  · exact ⟨false, q2, a2.okp st2.2 rfl⟩
  · exact a2.elim
theorem e_or {a b : IE} {l r : Expr} {rest : List Expr} {pos : Pos} (ha : PE X l (tE F (evE (cnOf T F n) a))) (hb : PE X (.BoolOp .Or (r :: rest) pos) (tE F (evE (cnOf T F n) b))) : PE X (.BoolOp .Or (l :: r :: rest) pos) (tE F (evE (cnOf T F n) (.or a b))) := by
  refine PE.imp (pe_or ha hb) ?_
  rintro σ H Q ⟨e, h, m, P, st, a⟩
  rw [evE] at a
  obtain ⟨e, h, m, P, st, a⟩ := tE_cond (f := fun e x h => (match x with | .pv (.bl false) => evE (cnOf T F n) b e h | .pv (.bl true) => okP (.bl true) h | _ => .bad)) ⟨e, h, m, P, st, a⟩
  refine tE_mono ⟨e, h, m, P, st, a⟩ ?_
  rintro x H1 ⟨e2, v, h1, m2, P2, st2, q2, a2⟩
  split at a2
  · exact ⟨false, q2, ⟨e2, h1, m2, P2, st2, a2⟩⟩
  · exact ⟨true, q2, a2.okp st2.2 rfl⟩
  · exact a2.elim
theorem truth_tru {G : Gb} {m : Nat → Addr} {P : Addr → Prop} {h : Sto} {H : Hp} (St : SR G m P h H) {v : MV} {x : V} {b : Bool} (r : RMV G m P h.length H v x) (e : truth v h = some b) : TruV G.K x H b := by
  cases v with
  | loc k =>
    obtain ⟨hk, rfl⟩ := r
    simp only [truth] at e
    split at e
    · rename_i xs eo
      cases e
      obtain ⟨vs, q, rr⟩ := St.obj k _ eo
      have hl := Paired.length rr
      exact .inl ⟨vs, .of q, by cases xs <;> cases vs <;> simp_all⟩
    · rename_i xs eo
      cases e
      obtain ⟨vs, q, rr⟩ := St.obj k _ eo
      have hl := rr.length
      exact .inl ⟨vs, q.sq, by cases xs <;> cases vs <;> simp_all⟩
    · cases e
  | pv p =>
    cases p with
    | non => cases (show x = .non from r); simp only [truth, Option.some.injEq] at e; exact e.symm
    | bl c => cases (show x = .bl c from r); simp only [truth, Option.some.injEq] at e; exact e.symm
    | int i => cases (show x = .int i from r); simp only [truth, Option.some.injEq] at e; exact e.symm
    | str y =>
      cases (show x = .str y from r)
      simp only [truth] at e
      split at e
      case isFalse => cases e
      rename_i hz
      rw [sizeLim_eq] at hz
      cases e
      refine ⟨hz, ?_⟩
      cases hy : y.length with
      | zero => rfl
      | succ k =>
        have e1 : (k + 1 != 0) = true := by simp
        have e2 : (((k + 1 : Nat) : Int) != 0) = true := by
          simp only [bne_iff_ne, ne_eq]; omega
        rw [e1, e2]
    | tup xs =>
      obtain ⟨a, vs, rfl, q, rr⟩ := r
      simp only [truth, Option.some.injEq] at e
      have hl := rr.length
      exact .inr (.inl ⟨vs, q.sq, by rw [← e]; cases xs <;> cases vs <;> simp_all⟩)
    | lst xs =>
      obtain ⟨a, vs, rfl, ⟨_, q⟩, rr⟩ := r
      simp only [truth, Option.some.injEq] at e
      have hl := rr.length
      exact .inl ⟨vs, .of q, by rw [← e]; cases xs <;> cases vs <;> simp_all⟩
    | _ => simp [truth] at e
end
end MI

/-! MiS6: expressions: displays, slices, calls, methods -/
namespace MI
open PySem PySem.Spec L2
open PyProof.Rows hiding St
section
variable {T : Tb} {S : Sc} {F : Fx} {n : Nat} {X : Cx}
theorem tA_mono {r : Env → Sto → R (List MV × Sto)} {σ : St} {H : Hp} {Q Q' : List V → Hp → Prop} (t : tA F r σ H Q) (i : ∀ x H', Q x H' → Q' x H') : tA F r σ H Q' := by
  obtain ⟨e, h, m, P, st, a⟩ := t
  refine ⟨e, h, m, P, st, ?_⟩
  revert a
  cases r e h with
  | ok v => exact fun a x H' m' P' e1 s1 q1 => i _ _ (a x H' m' P' e1 s1 q1)
  | exc c fs h1 => exact fun a => a
  | bad => exact fun a => a
theorem e_not (g : Good T S F n X) {a : IE} {l : Expr} {pos : Pos} (ha : PE X l (tE F (evE (cnOf T F n) a))) : PE X (.UnaryOp .Not l pos) (tE F (evE (cnOf T F n) (.not a))) := by
  refine PE.imp (pe_notT ha) ?_
  rintro σ H Q ⟨e, h, m, P, st, a⟩
  rw [evE] at a
  obtain t := tE_cond (F := F) (f := fun e x h => okB ((truth x h).map (!·)) h) ⟨e, h, m, P, st, a⟩
  refine tE_mono t ?_
  rintro x H1 ⟨e2, v, h1, m2, P2, st2, q2, a2⟩
  cases et : truth v h1 with
  | none => rw [et] at a2; exact a2.elim
  | some b =>
    rw [et] at a2
    exact ⟨b, by rw [g.hK]; exact truth_tru st2.2 q2 et, a2.okp st2.2 rfl⟩
/-- arguments, as they are evaluated -/
theorem a_nil : PA X [] (tA F (evEs (cnOf T F n) .nil)) := by
  refine PA.imp pa_nil ?_
  rintro σ H Q ⟨e, h, m, P, st, a⟩
  rw [evEs] at a
  exact a [] H m P Ext.refl st.2 .nil
theorem a_cons {a : IE} {es : IEs} {l : Expr} {ls : List Expr} (hs : starEach (l :: ls) X.env = (false, eval l X.env) :: starEach ls X.env) (ha : PE X l (tE F (evE (cnOf T F n) a))) (hb : PA X ls (tA F (evEs (cnOf T F n) es))) :
    PA X (l :: ls) (tA F (evEs (cnOf T F n) (.cons a es))) := by
  refine PA.imp (pa_cons ha hb hs) ?_
  rintro σ H Q ⟨e, h, m, P, ⟨re, St⟩, a⟩
  rw [evEs] at a
  refine ⟨e, h, m, P, ⟨re, St⟩, ?_⟩
  revert a
  cases evE (cnOf T F n) ‹IE› e h with
  | exc c fs h1 => exact fun a => a
  | bad => exact fun a => a
  | ok v =>
    obtain ⟨v, h1⟩ := v
    refine fun a x H1 m1 P1 e1 s1 q1 => ?_
    refine ⟨e, h1, m1, P1, ⟨e1.env St re, s1⟩, ?_⟩
    have a' : AftA F σ m1 P1 h1 H1 (seqL (evEs (cnOf T F n) es e h1) fun xs h => .ok (v :: xs, h)) Q := AftA.af e1 a
    revert a'
    cases evEs (cnOf T F n) es e h1 with
    | exc c fs h1 => exact fun a => a
    | bad => exact fun a => a
    | ok w =>
      obtain ⟨w, h2⟩ := w
      exact fun a y H2 m2 P2 e2 s2 q2 => a (x :: y) H2 m2 P2 e2 s2 (.cons (e2.rmv s1 q1) q2)
/-- a display's end -/
theorem tup_end (hz : True) {es : IEs} : ∀ σ H Q, tE F (evE (cnOf T F n) (.tup es)) σ H Q → tTup (tA F (evEs (cnOf T F n) es)) σ H Q := by
  rintro σ H Q ⟨e, h, m, P, st, a⟩
  rw [evE] at a
  have t := tE_call (F := F) (f := fun vs h => if vs.length ≤ sizeLim then (match pures vs with | some xs => okP (.tup xs) h | none => .bad) else .bad) ⟨e, h, m, P, st, a⟩
  refine tA_mono t ?_
  rintro xs H1 ⟨σ', vs, h1, m1, P1, S1, r1, af⟩
  dsimp only at af
  have hl := Paired.length r1
  split at af
  · rename_i hz
    rw [sizeLim_eq] at hz
    split at af
    · rename_i ps ep
      exact ⟨by omega, fun p hp => af.newT S1 (pures_rms r1 ep) hp⟩
    · exact af.elim
  · exact af.elim
theorem lst_end {new : Bool} {r : Env → Sto → R (List MV × Sto)} : ∀ σ H Q, tE F (fun e h => seqL (r e h) fun vs h => oLst new vs h) σ H Q → tLst (tA F r) σ H Q := by
  intro σ H Q t
  refine tA_mono (tE_call t) ?_
  rintro xs H1 ⟨σ', vs, h1, m1, P1, S1, r1, af⟩
  have hl := Paired.length r1
  by_cases hz : vs.length ≤ sizeLim
  · cases new with
    | true =>
      simp only [oLst, hz, if_true] at af
      rw [sizeLim_eq] at hz
      exact ⟨by omega, fun p hp => AftE.newR S1 af r1 hp⟩
    | false =>
      simp only [oLst, hz, if_true, Bool.false_eq_true, if_false] at af
      rw [sizeLim_eq] at hz
      split at af
      · rename_i ps ep
        exact ⟨by omega, fun p hp => af.newL S1 (pures_rms r1 ep) hp⟩
      · exact af.elim
  · simp only [oLst, hz, if_false] at af
    exact af.elim
theorem e_tup {es : IEs} {ls : List Expr} {k : Nat} {pos : Pos} (ha : PA X ls (tA F (evEs (cnOf T F n) es))) : PE X (.Tuple ls k pos) (tE F (evE (cnOf T F n) (.tup es))) := PE.imp (pe_tup ha) (tup_end trivial)
theorem e_lst {es : IEs} {ls : List Expr} {pos : Pos} (ha : PA X ls (tA F (evEs (cnOf T F n) es))) : PE X (.List ls pos) (tE F (evE (cnOf T F n) (.lst es))) := by
  refine PE.imp (pe_lst ha) ?_
  rintro σ H Q ⟨e, h, m, P, st, a⟩
  rw [evE] at a
  exact lst_end σ H Q ⟨e, h, m, P, st, a⟩
theorem e_newl {es : IEs} {ls : List Expr} {pos : Pos} (ha : PA X ls (tA F (evEs (cnOf T F n) es))) : PE X (.List ls pos) (tE F (evE (cnOf T F n) (.newl es))) := by
  refine PE.imp (pe_lst ha) ?_
  rintro σ H Q ⟨e, h, m, P, st, a⟩
  rw [evE] at a
  exact lst_end σ H Q ⟨e, h, m, P, st, a⟩
/-- parts of a slice -/
def tOo (F : Fx) (r : Env → Sto → R (Option MV × Sto)) : TO := fun σ H Q => ∃ e h m P, Stn F e h σ m P H ∧ (match r e h with
  | .ok (o, h') => ∃ lo, optI o = some lo ∧ ∀ H' m' P', Ext F.B m P h H m' P' h' H' → SR F.G m' P' h' H' → Q lo H'
  | .exc c fs h' => Aft0 F σ m P h H c fs h'
  | .bad => False)
theorem PO.imp {e : Option Expr} {t t' : TO} (h : PO X e t) (i : ∀ σ H Q, t' σ H Q → t σ H Q) : PO X e t' := ⟨fun pins s σ H Q I q => h.run pins s σ H Q I (i σ H Q q)⟩
theorem o_no : PO X none (tOo F (evO (cnOf T F n) .no)) := by
  refine PO.imp po_none ?_
  rintro σ H Q ⟨e, h, m, P, st, a⟩
  rw [evO] at a
  obtain ⟨lo, el, q⟩ := a
  cases el
  exact q H m P Ext.refl st.2
theorem o_so {a : IE} {l : Expr} (ha : PE X l (tE F (evE (cnOf T F n) a))) : PO X (some l) (tOo F (evO (cnOf T F n) (.so a))) := by
  refine PO.imp (po_some ha) ?_
  rintro σ H Q ⟨e, h, m, P, st, a⟩
  rw [evO] at a
  refine ⟨e, h, m, P, st, ?_⟩
  revert a
  cases evE (cnOf T F n) ‹IE› e h with
  | exc c fs h1 => exact fun a => a
  | bad => exact fun a => a
  | ok v =>
    obtain ⟨v, h1⟩ := v
    intro a
    cases v with
    | loc k => exact a.elim
    | pv p =>
      cases p with
      | int i =>
        obtain ⟨lo, el, q⟩ := a
        cases el
        exact fun x H1 m1 P1 e1 s1 q1 => ⟨i, q1, q H1 m1 P1 e1 s1⟩
      | _ => exact a.elim
theorem evO_int {c : Cn} {o : IO} {e : Env} {h h' : Sto} {x : Option MV} (q : evO c o e h = .ok (x, h')) : ∃ l, optI x = some l := by
  cases o with
  | no => rw [evO] at q; cases q; exact ⟨none, rfl⟩
  | so a =>
    rw [evO] at q
    cases ea : evE c a e h with
    | exc c fs h1 => rw [ea] at q; cases q
    | bad => rw [ea] at q; cases q
    | ok v =>
      obtain ⟨v, h1⟩ := v
      rw [ea] at q
      dsimp only [seq1] at q
      split at q
      · cases q; exact ⟨_, rfl⟩
      · cases q
theorem e_sl (g : Good T S F n X) {a : IE} {lo hi : IO} {l : Expr} {x y : Option Expr} {p pos : Pos} (ha : PE X l (tE F (evE (cnOf T F n) a))) (hl : PO X x (tOo F (evO (cnOf T F n) lo))) (hh : PO X y (tOo F (evO (cnOf T F n) hi))) :
    PE X (.Subscript l (.Slice x y none p) pos) (tE F (evE (cnOf T F n) (.sl a lo hi))) := by
  refine PE.imp (pe_slice (os_sl g.hK) ha hl hh) ?_
  rintro σ H Q ⟨e, h, m, P, ⟨re, St⟩, a⟩
  rw [evE] at a
  refine ⟨e, h, m, P, ⟨re, St⟩, ?_⟩
  revert a
  cases evE (cnOf T F n) ‹IE› e h with
  | exc c fs h1 => exact fun a => a
  | bad => exact fun a => a
  | ok v =>
    obtain ⟨v, h1⟩ := v
    intro a x H1 m1 P1 e1 s1 q1
    have a1 := AftE.af e1 a
    refine ⟨e, h1, m1, P1, ⟨e1.env St re, s1⟩, ?_⟩
    dsimp only [seq1] at a1
    cases e3 : evO (cnOf T F n) lo e h1 with
    | exc c fs h1 => rw [e3] at a1; exact a1
    | bad => rw [e3] at a1; exact a1
    | ok o =>
      obtain ⟨o, h2⟩ := o
      rw [e3] at a1
      obtain ⟨lo', el⟩ := evO_int e3
      refine ⟨lo', el, fun H2 m2 P2 e2 s2 => ?_⟩
      have a2 := AftE.af e2 a1
      refine ⟨e, h2, m2, P2, ⟨e2.env s1 (e1.env St re), s2⟩, ?_⟩
      dsimp only at a2
      cases e4 : evO (cnOf T F n) hi e h2 with
      | exc c fs h1 => rw [e4] at a2; exact a2
      | bad => rw [e4] at a2; exact a2
      | ok u =>
        obtain ⟨u, h3⟩ := u
        rw [e4] at a2
        obtain ⟨hi', eu⟩ := evO_int e4
        exact ⟨hi', eu, fun H3 m3 P3 e3 s3 => ⟨σ, v, o, u, h3, m3, P3, s3, (e2.trans e3).rmv s1 q1, el, eu, AftE.af e3 a2⟩⟩
end
end MI

/-! MiS7: expressions: reversed slices, calls, methods, dicts -/
namespace MI
open PySem PySem.Spec L2
open PyProof.Rows hiding St
section
variable {prog : Program} {w : World} {A : Around} {E : Value → Shared → Prop} {s : Shared}
theorem pick_rev (xs : Array Value) : ((List.range xs.size).filterMap fun (m : Nat) => xs[(((xs.size : Int) - 1) + (m : Int) * (-1)).toNat]?).toArray = xs.toList.reverse.toArray := by
  congr 1
  have key : ∀ k : Nat, k ≤ xs.size → ((List.range k).filterMap fun (m : Nat) => xs[(((xs.size : Int) - 1) + (m : Int) * (-1)).toNat]?) = xs.toList.reverse.take k := by
    intro k
    induction k with
    | zero => intro _; simp
    | succ k ih =>
      intro hk
      rw [List.range_succ, List.filterMap_append, ih (by omega)]
      have e : (((xs.size : Int) - 1) + (k : Int) * (-1)).toNat = xs.size - 1 - k := by omega
      have hlt : xs.size - 1 - k < xs.size := by omega
      have hk' : k < xs.toList.reverse.length := by simp; omega
      rw [List.take_succ]
      congr 1
      simp only [List.filterMap_cons, List.filterMap_nil, e]
      rw [Array.getElem?_eq_getElem hlt]
      rw [List.getElem?_reverse (by simpa using hk')]
      simp only [Array.length_toList, Array.getElem?_toList]
      rw [Array.getElem?_eq_getElem hlt]
      rfl
  rw [key xs.size (Nat.le_refl _), List.take_of_length_le (by simp)]
theorem sliceApplied_rev {sl : Addr} {vl vu vs : Value} {n : Nat} {Q : Int × Int × Nat → Shared → Prop} (hs : s.heap.IsSliceOf sl vl vu vs) (pl : IsPart vl none) (pu : IsPart vu none) (ps : IsPart vs (some (-1)))
    (h : Q ((n : Int) - 1, -1, n) s) : wpAny (model prog w) A (Builtin.Slice.sliceApplied (.ref sl) (pure (n : Int))) Q E s := by
  obtain ⟨os, hos, hcs, hds⟩ := id hs
  cases pl
  cases pu
  unfold Builtin.Slice.sliceApplied Builtin.Slice.sliceFields
  refine wpAny_bind (wpAny_bind (wpAny_field hos hds (x := .none) rfl (wpAny_bind (wpAny_field hos hds (x := .none) rfl (wpAny_bind (wpAny_field hos hds (x := vs) rfl (wpAny_pure ?_)))))))
  refine wpAny_bind (HT.slicePart_ ps ?_)
  show wpAny _ _ (if ((-1 : Int) == 0) = true then _ else _) _ _ s
  rw [if_neg (by decide)]
  refine wpAny_bind (slicePart_none (wpAny_bind (slicePart_none (wpAny_bind (wpAny_pure ?_)))))
  show wpAny _ _ (match Builtin.Slice.sliceAdjust none none (-1) (n : Int) with | (lo, hi) => pure (lo, (-1 : Int), Builtin.Slice.slicePlaces lo hi (-1))) _ _ s
  have e1 : Builtin.Slice.sliceAdjust none none (-1) (n : Int) = ((n : Int) - 1, -1) := rfl
  rw [e1]
  show wpAny _ _ (pure ((n : Int) - 1, (-1 : Int), Builtin.Slice.slicePlaces ((n : Int) - 1) (-1) (-1))) _ _ s
  have e2 : Builtin.Slice.slicePlaces ((n : Int) - 1) (-1) (-1) = n := by
    unfold Builtin.Slice.slicePlaces
    simp
    split <;> omega
  rw [e2]
  exact wpAny_pure h
theorem getItem_tuple_rev {t sl : Addr} {items : Array Value} {vl vu vs : Value} {Q : Value → Shared → Prop} (ht : IsTup s.heap t items) (hs : s.heap.IsSliceOf sl vl vu vs) (pl : IsPart vl none) (pu : IsPart vu none) (ps : IsPart vs (some (-1)))
    (h : Q (.ref s.heap.objs.size) { s with heap := s.heap.push { cls := .type "tuple", data := .seq items.toList.reverse.toArray } })
    (hsz : items.size ≤ sizeLine) : wpAny (model prog w) A (getItem (.ref t) (.ref sl)) Q E s := by
  have htake : sizeOk (.seq items.toList.reverse.toArray) := by
    show items.toList.reverse.toArray.size ≤ sizeLine
    simpa using hsz
  obtain ⟨os, hos, hcs, hds⟩ := id hs
  have hTs : s.TypeIs (.ref sl) "slice" := ⟨os, hos, hcs⟩
  unfold getItem
  try with_reducible refine wpAny_holding ?_
  first | refine wpAny_bind (wpAny_pure ?_) | skip
  refine wpAny_bind (wpAny_sequenceKey ht.typeIs (by decide) ?_)
  refine wpAny_bind (wpAny_callSpecial?_slot (name := Str.ofString "__getitem__") ht.typeIs PyProof.Rows.slot_tuple_getitem
    (wpAny_call_entry PyProof.Rows.slot_tuple_getitem ht.typeIs entry_tuple_getitem ?_ (args_tuple_getitem _ _)))
  show wpAny _ _ (Builtin.Tuple.tupleItemsOf (.ref t) >>= _) _ _ s
  refine wpAny_bind (tupleItemsOf_ ht ?_)
  refine wpAny_bind (wpAny_typeOf hTs ?_)
  rw [if_pos (by decide)]
  refine wpAny_bind (sliceApplied_rev hs pl pu ps ?_)
  have hno : ¬ ((((items.size : Int) - 1) == 0 && (-1 : Int) == 1 && items.size == items.size) = true) := by
    intro q
    rw [Bool.and_eq_true, Bool.and_eq_true] at q
    exact absurd q.1.2 (by decide)
  show wpAny _ _ (if ((((items.size : Int) - 1) == 0 && (-1 : Int) == 1 && items.size == items.size)) = true then _ else _) _ _ s
  rw [if_neg hno, pick_rev]
  first
    | exact wpAny_bind (m := Builtin.Tuple.tupleExact _) (wpAny_newObj_type (wpAny_pure ⟨_, rfl, wpAny_pure h⟩) htake)
    | exact wpAny_bind (m := Builtin.Tuple.tupleExact _) (wpAny_newObj_type (wpAny_bind (wpAny_pure (wpAny_pure ⟨_, rfl, wpAny_pure h⟩))) htake)
    | exact wpAny_bind (wpAny_bind (m := Builtin.Tuple.tupleExact _) (wpAny_newObj_type (wpAny_pure (wpAny_pure ⟨_, rfl, wpAny_pure h⟩)) htake))
    | exact wpAny_bind (wpAny_bind (m := Builtin.Tuple.tupleExact _) (wpAny_newObj_type (wpAny_pure ⟨_, rfl, wpAny_pure h⟩) htake))
end
section
variable {T : Tb} {S : Sc} {F : Fx} {n : Nat} {X : Cx}
theorem pe_rev (hK : X.K = F.G.K) {e : Expr} {te : TE} {k : Nat} {p1 p2 p3 pos : Pos} (he : PE X e te) : PE X (.Subscript e (.Slice none none (some (.UnaryOp .USub (.Constant (.int 1) k p1) p2)) p3) pos) (tUn (R1of F oRev) te) := by
  refine ⟨fun pins s σ H Q I h => ?_⟩
  refine Subscript_ (thn (he.run pins s σ H _ I h) fun v s1 ⟨x, H1, I1, r1, q1⟩ => ?_)
  obtain ⟨σ', a, h1, m, P, St, ra, af⟩ := q1
  have hst : PO X (some (.UnaryOp .USub (.Constant (.int 1) k p1) p2)) (tPart (tUn (rU fun i => .int (-i)) (tC (.int 1)))) := po_some (pe_un un_neg pe_int)
  refine wpAny_Slice (thn (po_none.run pins s1 σ H1 (fun o H2 => o = none ∧ H2 = H1) I1 ⟨rfl, rfl⟩) fun vl s2 ⟨l, H2, I2, pl, el, e2⟩ => ?_)
  subst el e2
  refine thn (po_none.run pins s2 σ H2 (fun o H3 => o = none ∧ H3 = H2) I2 ⟨rfl, rfl⟩) fun vu s3 ⟨u, H3, I3, pu, eu, e3⟩ => ?_
  subst eu e3
  refine thn (hst.run pins s3 σ H3 (fun o H4 => o = some (-1) ∧ H4 = H3) I3 ⟨1, rfl, -1, rfl, rfl, rfl⟩) fun vs s4 ⟨o, H4, I4, ps, eo, e4⟩ => ?_
  subst eo e4
  have I5 : L2.Inv X pins σ H4 { s4 with heap := s4.heap.push { cls := .type "slice", data := .fields #[vl, vu, vs] } } := I4.kept (t' := s4.toks) fun b ob q => Heap.get?_push_of_some _ q
  unfold oRev at af
  split at af
  · rename_i xs ea
    obtain ⟨q, ws, rfl, t, rr⟩ := snap_tup ra ea
    cases r1
    obtain ⟨its, r, ht, hz⟩ := I5.tuple (show SqT X.K H4 q ws by rw [hK]; exact t.sq)
    show wpAny (model X.prog X.w) X.A (subscriptTail e (.Slice none none (some (.UnaryOp .USub (.Constant (.int 1) k p1) p2)) p3) (.ref q) (.ref s4.heap.objs.size)) (EP X pins σ Q) X.xe { s4 with heap := s4.heap.push { cls := .type "slice", data := .fields #[vl, vu, vs] } }
    refine tail_any (ops := [.ref q, .ref s4.heap.objs.size]) ht.typeIs (PyProof.Rows.slot_tuple_getitem.lookup) ?_ (by with_unfolding_all rfl)
    have hl := r.length
    refine getItem_tuple_rev ht (Heap.IsSliceOf.new _ vl vu vs) pl pu ps ?_ (by rw [List.size_toArray]; omega)
    refine ⟨.ref _, _, I5.laid (t' := s4.toks) (o := .tup ws.reverse) (fun b ob q => Heap.get?_push_of_some _ q) (Nat.le_refl _) ?_, rfl, af.newT St rr.reverse (I5.hok.fresh (Nat.le_refl _))⟩
    exact ⟨by rw [List.length_reverse]; exact hz, its.reverse, r.reverse, by
      have q := IsTup.new (s4.heap.push { cls := .type "slice", data := .fields #[vl, vu, vs] }) its.reverse.toArray
      simpa using q⟩
  · rename_i xs ea
    obtain ⟨q, ws, rfl, t, rr⟩ := snap_lst St ra ea
    cases r1
    obtain ⟨its, r, ht, hz⟩ := I5.list (show SqL X.K H4 q ws from .of t)
    have hlen := r.length
    show wpAny (model X.prog X.w) X.A (subscriptTail e (.Slice none none (some (.UnaryOp .USub (.Constant (.int 1) k p1) p2)) p3) (.ref q) (.ref s4.heap.objs.size)) (EP X pins σ Q) X.xe { s4 with heap := s4.heap.push { cls := .type "slice", data := .fields #[vl, vu, vs] } }
    refine tail_any (ops := [.ref q, .ref s4.heap.objs.size]) ht.isList.typeIs (PySem.slot_list_getitem.lookup) ?_ (by with_unfolding_all rfl)
    refine wpAny_getItem_list_slice ht.isList (Heap.IsSliceOf.new _ vl vu vs) pl pu ps (by decide) ?_ (by rw [List.size_toArray]; omega)
    rw [PySem.W.krv_pick]
    refine ⟨.ref _, _, I5.laid (t' := s4.toks) (o := .lst ws.reverse) (fun b ob q => Heap.get?_push_of_some _ q) (Nat.le_refl _) ?_, rfl, af.newL St rr.reverse (I5.hok.fresh (Nat.le_refl _))⟩
    exact ⟨by rw [List.length_reverse]; exact hz, _, 0, r.reverse, Heap.get?_push_size _ rfl⟩
  · exact af.elim
theorem e_rev (g : Good T S F n X) {a : IE} {l : Expr} {k : Nat} {p1 p2 p3 pos : Pos} (ha : PE X l (tE F (evE (cnOf T F n) a))) : PE X (.Subscript l (.Slice none none (some (.UnaryOp .USub (.Constant (.int 1) k p1) p2)) p3) pos) (tE F (evE (cnOf T F n) (.rev a))) := by
  refine PE.imp (pe_rev (F := F) g.hK ha) ?_
  rintro σ H Q ⟨e, h, m, P, st, a⟩
  rw [evE] at a
  exact tE_un ⟨e, h, m, P, st, a⟩
end
end MI

/-! MiS8: expressions: calls, built-ins, methods, chains -/
namespace MI
open PySem PySem.Spec L2
open PyProof.Rows hiding St
instance : Inhabited V := ⟨.non⟩
section
variable {T : Tb} {S : Sc} {F : Fx} {n : Nat} {X : Cx}
theorem rvs_sV {G : Gb} {P : Addr → Prop} {H : Hp} : ∀ {ds : List PV} {dvs : List V}, ds.mapM sV = some dvs → RVs G P H ds dvs
  | [], dvs, h => by simp at h; subst h; simp [RVs]
  | d :: ds, dvs, h => by
    rw [List.mapM_cons] at h
    cases hx : sV d with
    | none => rw [hx] at h; cases h
    | some x =>
      rw [hx] at h
      cases hxs : ds.mapM sV with
      | none => rw [hxs] at h; cases h
      | some xs =>
        rw [hxs] at h
        cases h
        exact ⟨x, xs, rfl, sV_rv hx, rvs_sV hxs⟩
theorem sameSv_eq {a b : PV} (h : sameSv a b = true) : a = b := by
  cases a <;> cases b <;> simp [sameSv] at h <;> simp [h]
theorem zip_sv : ∀ {l ds : List PV}, l.length = ds.length → ((l.zip ds).all fun (a, b) => sameSv a b) = true → l = ds
  | [], [], _, _ => rfl
  | a :: l, b :: ds, h, q => by
    simp only [List.zip_cons_cons, List.all_cons, Bool.and_eq_true] at q
    rw [sameSv_eq q.1, zip_sv (by simpa using h) q.2]
  | [], _ :: _, h, _ => by simp at h
  | _ :: _, [], h, _ => by simp at h
theorem bndB_ok {f : Nat} {ds : List PV} (h : bndB T f ds = true) : (f, ds) ∈ T.binds := by
  unfold bndB at h
  rw [List.any_eq_true] at h
  obtain ⟨⟨j, l⟩, hm, q⟩ := h
  simp only [Bool.and_eq_true] at q
  obtain ⟨⟨q1, q2⟩, q3⟩ := q
  have e1 : j = f := eq_of_beq q1
  have e2 := zip_sv (eq_of_beq q2) q3
  rw [e1, e2] at hm
  exact hm
theorem aft_sp {σ : St} {m : Nat → Addr} {P : Addr → Prop} {h : Sto} {H : Hp} {r : RE} {Q : VK} (a : AftE F σ m P h H r Q) : AftE ⟨F.G, F.B, fun cls d _ H => F.W cls d σ H⟩ σ m P h H r Q := by
  cases r with
  | ok v => exact a
  | exc c fs h1 => exact a
  | bad => exact a
/-- .. the slots stay -/
theorem tE_callσ {ra : Env → Sto → R (List MV × Sto)} {f : List MV → Sto → RE} {σ : St} {H : Hp} {Q : VK} (t : tE F (fun e h => seqL (ra e h) f) σ H Q) :
    tA F ra σ H fun xs H1 => ∃ e vs h1 m1 P1, Stn F e h1 σ m1 P1 H1 ∧ RMs F.G m1 P1 h1.length H1 vs xs ∧ AftE F σ m1 P1 h1 H1 (f vs h1) Q := by
  obtain ⟨e, h, m, P, ⟨re, S⟩, a⟩ := t
  refine ⟨e, h, m, P, ⟨re, S⟩, ?_⟩
  have b := AftE.seqL S a
  revert b
  cases ra e h with
  | ok v => exact fun b x H1 m1 P1 e1 s1 q1 => let ⟨v, h1, m2, P2, e2, s2, q2, a2⟩ := b x H1 m1 P1 e1 s1 q1; ⟨e, v, h1, m2, P2, ⟨e2.env S re, s2⟩, q2, a2⟩
  | exc c fs h1 => exact fun b => b
  | bad => exact fun b => b
theorem paired_app {α β : Type} {R : α → β → Prop} : ∀ {xs xs' : List α} {ys ys' : List β}, Paired R xs ys → Paired R xs' ys' → Paired R (xs ++ xs') (ys ++ ys')
  | _, _, _, _, .nil, q => q
  | _, _, _, _, .cons r t, q => .cons r (paired_app t q)
theorem ta_nil {σ : St} {H : Hp} {Q : List V → Hp → Prop} (t : tA F (evEs (cnOf T F n) .nil) σ H Q) : tNil σ H Q := by
  obtain ⟨e, h, m, P, st, a⟩ := t
  rw [evEs] at a
  exact a [] H m P Ext.refl st.2 .nil
theorem e_call (g : Good T S F n X) {f : Nat} {Fn : Fn} {es : IEs} {ds : List PV} {x : Str} {p pos : Pos} {as : List Expr} (h1 : glB S.sc x = true) (h2 : notDbg x = true) (h3 : T.prg.fns f = some Fn) (h3' : Fn.name = x) (h4 : bndB T f ds = true)
    (hm : mEs T S es as = true) (ha : PA X as (tA F (evEs (cnOf T F n) es))) : PE X (.Call (.Name x p) as [] pos) (tE F (evE (cnOf T F n) (.call f es ds))) := by
  obtain ⟨ad, fd, hmg, hk, Fg, hb, _⟩ := g.ok.fn f Fn h3
  obtain ⟨dvs, dus, hd1, hd2, hd3⟩ := hb ds (bndB_ok h4)
  obtain ⟨d1, _, _⟩ := dbg1 h2
  rw [← g.prog, ← g.w, ← g.K, ← g.mg, ← g.base] at Fg
  rw [h3', ← g.mg] at hmg
  rw [← g.K] at hk hd3
  have key : ∀ σ H Q, tE F (evE (cnOf T F n) (.call f es ds)) σ H Q → tA F (evEs (cnOf T F n) es) σ H fun vs H1 => spI T n f (vs ++ dvs) H1 Q (WE F.W σ) := by
    rintro σ H Q ⟨e, h, m, P, st, a⟩
    rw [evE] at a
    refine tA_mono (tE_callσ (F := F) (f := fun vs h => (cnOf T F n).C f (cnOf T F n).B (vs ++ ds.map .pv) h) ⟨e, h, m, P, st, a⟩) ?_
    rintro xs H1 ⟨e1, vs, h1, m1, P1, st1, r1, a1⟩
    have r2 : RMs F.G m1 P1 h1.length H1 (vs ++ ds.map .pv) (xs ++ dvs) := paired_app r1 (rms_of_rvs (rvs_sV hd1))
    have a2 := aft_sp a1
    refine ⟨vs ++ ds.map .pv, h1, m1, P1, F.B, σ, ?_, ?_, ?_⟩
    · rw [← g.G]; exact st1.2
    · rw [← g.G]; exact r2
    · rw [← g.G]; exact a2
  cases as with
  | nil =>
    cases es with
    | cons b bs => simp [mEs] at hm
    | nil => exact PE.imp (pe_callG0 (E := WE F.W) Fg g.room g.gd (g.gl h1) hmg hk hd3 hd2 (passAt g.tk) d1) fun σ H Q t => ta_nil (key σ H Q t)
  | cons a as =>
    have hs : starEach (a :: as) X.env = (false, eval a X.env) :: starEach as X.env := by
      cases es with
      | nil => simp [mEs] at hm
      | cons b bs => simp only [mEs, Bool.and_eq_true] at hm; exact star_of hm.1
    have hpl : (backTo pos (starEach as X.env)).any (·.1) = false := by
      cases es with
      | nil => simp [mEs] at hm
      | cons b bs => simp only [mEs, Bool.and_eq_true] at hm; exact stars_of hm.2
    exact PE.imp (pe_callG (E := WE F.W) Fg g.room g.gd (g.gl h1) hmg hk hd3 hd2 (passAt g.tk) ha d1 hs hpl) key
/-! ### by name -/
theorem PK.imp {kws : List Keyword} {t t' : TA} (h : PK X kws t) (i : ∀ σ H Q, t' σ H Q → t σ H Q) : PK X kws t' := ⟨fun pos pins s σ H Q I q => h.run pos pins s σ H Q I (i σ H Q q)⟩
theorem ta_cons {a : IE} {es : IEs} {σ : St} {H : Hp} {Q : List V → Hp → Prop} (t : tA F (evEs (cnOf T F n) (.cons a es)) σ H Q) : tCons (tE F (evE (cnOf T F n) a)) (tA F (evEs (cnOf T F n) es)) σ H Q := by
  obtain ⟨e, h, m, P, ⟨re, St⟩, a⟩ := t
  rw [evEs] at a
  refine ⟨e, h, m, P, ⟨re, St⟩, ?_⟩
  revert a
  cases evE (cnOf T F n) ‹IE› e h with
  | exc c fs h1 => exact fun a => a
  | bad => exact fun a => a
  | ok v =>
    obtain ⟨v, h1⟩ := v
    refine fun a x H1 m1 P1 e1 s1 q1 => ?_
    refine ⟨e, h1, m1, P1, ⟨e1.env St re, s1⟩, ?_⟩
    have a' : AftA F σ m1 P1 h1 H1 (seqL (evEs (cnOf T F n) es e h1) fun xs h => .ok (v :: xs, h)) Q := AftA.af e1 a
    revert a'
    cases evEs (cnOf T F n) es e h1 with
    | exc c fs h1 => exact fun a => a
    | bad => exact fun a => a
    | ok w =>
      obtain ⟨w, h2⟩ := w
      exact fun a y H2 m2 P2 e2 s2 q2 => a (x :: y) H2 m2 P2 e2 s2 (.cons (e2.rmv s1 q1) q2)
theorem k_nil : PK X [] (tA F (evEs (cnOf T F n) .nil)) := PK.imp pk_nil fun σ H Q => ta_nil
theorem k_cons {a : IE} {es : IEs} {y : Option Str} {l : Expr} {q : Pos} {ls : List Keyword} (ha : PE X l (tE F (evE (cnOf T F n) a))) (hb : PK X ls (tA F (evEs (cnOf T F n) es))) :
    PK X (⟨y, l, q⟩ :: ls) (tA F (evEs (cnOf T F n) (.cons a es))) := PK.imp (pk_cons ha hb) fun σ H Q => ta_cons
theorem kw_all {env : PySem.Env} {pos : Pos} : ∀ {ns : List Str} {es : IEs} {kws : List Keyword}, mK T S ns es kws = true →
    (backToKw pos (keywordEach kws env)).all (·.1.isSome) = true ∧ (backToKw pos (keywordEach kws env)).filterMap (·.1) = ns ∧ (backToKw pos (keywordEach kws env)).any (·.1.isNone) = false
  | [], .nil, [], _ => ⟨rfl, rfl, rfl⟩
  | x :: ns, .cons a es, ⟨y, l, q⟩ :: ls, h => by
    simp only [mK, Bool.and_eq_true] at h
    have e : y = some x := eq_of_beq h.1.1
    subst e
    obtain ⟨h1, h2, h3⟩ := kw_all (env := env) (pos := pos) h.2
    refine ⟨?_, ?_, ?_⟩
    · show (true && (backToKw pos (keywordEach ls env)).all (·.1.isSome)) = true
      rw [h1]; try rfl
    · show x :: (backToKw pos (keywordEach ls env)).filterMap (·.1) = x :: ns
      rw [h2]
    · show (false || (backToKw pos (keywordEach ls env)).any (·.1.isNone)) = false
      rw [h3]; try rfl
  | [], .nil, _ :: _, h => by simp [mK] at h
  | [], .cons _ _, _, h => by simp [mK] at h
  | _ :: _, .nil, _, h => by simp [mK] at h
  | _ :: _, .cons _ _, [], h => by simp [mK] at h
theorem mK_len : ∀ {ns : List Str} {es : IEs} {kws : List Keyword}, mK T S ns es kws = true → kws.length = ns.length
  | [], .nil, [], _ => rfl
  | x :: ns, .cons a es, ⟨y, l, q⟩ :: ls, h => by
    simp only [mK, Bool.and_eq_true] at h
    simp [mK_len h.2]
  | [], .nil, _ :: _, h => by simp [mK] at h
  | [], .cons _ _, _, h => by simp [mK] at h
  | _ :: _, .nil, _, h => by simp [mK] at h
  | _ :: _, .cons _ _, [], h => by simp [mK] at h
/-- the lengths of what is evaluated -/
def esLen : IEs → Nat
  | .nil => 0
  | .cons _ es => esLen es + 1
theorem evEs_len {c : Cn} : ∀ {es : IEs} {e : Env} {h h' : Sto} {vs : List MV}, evEs c es e h = .ok (vs, h') → vs.length = esLen es
  | .nil, e, h, h', vs, q => by rw [evEs] at q; cases q; try rfl
  | .cons a es, e, h, h', vs, q => by
    rw [evEs] at q
    cases e1 : evE c a e h with
    | exc _ _ _ => rw [e1] at q; cases q
    | bad => rw [e1] at q; cases q
    | ok v =>
      obtain ⟨v, h1⟩ := v
      rw [e1] at q
      cases e2 : evEs c es e h1 with
      | exc _ _ _ => rw [seq1_ok, e2] at q; cases q
      | bad => rw [seq1_ok, e2] at q; cases q
      | ok w =>
        obtain ⟨w, h2⟩ := w
        rw [seq1_ok, e2, seqL_ok] at q
        cases q
        simp [esLen, evEs_len e2]
theorem mEs_len : ∀ {es : IEs} {ls : List Expr}, mEs T S es ls = true → ls.length = esLen es
  | .nil, [], _ => rfl
  | .cons a es, l :: ls, h => by
    simp only [mEs, Bool.and_eq_true] at h
    simp [esLen, mEs_len h.2]
  | .nil, _ :: _, h => by simp [mEs] at h
  | .cons _ _, [], h => by simp [mEs] at h
theorem mK_lenI : ∀ {ns : List Str} {es : IEs} {kws : List Keyword}, mK T S ns es kws = true → ns.length = esLen es
  | [], .nil, [], _ => rfl
  | x :: ns, .cons a es, ⟨y, l, q⟩ :: ls, h => by
    simp only [mK, Bool.and_eq_true] at h
    simp [esLen, mK_lenI h.2]
  | [], .nil, _ :: _, h => by simp [mK] at h
  | [], .cons _ _, _, h => by simp [mK] at h
  | _ :: _, .nil, _, h => by simp [mK] at h
  | _ :: _, .cons _ _, [], h => by simp [mK] at h
theorem permute_rms {G : Gb} {m : Nat → Addr} {P : Addr → Prop} {N : Nat} {H : Hp} {vs ws : List MV} {xs zs : List V} (r : RMs G m P N H (vs ++ ws) (xs ++ zs)) : ∀ {perm : List Nat} {l : List MV}, permute perm (vs ++ ws) = some l → RMs G m P N H l (permV perm xs zs)
  | [], l, h => by simp only [permute, Option.some.injEq] at h; subst h; exact .nil
  | i :: perm, l, h => by
    simp only [permute] at h
    split at h
    · rename_i v l' e1 e2
      cases h
      obtain ⟨y, ey, ry⟩ := paired_get r e1
      refine .cons ?_ (permute_rms r e2)
      dsimp only
      rw [ey]; exact ry
    · cases h
theorem permV_vals {vs zs : List V} {us ws : List Value} (r : Vals vs us) (q : Vals zs ws) {perm : List Nat} (hi : ∀ i ∈ perm, i < us.length + ws.length) : Vals (permV perm vs zs) (permV perm us ws) := by
  have r2 : Vals (vs ++ zs) (us ++ ws) := r.append q
  induction perm with
  | nil => exact .nil
  | cons i perm ih =>
    have h1 : i < (us ++ ws).length := by rw [List.length_append]; exact hi i List.mem_cons_self
    have h2 : i < (vs ++ zs).length := by rw [r2.length]; exact h1
    refine .cons ?_ (ih fun j hj => hi j (List.mem_cons_of_mem _ hj))
    obtain ⟨y, ey, ry⟩ := paired_get r2 (List.getElem?_eq_getElem h2)
    dsimp only
    rw [List.getElem?_eq_getElem h2, ey]
    exact ry
theorem run_fnGK {k : Nat} {f : Addr} {fd : FuncData} {ps ns : List Str} {np : Nat} {perm : List Nat} {sp : Sp} {E : XK} {pins : List (Addr × Obj)} {σ : St} {H : Hp} {s : Shared} {Q : VK} {us ws : List Value} {vs zs : List V}
    (Fg : FnG X.prog X.w X.K X.mg X.base k f fd ps sp) (hr : Room k X.A) (hg : X.A.guards = some []) (kb : KB fd ps np ns perm) (hx : PassesAt (L2.CX X.prog X.w) X σ E)
    (I : L2.Inv X pins σ H s) (r : Vals vs us) (rz : Vals zs ws) (hu : us.length = np) (hw : ws.length = ns.length) (h : sp (permV perm vs zs) H Q E) : wpAny (model X.prog X.w) X.A (call (.ref f) us (ns.zip ws)) (EP X pins σ Q) X.xe s := by
  have r2 : Vals (permV perm vs zs) (permV perm us ws) := permV_vals r rz fun i hi => by rw [hu, hw]; exact kb.ok i hi
  refine wpAny_call (codeAny_mono (Fg.run X.A X.stack s H ⟨us, ns.zip ws⟩ (permV perm us ws) (permV perm vs zs) Q E hr hg I.env0 (kb.to s us ws hu hw) r2 h) fun r s' hq => ?_)
  cases r with
  | error e => exact hx pins H s e s' I hq
  | ok fl =>
    cases fl with
    | ret u => exact I.after hq
    | next => exact False.elim hq
    | brk => exact False.elim hq
    | cont => exact False.elim hq
def tCallKG (np nk : Nat) (sp : Sp) (perm : List Nat) (E : St → XK) (t tk : TA) : TE := fun σ H Q => t σ H fun vs H1 => tk σ H1 fun zs H2 => vs.length = np ∧ zs.length = nk ∧ sp (permV perm vs zs) H2 Q (E σ)
theorem pe_callGK {k : Nat} {f : Addr} {fd : FuncData} {ps ns : List Str} {np : Nat} {perm : List Nat} {sp : Sp} {E : St → XK} {x : Str} {p pos : Pos} {es : List Expr} {kws : List Keyword} {t tk : TA}
    (Fg : FnG X.prog X.w X.K X.mg X.base k f fd ps sp) (hr : Room k X.A) (hgd : X.A.guards = some []) (hg : Gl X x) (hm : X.mg x = some (.ref f)) (hk : PySem.W.keepIn X.K (.ref f) = true) (kb : KB fd ps np ns perm) (hx : ∀ σ, PassesAt (L2.CX X.prog X.w) X σ (E σ))
    (ha : PA X es t) (ha0 : es = [] → ∀ σ H Q, t σ H Q → Q [] H) (hkw : PK X kws tk) (hall : (backToKw pos (keywordEach kws X.env)).all (·.1.isSome) = true) (hks : (backToKw pos (keywordEach kws X.env)).filterMap (·.1) = ns) (hnone : (backToKw pos (keywordEach kws X.env)).any (·.1.isNone) = false)
    (hdb : (x == ("__debug__" : Str)) = false) (he : ∀ e es', es = e :: es' → starEach (e :: es') X.env = (false, eval e X.env) :: starEach es' X.env) (hpl : (backTo pos (starEach es X.env)).any (·.1) = false) :
    PE X (.Call (.Name x p) es kws pos) (tCallKG np ns.length sp perm E t tk) := by
  refine ⟨fun pins s σ H Q I h => ?_⟩
  refine wpAny_Call_Name_kw (ld_glob I hg hm ?_ hdb)
  cases es with
  | nil =>
    refine PySem.W.callWith_KW0 (h₀ := X.base) I.ok.mod.kin hk hall ?_ (by rw [hnone, hpl]; try rfl)
    have q := ha0 rfl σ H _ h
    have r : Vals [] [] := .nil
    refine thn (hkw.run pos pins s σ H _ I q) fun ws s2 ⟨zs, H2, I2, rz, q2⟩ => ⟨I2.kIn, ?_⟩
    rw [hks]
    obtain ⟨l1, l2, q3⟩ := q2
    exact run_fnGK (us := []) Fg hr hgd kb (hx σ) I2 r rz (by rw [← r.length]; exact l1) (by rw [← rz.length]; exact l2) q3
  | cons e es =>
    refine PySem.W.callWith_KW (h₀ := X.base) I.ok.mod.kin hk hall (thn (ha.run pos pins s σ H _ I h) fun us s1 ⟨vs, H1, I1, r, q⟩ => ?_) (by rw [hnone, hpl]; try rfl) (he e es rfl)
    refine thn (hkw.run pos pins s1 σ H1 _ I1 q) fun ws s2 ⟨zs, H2, I2, rz, q2⟩ => ⟨I2.kIn, ?_⟩
    rw [hks]
    obtain ⟨l1, l2, q3⟩ := q2
    exact run_fnGK (us := us) Fg hr hgd kb (hx σ) I2 r rz (by rw [← r.length]; exact l1) (by rw [← rz.length]; exact l2) q3
theorem e_callk (g : Good T S F n X) {f : Nat} {Fn : Fn} {es ks : IEs} {ns : List Str} {perm : List Nat} {x : Str} {p pos : Pos} {as : List Expr} {kws : List Keyword} (h1 : glB S.sc x = true) (h2 : notDbg x = true) (h3 : T.prg.fns f = some Fn) (h3' : Fn.name = x)
    (h4 : (f, as.length, ns, perm) ∈ T.kbs) (hm : mEs T S es as = true) (hk' : mK T S ns ks kws = true) (ha : PA X as (tA F (evEs (cnOf T F n) es))) (hkw : PK X kws (tA F (evEs (cnOf T F n) ks))) : PE X (.Call (.Name x p) as kws pos) (tE F (evE (cnOf T F n) (.callk f es ns ks perm))) := by
  obtain ⟨ad, fd, hmg, hk, Fg, _, hb⟩ := g.ok.fn f Fn h3
  have kb := hb _ _ _ h4
  obtain ⟨d1, _, _⟩ := dbg1 h2
  rw [← g.prog, ← g.w, ← g.K, ← g.mg, ← g.base] at Fg
  rw [h3', ← g.mg] at hmg
  rw [← g.K] at hk
  obtain ⟨k1, k2, k3⟩ := kw_all (env := X.env) (pos := pos) hk'
  refine PE.imp (pe_callGK (E := WE F.W) Fg g.room g.gd (g.gl h1) hmg hk kb (passAt g.tk) ha ?_ hkw k1 k2 k3 d1 ?_ (stars_of hm)) ?_
  · intro ee σ H Q t
    subst ee
    cases es with
    | nil => exact ta_nil t
    | cons b bs => simp [mEs] at hm
  · intro e es' ee
    subst ee
    cases es with
    | nil => simp [mEs] at hm
    | cons b bs => simp only [mEs, Bool.and_eq_true] at hm; exact star_of hm.1
  rintro σ H Q ⟨e, h, m, P, ⟨re, St⟩, a⟩
  rw [evE] at a
  refine ⟨e, h, m, P, ⟨re, St⟩, ?_⟩
  cases e1 : evEs (cnOf T F n) es e h with
  | exc c fs h1 => rw [e1] at a; exact a
  | bad => rw [e1] at a; exact a
  | ok v =>
    obtain ⟨vs, h1⟩ := v
    rw [e1, seqL_ok] at a
    refine fun xs H1 m1 P1 x1 s1 q1 => ?_
    have a1 := AftE.af x1 a
    refine ⟨e, h1, m1, P1, ⟨x1.env St re, s1⟩, ?_⟩
    cases e2 : evEs (cnOf T F n) ks e h1 with
    | exc c fs h1 => rw [e2] at a1; exact a1
    | bad => rw [e2] at a1; exact a1
    | ok w =>
      obtain ⟨ws, h2⟩ := w
      rw [e2, seqL_ok] at a1
      refine fun zs H2 m2 P2 x2 s2 q2 => ?_
      have a2 := AftE.af x2 a1
      have q1' := x2.rms s1 q1
      have l1 := Paired.length q1
      have l2 := Paired.length q2
      have l3 := evEs_len e1
      have l4 := evEs_len e2
      have l5 := mEs_len hm
      have l6 := mK_lenI hk'
      refine ⟨by omega, by omega, ?_⟩
      revert a2
      cases e3 : permute perm (vs ++ ws) with
      | none => exact fun a2 => a2.elim
      | some l =>
        intro a2
        have r2 := permute_rms (paired_app q1' q2) e3
        have a3 := aft_sp a2
        refine ⟨l, h2, m2, P2, F.B, σ, ?_, ?_, ?_⟩
        · rw [← g.G]; exact s2
        · rw [← g.G]; exact r2
        · rw [← g.G]; exact a3
end
end MI

/-! MiS9: built-ins, methods, chains, choices, tests -/
namespace MI
open PySem PySem.Spec L2
open PyProof.Rows hiding St
theorem bf_boot (b : BF) : bootBuiltins (Str.ofString (bfS b)) = some (match b with | .tuple => .type "tuple" | .list => .type "list" | .str => .type "str" | .int => .type "int" | b => .builtin (bfS b)) := by cases b <;> decide +kernel
theorem isi_boot : bootBuiltins (Str.ofString "isinstance") = some (.builtin "isinstance") := by decide +kernel
theorem ty_boot (t : TyN) : bootBuiltins (Str.ofString (tyS t)) = some (.type (tyS t)) := by cases t <;> decide +kernel
theorem bf_n (b : BF) : (Str.ofString (bfS b) : Str) ≠ "__name__" := by cases b <;> decide
theorem bf_d (b : BF) : ((Str.ofString (bfS b) : Str) == ("__debug__" : Str)) = false := by cases b <;> decide
theorem ty_n (b : TyN) : (Str.ofString (tyS b) : Str) ≠ "__name__" := by cases b <;> decide
theorem ty_d (b : TyN) : ((Str.ofString (tyS b) : Str) == ("__debug__" : Str)) = false := by cases b <;> decide
section
variable {T : Tb} {S : Sc} {F : Fx} {n : Nat} {X : Cx}
theorem e_isI (g : Good T S F n X) {t : TyN} {a : IE} {l : Expr} {x y : Str} {p q pos : Pos} (h1 : bltB T S x "isinstance" = true) (h2 : bltB T S y (tyS t) = true) (hm : mE T S a l = true) (ha : PE X l (tE F (evE (cnOf T F n) a))) :
    PE X (.Call (.Name x p) [l, .Name y q] [] pos) (tE F (evE (cnOf T F n) (.isI t a))) := by
  obtain ⟨rfl, g1, m1⟩ := bltB_ok g h1
  obtain ⟨rfl, g2, m2⟩ := bltB_ok g h2
  have pt : PE X (.Name (Str.ofString (tyS t)) q) (tC (.ty (tyS t))) := pe_bltn g2 m2 (ty_boot t) rfl (ty_n t) (ty_d t)
  have hs : starEach (l :: [.Name (Str.ofString (tyS t)) q]) X.env = (false, eval l X.env) :: starEach [.Name (Str.ofString (tyS t)) q] X.env := star_of hm
  refine PE.imp (pe_callB (oi_isI g.hK t) g1 m1 isi_boot (pa_cons ha (pa_cons pt pa_nil rfl) hs) (by decide) (by decide) hs rfl) ?_
  rintro σ H Q t0
  obtain ⟨e, h, m, P, st, a0⟩ := t0
  rw [evE] at a0
  refine tE_mono (tE_un (F := F) (f := fun x h => isTy t x h) ⟨e, h, m, P, st, a0⟩) ?_
  intro x H1 q1
  exact ⟨x, rfl, q1⟩
theorem e_blt (g : Good T S F n X) {b : BF} {es : IEs} {x : Str} {p pos : Pos} {a : Expr} {as : List Expr} (h0 : bfOk b = true) (h1 : bltB T S x (bfS b) = true) (hm : mEs T S es (a :: as) = true) (ha : PA X (a :: as) (tA F (evEs (cnOf T F n) es))) :
    PE X (.Call (.Name x p) (a :: as) [] pos) (tE F (evE (cnOf T F n) (.blt b es))) := by
  obtain ⟨rfl, g1, m1⟩ := bltB_ok g h1
  have hs : starEach (a :: as) X.env = (false, eval a X.env) :: starEach as X.env := by
    cases es with
    | nil => simp [mEs] at hm
    | cons b bs => simp only [mEs, Bool.and_eq_true] at hm; exact star_of hm.1
  have hpl : (backTo pos (starEach as X.env)).any (·.1) = false := by
    cases es with
    | nil => simp [mEs] at hm
    | cons b bs => simp only [mEs, Bool.and_eq_true] at hm; exact stars_of hm.2
  have hrp : (cnOf T F n).rp = rpOf := g.ok.rp
  have smd : NoDig F.G.K := by rw [g.G]; exact g.ok.smd
  have imp : ∀ σ H Q, tE F (evE (cnOf T F n) (.blt b es)) σ H Q → tCB (RLof F (oBlt rpOf b)) (tA F (evEs (cnOf T F n) es)) σ H Q := by
    rintro σ H Q ⟨e, h, m, P, st, a0⟩
    rw [evE, hrp] at a0
    exact tE_call (F := F) (f := fun vs h => oBlt rpOf b vs h) ⟨e, h, m, P, st, a0⟩
  cases b with
  | len => exact PE.imp (pe_callB (ob_len g.hK) g1 m1 (bf_boot .len) ha (bf_n .len) (bf_d .len) hs hpl) imp
  | tuple => exact PE.imp (pe_callTy (ob_tuple g.hK) g1 m1 (bf_boot .tuple) ha (bf_n .tuple) (bf_d .tuple) hs hpl) imp
  | list => exact PE.imp (pe_callTy (ob_list g.hK) g1 m1 (bf_boot .list) ha (bf_n .list) (bf_d .list) hs hpl) imp
  | repr => exact PE.imp (pe_callB (ob_repr g.hK (by rw [g.hK]; exact smd) g.gd (by have := g.un; omega)) g1 m1 (bf_boot .repr) ha (bf_n .repr) (bf_d .repr) hs hpl) imp
  | min => exact PE.imp (pe_callB (ob_min g.hK g.calm) g1 m1 (bf_boot .min) ha (bf_n .min) (bf_d .min) hs hpl) imp
  | max => exact PE.imp (pe_callB (ob_max g.hK g.calm) g1 m1 (bf_boot .max) ha (bf_n .max) (bf_d .max) hs hpl) imp
  | abs => exact PE.imp (pe_callB ob_abs g1 m1 (bf_boot .abs) ha (bf_n .abs) (bf_d .abs) hs hpl) imp
  | sum => exact PE.imp (pe_callB (ob_sum g.hK g.calm) g1 m1 (bf_boot .sum) ha (bf_n .sum) (bf_d .sum) hs hpl) imp
  | all => exact PE.imp (pe_callB (ob_all g.hK g.calm) g1 m1 (bf_boot .all) ha (bf_n .all) (bf_d .all) hs hpl) imp
  | any => exact PE.imp (pe_callB (ob_any g.hK g.calm) g1 m1 (bf_boot .any) ha (bf_n .any) (bf_d .any) hs hpl) imp
  | str => exact PE.imp (pe_callTy (ob_str g.hK (by rw [g.hK]; exact smd) g.gd (by have := g.un; omega)) g1 m1 (bf_boot .str) ha (bf_n .str) (bf_d .str) hs hpl) imp
  | int => exact PE.imp (pe_callTy (ob_int (by rw [g.hK]; exact smd)) g1 m1 (bf_boot .int) ha (bf_n .int) (bf_d .int) hs hpl) imp
  | sorted => cases h0
theorem e_mkl (g : Good T S F n X) {a : IE} {l : Expr} {x : Str} {p pos : Pos} (h1 : bltB T S x "list" = true) (hm : mE T S a l = true) (ha : PE X l (tE F (evE (cnOf T F n) a))) :
    PE X (.Call (.Name x p) [l] [] pos) (tE F (evE (cnOf T F n) (.mkl a))) := by
  obtain ⟨rfl, g1, m1⟩ := bltB_ok g h1
  have hs : starEach (l :: []) X.env = (false, eval l X.env) :: starEach [] X.env := star_of hm
  have hrp : (cnOf T F n).rp = rpOf := g.ok.rp
  refine PE.imp (pe_callTy (ob_mkl g.hK (rp := rpOf)) g1 m1 (bf_boot .list) (pa_cons ha pa_nil hs) (bf_n .list) (bf_d .list) hs rfl) ?_
  rintro σ H Q ⟨e, h, m, P, st, a0⟩
  rw [evE, hrp] at a0
  refine tE_mono (tE_un (F := F) (f := fun x h => mkOf (oBlt rpOf .list [x] h)) ⟨e, h, m, P, st, a0⟩) ?_
  intro x H1 q1
  exact ⟨x, rfl, q1⟩
theorem kp_write {G : Gb} {m : Nat → Addr} {P : Addr → Prop} {h : Sto} {H : Hp} {n : Nat} {ob : MO} {u : HO} (S : SR G m P h H) (e : h[n]? = some ob) (ho : ob.isOpen = true) : ∀ a o, P a → H a = some o → upd H (m n) u a = some o :=
  fun a o p q => by rw [upd_ne (fun z => S.np n ob e ho (by rw [← z]; exact p))]; exact q
theorem write_lst {B : Nat} {G : Gb} {m : Nat → Addr} {P : Addr → Prop} {h : Sto} {H : Hp} {n : Nat} {xs xs' : List MV} {vs' : List V} (S : SR G m P h H) (e : h[n]? = some (.lst xs)) (r : RMs G m P h.length H xs' vs')
    (cl : n < B → ∀ k, k ∈ (MO.lst xs').locs → k ∈ (MO.lst xs).locs) : SR G m P (h.set n (.lst xs')) (upd H (m n) (.lst vs')) ∧ Ext B m P h H m P (h.set n (.lst xs')) (upd H (m n) (.lst vs')) :=
  S.write e rfl rfl ⟨vs', upd_same, RMs.mono (fun _ _ => rfl) (Nat.le_refl _) (fun _ q => q) (kp_write S e rfl) r⟩ cl
theorem locs_app {xs : List MV} {v : MV} {k : Nat} (h : k ∈ (MO.lst (xs ++ [v])).locs) : k ∈ (MO.lst xs).locs ∨ v = .loc k := by
  simp only [MO.locs, List.filterMap_append, List.mem_append] at h ⊢
  rcases h with h | h
  · exact .inl h
  · cases v with
    | pv p => simp at h
    | loc j => simp at h; exact .inr (by rw [h])
theorem may_loc {B n k : Nat} (h : may B n (.loc k) = true) (hn : n < B) : False := by
  simp [may, hn] at h
theorem app_end {σ : St} {m : Nat → Addr} {P : Addr → Prop} {h : Sto} {H : Hp} {k : Nat} {w : MV} {y : V} {Q : VK} (s2 : SR F.G m P h H) (q2 : RMV F.G m P h.length H w y) (a2 : AftE F σ m P h H (oApp F.B (.loc k) w h) Q) :
    ∃ vs, H (m k) = some (.lst vs) ∧ vs.length < sizeLine ∧ Q .non (upd H (m k) (.lst (vs ++ [y]))) := by
  simp only [oApp] at a2
  split at a2
  case isFalse => exact a2.elim
  rename_i hm
  split at a2
  case h_2 => exact a2.elim
  rename_i xs ek
  split at a2
  case isFalse => exact a2.elim
  rename_i hz
  obtain ⟨vs, hv, rr⟩ := s2.obj k _ ek
  have hl := Paired.length rr
  rw [sizeLim_eq] at hz
  refine ⟨vs, hv, by omega, ?_⟩
  have w2 := write_lst (B := F.B) s2 ek (xs' := xs ++ [w]) (vs' := vs ++ [y]) (paired_app rr (.cons q2 .nil)) (fun hB j hj => by
    rcases locs_app hj with z | z
    · exact z
    · subst z; exact (may_loc hm hB).elim)
  exact a2 .non _ m P w2.2 w2.1 rfl
/-- o.append(e) -/
theorem e_app (g : Good T S F n X) {o a : IE} {l r : Expr} {x : Str} {p q : Pos} (hx : x = ("append" : Str)) (hp : appP l p q = true) (hm : mE T S a r = true) (hl : PE X l (tE F (evE (cnOf T F n) o))) (hr : PE X r (tE F (evE (cnOf T F n) a))) :
    PE X (.Call (.Attribute l x p) [r] [] q) (tE F (evE (cnOf T F n) (.app o a))) := by
  subst hx
  unfold appP at hp
  simp only [Bool.and_eq_true] at hp
  have hs : starEach (r :: []) X.env = (false, eval r X.env) :: starEach [] X.env := star_of hm
  have hb : attributeBase l ("append" : Str) X.env (eval l X.env) = eval l X.env := by
    cases l <;> first | rfl | (exact absurd hp.1 (by simp))
  refine PE.imp (pe_bm (T := "list") (id := "list.append") (r := rAppend) PySem.F.plainAttrs_list PySem.F.slot_list_append PySem.F.type_list_append (fun pins s σ H x xs v us Q I r1 r2 q => mt_append pins s σ H x xs v us Q I r1 r2 q) hl (pa_cons hr pa_nil hs) hb ?_ hp.2 hs rfl) ?_
  · rw [hs]; try rfl
  rintro σ H Q t
  obtain ⟨e, h, m, P, ⟨re, St⟩, a0⟩ := t
  rw [evE] at a0
  refine ⟨e, h, m, P, ⟨re, St⟩, ?_⟩
  have b := AftE.seq St a0
  revert b
  cases evE (cnOf T F n) o e h with
  | exc c fs h1 => exact fun b => b
  | bad => exact fun b => b
  | ok v =>
    refine fun b x H1 m1 P1 x1 s1 q1 => ?_
    obtain ⟨v, h1, m1, P1, x1, s1, q1, a1⟩ := b x H1 m1 P1 x1 s1 q1
    split at a1
    case isFalse => exact a1.elim
    rename_i hol
    unfold isOpenL at hol
    split at hol
    case h_2 => cases hol
    rename_i k
    split at hol
    case h_2 => cases hol
    rename_i xs0 ek0
    obtain ⟨hk0, rfl⟩ := q1
    obtain ⟨vs0, hv0, rr0⟩ := s1.obj k _ ek0
    refine ⟨by rw [g.hK]; exact .inl ⟨rfl, vs0, .of hv0⟩, ?_⟩
    have b2 := AftE.seq s1 a1
    refine ⟨e, h1, m1, P1, ⟨x1.env St re, s1⟩, ?_⟩
    revert b2
    cases evE (cnOf T F n) a e h1 with
    | exc c fs h1 => exact fun b => b
    | bad => exact fun b => b
    | ok w =>
      refine fun b2 y H2 m2 P2 x2 s2 q2 => ?_
      obtain ⟨w, h2, m2, P2, x2, s2, q2, a2⟩ := b2 y H2 m2 P2 x2 s2 q2
      have hk : m2 k = m1 k := x2.agree k hk0
      obtain ⟨vs, hv, hz, q⟩ := app_end s2 q2 a2
      rw [hk] at hv q
      exact ⟨_, vs, y, rfl, rfl, hv, hz, q⟩
end
end MI

/-! MiS10: new dicts, chains, choices, tests -/
namespace MI
open PySem PySem.Spec L2
open PyProof.Rows hiding St
section
variable {T : Tb} {S : Sc} {F : Fx} {n : Nat} {X : Cx}
theorem AftE.mono {σ : St} {m : Nat → Addr} {P : Addr → Prop} {h : Sto} {H : Hp} {r : RE} {Q Q' : VK} (a : AftE F σ m P h H r Q) (i : ∀ x H', Q x H' → Q' x H') : AftE F σ m P h H r Q' := by
  revert a
  cases r with
  | ok v => exact fun a x H' m' P' e1 s1 q1 => i _ _ (a x H' m' P' e1 s1 q1)
  | exc c fs h1 => exact fun a => a
  | bad => exact fun a => a
theorem e_emp {pos : Pos} : PE X (.Dict [] [] pos) (tE F (evE (cnOf T F n) .emp)) := by
  refine PE.imp pe_dnewK ?_
  rintro σ H Q ⟨e, h, m, P, ⟨re, St⟩, a⟩
  rw [evE] at a
  intro p hp
  obtain ⟨s2, x2⟩ := St.allocP (B := F.B) (u := .dK []) hp
  exact a (.ref p) _ m _ x2 s2 ⟨rfl, rfl, p, rfl, .inr rfl, upd_same⟩
/-- the elements' readings -/
def AllE (X : Cx) (F : Fx) (c : Cn) : IEs → List Expr → Prop
  | .nil, [] => True
  | .cons a es, l :: ls => PE X l (tE F (evE c a)) ∧ AllE X F c es ls
  | _, _ => False
theorem AllE.pa : ∀ {es : IEs} {ls : List Expr}, mEs T S es ls = true → AllE X F (cnOf T F n) es ls → PA X ls (tA F (evEs (cnOf T F n) es))
  | .nil, [], _, _ => a_nil
  | .cons a es, l :: ls, hm, h => by
    simp only [mEs, Bool.and_eq_true] at hm
    exact a_cons (star_of hm.1) h.1 (AllE.pa hm.2 h.2)
  | .nil, _ :: _, _, h => h.elim
  | .cons _ _, [], _, h => h.elim
theorem AllE.pk : ∀ {ns : List Str} {es : IEs} {kws : List Keyword}, mK T S ns es kws = true → AllE X F (cnOf T F n) es (kws.map (·.value)) → PK X kws (tA F (evEs (cnOf T F n) es))
  | [], .nil, [], _, _ => k_nil
  | x :: ns, .cons a es, ⟨y, l, q⟩ :: ls, hm, h => by
    simp only [mK, Bool.and_eq_true] at hm
    exact k_cons h.1 (AllE.pk hm.2 h.2)
  | [], .nil, _ :: _, h, _ => by simp [mK] at h
  | [], .cons _ _, _, h, _ => by simp [mK] at h
  | _ :: _, .nil, _, h, _ => by simp [mK] at h
  | _ :: _, .cons _ _, [], h, _ => by simp [mK] at h
/-! ### a new dict -/
def trsOf (F : Fx) (c : Cn) : List Str → IEs → List (TE × TE)
  | x :: ks, .cons a es => (tC (.str x), tE F (evE c a)) :: trsOf F c ks es
  | _, _ => []
theorem mD_cons {x : Str} {ks : List Str} {keys : List (Option Expr)} (h : mD (x :: ks) keys = true) : ∃ k q rest, keys = some (.Constant (.str x) k q) :: rest ∧ mD ks rest = true := by
  unfold mD at h
  split at h
  · exact absurd (by assumption : x :: ks = []) (by simp)
  · rename_i e
    cases e
    simp only [Bool.and_eq_true] at h
    have e := eq_of_beq h.1
    subst e
    exact ⟨_, _, _, rfl, h.2⟩
  · cases h
theorem mD_nil {keys : List (Option Expr)} (h : mD [] keys = true) : keys = [] := by
  unfold mD at h
  split at h
  · rfl
  · rename_i e; cases e
  · cases h
theorem pps_of {pos : Pos} : ∀ {ks : List Str} {keys : List (Option Expr)} {es : IEs} {ls : List Expr}, mD ks keys = true → keys.length = ls.length → AllE X F (cnOf T F n) es ls → PPs X pos keys ls (trsOf F (cnOf T F n) ks es)
  | [], keys, es, ls, hm, hl, h => by
    cases mD_nil hm
    cases ls with
    | nil => exact pps_nil
    | cons _ _ => simp at hl
  | x :: ks, keys, es, ls, hm, hl, h => by
    obtain ⟨k, q, rest, rfl, hm'⟩ := mD_cons hm
    cases ls with
    | nil => simp at hl
    | cons l ls =>
      cases es with
      | nil => exact h.elim
      | cons a es => exact pps_cons pe_str h.1 (pps_of hm' (by simpa using hl) h.2)
theorem pairs_of : ∀ {ks : List Str} {es : IEs} {σ : St} {H : Hp} {Q : List V → Hp → Prop} {R : List (V × V) → Hp → Prop}, ks.length = esLen es → (∀ xs H', Q xs H' → R ((ks.map V.str).zip xs) H') → tA F (evEs (cnOf T F n) es) σ H Q → tPairs (trsOf F (cnOf T F n) ks es) σ H R
  | [], .nil, σ, H, Q, R, hl, i, t => i [] H (ta_nil t)
  | x :: ks, .cons a es, σ, H, Q, R, hl, i, t => by
    have t1 := ta_cons t
    show tE F (evE (cnOf T F n) a) σ H fun y H2 => tPairs (trsOf F (cnOf T F n) ks es) σ H2 fun ps H3 => R ((.str x, y) :: ps) H3
    refine tE_mono t1 fun y H2 q => ?_
    exact pairs_of (by simpa [esLen] using hl) (fun xs H' q => i (y :: xs) H' q) q
  | [], .cons _ _, _, _, _, _, hl, _, _ => by simp [esLen] at hl
  | _ :: _, .nil, _, _, _, _, hl, _, _ => by simp [esLen] at hl
theorem mergeK_app : ∀ (more acc : List (Key × V)), ((acc ++ more).map (·.1)).Nodup → mergeK acc more = acc ++ more
  | [], acc, _ => by simp [mergeK]
  | p :: more, acc, h => by
    have hp : (acc.any fun kv => decide (kv.1 = p.1)) = false := by
      rw [List.any_eq_false]
      intro q hq
      simp only [decide_eq_true_eq]
      intro e
      rw [List.map_append, List.map_cons, List.nodup_append] at h
      exact h.2.2 q.1 (List.mem_map_of_mem hq) p.1 List.mem_cons_self e
    have e1 : putK acc p.1 p.2 = acc ++ [p] := by
      unfold putK
      rw [hp]
      rfl
    show mergeK (putK acc p.1 p.2) more = _
    rw [e1, mergeK_app more (acc ++ [p]) (by simpa using h)]
    simp
theorem zip_keys {ks : List Str} {xs : List V} (hl : xs.length = ks.length) : ((ks.map V.str).zip xs) = ((ks.map Sum.inr).zip xs).map fun (kv : Key × V) => (kV kv.1, kv.2) := by
  induction ks generalizing xs with
  | nil => rfl
  | cons k ks ih =>
    cases xs with
    | nil => simp at hl
    | cons x xs => simp [ih (by simpa using hl), kV]
theorem zip_rms {G : Gb} {m : Nat → Addr} {P : Addr → Prop} {N : Nat} {H : Hp} : ∀ {ks : List Str} {vs : List MV} {xs : List V}, RMs G m P N H vs xs → Paired (fun (p : DKey × MV) (q : Key × V) => p.1 = q.1 ∧ RMV G m P N H p.2 q.2) (zipD ks vs) ((ks.map Sum.inr).zip xs)
  | [], _, _, _ => .nil
  | _ :: _, _, _, .nil => .nil
  | _ :: _, _, _, .cons r t => .cons ⟨rfl, r⟩ (zip_rms t)
theorem Ext.pre {B : Nat} {m m2 : Nat → Addr} {P P2 : Addr → Prop} {h h2 : Sto} {H H2 : Hp} {p : Addr} {u0 : HO} (hp : H p = none) (x2 : Ext B m P h (upd H p u0) m2 P2 h2 H2) : Ext B m P h H m2 P2 h2 H2 := by
  have no : ∀ a, upd H p u0 a = none → H a = none := fun a q => by
    by_cases z : a = p
    · subst z; exact hp
    · rw [upd_ne z] at q; exact q
  refine ⟨x2.len, x2.agree, x2.sub, fun a o e nr => ?_, x2.lk, fun k h1 h2 => no _ (x2.new k h1 h2), fun a q => ?_, x2.cl, fun a q => (x2.pn a q).imp id (Or.imp (no a) id)⟩
  · have ne : a ≠ p := fun z => by rw [z, hp] at e; cases e
    exact x2.fr a o (by rw [upd_ne ne]; exact e) nr
  · have ne : a ≠ p := fun z => q (by rw [z]; exact hp)
    exact x2.dom a (by rw [upd_ne ne]; exact q)
/-- a new object at a place that stood empty while its parts were made -/
theorem late_dct {B : Nat} {G : Gb} {m m2 : Nat → Addr} {P P2 : Addr → Prop} {h h2 : Sto} {H H2 : Hp} {p : Addr} {u0 : HO} {ks : List Str} {vs : List MV} {xs : List V} (St : SR G m P h H) (hp : H p = none) (x2 : Ext B m P h (upd H p u0) m2 P2 h2 H2) (s2 : SR G m2 P2 h2 H2) (r : RMs G m2 P2 h2.length H2 vs xs) :
    H2 p = some u0 ∧ SR G (mAt m2 h2.length p) P2 (h2 ++ [.dct (zipD ks vs)]) (upd H2 p (.dK ((ks.map Sum.inr).zip xs))) ∧ Ext B m P h H (mAt m2 h2.length p) P2 (h2 ++ [.dct (zipD ks vs)]) (upd H2 p (.dK ((ks.map Sum.inr).zip xs))) := by
  have root : ∀ k ob, h[k]? = some ob → ob.isOpen = true → m k ≠ p := fun k ob e ho z => by
    obtain ⟨u', e', _⟩ := St.root e ho
    rw [z, hp] at e'; cases e'
  have nP : ¬ P2 p := fun q => by
    rcases x2.pn p q with q | q | ⟨k, o, e, ho, z⟩
    · exact St.pd p q hp
    · rw [upd_same] at q; cases q
    · exact root k o e ho z
  have root2 : ∀ k ob, h2[k]? = some ob → ob.isOpen = true → m2 k ≠ p := fun k ob e ho z => by
    by_cases hk : k < h.length
    · obtain ⟨o1, e1, q1⟩ := x2.lk k ob hk e ho
      rw [x2.agree k hk] at z
      exact root k o1 e1 q1 z
    · have := x2.new k (by omega) (lt_get e)
      rw [z, upd_same] at this; cases this
  have h0 : H2 p = some u0 := x2.fr p u0 upd_same fun k ob e ho => root k ob e ho
  have hl : (h2 ++ [MO.dct (zipD ks vs)]).length = h2.length + 1 := by simp
  have ag : ∀ k, k < h2.length → mAt m2 h2.length p k = m2 k := fun k hk => mAt_ne (by omega)
  have kpP : ∀ {u : HO} a o, P2 a → H2 a = some o → upd H2 p u a = some o := fun a o q e => by rw [upd_ne (fun z => nP (by rw [← z]; exact q))]; exact e
  refine ⟨h0, ⟨fun k o e => ?_, fun i j oi oj ei ej hi hj e => ?_, fun k o e ho q => ?_, fun a q => ?_⟩, ⟨by have := x2.len; omega, fun k hk => ?_, x2.sub, fun a o e nr => ?_, fun k o' hk e ho => ?_, fun k h1 h3 => ?_, fun a q => ?_, fun k o' hB hk e j hj => ?_, fun a q => ?_⟩⟩
  · rcases get_app e with ⟨hk, e⟩ | ⟨rfl, rfl⟩
    · rw [ag k hk, hl]
      exact RO.mono ag (by omega) (fun _ q => q) kpP (fun ho u e' => by rw [upd_ne (root2 k o e ho)]; exact e') (s2.obj k o e)
    · rw [mAt_same, hl]
      refine ⟨_, upd_same, ?_⟩
      have r' : RMs G (mAt m2 h2.length p) P2 (h2.length + 1) (upd H2 p (.dK ((ks.map Sum.inr).zip xs))) vs xs := RMs.mono ag (by omega) (fun _ q => q) kpP r
      exact zip_rms r'
  · rcases get_app ei with ⟨h1, ei⟩ | ⟨h1, e1⟩
    · rcases get_app ej with ⟨h3, ej⟩ | ⟨h3, e2⟩
      · rw [ag i h1, ag j h3] at e
        exact s2.inj i j _ _ ei ej hi hj e
      · rw [h3, mAt_same, ag i h1] at e
        exact absurd e (root2 i _ ei hi)
    · rcases get_app ej with ⟨h3, ej⟩ | ⟨h3, e2⟩
      · rw [h1, mAt_same, ag j h3] at e
        exact absurd e.symm (root2 j _ ej hj)
      · omega
  · rcases get_app e with ⟨hk, e⟩ | ⟨rfl, rfl⟩
    · rw [ag k hk] at q; exact s2.np k o e ho q
    · rw [mAt_same] at q; exact nP q
  · by_cases z : a = p
    · subst z; rw [upd_same]; simp
    · rw [upd_ne z]; exact s2.pd a q
  · have := x2.len
    rw [ag k (by omega)]; exact x2.agree k hk
  · have ne : a ≠ p := fun z => by rw [z, hp] at e; cases e
    rw [upd_ne ne]
    exact x2.fr a o (by rw [upd_ne ne]; exact e) nr
  · have := x2.len
    rw [List.getElem?_append_left (by omega)] at e
    exact x2.lk k o' hk e ho
  · by_cases hk : k < h2.length
    · rw [ag k hk]
      have q := x2.new k h1 hk
      by_cases z : m2 k = p
      · rw [z, upd_same] at q; cases q
      · rw [upd_ne z] at q; exact q
    · have : k = h2.length := by omega
      subst this
      rw [mAt_same]; exact hp
  · by_cases z : a = p
    · subst z; rw [upd_same]; simp
    · rw [upd_ne z]
      exact x2.dom a (by rw [upd_ne z]; exact q)
  · have := x2.len
    rw [List.getElem?_append_left (by omega)] at e
    exact x2.cl k o' hB hk e j hj
  · rcases x2.pn a q with q | q | q
    · exact .inl q
    · by_cases z : a = p
      · subst z; exact .inr (.inl hp)
      · rw [upd_ne z] at q; exact .inr (.inl q)
    · exact .inr (.inr q)
theorem SR.extra {G : Gb} {m : Nat → Addr} {P : Addr → Prop} {h : Sto} {H : Hp} {p : Addr} {u : HO} (St : SR G m P h H) (hp : H p = none) : SR G m P h (upd H p u) := by
  have kp : ∀ a o, H a = some o → upd H p u a = some o := fun a o e => by rw [upd_ne (ne_of_none e hp)]; exact e
  refine ⟨fun n o e => ?_, St.inj, St.np, fun a q => ?_⟩
  · exact RO.mono (fun _ _ => rfl) (Nat.le_refl _) (fun _ q => q) (fun a o _ e => kp a o e) (fun _ u e => kp _ u e) (St.obj n o e)
  · by_cases z : a = p
    · subst z; rw [upd_same]; simp
    · rw [upd_ne z]; exact St.pd a q
theorem e_newd {ks : List Str} {es : IEs} {keys : List (Option Expr)} {ls : List Expr} {pos : Pos} (hm : mD ks keys = true) (h0 : ks ≠ []) (hl : keys.length = ls.length) (h15 : keys.length ≤ 15) (hms : mEs T S es ls = true) (ha : AllE X F (cnOf T F n) es ls) :
    PE X (.Dict keys ls pos) (tE F (evE (cnOf T F n) (.newd ks es))) := by
  have hkk : ∀ {ks : List Str} {keys : List (Option Expr)}, mD ks keys = true → keys.length = ks.length ∧ keys.all (·.isSome) = true := by
    intro ks
    induction ks with
    | nil => intro keys h; cases mD_nil h; exact ⟨rfl, rfl⟩
    | cons k ks ih =>
      intro keys h
      obtain ⟨k, q, rest, rfl, hm'⟩ := mD_cons h
      obtain ⟨i1, i2⟩ := ih hm'
      exact ⟨by simp [i1], by simpa using i2⟩
  obtain ⟨k1, k2⟩ := hkk hm
  refine PE.imp (pe_disp (pps_of hm hl ha) k2 hl (fun z => h0 (by rw [z] at k1; exact List.length_eq_zero_iff.mp k1.symm)) h15) ?_
  rintro σ H Q ⟨e, h, m, P, ⟨re, St⟩, a⟩
  rw [evE] at a
  intro p hp
  have kl : ks.length = esLen es := by rw [← k1, hl]; exact mEs_len hms
  have S0 := St.extra (u := .dK []) hp
  have re0 : REnv F.G m P h.length (upd H p (.dK [])) e σ := REnv.mono (fun _ _ => rfl) (Nat.le_refl _) (fun _ q => q) (fun a o _ e => by rw [upd_ne (ne_of_none e hp)]; exact e) re
  refine pairs_of kl (Q := fun xs H2 => ∃ vs h2 m2 P2, evEs (cnOf T F n) es e h = .ok (vs, h2) ∧ Ext F.B m P h (upd H p (.dK [])) m2 P2 h2 H2 ∧ SR F.G m2 P2 h2 H2 ∧ RMs F.G m2 P2 h2.length H2 vs xs) ?_ ?_
  · rintro xs H2 ⟨vs, h2, m2, P2, ee, x2, s2, r2⟩
    rw [ee, seqL_ok] at a
    have lx := Paired.length r2
    have lv := evEs_len ee
    split at a
    case isFalse => exact a.elim
    rename_i hc
    obtain ⟨c1, c2, c3⟩ := hc
    obtain ⟨d1, d2, d3⟩ := late_dct (ks := ks) St hp x2 s2 r2
    refine ⟨d1, (ks.map Sum.inr).zip xs, zip_keys (by omega), ?_, ?_⟩
    · rw [List.length_zip, List.length_map]; omega
    · rw [mergeK_app _ [] ?_]
      · refine a (.ref p) _ _ _ d3 d2 ⟨?_, ?_⟩
        · simp
        · rw [mAt_same]
      · rw [List.nil_append, List.map_fst_zip (by rw [List.length_map]; omega)]
        exact List.Pairwise.map Sum.inr (fun a b (ne : a ≠ b) z => ne (Sum.inr.inj z)) c3
  · refine ⟨e, h, m, P, ⟨re0, S0⟩, ?_⟩
    revert a
    cases e1 : evEs (cnOf T F n) es e h with
    | exc c fs h1 =>
      intro a
      -- the dict is left
      intro d H' m' P' x' s' xr
      exact a d H' m' P' (x'.pre hp) s' xr
    | bad => exact fun a => a
    | ok v =>
      obtain ⟨vs, h2⟩ := v
      exact fun a xs H2 m2 P2 x2 s2 r2 => ⟨vs, h2, m2, P2, rfl, x2, s2, r2⟩
end
/-! ### a list that nobody changes any more -/
section
variable {G : Gb} {B : Nat} {m : Nat → Addr} {P : Addr → Prop} {h : Sto} {H : Hp}
theorem set_get {α : Type} {l : List α} {k n : Nat} {x y : α} (e : (l.set k x)[n]? = some y) : (n ≠ k ∧ l[n]? = some y) ∨ (n = k ∧ y = x) := by
  rw [List.getElem?_set] at e
  split at e
  · rename_i z
    split at e
    · exact .inr ⟨z.symm, (Option.some.inj e).symm⟩
    · cases e
  · rename_i z
    exact .inl ⟨fun w => z w.symm, e⟩
theorem lock_one (S : SR G m P h H) {k : Nat} {xs : List MV} {vs : List V} {ps : List PV} (e : h[k]? = some (.lst xs)) (q : H (m k) = some (.lst vs)) (r : RVs G P H ps vs) :
    SR G m (fun a => P a ∨ a = m k) (h.set k (.lock ps)) H ∧ Ext B m P h H m (fun a => P a ∨ a = m k) (h.set k (.lock ps)) H ∧ RV G (fun a => P a ∨ a = m k) H (PV.lst ps) (V.ref (m k)) := by
  have hk : k < h.length := (List.getElem?_eq_some_iff.mp e).1
  have hl : (h.set k (.lock ps)).length = h.length := List.length_set
  have up : RVs G (fun a => P a ∨ a = m k) H ps vs := RVs.mono (fun _ q => .inl q) (fun _ _ _ e => e) _ _ r
  refine ⟨⟨fun n o en => ?_, fun i j oi oj ei ej hi hj z => ?_, fun n o en ho z => ?_, fun a z => ?_⟩, ⟨by omega, fun _ _ => rfl, fun _ q => .inl q, fun _ _ e _ => e, fun n o' _ en ho => ?_, fun n h1 h2 => by omega, fun _ q => q, fun n o' _ _ en j hj => ?_, fun a z => ?_⟩, ⟨m k, vs, rfl, ⟨.inr rfl, q⟩, up⟩⟩
  · rw [hl]
    rcases set_get en with ⟨_, en⟩ | ⟨rfl, rfl⟩
    · exact RO.mono (fun _ _ => rfl) (Nat.le_refl _) (fun _ q => .inl q) (fun _ _ _ e => e) (fun _ u e => e) (S.obj n o en)
    · exact ⟨vs, .inl ⟨.inr rfl, .inl q⟩, up⟩
  · rcases set_get ei with ⟨_, ei⟩ | ⟨_, rfl⟩
    · rcases set_get ej with ⟨_, ej⟩ | ⟨_, rfl⟩
      · exact S.inj i j oi oj ei ej hi hj z
      · cases hj
    · cases hi
  · rcases set_get en with ⟨ne, en⟩ | ⟨_, rfl⟩
    · rcases z with z | z
      · exact S.np n o en ho z
      · exact ne (S.inj n k o _ en e ho rfl z)
    · cases ho
  · rcases z with z | rfl
    · exact S.pd a z
    · rw [q]; simp
  · rcases set_get en with ⟨_, en⟩ | ⟨_, rfl⟩
    · exact ⟨o', en, ho⟩
    · cases ho
  · rcases set_get en with ⟨_, en⟩ | ⟨_, rfl⟩
    · exact ⟨o', en, hj⟩
    · simp [MO.locs] at hj
  · rcases z with z | rfl
    · exact .inl z
    · exact .inr (.inr ⟨k, _, e, rfl, rfl⟩)
/-- a store in which some lists are closed -/
def Clo (h h1 : Sto) : Prop := h1.length = h.length ∧ ∀ (n : Nat) (xs : List MV), h1[n]? = some (MO.lst xs) → h[n]? = some (MO.lst xs)
theorem frz_l {f : MV → Sto → Option (PV × Sto)} (hf : ∀ {m : Nat → Addr} {P : Addr → Prop} {h h1 : Sto} {H : Hp} {v : MV} {x : V} {p : PV}, SR G m P h H → RMV G m P h.length H v x → f v h = some (p, h1) → Clo h h1 ∧ ∃ P1, SR G m P1 h1 H ∧ Ext B m P h H m P1 h1 H ∧ RV G P1 H p x) :
    ∀ {xs : List MV} {vs : List V} {P : Addr → Prop} {h h1 : Sto} {ps : List PV}, SR G m P h H → RMs G m P h.length H xs vs → frzL f xs h = some (ps, h1) → Clo h h1 ∧ ∃ P1, SR G m P1 h1 H ∧ Ext B m P h H m P1 h1 H ∧ RVs G P1 H ps vs
  | [], vs, P, h, h1, ps, S, r, e => by
    cases r
    cases e
    exact ⟨⟨rfl, fun _ _ e => e⟩, P, S, Ext.refl, rfl⟩
  | x :: xs, vs, P, h, h1, ps, S, r, e => by
    cases r with
    | cons r t =>
      simp only [frzL] at e
      split at e
      · rename_i p h2 e1
        split at e
        · rename_i qs h3 e2
          cases e
          obtain ⟨c1, P1, S1, x1, r1⟩ := hf S r e1
          obtain ⟨c2, P2, S2, x2, r2⟩ := frz_l hf S1 (x1.rms S t) e2
          exact ⟨⟨by rw [c2.1, c1.1], fun n ys q => c1.2 n ys (c2.2 n ys q)⟩, P2, S2, x1.trans x2, ⟨_, _, rfl, x2.rv S1 r1, r2⟩⟩
        · cases e
      · cases e
theorem frz_v : ∀ (d : Nat) {m : Nat → Addr} {P : Addr → Prop} {h h1 : Sto} {H : Hp} {v : MV} {x : V} {p : PV}, SR G m P h H → RMV G m P h.length H v x → frzV d v h = some (p, h1) → Clo h h1 ∧ ∃ P1, SR G m P1 h1 H ∧ Ext B m P h H m P1 h1 H ∧ RV G P1 H p x
  | 0, m, P, h, h1, H, v, x, p, S, r, e => by
    cases v with
    | pv q => simp only [frzV, Option.some.injEq, Prod.mk.injEq] at e; obtain ⟨rfl, rfl⟩ := e; exact ⟨⟨rfl, fun _ _ e => e⟩, P, S, Ext.refl, r⟩
    | loc k => simp [frzV] at e
  | d + 1, m, P, h, h1, H, v, x, p, S, r, e => by
    cases v with
    | pv q => simp only [frzV, Option.some.injEq, Prod.mk.injEq] at e; obtain ⟨rfl, rfl⟩ := e; exact ⟨⟨rfl, fun _ _ e => e⟩, P, S, Ext.refl, r⟩
    | loc k =>
      simp only [frzV] at e
      split at e
      · rename_i xs ek
        split at e
        · rename_i ps h2 e1
          split at e
          · rename_i ys e2
            cases e
            obtain ⟨hk, rfl⟩ := r
            obtain ⟨vs, q, rr⟩ := S.obj k _ ek
            obtain ⟨c1, P1, S1, x1, r1⟩ := frz_l (frz_v d) S rr e1
            obtain ⟨S2, x2, r2⟩ := lock_one (B := B) S1 e2 q r1
            refine ⟨⟨by rw [List.length_set, c1.1], fun n zs z => ?_⟩, _, S2, x1.trans x2, r2⟩
            rcases set_get z with ⟨_, z⟩ | ⟨_, z⟩
            · exact c1.2 n zs z
            · cases z
          · cases e
        · cases e
      · cases e
end
section
variable {T : Tb} {F : Fx} {n : Nat} {X : Cx}
theorem e_frz {a : IE} {l : Expr} (ha : PE X l (tE F (evE (cnOf T F n) a))) : PE X l (tE F (evE (cnOf T F n) (.frz a))) := by
  refine PE.imp ha ?_
  rintro σ H Q ⟨e, h, m, P, st, a0⟩
  rw [evE] at a0
  refine ⟨e, h, m, P, st, ?_⟩
  refine AftE.mono (AftE.seq st.2 a0) ?_
  rintro x H' ⟨v, h', m', P', x', s', r, a1⟩
  unfold oFrz at a1
  split at a1
  · exact a1 x H' m' P' Ext.refl s' r
  · split at a1
    · rename_i p h1 e1
      obtain ⟨_, P1, S1, x1, r1⟩ := frz_v (B := F.B) 4 s' r e1
      exact a1 x H' m' P1 x1 S1 r1
    · exact a1.elim
end
end MI

/-! MiS11: chains, choices, tests -/
namespace MI
open PySem PySem.Spec L2
open PyProof.Rows hiding St
section
variable {T : Tb} {S : Sc} {F : Fx} {n : Nat} {X : Cx}
theorem oCmp_bool {o : CO} {x y v : MV} {h h' : Sto} (e : oCmp o x y h = .ok (v, h')) : ∃ b, v = .pv (.bl b) ∧ h' = h := by
  have ob : ∀ {b : Option Bool}, okB b h = .ok (v, h') → ∃ b, v = .pv (.bl b) ∧ h' = h := fun {b} q => by
    cases b with
    | none => cases q
    | some b => cases q; exact ⟨b, rfl, rfl⟩
  have oi : ∀ {f : Int → Int → Bool}, ints2 f x y h = .ok (v, h') → ∃ b, v = .pv (.bl b) ∧ h' = h := fun {f} q => by
    unfold ints2 at q
    split at q
    · cases q; exact ⟨_, rfl, rfl⟩
    · cases q
  cases o <;> simp only [oCmp] at e <;> first
    | exact oi e
    | (split at e
       · exact ob e
       · cases e)
    | (split at e
       · cases e; exact ⟨_, rfl, rfl⟩
       · cases e)
theorem oCmp_noexc {o : CO} {x y : MV} {h h' : Sto} {c : Nat} {fs : List PV} (e : oCmp o x y h = .exc c fs h') : False := by
  have ob : ∀ {b : Option Bool}, okB b h = .exc c fs h' → False := fun {b} q => by cases b <;> cases q
  have oi : ∀ {f : Int → Int → Bool}, ints2 f x y h = .exc c fs h' → False := fun {f} q => by
    unfold ints2 at q
    split at q <;> cases q
  cases o <;> simp only [oCmp] at e <;> first
    | exact oi e
    | (split at e
       · exact ob e
       · cases e)
    | (split at e
       · cases e
       · cases e)
theorem chain_t {o o2 : CO} {a b d : IE} {σ : St} {H : Hp} {Q : VK} (t : tE F (evE (cnOf T F n) (.cmp2 o o2 a b d)) σ H Q) :
    tChain (R2of F (oCmp o)) (R2of F (oCmp o2)) (tE F (evE (cnOf T F n) a)) (tE F (evE (cnOf T F n) b)) (tE F (evE (cnOf T F n) d)) σ H Q := by
  obtain ⟨e, h, m, P, ⟨re, St⟩, a0⟩ := t
  rw [evE] at a0
  refine ⟨e, h, m, P, ⟨re, St⟩, ?_⟩
  have b1 := AftE.seq St a0
  revert b1
  cases evE (cnOf T F n) a e h with
  | exc c fs h1 => exact fun b => b
  | bad => exact fun b => b
  | ok v =>
    refine fun b1 x H1 m1 P1 x1 s1 q1 => ?_
    obtain ⟨v, h1, m1, P1, x1, s1, q1, a1⟩ := b1 x H1 m1 P1 x1 s1 q1
    have re1 := x1.env St re
    refine ⟨e, h1, m1, P1, ⟨re1, s1⟩, ?_⟩
    have b2 := AftE.seq s1 a1
    revert b2
    cases evE (cnOf T F n) b e h1 with
    | exc c fs h1 => exact fun b => b
    | bad => exact fun b => b
    | ok w =>
      refine fun b2 y H2 m2 P2 x2 s2 q2 => ?_
      obtain ⟨w, h2, m2, P2, x2, s2, q2, a2⟩ := b2 y H2 m2 P2 x2 s2 q2
      have re2 := x2.env s1 re1
      have q1' := x2.rmv s1 q1
      have b3 := AftE.seq s2 a2
      refine ⟨σ, v, w, h2, m2, P2, s2, q1', q2, AftE.mono b3 ?_⟩
      rintro z H3 ⟨r, h3, m3, P3, x3, s3, q3, a3⟩
      have re3 := x3.env s2 re2
      split at a3
      · refine ⟨true, q3, ?_⟩
        rw [if_pos rfl]
        refine ⟨e, h3, m3, P3, ⟨re3, s3⟩, ?_⟩
        have b4 := AftE.seq s3 a3
        refine AftE.mono b4 ?_
        rintro w' H4 ⟨r4, h4, m4, P4, x4, s4, q4, a4⟩
        exact ⟨σ, w, r4, h4, m4, P4, s4, x4.rmv s3 (x3.rmv s2 q2), q4, a4⟩
      · refine ⟨false, q3, ?_⟩
        rw [if_neg (by decide)]
        exact a3.okp s3 rfl
      · exact a3.elim
/-- a op1 b op2 c op3 d -/
def tChain3 (r r' r'' : R2) (ta tb tc td : TE) : TE := fun σ H Q => ta σ H fun x H1 => tb σ H1 fun y H2 => r x y H2 fun z H3 => ∃ k, z = .bl k ∧
  (if k = true then tc σ H3 fun w' H4 => r' y w' H4 fun z' H5 => ∃ k', z' = .bl k' ∧ (if k' = true then td σ H5 fun u' H6 => r'' w' u' H6 Q else Q (.bl false) H5) else Q (.bl false) H3)
theorem pe_chain3 {op op' op'' : CmpOp} {a b c d : Expr} {ta tb tc td : TE} {pos : Pos} {r r' r'' : R2} (ho : OpR X (compareOp op) r) (ho' : OpR X (compareOp op') r') (ho'' : OpR X (compareOp op'') r'') (ha : PE X a ta) (hb : PE X b tb) (hc : PE X c tc) (hd : PE X d td)
    (hm : lastMarks [op, op', op''] [b, c, d] = false) : PE X (.Compare a [op, op', op''] [b, c, d] pos) (tChain3 r r' r'' ta tb tc td) := by
  refine ⟨fun pins s σ H Q I h => ?_⟩
  refine Compare_chain (thn (ha.run pins s σ H _ I h) fun v s1 ⟨x, H1, I1, r1, q1⟩ => chain_link (thn (hb.run pins s1 σ H1 _ I1 q1) fun u s2 ⟨y, H2, I2, r2, q2⟩ =>
    thn (ho pins s2 σ H2 x y v u _ I2 r1 r2 q2) fun d s3 ⟨z, H3, I3, r3, k, e, q3⟩ => ?_)) hm
  subst e
  cases r3
  refine wpAny_truthy_bool ?_
  cases k with
  | false => exact ite_ff ⟨.bl false, H3, I3, rfl, q3⟩
  | true =>
    refine ite_tt (chain_link (thn (hc.run pins s3 σ H3 _ I3 q3) fun w' s4 ⟨z', H4, I4, r4, q4⟩ => thn (ho' pins s4 σ H4 y z' u w' _ I4 r2 r4 q4) fun d' s5 ⟨z2, H5, I5, r5, k', e', q5⟩ => ?_))
    subst e'
    cases r5
    refine wpAny_truthy_bool ?_
    cases k' with
    | false => exact ite_ff ⟨.bl false, H5, I5, rfl, q5⟩
    | true => exact ite_tt (chain_last (thn (hd.run pins s5 σ H5 _ I5 q5) fun w2 s6 ⟨z3, H6, I6, r6, q6⟩ => ho'' pins s6 σ H6 z' z3 w' w2 Q I6 r4 r6 q6))
theorem pt_chain3 {op op' op'' : CmpOp} {a b c d : Expr} {ta tb tc td : TE} {pos : Pos} {r r' r'' : R2} (ho : OpR X (compareOp op) r) (ho' : OpR X (compareOp op') r') (ho'' : OpR X (compareOp op'') r'') (ha : PE X a ta) (hb : PE X b tb) (hc : PE X c tc) (hd : PE X d td)
    (hm : lastMarks [op, op', op''] [b, c, d] = false) : PT X (.Compare a [op, op', op''] [b, c, d] pos) (tTest (tChain3 r r' r'' ta tb tc td)) := by
  refine ⟨fun pins s σ H Q I h => ?_⟩
  refine isTrue_chain (thn (ha.run pins s σ H _ I h) fun v s1 ⟨x, H1, I1, r1, q1⟩ => test_link (thn (hb.run pins s1 σ H1 _ I1 q1) fun u s2 ⟨y, H2, I2, r2, q2⟩ =>
    thn (ho pins s2 σ H2 x y v u _ I2 r1 r2 q2) fun d s3 ⟨z, H3, I3, r3, k, e, q3⟩ => ?_)) hm
  subst e
  cases r3
  refine wpAny_truthy_bool ?_
  cases k with
  | false =>
    obtain ⟨k', e', q'⟩ := q3
    cases e'
    exact ite_ff ⟨H3, I3, q'⟩
  | true =>
    refine ite_tt (test_link (thn (hc.run pins s3 σ H3 _ I3 q3) fun w' s4 ⟨z', H4, I4, r4, q4⟩ => thn (ho' pins s4 σ H4 y z' u w' _ I4 r2 r4 q4) fun d' s5 ⟨z2, H5, I5, r5, k2, e2, q5⟩ => ?_))
    subst e2
    cases r5
    refine wpAny_truthy_bool ?_
    cases k2 with
    | false =>
      obtain ⟨k', e', q'⟩ := q5
      cases e'
      exact ite_ff ⟨H5, I5, q'⟩
    | true =>
      refine ite_tt (test_last (thn (hd.run pins s5 σ H5 _ I5 q5) fun w2 s6 ⟨z3, H6, I6, r6, q6⟩ => thn (ho'' pins s6 σ H6 z' z3 w' w2 _ I6 r4 r6 q6) fun d3 s7 ⟨z4, H7, I7, r7, k3, e3, q7⟩ => ?_))
      subst e3
      cases r7
      exact wpAny_truthy_bool ⟨H7, I7, q7⟩
theorem chain_t3 {o o2 o3 : CO} {a b d f : IE} {σ : St} {H : Hp} {Q : VK} (t : tE F (evE (cnOf T F n) (.cmp3 o o2 o3 a b d f)) σ H Q) :
    tChain3 (R2of F (oCmp o)) (R2of F (oCmp o2)) (R2of F (oCmp o3)) (tE F (evE (cnOf T F n) a)) (tE F (evE (cnOf T F n) b)) (tE F (evE (cnOf T F n) d)) (tE F (evE (cnOf T F n) f)) σ H Q := by
  obtain ⟨e, h, m, P, ⟨re, St⟩, a0⟩ := t
  rw [evE] at a0
  refine ⟨e, h, m, P, ⟨re, St⟩, ?_⟩
  have b1 := AftE.seq St a0
  refine AftE.mono b1 ?_
  rintro x H1 ⟨v, h1, m1, P1, x1, s1, q1, a1⟩
  have re1 := x1.env St re
  refine ⟨e, h1, m1, P1, ⟨re1, s1⟩, ?_⟩
  have b2 := AftE.seq s1 a1
  refine AftE.mono b2 ?_
  rintro y H2 ⟨w, h2, m2, P2, x2, s2, q2, a2⟩
  have re2 := x2.env s1 re1
  have q1' := x2.rmv s1 q1
  have b3 := AftE.seq s2 a2
  refine ⟨σ, v, w, h2, m2, P2, s2, q1', q2, AftE.mono b3 ?_⟩
  rintro z H3 ⟨r, h3, m3, P3, x3, s3, q3, a3⟩
  have re3 := x3.env s2 re2
  split at a3
  · refine ⟨true, q3, ?_⟩
    rw [if_pos rfl]
    refine ⟨e, h3, m3, P3, ⟨re3, s3⟩, ?_⟩
    have b4 := AftE.seq s3 a3
    refine AftE.mono b4 ?_
    rintro w' H4 ⟨r4, h4, m4, P4, x4, s4, q4, a4⟩
    have re4 := x4.env s3 re3
    have b5 := AftE.seq s4 a4
    refine ⟨σ, w, r4, h4, m4, P4, s4, x4.rmv s3 (x3.rmv s2 q2), q4, AftE.mono b5 ?_⟩
    rintro z2 H5 ⟨r5, h5, m5, P5, x5, s5, q5, a5⟩
    have re5 := x5.env s4 re4
    split at a5
    · refine ⟨true, q5, ?_⟩
      rw [if_pos rfl]
      refine ⟨e, h5, m5, P5, ⟨re5, s5⟩, ?_⟩
      have b6 := AftE.seq s5 a5
      refine AftE.mono b6 ?_
      rintro u' H6 ⟨r6, h6, m6, P6, x6, s6, q6, a6⟩
      exact ⟨σ, r4, r6, h6, m6, P6, s6, x6.rmv s5 (x5.rmv s4 q4), q6, a6⟩
    · refine ⟨false, q5, ?_⟩
      rw [if_neg (by decide)]
      exact a5.okp s5 rfl
    · exact a5.elim
  · refine ⟨false, q3, ?_⟩
    rw [if_neg (by decide)]
    exact a3.okp s3 rfl
  · exact a3.elim
theorem lastM3 {o o2 o3 : CO} {r q s : Expr} (h1 : opC o ≠ .In) (h2 : opC o ≠ .NotIn) (h3 : opC o2 ≠ .In) (h4 : opC o2 ≠ .NotIn) (h5 : opC o3 ≠ .In) (h6 : opC o3 ≠ .NotIn) : lastMarks [opC o, opC o2, opC o3] [r, q, s] = false := by
  have e1 := nomark r h1 h2
  have e2 := nomark q h3 h4
  have e3 := nomark s h5 h6
  simp [lastMarks, e1, e2, e3]
theorem e_cmp3 (g : Good T S F n X) {o o2 o3 : CO} {a b d f : IE} {l r q s : Expr} {pos : Pos} (hm : lastMarks [opC o, opC o2, opC o3] [r, q, s] = false) (ha : PE X l (tE F (evE (cnOf T F n) a))) (hb : PE X r (tE F (evE (cnOf T F n) b))) (hd : PE X q (tE F (evE (cnOf T F n) d))) (hf : PE X s (tE F (evE (cnOf T F n) f))) :
    PE X (.Compare l [opC o, opC o2, opC o3] [r, q, s] pos) (tE F (evE (cnOf T F n) (.cmp3 o o2 o3 a b d f))) :=
  PE.imp (pe_chain3 (oc_cmp g.hK g.un o) (oc_cmp g.hK g.un o2) (oc_cmp g.hK g.un o3) ha hb hd hf hm) fun σ H Q t => chain_t3 t
theorem lastM {o o2 : CO} {r q : Expr} (h1 : opC o ≠ .In) (h2 : opC o ≠ .NotIn) (h3 : opC o2 ≠ .In) (h4 : opC o2 ≠ .NotIn) : lastMarks [opC o, opC o2] [r, q] = false := by
  have e1 := nomark r h1 h2
  have e2 := nomark q h3 h4
  simp [lastMarks, e1, e2]
theorem e_cmp2 (g : Good T S F n X) {o o2 : CO} {a b d : IE} {l r q : Expr} {pos : Pos} (hm : lastMarks [opC o, opC o2] [r, q] = false) (ha : PE X l (tE F (evE (cnOf T F n) a))) (hb : PE X r (tE F (evE (cnOf T F n) b))) (hd : PE X q (tE F (evE (cnOf T F n) d))) :
    PE X (.Compare l [opC o, opC o2] [r, q] pos) (tE F (evE (cnOf T F n) (.cmp2 o o2 a b d))) :=
  PE.imp (pe_chain (oc_cmp g.hK g.un o) (oc_cmp g.hK g.un o2) ha hb hd hm) fun σ H Q t => chain_t t

/-! ### tests -/
theorem AftT.mono {σ : St} {m : Nat → Addr} {P : Addr → Prop} {h : Sto} {H : Hp} {r : R (Bool × Sto)} {Q Q' : Bool → Hp → Prop} (a : AftT F σ m P h H r Q) (i : ∀ x H', Q x H' → Q' x H') : AftT F σ m P h H r Q' := by
  revert a
  cases r with
  | ok v => exact fun a H' m' P' e1 s1 => i _ _ (a H' m' P' e1 s1)
  | exc c fs h1 => exact fun a => a
  | bad => exact fun a => a
/-- a test's value first -/
theorem tT_val {r : Env → Sto → RE} {σ : St} {H : Hp} {Q : Bool → Hp → Prop} (t : tT F (fun e h => seq1 (r e h) fun v h => (match truth v h with | some b => .ok (b, h) | none => .bad)) σ H Q) :
    tE F r σ H fun x H' => ∃ v h' m' P' b, SR F.G m' P' h' H' ∧ RMV F.G m' P' h'.length H' v x ∧ truth v h' = some b ∧ Q b H' := by
  obtain ⟨e, h, m, P, ⟨re, St⟩, a⟩ := t
  refine ⟨e, h, m, P, ⟨re, St⟩, ?_⟩
  dsimp only at a
  revert a
  cases r e h with
  | exc c fs h1 => exact fun a => a
  | bad => exact fun a => a
  | ok v =>
    obtain ⟨v, h1⟩ := v
    rw [seq1_ok]
    intro a x H1 m1 P1 x1 s1 q1
    split at a
    · rename_i b eb
      exact ⟨v, h1, m1, P1, b, s1, q1, eb, a H1 m1 P1 x1 s1⟩
    · exact a.elim
theorem t_val (g : Good T S F n X) {r : Env → Sto → RE} {l : Expr} (ha : PE X l (tE F r)) (he : ∀ whole, isTrue l X.env whole = (do let v ← whole; standAt l.pos; holding [v] (truthy v))) :
    PT X l (tT F fun e h => seq1 (r e h) fun v h => (match truth v h with | some b => .ok (b, h) | none => .bad)) := by
  refine PT.imp (pt_truth ha he) ?_
  intro σ H Q t
  refine tE_mono (tT_val t) ?_
  rintro x H1 ⟨v, h', m', P', b, s', q', eb, q⟩
  exact ⟨b, by rw [g.hK]; exact truth_tru s' q' eb, q⟩
theorem t_bool {r : Env → Sto → RE} (hr : ∀ e h v h', r e h = .ok (v, h') → ∃ b, v = .pv (.bl b)) {σ : St} {H : Hp} {Q : Bool → Hp → Prop} (t : tT F (fun e h => seq1 (r e h) fun v h => (match truth v h with | some b => .ok (b, h) | none => .bad)) σ H Q) :
    tE F r σ H fun x H' => ∃ k, x = .bl k ∧ Q k H' := by
  obtain ⟨e, h, m, P, ⟨re, St⟩, a⟩ := t
  refine ⟨e, h, m, P, ⟨re, St⟩, ?_⟩
  have hr := hr e h
  dsimp only at a
  revert a hr
  cases r e h with
  | exc c fs h1 => exact fun a _ => a
  | bad => exact fun a _ => a
  | ok v =>
    obtain ⟨v, h1⟩ := v
    rw [seq1_ok]
    intro a hr x H1 m1 P1 x1 s1 q1
    obtain ⟨b, rfl⟩ := hr v h1 rfl
    exact ⟨b, q1, a H1 m1 P1 x1 s1⟩
theorem t_var (g : Good T S F n X) {i : Nat} {x : Str} {pos : Pos} (h : mE T S (.var i) (.Name x pos) = true) : PT X (.Name x pos) (tT F (evT (cnOf T F n) (.var i))) := by
  refine PT.imp (t_val g (e_var g h) fun _ => rfl) ?_
  rintro σ H Q ⟨e, h, m, P, st, a⟩
  rw [evT] at a
  refine ⟨e, h, m, P, st, ?_⟩
  dsimp only
  rw [evE]
  split at a
  · exact a
  · exact a.elim
theorem t_call (g : Good T S F n X) {f : Nat} {es : IEs} {ds : List PV} {fe : Expr} {as : List Expr} {kws : List Keyword} {pos : Pos} (ha : PE X (.Call fe as kws pos) (tE F (evE (cnOf T F n) (.call f es ds)))) : PT X (.Call fe as kws pos) (tT F (evT (cnOf T F n) (.call f es ds))) := by
  refine PT.imp (t_val g ha fun _ => rfl) ?_
  rintro σ H Q ⟨e, h, m, P, st, a⟩
  rw [evT] at a
  refine ⟨e, h, m, P, st, ?_⟩
  dsimp only
  rw [evE]; exact a
theorem t_isI (g : Good T S F n X) {t : TyN} {x : IE} {fe : Expr} {as : List Expr} {kws : List Keyword} {pos : Pos} (ha : PE X (.Call fe as kws pos) (tE F (evE (cnOf T F n) (.isI t x)))) : PT X (.Call fe as kws pos) (tT F (evT (cnOf T F n) (.isI t x))) := by
  refine PT.imp (t_val g ha fun _ => rfl) ?_
  rintro σ H Q ⟨e, h, m, P, st, a⟩
  rw [evT] at a
  refine ⟨e, h, m, P, st, ?_⟩
  dsimp only
  rw [evE]; exact a
theorem t_blt (g : Good T S F n X) {b : BF} {es : IEs} {fe : Expr} {as : List Expr} {kws : List Keyword} {pos : Pos} (ha : PE X (.Call fe as kws pos) (tE F (evE (cnOf T F n) (.blt b es)))) : PT X (.Call fe as kws pos) (tT F (evT (cnOf T F n) (.blt b es))) := by
  refine PT.imp (t_val g ha fun _ => rfl) ?_
  rintro σ H Q ⟨e, h, m, P, st, a⟩
  rw [evT] at a
  refine ⟨e, h, m, P, st, ?_⟩
  dsimp only
  rw [evE]; exact a
theorem t_ext (g : Good T S F n X) {x : EX} {es : IEs} {fe : Expr} {as : List Expr} {kws : List Keyword} {pos : Pos} (ha : PE X (.Call fe as kws pos) (tE F (evE (cnOf T F n) (.ext x es)))) : PT X (.Call fe as kws pos) (tT F (evT (cnOf T F n) (.ext x es))) := by
  refine PT.imp (t_val g ha fun _ => rfl) ?_
  rintro σ H Q ⟨e, h, m, P, st, a⟩
  rw [evT] at a
  refine ⟨e, h, m, P, st, ?_⟩
  dsimp only
  rw [evE]; exact a
theorem seq1_noexc {r : RE} {f : MV → Sto → RE} {v : MV} {h : Sto} (e : seq1 r f = .ok (v, h)) : ∃ u h', r = .ok (u, h') ∧ f u h' = .ok (v, h) := by
  cases r with
  | ok x => obtain ⟨u, h'⟩ := x; exact ⟨u, h', rfl, e⟩
  | exc _ _ _ => cases e
  | bad => cases e
theorem t_cmp (g : Good T S F n X) {o : CO} {a b : IE} {l r : Expr} {pos : Pos} (hm : behindInMarks (opC o) r = false) (ha : PE X l (tE F (evE (cnOf T F n) a))) (hb : PE X r (tE F (evE (cnOf T F n) b))) : PT X (.Compare l [opC o] [r] pos) (tT F (evT (cnOf T F n) (.cmp o a b))) := by
  refine PT.imp (pt_cmpR (oc_cmp g.hK g.un o) ha hb hm) ?_
  rintro σ H Q ⟨e, h, m, P, st, a0⟩
  rw [evT] at a0
  have t := t_bool (F := F) (r := fun e h => seq1 (evE (cnOf T F n) a e h) fun x h => seq1 (evE (cnOf T F n) b e h) fun y h => oCmp o x y h) (fun e h v h' q => by
    obtain ⟨u, h1, _, q⟩ := seq1_noexc q
    obtain ⟨u, h1, _, q⟩ := seq1_noexc q
    obtain ⟨b, e, _⟩ := oCmp_bool q
    exact ⟨b, e⟩) ⟨e, h, m, P, st, a0⟩
  exact tE_op t
theorem t_cmp2 (g : Good T S F n X) {o o2 : CO} {a b d : IE} {l r q : Expr} {pos : Pos} (hm : lastMarks [opC o, opC o2] [r, q] = false) (ha : PE X l (tE F (evE (cnOf T F n) a))) (hb : PE X r (tE F (evE (cnOf T F n) b))) (hd : PE X q (tE F (evE (cnOf T F n) d))) :
    PT X (.Compare l [opC o, opC o2] [r, q] pos) (tT F (evT (cnOf T F n) (.cmp2 o o2 a b d))) := by
  refine PT.imp (pt_chain (oc_cmp g.hK g.un o) (oc_cmp g.hK g.un o2) ha hb hd hm) ?_
  rintro σ H Q ⟨e, h, m, P, st, a0⟩
  rw [evT] at a0
  refine chain_t (n := n) ?_
  refine t_bool (F := F) (fun e h v h' q => ?_) ⟨e, h, m, P, st, ?_⟩
  · rw [evE] at q
    obtain ⟨u, h1, _, q⟩ := seq1_noexc q
    obtain ⟨u, h1, _, q⟩ := seq1_noexc q
    obtain ⟨u, h1, _, q⟩ := seq1_noexc q
    split at q
    · obtain ⟨u, h1, _, q⟩ := seq1_noexc q
      obtain ⟨b, e, _⟩ := oCmp_bool q
      exact ⟨b, e⟩
    · cases q; exact ⟨_, rfl⟩
    · cases q
  · dsimp only
    rw [evE]; exact a0
theorem PT.pw {op : BoolOp} {es : List Expr} {pos : Pos} {t : TT} (h : PT X (.BoolOp op es pos) t) : PW X (.BoolOp op es pos) t := ⟨fun wh pins s σ H Q I q => h.run pins s σ H Q I q⟩
theorem t_not {a : IE} {l : Expr} {pos : Pos} (ha : PT X l (tT F (evT (cnOf T F n) a))) : PT X (.UnaryOp .Not l pos) (tT F (evT (cnOf T F n) (.not a))) := by
  refine PT.imp (pt_not ha) ?_
  rintro σ H Q ⟨e, h, m, P, st, a0⟩
  rw [evT] at a0
  refine ⟨e, h, m, P, st, ?_⟩
  revert a0
  cases evT (cnOf T F n) a e h with
  | exc c fs h1 => exact fun b => b
  | bad => exact fun b => b
  | ok v => exact fun b => b
theorem AftT.seq {α : Type} {r : R (Bool × Sto)} {σ : St} {m : Nat → Addr} {P : Addr → Prop} {h : Sto} {H : Hp} {Q : Bool → Hp → Prop} {f : Bool → Sto → R (Bool × Sto)} (a : AftT F σ m P h H (match r with | .ok (b, h) => f b h | .exc c fs h => .exc c fs h | .bad => .bad) Q) :
    AftT F σ m P h H r fun b H1 => ∃ h1 m1 P1, Ext F.B m P h H m1 P1 h1 H1 ∧ SR F.G m1 P1 h1 H1 ∧ AftT F σ m1 P1 h1 H1 (f b h1) Q := by
  match r, a with
  | .ok (b, h1), a => exact fun H1 m1 P1 x1 s1 => ⟨h1, m1, P1, x1, s1, AftT.af x1 a⟩
  | .exc c fs h1, a => exact a
  | .bad, a => exact a
theorem tt_and {a b : IE} {σ : St} {H : Hp} {Q : Bool → Hp → Prop} (t : tT F (evT (cnOf T F n) (.and a b)) σ H Q) : tAnd (tT F (evT (cnOf T F n) a)) (tT F (evT (cnOf T F n) b)) σ H Q := by
  obtain ⟨e, h, m, P, ⟨re, St⟩, a0⟩ := t
  rw [evT] at a0
  refine ⟨e, h, m, P, ⟨re, St⟩, ?_⟩
  revert a0
  cases evT (cnOf T F n) a e h with
  | exc c fs h1 => exact fun b => b
  | bad => exact fun b => b
  | ok v =>
    obtain ⟨v, h1⟩ := v
    intro a0 H1 m1 P1 x1 s1
    cases v with
    | true => rw [if_pos rfl]; exact ⟨e, h1, m1, P1, ⟨x1.env St re, s1⟩, AftT.af x1 a0⟩
    | false => rw [if_neg (by decide)]; exact a0 H1 m1 P1 x1 s1
theorem tt_or {a b : IE} {σ : St} {H : Hp} {Q : Bool → Hp → Prop} (t : tT F (evT (cnOf T F n) (.or a b)) σ H Q) : tOr (tT F (evT (cnOf T F n) a)) (tT F (evT (cnOf T F n) b)) σ H Q := by
  obtain ⟨e, h, m, P, ⟨re, St⟩, a0⟩ := t
  rw [evT] at a0
  refine ⟨e, h, m, P, ⟨re, St⟩, ?_⟩
  revert a0
  cases evT (cnOf T F n) a e h with
  | exc c fs h1 => exact fun b => b
  | bad => exact fun b => b
  | ok v =>
    obtain ⟨v, h1⟩ := v
    intro a0 H1 m1 P1 x1 s1
    cases v with
    | true => rw [if_pos rfl]; exact a0 H1 m1 P1 x1 s1
    | false => rw [if_neg (by decide)]; exact ⟨e, h1, m1, P1, ⟨x1.env St re, s1⟩, AftT.af x1 a0⟩
theorem t_and {a b : IE} {l r : Expr} {rest : List Expr} {pos : Pos} (ha : PT X l (tT F (evT (cnOf T F n) a))) (hb : PW X (.BoolOp .And (r :: rest) pos) (tT F (evT (cnOf T F n) b))) : PT X (.BoolOp .And (l :: r :: rest) pos) (tT F (evT (cnOf T F n) (.and a b))) :=
  PT.imp (pw_and ha hb).pt fun σ H Q t => tt_and t
theorem t_or {a b : IE} {l r : Expr} {rest : List Expr} {pos : Pos} (ha : PT X l (tT F (evT (cnOf T F n) a))) (hb : PW X (.BoolOp .Or (r :: rest) pos) (tT F (evT (cnOf T F n) b))) : PT X (.BoolOp .Or (l :: r :: rest) pos) (tT F (evT (cnOf T F n) (.or a b))) :=
  PT.imp (pw_or ha hb).pt fun σ H Q t => tt_or t
/-- a if t else b -/
theorem e_ite {t a b : IE} {c l r : Expr} {pos : Pos} (ht : PT X c (tT F (evT (cnOf T F n) t))) (ha : PE X l (tE F (evE (cnOf T F n) a))) (hb : PE X r (tE F (evE (cnOf T F n) b))) : PE X (.IfExp c l r pos) (tE F (evE (cnOf T F n) (.ite t a b))) := by
  refine PE.imp (pe_ifExp ht ha hb) ?_
  rintro σ H Q ⟨e, h, m, P, ⟨re, St⟩, a0⟩
  rw [evE] at a0
  refine ⟨e, h, m, P, ⟨re, St⟩, ?_⟩
  revert a0
  cases evT (cnOf T F n) t e h with
  | exc c fs h1 => exact fun b => b
  | bad => exact fun b => b
  | ok v =>
    obtain ⟨v, h1⟩ := v
    intro a0 H1 m1 P1 x1 s1
    cases v with
    | true => rw [if_pos rfl]; exact ⟨e, h1, m1, P1, ⟨x1.env St re, s1⟩, AftE.af x1 a0⟩
    | false => rw [if_neg (by decide)]; exact ⟨e, h1, m1, P1, ⟨x1.env St re, s1⟩, AftE.af x1 a0⟩
end
end MI

/-! MiS12: enumerate over tuples -/
namespace MI
open PySem PySem.Spec L2
open PyProof.Rows hiding St
abbrev eObj (q : Nat) : Obj := { cls := .type "enumerate", data := .fields #[.none, .bool false, .ref q, rawInt 0, .none, .none] }
abbrev tiObj (l : Nat) : Obj := { cls := .type "tuple_iterator", data := .fields #[.ref l, .int 0 0] }
set_option maxHeartbeats 1000000 in
theorem meets_enumT (l : Addr) (items : Array Value) :
    Meets (Builtin.«enumerate.__new__» ⟨[.type "enumerate", .ref l], []⟩) (fun _ R s => s.heap.IsTuple l items ∧
      R (.ok (.ret (.ref (s.heap.push (tiObj l)).objs.size))) { s with heap := (s.heap.push (tiObj l)).push (eObj s.heap.objs.size) }) :=
  .of_wp fun prog w A R s h => by
    obtain ⟨hp, g, d, tk, os⟩ := s
    obtain ⟨hT, h⟩ := h
    have hsub := sub_enumerate
    have q1 : ∀ {A' : Around} {E : Value → Shared → Prop} {Q : Value → Shared → Prop}, Q (.ref hp.objs.size) ⟨hp.push (tiObj l), g, d, tk, os⟩ → wpAny (model prog w) A' (pyIter (.ref l)) Q E ⟨hp, g, d, tk, os⟩ :=
      fun q => wpAny_pyIter_tuple hT q
    wp_walk using q1
    refine wpAny_stack_any fun st => wpAny_pure ?_
    split
    · rename_i c _ _ _ _ _
      by_cases hb : (c == Value.type "enumerate") = true
      · simp only [hb]
        wp_walk using q1
        exact ⟨_, rfl, h⟩
      · simp only [Bool.not_eq_true] at hb
        simp only [hb]
        wp_walk using q1
        exact ⟨_, rfl, h⟩
    · wp_walk using q1
      exact ⟨_, rfl, h⟩
theorem call_enumT {prog : Program} {w : World} {A : Around} {E : Value → Shared → Prop} {s : Shared} {l : Addr} {items : Array Value} {Q : Value → Shared → Prop} (hL : s.heap.IsTuple l items)
    (h : ∀ h', IsEnum h' (s.heap.objs.size + 1) s.heap.objs.size 0 .none → h'.IsTupleIter s.heap.objs.size l 0 → (∀ b o, s.heap.get? b = some o → h'.get? b = some o) → Q (.ref (s.heap.objs.size + 1)) { s with heap := h' }) :
    wpAny (model prog w) A (call (.type "enumerate") [.ref l]) Q E s := by
  refine callType_new F.called_enumerate (by decide) (F.typeCall_enumerate_1 _) (F.newCall_enumerate_1 _) (fun obj => F.args_object_init_2 obj _) F.entry_enumerate_new (meets_enumT l items) ⟨hL, ?_⟩
  have hz : (s.heap.push (tiObj l)).objs.size = s.heap.objs.size + 1 := Heap.size_push ..
  show _ ∧ _
  rw [hz]
  have he : IsEnum ((s.heap.push (tiObj l)).push (eObj s.heap.objs.size)) (s.heap.objs.size + 1) s.heap.objs.size 0 .none := by
    have q := Heap.get?_push_size (s.heap.push (tiObj l)) (o := eObj s.heap.objs.size) rfl
    rw [hz] at q
    exact q
  exact ⟨⟨_, he, rfl⟩, h _ he ⟨_, Heap.get?_push_of_some _ (Heap.get?_push_size _ rfl), rfl, rfl⟩ fun b o x => Heap.get?_push_of_some _ (Heap.get?_push_of_some _ x)⟩
/-- the tuple at a, each item in a new pair -/
def IteT (K : PySem.W.Frag) (a : Addr) : It :=
  ⟨fun i H => ∃ (xs : List V) (x : V), SqT K H a xs ∧ xs[i]? = some x, fun i H v H' => ∃ T x, v = .ref T ∧ H T = none ∧ H' = upd H T (.tup [.int (i : Nat), x]) ∧ ∀ xs, SqT K H a xs → xs[i]? = some x, fun i H => ∃ xs : List V, SqT K H a xs ∧ xs.length = i⟩
theorem turn_enumT {P : Program} {w : World} {K : PySem.W.Frag} {elts : List Expr} {kk : Nat} {tpos : Pos} (a e it : Addr) :
    Turn P w K (.Tuple elts kk tpos) (IteT K a) [e, it] e (fun i h => (∃ old, IsEnum h e it ((i : Nat) : Int) old) ∧ h.IsTupleIter it a i) where
  mem := by simp
  obj := fun i h st b hb => by
    obtain ⟨⟨old, he⟩, ⟨o, ho, hc, hd⟩⟩ := st
    have e' : b = e ∨ b = it := by simpa using hb
    rcases e' with z | z
    · rw [z]; exact ⟨_, he, fun v q => nomatch q⟩
    · rw [z]; exact ⟨o, ho, fun v q => by rw [hd] at q; cases q⟩
  keep := fun i h h' st k => by
    obtain ⟨⟨old, he⟩, ⟨o, ho, hc, hd⟩⟩ := st
    exact ⟨⟨old, k e (by simp) _ he⟩, ⟨o, k it (by simp) o ho, hc, hd⟩⟩
  item := by
    intro X hP hw hK hc i pins s σ H E I hf st hg
    subst hP hw hK
    obtain ⟨⟨old, he⟩, hit⟩ := st
    obtain ⟨xs, x, hq, hx⟩ := hg
    obtain ⟨its, rv, p, hz⟩ := I.tuple hq
    obtain ⟨u, hu, ru⟩ := rv.get hx
    have pt : s.heap.IsTuple a its.toArray := p
    obtain ⟨oi, hoi, hci, hdi⟩ := id hit
    obtain ⟨oa, hoa, hca, _⟩ := id pt
    have nai : a ≠ it := fun z => by rw [z, hoi] at hoa; cases hoa; rw [hci] at hca; simp at hca
    have nei : e ≠ it := fun z => by
      have q : s.heap.get? e = some _ := he
      rw [z, hoi] at q
      have q2 := congrArg Obj.cls (Option.some.inj q)
      rw [hci] at q2; simp at q2
    have nea : e ≠ a := fun z => by
      have q : s.heap.get? e = some _ := he
      rw [z, hoa] at q
      have q2 := congrArg Obj.cls (Option.some.inj q)
      rw [hca] at q2; simp at q2
    have hel : e < s.heap.objs.size := Heap.lt_size he
    have hil : it < s.heap.objs.size := Heap.lt_size hoi
    have hlt : i < its.toArray.size := by
      have := (List.getElem?_eq_some_iff.mp hu).1
      simpa using this
    have D := PySem.Draws.tuple (prog := X.prog) (w := X.w) (A := X.A.in1) (I.ok.hd hc) it a nai its.toArray
    refine wpAny_pyNext_enum_itemD D he ⟨hit, pt⟩ hlt nei (by simp [nei, nea]) fun y h' tk hy ho st' hT hsz hk => ?_
    have ey : y = u := by
      have h1 : its.toArray[i]? = some y := hy
      have h2 : its.toArray[i]? = some u := by simpa using hu
      rw [h1] at h2; exact Option.some.inj h2
    subst ey
    refine ⟨_, rfl, wpAny_letOwnedTupleGo_enum (s := { s with heap := h', toks := tk + 1 }) ho fun h'' he' sb => ?_⟩
    have hT2 : h''.get? s.heap.objs.size = some { cls := .type "tuple", data := .seq #[.int i tk, y] } := (sb.2 _ (Nat.ne_of_gt hel)).trans hT
    have new : ObjOk X.prog X.w (upd H s.heap.objs.size (.tup [.int (i : Nat), x])) h'' s.heap.objs.size (.tup [.int (i : Nat), x]) :=
      ⟨by show 2 ≤ sizeLine; decide, [.int i tk, y], .cons ⟨_, rfl⟩ (.cons ru .nil), ⟨_, hT2, rfl, _, rfl⟩⟩
    have I1 : L2.Inv X pins σ (upd H s.heap.objs.size (.tup [.int (i : Nat), x])) { s with heap := h'', toks := tk + 1 } :=
      I.turnedNew (ch := [e, it]) (fun b ob hb q => (sb.2 b (fun z => hb (by simp [z]))).trans (hk b ob (fun z => hb (by simp [z])) (fun z => hb (by simp [z])) q)) hf (Nat.le_refl _) new
    refine ⟨.ref s.heap.objs.size, _, I1, rfl, ⟨_, x, rfl, I.hok.fresh (Nat.le_refl _), rfl, fun ys hy' => by rw [I.tuple_inj hy' hq]; exact hx⟩, ⟨⟨y, ?_⟩, ?_⟩, fun b hb => ?_⟩
    · have e1 : ((i + 1 : Nat) : Int) = (i : Int) + 1 := by omega
      rw [e1]; exact he'
    · obtain ⟨oz, hoz, hcz, hdz⟩ := st'.1
      exact ⟨oz, (sb.2 it (Ne.symm nei)).trans hoz, hcz, hdz⟩
    · have hb' : b < s.heap.objs.size := by
        have e' : b = e ∨ b = it := by simpa using hb
        rcases e' with z | z
        · rw [z]; exact hel
        · rw [z]; exact hil
      rw [upd_ne (Nat.ne_of_lt hb')]
      exact (hf b hb).1
  done := by
    intro X hP hw hK hc i pins s σ H E I hf st hg
    subst hP hw hK
    obtain ⟨⟨old, he⟩, hit⟩ := st
    obtain ⟨xs, hq, hx⟩ := hg
    obtain ⟨its, rv, p, hz⟩ := I.tuple hq
    obtain ⟨f0, f1, f2, f3, f4, f5⟩ := hf it (by simp)
    have pt : s.heap.IsTuple a its.toArray := p
    obtain ⟨oi, hoi, hci, hdi⟩ := id hit
    obtain ⟨oa, hoa, hca, _⟩ := id pt
    have nai : a ≠ it := fun z => by rw [z, hoi] at hoa; cases hoa; rw [hci] at hca; simp at hca
    have hl := rv.length
    have hn : its.toArray.size = i := by simp; omega
    have D := PySem.Draws.tuple (prog := X.prog) (w := X.w) (A := X.A.in1) (I.ok.hd hc) it a nai its.toArray
    exact wpAny_pyNext_enum_endD D he ⟨by rw [hn]; exact hit, pt⟩ fun h' eb => ⟨rfl, I.turned (t' := s.toks) (fun b o hb q => eb b o hb q) f0 f1 f3 f4 f5⟩
  self := fun A i s Q E st h => let ⟨⟨_, he⟩, _⟩ := st; wpAny_pyIter_enum he h
def iEnumA (K : PySem.W.Frag) (ta : TA) : TI := fun σ H R => ta σ H fun vs H1 => ∃ a xs, vs = [.ref a] ∧ ((SqL K H1 a xs ∧ R (Ite K a) H1) ∨ (SqT K H1 a xs ∧ R (IteT K a) H1))
theorem pi_enumA {X : Cx} {e : Expr} {ta : TA} {p pos tpos : Pos} {elts : List Expr} {kk : Nat} (hg : Gl X "enumerate") (hm : X.mg "enumerate" = none) (ha : PA X [e] ta) (hs : starEach [e] X.env = [(false, eval e X.env)]) :
    PI X (.Tuple elts kk tpos) (.Call (.Name "enumerate" p) [e] [] pos) (iEnumA X.K ta) := by
  refine ⟨fun pins s σ H R I h => ?_⟩
  refine Call_ (ld_blt I hg hm boot_enumerate (PyProof.Rows.callWith_type1 (thn (ha.run pos pins s σ H _ I h) fun us s1 ⟨vs, H1, I1, r1, q1⟩ => ?_) hs rfl))
  obtain ⟨a, xs, ex, q1⟩ := q1
  subst ex
  obtain ⟨u, rfl, ru⟩ := vals1 r1
  cases ru
  have fresh : ∀ b, b ∈ [s1.heap.objs.size + 1, s1.heap.objs.size] → FpOk X pins H1 b := fun b hb => by
    have e' : b = s1.heap.objs.size + 1 ∨ b = s1.heap.objs.size := by simpa using hb
    have hle : s1.heap.objs.size ≤ b := by rcases e' with z | z <;> omega
    exact I1.fpOk hle (I1.hok.fresh hle)
  rcases q1 with ⟨hq, q⟩ | ⟨hq, q⟩
  · obtain ⟨its, rv, p', hz⟩ := I1.list hq
    refine call_enumerate_list p'.isList fun h' he hit hsz hk => wpAny_pyIter_enum he ?_
    exact ⟨s1.heap.objs.size + 1, _, _, _, H1, rfl, I1.kept (t' := s1.toks) hk, turn_enum a (s1.heap.objs.size + 1) s1.heap.objs.size, ⟨⟨.none, he⟩, hit, Nat.succ_ne_self _⟩, fresh, q⟩
  · obtain ⟨its, rv, p', hz⟩ := I1.tuple hq
    refine call_enumT (show s1.heap.IsTuple a its.toArray from p') fun h' he hit hk => wpAny_pyIter_enum he ?_
    exact ⟨s1.heap.objs.size + 1, _, _, _, H1, rfl, I1.kept (t' := s1.toks) hk, turn_enumT a (s1.heap.objs.size + 1) s1.heap.objs.size, ⟨⟨.none, he⟩, hit⟩, fresh, q⟩
end MI

/-! MiS13: what is walked; targets -/
namespace MI
open PySem PySem.Spec L2
open PyProof.Rows hiding St
/-- an item that an iterator gives -/
def RIt (G : Gb) (m : Nat → Addr) (P : Addr → Prop) (N : Nat) (H : Hp) : Item → V → Prop
  | .one v, x => RMV G m P N H v x
  | .many vs, x => ∃ a xs, x = .ref a ∧ (P a ∧ H a = some (.tup xs)) ∧ RMs G m P N H vs xs
structure Wk (F : Fx) (its : List Item) (J : It) (m : Nat → Addr) (P : Addr → Prop) (h : Sto) (H : Hp) : Prop where
  go : ∀ m2 P2 h2 H2 i, Ext F.B m P h H m2 P2 h2 H2 → SR F.G m2 P2 h2 H2 → i < its.length → J.go i H2
  yld : ∀ m2 P2 h2 H2 i it x H3, Ext F.B m P h H m2 P2 h2 H2 → SR F.G m2 P2 h2 H2 → its[i]? = some it → J.yld i H2 x H3 → ∃ P3, Ext F.B m2 P2 h2 H2 m2 P3 h2 H3 ∧ SR F.G m2 P3 h2 H3 ∧ RIt F.G m2 P3 h2.length H3 it x
  stop : ∀ m2 P2 h2 H2, Ext F.B m P h H m2 P2 h2 H2 → SR F.G m2 P2 h2 H2 → J.stop its.length H2
def tI (F : Fx) (r : Env → Sto → R (List Item × Sto)) : TI := fun σ H R => ∃ e h m P, Stn F e h σ m P H ∧ (match r e h with
  | .ok (its, h') => ∀ J H' m' P', Ext F.B m P h H m' P' h' H' → SR F.G m' P' h' H' → Wk F its J m' P' h' H' → R J H'
  | .exc c fs h' => Aft0 F σ m P h H c fs h'
  | .bad => False)
section
variable {T : Tb} {S : Sc} {F : Fx} {n : Nat} {X : Cx}
theorem rms_get {G : Gb} {m : Nat → Addr} {P : Addr → Prop} {N : Nat} {H : Hp} {vs : List MV} {xs : List V} {i : Nat} {v : MV} {x : V} (r : RMs G m P N H vs xs) (e : vs[i]? = some v) (q : xs[i]? = some x) : RMV G m P N H v x := by
  obtain ⟨y, ey, ry⟩ := paired_get r e
  rw [q] at ey; cases ey; exact ry
theorem lt_of {α β : Type} {R : α → β → Prop} {xs : List α} {ys : List β} (r : Paired R xs ys) {i : Nat} (h : i < xs.length) : ∃ y, ys[i]? = some y := by
  have := Paired.length r
  exact ⟨ys[i]'(by omega), List.getElem?_eq_getElem (by omega)⟩
/-- what stands at a value that is walked -/
theorem walk_sq {m : Nat → Addr} {P : Addr → Prop} {h : Sto} {H : Hp} {u : MV} {x : V} {l : List MV} (St : SR F.G m P h H) (r : RMV F.G m P h.length H u x) (e : itemsOf u h = some l) : ∃ a xs, x = .ref a ∧
    ((isTupV u = false ∧ (∀ m2 P2 h2 H2, Ext F.B m P h H m2 P2 h2 H2 → SqL F.G.K H2 a xs ∧ RMs F.G m2 P2 h2.length H2 l xs)) ∨ (isTupV u = true ∧ ∀ m2 P2 h2 H2, Ext F.B m P h H m2 P2 h2 H2 → SqT F.G.K H2 a xs ∧ RMs F.G m2 P2 h2.length H2 l xs)) := by
  cases u with
  | loc k =>
    obtain ⟨hk, rfl⟩ := r
    simp only [itemsOf] at e
    split at e
    · rename_i xs eo
      cases e
      obtain ⟨vs, q, rr⟩ := St.obj k _ eo
      refine ⟨_, vs, rfl, .inl ⟨rfl, fun m2 P2 h2 H2 x2 => ⟨(q.mono x2.sub (x2.pk St)).sq, rms_of_rvs (RVs.mono x2.sub (x2.pk St) _ _ rr)⟩⟩⟩
    · cases e
  | pv p =>
    cases p with
    | tup xs =>
      simp only [itemsOf, Option.some.injEq] at e
      subst e
      obtain ⟨a, vs, rfl, q, rr⟩ := r
      exact ⟨a, vs, rfl, .inr ⟨rfl, fun m2 P2 h2 H2 x2 => ⟨(q.mono x2.sub (x2.pk St)).sq, rms_of_rvs (RVs.mono x2.sub (x2.pk St) _ _ rr)⟩⟩⟩
    | lst xs =>
      simp only [itemsOf, Option.some.injEq] at e
      subst e
      obtain ⟨a, vs, rfl, ⟨q1, q2⟩, rr⟩ := r
      exact ⟨a, vs, rfl, .inl ⟨rfl, fun m2 P2 h2 H2 x2 => ⟨.of (x2.pk St _ _ q1 q2), rms_of_rvs (RVs.mono x2.sub (x2.pk St) _ _ rr)⟩⟩⟩
    | _ => simp [itemsOf] at e
theorem sqL_inj {K : PySem.W.Frag} {H : Hp} {a : Addr} {xs ys : List V} : True := trivial
theorem one_get {l : List MV} {i : Nat} {it : Item} (e : (l.map Item.one)[i]? = some it) : ∃ v, l[i]? = some v ∧ it = .one v := by
  rw [List.getElem?_map] at e
  cases q : l[i]? with
  | none => rw [q] at e; cases e
  | some v => rw [q] at e; exact ⟨v, rfl, (Option.some.inj e).symm⟩
theorem enum_get : ∀ {l : List MV} {k i : Nat} {it : Item}, (enumFrom k l)[i]? = some it → ∃ v, l[i]? = some v ∧ it = .many [.pv (.int ((k + i : Nat) : Int)), v]
  | [], _, _, _, e => by simp [enumFrom] at e
  | x :: l, k, 0, it, e => by simp [enumFrom] at e; exact ⟨x, rfl, by simp [e.symm]⟩
  | x :: l, k, i + 1, it, e => by
    simp only [enumFrom, List.getElem?_cons_succ] at e
    obtain ⟨v, h1, h2⟩ := enum_get e
    refine ⟨v, by simpa using h1, ?_⟩
    rw [h2]
    have : k + 1 + i = k + (i + 1) := by omega
    rw [this]
theorem enum_len : ∀ (k : Nat) (l : List MV), (enumFrom k l).length = l.length
  | _, [] => rfl
  | k, x :: l => by simp [enumFrom, enum_len (k + 1) l]
theorem zip_get : ∀ {l r : List MV} {i : Nat} {it : Item}, (zipI l r)[i]? = some it → ∃ v w, l[i]? = some v ∧ r[i]? = some w ∧ it = .many [v, w]
  | [], _, _, _, e => by simp [zipI] at e
  | _ :: _, [], _, _, e => by simp [zipI] at e
  | x :: l, y :: r, 0, it, e => by simp [zipI] at e; exact ⟨x, y, rfl, rfl, e.symm⟩
  | x :: l, y :: r, i + 1, it, e => by
    simp only [zipI, List.getElem?_cons_succ] at e
    obtain ⟨v, w, h1, h2, h3⟩ := zip_get e
    exact ⟨v, w, by simpa using h1, by simpa using h2, h3⟩
theorem zip_len : ∀ (l r : List MV), (zipI l r).length = min l.length r.length
  | [], _ => by simp [zipI]
  | _ :: _, [] => by simp [zipI]
  | x :: l, y :: r => by simp [zipI, zip_len l r]
/-- a new pair -/
theorem pair_new {m2 : Nat → Addr} {P2 : Addr → Prop} {h2 : Sto} {H2 : Hp} {vs : List MV} {xs : List V} {t : Addr} (s2 : SR F.G m2 P2 h2 H2) (r : RMs F.G m2 P2 h2.length H2 vs xs) (ht : H2 t = none) :
    ∃ P3, Ext F.B m2 P2 h2 H2 m2 P3 h2 (upd H2 t (.tup xs)) ∧ SR F.G m2 P3 h2 (upd H2 t (.tup xs)) ∧ RIt F.G m2 P3 h2.length (upd H2 t (.tup xs)) (.many vs) (.ref t) := by
  obtain ⟨s3, x3⟩ := s2.allocP (B := F.B) (u := .tup xs) ht
  exact ⟨_, x3, s3, t, xs, rfl, ⟨.inr rfl, upd_same⟩, x3.rms s2 r⟩
theorem wk_list {m : Nat → Addr} {P : Addr → Prop} {h : Sto} {H : Hp} {l : List MV} {a : Addr} {xs : List V} (q : ∀ m2 P2 h2 H2, Ext F.B m P h H m2 P2 h2 H2 → SqL F.G.K H2 a xs ∧ RMs F.G m2 P2 h2.length H2 l xs) : Wk F (l.map .one) (Itl F.G.K a) m P h H where
  go := fun m2 P2 h2 H2 i x2 s2 hi => by
    obtain ⟨q1, q2⟩ := q _ _ _ _ x2
    obtain ⟨y, ey⟩ := lt_of q2 (by simpa using hi)
    exact ⟨xs, y, q1, ey⟩
  yld := fun m2 P2 h2 H2 i it x H3 x2 s2 ei y => by
    obtain ⟨q1, q2⟩ := q _ _ _ _ x2
    obtain ⟨rfl, y⟩ := y
    obtain ⟨v, ev, rfl⟩ := one_get ei
    exact ⟨P2, Ext.refl, s2, rms_get q2 ev (y xs q1)⟩
  stop := fun m2 P2 h2 H2 x2 s2 => by
    obtain ⟨q1, q2⟩ := q _ _ _ _ x2
    exact ⟨xs, q1, by have := Paired.length q2; simp; omega⟩
theorem wk_tup {m : Nat → Addr} {P : Addr → Prop} {h : Sto} {H : Hp} {l : List MV} {a : Addr} {xs : List V} (q : ∀ m2 P2 h2 H2, Ext F.B m P h H m2 P2 h2 H2 → SqT F.G.K H2 a xs ∧ RMs F.G m2 P2 h2.length H2 l xs) : Wk F (l.map .one) (Itt F.G.K a) m P h H where
  go := fun m2 P2 h2 H2 i x2 s2 hi => by
    obtain ⟨q1, q2⟩ := q _ _ _ _ x2
    obtain ⟨y, ey⟩ := lt_of q2 (by simpa using hi)
    exact ⟨xs, y, q1, ey⟩
  yld := fun m2 P2 h2 H2 i it x H3 x2 s2 ei y => by
    obtain ⟨q1, q2⟩ := q _ _ _ _ x2
    obtain ⟨rfl, y⟩ := y
    obtain ⟨v, ev, rfl⟩ := one_get ei
    exact ⟨P2, Ext.refl, s2, rms_get q2 ev (y xs q1)⟩
  stop := fun m2 P2 h2 H2 x2 s2 => by
    obtain ⟨q1, q2⟩ := q _ _ _ _ x2
    exact ⟨xs, q1, by have := Paired.length q2; simp; omega⟩
theorem wk_enum {m : Nat → Addr} {P : Addr → Prop} {h : Sto} {H : Hp} {l : List MV} {a : Addr} {xs : List V} (q : ∀ m2 P2 h2 H2, Ext F.B m P h H m2 P2 h2 H2 → SqL F.G.K H2 a xs ∧ RMs F.G m2 P2 h2.length H2 l xs) : Wk F (enumFrom 0 l) (Ite F.G.K a) m P h H where
  go := fun m2 P2 h2 H2 i x2 s2 hi => by
    obtain ⟨q1, q2⟩ := q _ _ _ _ x2
    obtain ⟨y, ey⟩ := lt_of q2 (by rw [enum_len] at hi; exact hi)
    exact ⟨xs, y, q1, ey⟩
  yld := fun m2 P2 h2 H2 i it x H3 x2 s2 ei y => by
    obtain ⟨q1, q2⟩ := q _ _ _ _ x2
    obtain ⟨t, z, rfl, ht, rfl, y⟩ := y
    obtain ⟨v, ev, rfl⟩ := enum_get ei
    rw [Nat.zero_add]
    exact pair_new s2 (.cons rfl (.cons (rms_get q2 ev (y xs q1)) .nil)) ht
  stop := fun m2 P2 h2 H2 x2 s2 => by
    obtain ⟨q1, q2⟩ := q _ _ _ _ x2
    exact ⟨xs, q1, by have := Paired.length q2; rw [enum_len]; omega⟩
theorem wk_enumT {m : Nat → Addr} {P : Addr → Prop} {h : Sto} {H : Hp} {l : List MV} {a : Addr} {xs : List V} (q : ∀ m2 P2 h2 H2, Ext F.B m P h H m2 P2 h2 H2 → SqT F.G.K H2 a xs ∧ RMs F.G m2 P2 h2.length H2 l xs) : Wk F (enumFrom 0 l) (IteT F.G.K a) m P h H where
  go := fun m2 P2 h2 H2 i x2 s2 hi => by
    obtain ⟨q1, q2⟩ := q _ _ _ _ x2
    obtain ⟨y, ey⟩ := lt_of q2 (by rw [enum_len] at hi; exact hi)
    exact ⟨xs, y, q1, ey⟩
  yld := fun m2 P2 h2 H2 i it x H3 x2 s2 ei y => by
    obtain ⟨q1, q2⟩ := q _ _ _ _ x2
    obtain ⟨t, z, rfl, ht, rfl, y⟩ := y
    obtain ⟨v, ev, rfl⟩ := enum_get ei
    rw [Nat.zero_add]
    exact pair_new s2 (.cons rfl (.cons (rms_get q2 ev (y xs q1)) .nil)) ht
  stop := fun m2 P2 h2 H2 x2 s2 => by
    obtain ⟨q1, q2⟩ := q _ _ _ _ x2
    exact ⟨xs, q1, by have := Paired.length q2; rw [enum_len]; omega⟩
theorem wk_zip {m : Nat → Addr} {P : Addr → Prop} {h : Sto} {H : Hp} {l r : List MV} {a b : Addr} {xs ys : List V} (q : ∀ m2 P2 h2 H2, Ext F.B m P h H m2 P2 h2 H2 → SqL F.G.K H2 a xs ∧ RMs F.G m2 P2 h2.length H2 l xs)
    (p : ∀ m2 P2 h2 H2, Ext F.B m P h H m2 P2 h2 H2 → SqL F.G.K H2 b ys ∧ RMs F.G m2 P2 h2.length H2 r ys) : Wk F (zipI l r) (Itz F.G.K a b) m P h H where
  go := fun m2 P2 h2 H2 i x2 s2 hi => by
    obtain ⟨q1, q2⟩ := q _ _ _ _ x2
    obtain ⟨p1, p2⟩ := p _ _ _ _ x2
    rw [zip_len] at hi
    obtain ⟨y, ey⟩ := lt_of q2 (i := i) (by omega)
    obtain ⟨z, ez⟩ := lt_of p2 (i := i) (by omega)
    exact ⟨xs, ys, y, z, q1, p1, ey, ez⟩
  yld := fun m2 P2 h2 H2 i it x H3 x2 s2 ei y => by
    obtain ⟨q1, q2⟩ := q _ _ _ _ x2
    obtain ⟨p1, p2⟩ := p _ _ _ _ x2
    obtain ⟨t, z, z', rfl, ht, rfl, y, y'⟩ := y
    obtain ⟨v, w, ev, ew, rfl⟩ := zip_get ei
    exact pair_new s2 (.cons (rms_get q2 ev (y xs q1)) (.cons (rms_get p2 ew (y' ys p1)) .nil)) ht
  stop := fun m2 P2 h2 H2 x2 s2 => by
    obtain ⟨q1, q2⟩ := q _ _ _ _ x2
    obtain ⟨p1, p2⟩ := p _ _ _ _ x2
    refine ⟨xs, ys, q1, p1, ?_⟩
    have l1 := Paired.length q2
    have l2 := Paired.length p2
    rw [zip_len]
    by_cases hh : l.length ≤ r.length
    · exact .inl (by omega)
    · exact .inr (by omega)
theorem wk_zipT {m : Nat → Addr} {P : Addr → Prop} {h : Sto} {H : Hp} {l r : List MV} {a b : Addr} {xs ys : List V} (q : ∀ m2 P2 h2 H2, Ext F.B m P h H m2 P2 h2 H2 → SqT F.G.K H2 a xs ∧ RMs F.G m2 P2 h2.length H2 l xs)
    (p : ∀ m2 P2 h2 H2, Ext F.B m P h H m2 P2 h2 H2 → SqT F.G.K H2 b ys ∧ RMs F.G m2 P2 h2.length H2 r ys) : Wk F (zipI l r) (RZ.ItzT F.G.K a b) m P h H where
  go := fun m2 P2 h2 H2 i x2 s2 hi => by
    obtain ⟨q1, q2⟩ := q _ _ _ _ x2
    obtain ⟨p1, p2⟩ := p _ _ _ _ x2
    rw [zip_len] at hi
    obtain ⟨y, ey⟩ := lt_of q2 (i := i) (by omega)
    obtain ⟨z, ez⟩ := lt_of p2 (i := i) (by omega)
    exact ⟨xs, ys, y, z, q1, p1, ey, ez⟩
  yld := fun m2 P2 h2 H2 i it x H3 x2 s2 ei y => by
    obtain ⟨q1, q2⟩ := q _ _ _ _ x2
    obtain ⟨p1, p2⟩ := p _ _ _ _ x2
    obtain ⟨t, z, z', rfl, ht, rfl, y, y'⟩ := y
    obtain ⟨v, w, ev, ew, rfl⟩ := zip_get ei
    exact pair_new s2 (.cons (rms_get q2 ev (y xs q1)) (.cons (rms_get p2 ew (y' ys p1)) .nil)) ht
  stop := fun m2 P2 h2 H2 x2 s2 => by
    obtain ⟨q1, q2⟩ := q _ _ _ _ x2
    obtain ⟨p1, p2⟩ := p _ _ _ _ x2
    refine ⟨xs, ys, q1, p1, ?_⟩
    have l1 := Paired.length q2
    have l2 := Paired.length p2
    rw [zip_len]
    by_cases hh : l.length ≤ r.length
    · exact .inl (by omega)
    · exact .inr (by omega)
theorem wk_range {m : Nat → Addr} {P : Addr → Prop} {h : Sto} {H : Hp} {lo : Int} {k : Nat} : Wk F (rangeI lo k) (Itr lo k) m P h H where
  go := fun m2 P2 h2 H2 i x2 s2 hi => by simpa [rangeI, Itr] using hi
  yld := fun m2 P2 h2 H2 i it x H3 x2 s2 ei y => by
    obtain ⟨rfl, rfl⟩ := y
    refine ⟨P2, Ext.refl, s2, ?_⟩
    simp only [rangeI, List.getElem?_map, Option.map_eq_some_iff] at ei
    obtain ⟨j, ej, rfl⟩ := ei
    have := List.getElem?_eq_some_iff.mp ej
    obtain ⟨hj, ej⟩ := this
    simp only [List.getElem_range] at ej
    subst ej
    exact rfl
  stop := fun m2 P2 h2 H2 x2 s2 => by simp [rangeI, Itr]

/-! ### the forms -/
def iSeqA (K : PySem.W.Frag) (tl : TE) : TI := fun σ H R => tl σ H fun x H1 => ∃ a xs, x = .ref a ∧ ((SqL K H1 a xs ∧ R (Itl K a) H1) ∨ (SqT K H1 a xs ∧ R (Itt K a) H1))
theorem pi_seqA {tg l : Expr} {tl : TE} (hl : PE X l tl) : PI X tg l (iSeqA X.K tl) := by
  refine ⟨fun pins s σ H R I h => ?_⟩
  refine thn (hl.run pins s σ H _ I h) fun v s1 ⟨x, H1, I1, r1, q1⟩ => ?_
  obtain ⟨a, xs, e, q1⟩ := q1
  subst e
  cases r1
  have fresh : ∀ b, b ∈ [s1.heap.objs.size] → FpOk X pins H1 b := fun b hb => by
    have e : b = s1.heap.objs.size := by simpa using hb
    subst e
    exact I1.fpOk (Nat.le_refl _) (I1.hok.fresh (Nat.le_refl _))
  rcases q1 with ⟨hq, q⟩ | ⟨hq, q⟩
  · obtain ⟨its, rv, p, hz⟩ := I1.list hq
    refine wpAny_pyIter_list p.isList ?_
    exact ⟨s1.heap.objs.size, _, _, _, H1, rfl, I1.kept (t' := s1.toks) fun b o e => Heap.get?_push_of_some _ e, turn_list a _, ⟨_, Heap.get?_push_size _ rfl, rfl, rfl⟩, fresh, q⟩
  · obtain ⟨its, rv, p, hz⟩ := I1.tuple hq
    refine wpAny_pyIter_tuple (show s1.heap.IsTuple a its.toArray from p) ?_
    exact ⟨s1.heap.objs.size, _, _, _, H1, rfl, I1.kept (t' := s1.toks) fun b o e => Heap.get?_push_of_some _ e, turn_tuple a _, ⟨_, Heap.get?_push_size _ rfl, rfl, rfl⟩, fresh, q⟩
theorem i_val (g : Good T S F n X) {a : IE} {tg l : Expr} (ha : PE X l (tE F (evE (cnOf T F n) a))) : PI X tg l (tI F (evI (cnOf T F n) (.val a))) := by
  refine PI.imp (pi_seqA ha) ?_
  rintro σ H R ⟨e, h, m, P, ⟨re, St⟩, a0⟩
  rw [evI] at a0
  refine ⟨e, h, m, P, ⟨re, St⟩, ?_⟩
  revert a0
  cases evE (cnOf T F n) a e h with
  | exc c fs h1 => exact fun a => a
  | bad => exact fun a => a
  | ok v =>
    obtain ⟨v, h1⟩ := v
    intro a0 x H1 m1 P1 x1 s1 q1
    dsimp only [seq1] at a0
    split at a0
    · rename_i its h' ee
      split at ee
      · rename_i l' el
        cases ee
        obtain ⟨a, xs, rfl, w⟩ := walk_sq s1 q1 el
        refine ⟨a, xs, rfl, ?_⟩
        rcases w with ⟨_, w⟩ | ⟨_, w⟩
        · exact .inl ⟨by rw [g.hK]; exact (w _ _ _ _ Ext.refl).1, by rw [g.hK]; exact a0 _ H1 m1 P1 x1 s1 (wk_list w)⟩
        · exact .inr ⟨by rw [g.hK]; exact (w _ _ _ _ Ext.refl).1, by rw [g.hK]; exact a0 _ H1 m1 P1 x1 s1 (wk_tup w)⟩
      · cases ee
    · rename_i ee
      split at ee <;> cases ee
    · exact a0.elim
theorem ta_one {a : IE} {σ : St} {H : Hp} {R : List V → Hp → Prop} (t : tE F (evE (cnOf T F n) a) σ H fun x H1 => R [x] H1) : tCons (tE F (evE (cnOf T F n) a)) tNil σ H R := t
theorem i_rng1 (g : Good T S F n X) {a : IE} {tg l : Expr} {x : Str} {p pos : Pos} (h1 : bltB T S x "range" = true) (hm : mE T S a l = true) (ha : PE X l (tE F (evE (cnOf T F n) a))) : PI X tg (.Call (.Name x p) [l] [] pos) (tI F (evI (cnOf T F n) (.rng1 a))) := by
  obtain ⟨rfl, g1, m1⟩ := bltB_ok g h1
  have hs : starEach (l :: []) X.env = (false, eval l X.env) :: starEach [] X.env := star_of hm
  refine PI.imp (pi_range1 g1 m1 (pa_cons ha pa_nil hs) hs) ?_
  rintro σ H R ⟨e, h, m, P, ⟨re, St⟩, a0⟩
  rw [evI] at a0
  refine ⟨e, h, m, P, ⟨re, St⟩, ?_⟩
  revert a0
  cases evE (cnOf T F n) a e h with
  | exc c fs h1 => exact fun a => a
  | bad => exact fun a => a
  | ok v =>
    obtain ⟨v, h1⟩ := v
    intro a0 x H1 m1 P1 x1 s1 q1
    dsimp only [seq1] at a0
    split at a0
    · rename_i its h' ee
      split at ee
      · split at ee
        · rename_i j hj
          cases ee
          unfold small at hj
          simp only [Bool.and_eq_true, decide_eq_true_eq] at hj
          exact ⟨j, by rw [show x = .int j from q1], hj.1, hj.2, a0 _ H1 m1 P1 x1 s1 wk_range⟩
        · cases ee
      · cases ee
    · rename_i ee
      split at ee
      · split at ee <;> cases ee
      · cases ee
    · exact a0.elim
theorem i_rng2 (g : Good T S F n X) {a b : IE} {tg l r : Expr} {x : Str} {p pos : Pos} (h1 : bltB T S x "range" = true) (hm : mE T S a l = true) (hm2 : mE T S b r = true) (ha : PE X l (tE F (evE (cnOf T F n) a))) (hb : PE X r (tE F (evE (cnOf T F n) b))) :
    PI X tg (.Call (.Name x p) [l, r] [] pos) (tI F (evI (cnOf T F n) (.rng2 a b))) := by
  obtain ⟨rfl, g1, m1⟩ := bltB_ok g h1
  have hs : starEach (l :: [r]) X.env = (false, eval l X.env) :: starEach [r] X.env := star_of hm
  have hs2 : starEach (r :: []) X.env = (false, eval r X.env) :: starEach [] X.env := star_of hm2
  refine PI.imp (pi_range2 g1 m1 (pa_cons ha (pa_cons hb pa_nil hs2) hs) (by rw [hs, hs2]; try rfl) hs2) ?_
  rintro σ H R ⟨e, h, m, P, ⟨re, St⟩, a0⟩
  rw [evI] at a0
  refine ⟨e, h, m, P, ⟨re, St⟩, ?_⟩
  revert a0
  cases evE (cnOf T F n) a e h with
  | exc c fs h1 => exact fun a => a
  | bad => exact fun a => a
  | ok v =>
    obtain ⟨v, h1⟩ := v
    intro a0 x H1 m1 P1 x1 s1 q1
    refine ⟨e, h1, m1, P1, ⟨x1.env St re, s1⟩, ?_⟩
    dsimp only [seq1] at a0
    revert a0
    cases evE (cnOf T F n) b e h1 with
    | exc c fs h2 => exact fun a0 => Aft0.af x1 a0
    | bad => exact fun a0 => a0
    | ok w =>
      obtain ⟨w, h2⟩ := w
      intro a0 y H2 m2 P2 x2 s2 q2
      dsimp only at a0
      have q1' := x2.rmv s1 q1
      split at a0
      · rename_i its h' ee
        split at ee
        · split at ee
          · rename_i i j hj
            cases ee
            obtain ⟨hi, hj⟩ := hj
            unfold small at hi hj
            simp only [Bool.and_eq_true, decide_eq_true_eq] at hi hj
            exact ⟨i, j, by rw [show x = .int i from q1', show y = .int j from q2], ⟨hi.1, hi.2, hj.1, hj.2⟩, a0 _ H2 m2 P2 (x1.trans x2) s2 wk_range⟩
          · cases ee
        · cases ee
      · rename_i ee
        split at ee
        · split at ee <;> cases ee
        · cases ee
      · exact a0.elim
theorem i_enum (g : Good T S F n X) {a : IE} {elts : List Expr} {kk : Nat} {tpos : Pos} {l : Expr} {x : Str} {p pos : Pos} (h1 : bltB T S x "enumerate" = true) (hm : mE T S a l = true) (ha : PE X l (tE F (evE (cnOf T F n) a))) :
    PI X (.Tuple elts kk tpos) (.Call (.Name x p) [l] [] pos) (tI F (evI (cnOf T F n) (.enum a))) := by
  obtain ⟨rfl, g1, m1⟩ := bltB_ok g h1
  have hs : starEach (l :: []) X.env = (false, eval l X.env) :: starEach [] X.env := star_of hm
  refine PI.imp (pi_enumA g1 m1 (pa_cons ha pa_nil hs) hs) ?_
  rintro σ H R ⟨e, h, m, P, ⟨re, St⟩, a0⟩
  rw [evI] at a0
  refine ⟨e, h, m, P, ⟨re, St⟩, ?_⟩
  revert a0
  cases evE (cnOf T F n) a e h with
  | exc c fs h1 => exact fun a => a
  | bad => exact fun a => a
  | ok v =>
    obtain ⟨v, h1⟩ := v
    intro a0 x H1 m1 P1 x1 s1 q1
    dsimp only [seq1] at a0
    split at a0
    · rename_i its h' ee
      split at ee
      · rename_i l' el
        cases ee
        obtain ⟨a, xs, rfl, w⟩ := walk_sq s1 q1 el
        refine ⟨a, xs, rfl, ?_⟩
        rcases w with ⟨_, w⟩ | ⟨_, w⟩
        · exact .inl ⟨by rw [g.hK]; exact (w _ _ _ _ Ext.refl).1, by rw [g.hK]; exact a0 _ H1 m1 P1 x1 s1 (wk_enum w)⟩
        · exact .inr ⟨by rw [g.hK]; exact (w _ _ _ _ Ext.refl).1, by rw [g.hK]; exact a0 _ H1 m1 P1 x1 s1 (wk_enumT w)⟩
      · cases ee
    · rename_i ee
      split at ee <;> cases ee
    · exact a0.elim
theorem i_zip (g : Good T S F n X) {a b : IE} {elts : List Expr} {kk : Nat} {tpos : Pos} {l r : Expr} {x : Str} {p pos : Pos} (h1 : bltB T S x "zip" = true) (hm : mE T S a l = true) (hm2 : mE T S b r = true) (ha : PE X l (tE F (evE (cnOf T F n) a))) (hb : PE X r (tE F (evE (cnOf T F n) b))) :
    PI X (.Tuple elts kk tpos) (.Call (.Name x p) [l, r] [] pos) (tI F (evI (cnOf T F n) (.zip a b))) := by
  obtain ⟨rfl, g1, m1⟩ := bltB_ok g h1
  have hs : starEach (l :: [r]) X.env = (false, eval l X.env) :: starEach [r] X.env := star_of hm
  have hs2 : starEach (r :: []) X.env = (false, eval r X.env) :: starEach [] X.env := star_of hm2
  refine PI.imp (RZ.pi_zipA g1 m1 (pa_cons ha (pa_cons hb pa_nil hs2) hs) hs (by rw [hs2]; try rfl)) ?_
  rintro σ H R ⟨e, h, m, P, ⟨re, St⟩, a0⟩
  rw [evI] at a0
  refine ⟨e, h, m, P, ⟨re, St⟩, ?_⟩
  revert a0
  cases evE (cnOf T F n) a e h with
  | exc c fs h1 => exact fun a => a
  | bad => exact fun a => a
  | ok v =>
    obtain ⟨v, h1⟩ := v
    intro a0 x H1 m1 P1 x1 s1 q1
    refine ⟨e, h1, m1, P1, ⟨x1.env St re, s1⟩, ?_⟩
    dsimp only [seq1] at a0
    revert a0
    cases evE (cnOf T F n) b e h1 with
    | exc c fs h2 => exact fun a0 => Aft0.af x1 a0
    | bad => exact fun a0 => a0
    | ok w =>
      obtain ⟨w, h2⟩ := w
      intro a0 y H2 m2 P2 x2 s2 q2
      dsimp only at a0
      have q1' := x2.rmv s1 q1
      by_cases ht : isTupV v = isTupV w
      · simp only [ht, if_true] at a0
        cases e1 : itemsOf v h2 with
        | none => rw [e1] at a0; exact a0.elim
        | some l1 =>
          cases e2 : itemsOf w h2 with
          | none => rw [e1, e2] at a0; exact a0.elim
          | some l2 =>
            rw [e1, e2] at a0
            obtain ⟨a, xs, rfl, w1⟩ := walk_sq s2 q1' e1
            obtain ⟨b, ys, rfl, w2⟩ := walk_sq s2 q2 e2
            refine ⟨a, b, xs, ys, rfl, ?_⟩
            rw [g.hK]
            rcases w1 with ⟨t1, w1⟩ | ⟨t1, w1⟩
            · rcases w2 with ⟨t2, w2⟩ | ⟨t2, w2⟩
              · exact .inl ⟨(w1 _ _ _ _ Ext.refl).1, (w2 _ _ _ _ Ext.refl).1, a0 _ H2 m2 P2 (x1.trans x2) s2 (wk_zip w1 w2)⟩
              · rw [t1, t2] at ht; cases ht
            · rcases w2 with ⟨t2, w2⟩ | ⟨t2, w2⟩
              · rw [t1, t2] at ht; cases ht
              · exact .inr ⟨(w1 _ _ _ _ Ext.refl).1, (w2 _ _ _ _ Ext.refl).1, a0 _ H2 m2 P2 (x1.trans x2) s2 (wk_zipT w1 w2)⟩
      · simp only [ht, if_false] at a0
end
end MI

/-! MiS14: targets; comprehensions -/
namespace MI
open PySem PySem.Spec L2
open PyProof.Rows hiding St
section
variable {T : Tb} {S : Sc} {F : Fx} {n : Nat} {X : Cx}
/-! ### targets -/
def gNs : List Nat → TGs
  | [] => gNil
  | i :: l => gCons (gName i) (gNs l)
def gOf (K : PySem.W.Frag) : TG → L2.TG
  | .nm i => gName i
  | .tp l => gTup K l.length (gNs l)
theorem Good.loc (g : Good T S F n X) {x : Str} (h : stoB S x = true) : L2.Loc X.env.scope x ∧ (X.fn x = true ∨ X.env.scope.names.lookup x = some .local) := by
  unfold stoB at h
  simp only [Bool.or_eq_true, Bool.and_eq_true] at h
  unfold L2.Loc
  rw [g.sc]
  rcases h with h | ⟨h1, h2⟩
  · have e := eq_of_beq h
    exact ⟨.inl e, .inr e⟩
  · exact ⟨.inr (eq_of_beq h1), .inl (g.cel x h2)⟩
theorem pg_nm (g : Good T S F n X) {i : Nat} {x : Str} {p : Pos} (h1 : (S.N[i]? == some x) = true) (h2 : stoB S x = true) : PG X (.Name x p) (gName i) := by
  obtain ⟨l1, l2⟩ := g.loc h2
  exact pg_name (by rw [g.N]; exact g.nd) (by rw [g.N]; exact eq_of_beq h1) l1 l2
theorem nmB_cons {i : Nat} {l : List Nat} {es : List Expr} (h : nmB S (i :: l) es = true) : ∃ x p rest, es = .Name x p :: rest ∧ (S.N[i]? == some x) = true ∧ stoB S x = true ∧ nmB S l rest = true := by
  unfold nmB at h
  split at h
  · exact absurd (by assumption : i :: l = []) (by simp)
  · rename_i e
    cases e
    simp only [Bool.and_eq_true] at h
    exact ⟨_, _, _, rfl, h.1.1, h.1.2, h.2⟩
  · cases h
theorem nmB_nil {es : List Expr} (h : nmB S [] es = true) : es = [] := by
  unfold nmB at h
  split at h
  · rfl
  · rename_i e; cases e
  · cases h
theorem pgs_nms (g : Good T S F n X) : ∀ {l : List Nat} {es : List Expr}, nmB S l es = true → PGs X es (gNs l) ∧ (assignEach es X.env).length = l.length ∧ (assignEach es X.env).findIdx? (·.1) = none
  | [], es, h => by
    cases nmB_nil h
    exact ⟨pgs_nil, rfl, rfl⟩
  | i :: l, es, h => by
    obtain ⟨x, p, es, rfl, h1, h2, h3⟩ := nmB_cons h
    obtain ⟨a, b, c⟩ := pgs_nms g h3
    refine ⟨pgs_cons (pg_nm g h1 h2) a rfl, ?_, ?_⟩
    · show (assignEach es X.env).length + 1 = l.length + 1
      rw [b]
    · show List.findIdx? (·.1) ((false, assign (.Name x p) X.env) :: assignEach es X.env) = none
      rw [List.findIdx?_cons]
      simp only [Bool.false_eq_true, if_false]
      rw [c]; try rfl
theorem pg_of (g : Good T S F n X) {tg : TG} {e : Expr} (h : tgB S tg e = true) : PG X e (gOf X.K tg) := by
  cases tg with
  | nm i =>
    cases e <;> first | (simp [tgB] at h; done) | skip
    simp only [tgB, Bool.and_eq_true] at h
    exact pg_nm g h.1 h.2
  | tp l =>
    cases e <;> first | (simp [tgB] at h; done) | skip
    simp only [tgB] at h
    obtain ⟨a, b, c⟩ := pgs_nms g h
    exact pg_tup g.calm a b c
theorem wipe_get {σ : St} {j : Nat} : ∀ {vs : List Nat}, (L2.wipe σ vs)[j]? = if j ∈ vs then (σ[j]?.map fun _ => none) else σ[j]?
  | [] => by simp [L2.wipe]
  | v :: vs => by
    unfold L2.wipe
    by_cases e : v = j
    · subst e
      by_cases hv : v < σ.length
      · rw [List.getElem?_set_self (by rw [wipe_length]; exact hv)]
        simp [hv]
      · rw [List.getElem?_eq_none (by rw [List.length_set, wipe_length]; omega)]
        have : σ[v]? = none := List.getElem?_eq_none (by omega)
        simp [this]
    · rw [List.getElem?_set_ne e, wipe_get]
      have : j ∈ v :: vs ↔ j ∈ vs := by simp [Ne.symm e]
      simp only [this]
theorem wipe_set {σ : St} {i : Nat} {v : Option V} {vs : List Nat} (h : i ∈ vs) : L2.wipe (σ.set i v) vs = L2.wipe σ vs := by
  apply List.ext_getElem?
  intro j
  rw [wipe_get, wipe_get]
  by_cases e : i = j
  · subst e
    simp only [h, if_true]
    by_cases hl : i < σ.length
    · rw [List.getElem?_set_self hl, List.getElem?_eq_getElem hl]; try rfl
    · rw [List.getElem?_eq_none (by rw [List.length_set]; omega), List.getElem?_eq_none (by omega)]
  · rw [List.getElem?_set_ne e]
theorem REnv.wipe {G : Gb} {m : Nat → Addr} {P : Addr → Prop} {N : Nat} {H : Hp} {e : Env} {σ : St} (r : REnv G m P N H e σ) : ∀ own : List Nat, REnv G m P N H (MI.wipe e own) (L2.wipe σ own)
  | [] => r
  | v :: vs => (REnv.wipe r vs).unset
/-- an item is given to names -/
theorem setAll_ok {G : Gb} {m : Nat → Addr} {P : Addr → Prop} {N : Nat} {H : Hp} {Q : St → Hp → Prop} : ∀ {l : List Nat} {vs : List MV} {xs : List V} {e e' : Env} {σ : St}, setAll l vs e = some e' → REnv G m P N H e σ → RMs G m P N H vs xs →
    (∀ σ', REnv G m P N H e' σ' → (∀ own : List Nat, l.all own.contains = true → L2.wipe σ' own = L2.wipe σ own) → Q σ' H) → gNs l xs σ H Q
  | [], vs, xs, e, e', σ, h, re, r, q => by
    cases vs with
    | nil =>
      simp only [setAll, Option.some.injEq] at h
      subst h
      cases r
      exact ⟨rfl, q σ re fun _ _ => rfl⟩
    | cons _ _ => simp [setAll] at h
  | i :: l, vs, xs, e, e', σ, h, re, r, q => by
    cases vs with
    | nil => simp [setAll] at h
    | cons v vs =>
      simp only [setAll] at h
      cases r with
      | cons r1 rt =>
        rename_i x xs
        refine ⟨x, xs, rfl, setAll_ok h (re.set r1) rt fun σ' re' hw => q σ' re' fun own ho => ?_⟩
        simp only [List.all_cons, Bool.and_eq_true] at ho
        rw [hw own ho.2]
        exact wipe_set (List.contains_iff_mem.mp ho.1)
theorem setAll_len : ∀ {l : List Nat} {vs : List MV} {e e' : Env}, setAll l vs e = some e' → vs.length = l.length
  | [], [], _, _, _ => rfl
  | [], _ :: _, _, _, h => by simp [setAll] at h
  | _ :: _, [], _, _, h => by simp [setAll] at h
  | i :: l, v :: vs, e, e', h => by
    simp only [setAll] at h
    simp [setAll_len h]
theorem give_ok {tg : TG} {x : Item} {h : Sto} {e e' : Env} {σ : St} {m : Nat → Addr} {P : Addr → Prop} {H : Hp} {v : V} {Q : St → Hp → Prop} (ge : give tg x h e = some e') (re : REnv F.G m P h.length H e σ) (r : RIt F.G m P h.length H x v)
    (q : ∀ σ', REnv F.G m P h.length H e' σ' → (∀ own : List Nat, tgIn own tg = true → L2.wipe σ' own = L2.wipe σ own) → Q σ' H) : gOf F.G.K tg v σ H Q := by
  cases tg with
  | nm i =>
    cases x with
    | one u =>
      simp only [give, Option.some.injEq] at ge
      subst ge
      exact q _ (re.set r) fun own ho => wipe_set (List.contains_iff_mem.mp ho)
    | many us =>
      simp only [give] at ge
      split at ge
      · rename_i ps ep
        cases ge
        obtain ⟨a, xs, rfl, ⟨pa, ha⟩, rr⟩ := r
        refine q _ (re.set (v := .pv (.tup ps)) ⟨a, xs, rfl, .inl ⟨pa, .inl ha⟩, pures_rms rr ep⟩) fun own ho => wipe_set (List.contains_iff_mem.mp ho)
      · cases ge
  | tp l =>
    cases x with
    | one u =>
      cases u with
      | loc k => simp [give] at ge
      | pv p =>
        cases p with
        | tup xs =>
          simp only [give] at ge
          obtain ⟨a, vs, rfl, pt, rr⟩ := r
          have rm : RMs F.G m P h.length H (xs.map .pv) vs := rms_of_rvs rr
          have hl := setAll_len ge
          have hl2 := Paired.length rm
          exact ⟨a, vs, rfl, pt.sq, by omega, setAll_ok ge re rm q⟩
        | _ => simp [give] at ge
    | many us =>
      simp only [give] at ge
      obtain ⟨a, xs, rfl, ⟨pa, ha⟩, rr⟩ := r
      have hl := setAll_len ge
      have hl2 := Paired.length rr
      exact ⟨a, xs, rfl, .inl (.inl ha), by omega, setAll_ok ge re rr q⟩
end
end MI

/-! MiS15: comprehensions -/
namespace MI
open PySem PySem.Spec L2
open PyProof.Rows hiding St
section
variable {T : Tb} {S : Sc} {F : Fx} {n : Nat} {X : Cx} {G : Gb} {B : Nat} {m m2 : Nat → Addr} {P P2 : Addr → Prop} {h h2 : Sto} {H H2 : Hp} {p : Addr}
/-- an object that is not the evaluator's -/
structure Apart (m : Nat → Addr) (P : Addr → Prop) (h : Sto) (p : Addr) : Prop where
  nP : ¬ P p
  nr : ∀ k o, h[k]? = some o → o.isOpen = true → m k ≠ p
theorem Apart.fresh (St : SR G m P h H) (hp : H p = none) : Apart m P h p :=
  ⟨fun q => St.pd p q hp, fun k o e ho z => by
    obtain ⟨u', e', _⟩ := St.root e ho
    rw [z, hp] at e'; cases e'⟩
theorem Apart.ext (a : Apart m P h p) (hp : H p ≠ none) (x : Ext B m P h H m2 P2 h2 H2) : Apart m2 P2 h2 p :=
  ⟨fun q => (x.pn p q).elim a.nP fun z => z.elim hp fun ⟨n, o, e, ho, z⟩ => a.nr n o e ho z, fun k o e ho z => by
    by_cases hk : k < h.length
    · obtain ⟨o1, e1, q1⟩ := x.lk k o hk e ho
      rw [x.agree k hk] at z
      exact a.nr k o1 e1 q1 z
    · have q := x.new k (by omega) (lt_get e)
      rw [z] at q
      exact hp q⟩
theorem Apart.kp {u : HO} (a : Apart m P h p) : ∀ b o, P b → H b = some o → upd H p u b = some o := fun b o q e => by rw [upd_ne (fun z => a.nP (by rw [← z]; exact q))]; exact e
theorem SR.over {u : HO} (St : SR G m P h H) (a : Apart m P h p) : SR G m P h (upd H p u) := by
  refine ⟨fun k o e => ?_, St.inj, St.np, fun b q => ?_⟩
  · exact RO.mono (fun _ _ => rfl) (Nat.le_refl _) (fun _ q => q) a.kp (fun ho u e' => by rw [upd_ne (a.nr k o e ho)]; exact e') (St.obj k o e)
  · by_cases z : b = p
    · subst z; rw [upd_same]; simp
    · rw [upd_ne z]; exact St.pd b q
theorem Ext.post {u : HO} (hp : H p = none) (x : Ext B m P h H m2 P2 h2 H2) : Ext B m P h H m2 P2 h2 (upd H2 p u) := by
  refine ⟨x.len, x.agree, x.sub, fun a o e nr => ?_, x.lk, x.new, fun a q => ?_, x.cl, x.pn⟩
  · have ne : a ≠ p := fun z => by rw [z, hp] at e; cases e
    rw [upd_ne ne]; exact x.fr a o e nr
  · by_cases z : a = p
    · subst z; rw [upd_same]; simp
    · rw [upd_ne z]; exact x.dom a q
/-- the list at p is taken in: it may change -/
theorem adopt_r {m0 : Nat → Addr} {P0 : Addr → Prop} {h0 : Sto} {H0 : Hp} {vs : List MV} {xs : List V} (St : SR G m P h H) (hp0 : H0 p = none) (x : Ext B m0 P0 h0 H0 m P h H) (a : Apart m P h p) (hp : H p = some (.lst xs)) (r : RMs G m P h.length H vs xs) :
    SR G (mAt m h.length p) P (h ++ [.lst vs]) H ∧ Ext B m0 P0 h0 H0 (mAt m h.length p) P (h ++ [.lst vs]) H := by
  have hl : (h ++ [MO.lst vs]).length = h.length + 1 := by simp
  have ag : ∀ k, k < h.length → mAt m h.length p k = m k := fun k hk => mAt_ne (by omega)
  have hle := x.len
  refine ⟨⟨fun k o e => ?_, fun i j oi oj ei ej hi hj e => ?_, fun k o e ho q => ?_, fun b q => St.pd b q⟩, ⟨by omega, fun k hk => ?_, x.sub, x.fr, fun k o' hk e ho => ?_, fun k h1 h3 => ?_, x.dom, fun k o' hB hk e j hj => ?_, x.pn⟩⟩
  · rcases get_app e with ⟨hk, e⟩ | ⟨rfl, rfl⟩
    · rw [ag k hk, hl]
      exact RO.mono ag (by omega) (fun _ q => q) (fun _ _ _ e => e) (fun _ u e => e) (St.obj k o e)
    · rw [mAt_same, hl]
      exact ⟨xs, hp, RMs.mono ag (by omega) (fun _ q => q) (fun _ _ _ e => e) r⟩
  · rcases get_app ei with ⟨h1, ei⟩ | ⟨h1, e1⟩
    · rcases get_app ej with ⟨h3, ej⟩ | ⟨h3, e2⟩
      · rw [ag i h1, ag j h3] at e
        exact St.inj i j _ _ ei ej hi hj e
      · rw [h3, mAt_same, ag i h1] at e
        exact absurd e (a.nr i _ ei hi)
    · rcases get_app ej with ⟨h3, ej⟩ | ⟨h3, e2⟩
      · rw [h1, mAt_same, ag j h3] at e
        exact absurd e.symm (a.nr j _ ej hj)
      · omega
  · rcases get_app e with ⟨hk, e⟩ | ⟨rfl, rfl⟩
    · rw [ag k hk] at q; exact St.np k o e ho q
    · rw [mAt_same] at q; exact a.nP q
  · rw [ag k (by omega)]; exact x.agree k hk
  · rw [List.getElem?_append_left (by omega)] at e
    exact x.lk k o' hk e ho
  · by_cases hk : k < h.length
    · rw [ag k hk]; exact x.new k h1 hk
    · have : k = h.length := by omega
      subst this
      rw [mAt_same]; exact hp0
  · rw [List.getElem?_append_left (by omega)] at e
    exact x.cl k o' hB hk e j hj
/-- .. it stays as it is -/
theorem adopt_p {m0 : Nat → Addr} {P0 : Addr → Prop} {h0 : Sto} {H0 : Hp} (St : SR G m P h H) (hp0 : H0 p = none) (x : Ext B m0 P0 h0 H0 m P h H) (a : Apart m P h p) (hp : H p ≠ none) :
    SR G m (fun b => P b ∨ b = p) h H ∧ Ext B m0 P0 h0 H0 m (fun b => P b ∨ b = p) h H := by
  refine ⟨⟨fun k o e => ?_, St.inj, fun k o e ho q => ?_, fun b q => ?_⟩, ⟨x.len, x.agree, fun b q => .inl (x.sub b q), x.fr, x.lk, x.new, x.dom, x.cl, fun b q => ?_⟩⟩
  · exact RO.mono (fun _ _ => rfl) (Nat.le_refl _) (fun _ q => .inl q) (fun _ _ _ e => e) (fun _ u e => e) (St.obj k o e)
  · rcases q with q | q
    · exact St.np k o e ho q
    · exact a.nr k o e ho q
  · rcases q with q | rfl
    · exact St.pd b q
    · exact hp
  · rcases q with q | rfl
    · exact x.pn b q
    · exact .inr (.inl hp0)
/-! ### a comprehension -/
/-- a block's wishes: no error -/
def noX (F : Fx) : Fx := ⟨F.G, F.B, fun _ _ _ _ => False⟩
def blkS (S : Sc) (scope : Scope) : Sc := ⟨S.N, relS scope S.sc, fun x => scope.names.lookup x == some .cell⟩
theorem Good.blk (g : Good T S F n X) {scope : Scope} {s : Shared} {C : Addr} {cl : List (Str × Addr)} {fp : List Addr} : Good T (blkS S scope) (noX F) n (X.blk s H scope (compEnvC scope cl C X.env) fp) where
  prog := g.prog
  w := g.w
  K := g.K
  mg := g.mg
  base := g.base
  G := g.G
  N := g.N
  nd := g.nd
  sc := by show relS scope X.env.scope = relS scope S.sc; rw [g.sc]
  room := g.room
  gd := g.gd
  calm := g.calm
  tk := fun u s' ⟨_, _, _, _, _, _, _, _, _, _, _, _, _, _, _, _, w⟩ => w
  cel := fun x h => h
  ok := g.ok
def compF (c : Cn) (tg : TG) (own : List Nat) (cs : IEs) (el : IE) (e : Env) : Item → Sto → R (Option MV × Sto) := fun x h => match give tg x h (MI.wipe e own) with
          | some e' => (match evC c cs e' h with
            | .ok (true, h) => (match evE c el e' h with
              | .ok (v, h) => .ok (some v, h)
              | _ => .bad)
            | .ok (false, h) => .ok (none, h)
            | _ => .bad)
          | none => .bad
theorem evE_comp {c : Cn} {new : Bool} {tg : TG} {own : List Nat} {it : IT} {cs : IEs} {el : IE} {e : Env} {h : Sto} : evE c (.comp new tg own it cs el) e h = (match evI c it e h with
      | .ok (its, h) => seqL (turns (compF c tg own cs el e) its h) fun vs h => oLst new vs h
      | .exc c fs h => .exc c fs h
      | .bad => .bad) := by rw [evE]; try rfl
theorem turns_get {f : Item → Sto → R (Option MV × Sto)} {x : Item} {xs : List Item} {h : Sto} {r : R (List MV × Sto)} (e : turns f (x :: xs) h = r) (hf : ∀ x h c fs h', f x h ≠ .exc c fs h') (hr : ∀ c fs h', r ≠ .exc c fs h') (hb : r ≠ .bad) :
    ∃ o h1 vs h2, f x h = .ok (o, h1) ∧ turns f xs h1 = .ok (vs, h2) ∧ r = .ok ((match o with | some v => v :: vs | none => vs), h2) := by
  simp only [turns] at e
  cases q : f x h with
  | ok v =>
    obtain ⟨o, h1⟩ := v
    rw [q] at e
    dsimp only at e
    cases q2 : turns f xs h1 with
    | ok w =>
      obtain ⟨vs, h2⟩ := w
      rw [q2] at e
      exact ⟨o, h1, vs, h2, rfl, q2, e.symm⟩
    | exc c fs h2 => rw [q2] at e; exact absurd e.symm (hr c fs h2)
    | bad => rw [q2] at e; exact absurd e.symm hb
  | exc c fs h1 => exact absurd q (hf x h c fs h1)
  | bad => rw [q] at e; exact absurd e.symm hb
theorem compF_noexc {c : Cn} {tg : TG} {own : List Nat} {cs : IEs} {el : IE} {e : Env} {x : Item} {h : Sto} {k : Nat} {fs : List PV} {h' : Sto} : compF c tg own cs el e x h ≠ .exc k fs h' := by
  unfold compF
  intro q
  split at q
  · split at q
    · split at q <;> cases q
    · cases q
    · cases q
  · cases q
theorem turns_noexc {f : Item → Sto → R (Option MV × Sto)} (hf : ∀ x h c fs h', f x h ≠ .exc c fs h') : ∀ {xs : List Item} {h : Sto} {k : Nat} {fs : List PV} {h' : Sto}, turns f xs h ≠ .exc k fs h'
  | [], h, k, fs, h', q => by cases q
  | x :: xs, h, k, fs, h', q => by
    simp only [turns] at q
    cases e : f x h with
    | ok v =>
      obtain ⟨o, h1⟩ := v
      rw [e] at q
      dsimp only at q
      cases e2 : turns f xs h1 with
      | ok w => rw [e2] at q; cases q
      | exc c fs h2 => exact turns_noexc hf e2
      | bad => rw [e2] at q; cases q
    | exc c fs h1 => exact hf _ _ _ _ _ e
    | bad => rw [e] at q; cases q
theorem wipe_wipe {σ : St} {vs : List Nat} : L2.wipe (L2.wipe σ vs) vs = L2.wipe σ vs := by
  apply List.ext_getElem?
  intro j
  rw [wipe_get, wipe_get]
  by_cases e : j ∈ vs
  · simp only [e, if_true]
    cases σ[j]? <;> rfl
  · simp only [e, if_false]
/-- what holds at a turn: D the new list -/
structure LcI (F : Fx) (m0 : Nat → Addr) (P0 : Addr → Prop) (h0 : Sto) (H0 : Hp) (D : Addr) (f : Item → Sto → R (Option MV × Sto)) (its : List Item) (out : List MV) (hout : Sto) (i : Nat) (H : Hp) : Prop where
  le : i ≤ its.length
  at_ : ∃ h m P vs acc rest, Ext F.B m0 P0 h0 H0 m P h H ∧ SR F.G m P h H ∧ H D = some (.lst acc) ∧ Apart m P h D ∧ RMs F.G m P h.length H vs acc ∧ turns f (its.drop i) h = .ok (rest, hout) ∧ vs ++ rest = out
theorem lc_t (g : Good T S F n X) {new : Bool} {tg : TG} {own : List Nat} {it : IT} {cs : IEs} {el : IE} {σ : St} {Q : VK} (hin : tgIn own tg = true) (t : tE F (evE (cnOf T F n) (.comp new tg own it cs el)) σ H Q) :
    tLc (tI F (evI (cnOf T F n) it)) (gOf X.K tg) (tT (noX F) (evC (cnOf T F n) cs)) (tE (noX F) (evE (cnOf T F n) el)) own σ H Q := by
  obtain ⟨e, h, m, P, ⟨re, St⟩, a0⟩ := t
  rw [evE_comp] at a0
  refine ⟨e, h, m, P, ⟨re, St⟩, ?_⟩
  revert a0
  cases evI (cnOf T F n) it e h with
  | exc c fs h1 => exact fun a => a
  | bad => exact fun a => a
  | ok v =>
    obtain ⟨its, h1⟩ := v
    dsimp only
    intro a0 J H1 m1 P1 x1 s1 wk D hD
    have a1 := AftE.af x1 a0
    have re1 := x1.env St re
    cases et : turns (compF (cnOf T F n) tg own cs el e) its h1 with
    | exc c fs h2 => exact absurd et (turns_noexc fun _ _ _ _ _ => compF_noexc)
    | bad => rw [et] at a1; exact a1.elim
    | ok w =>
      obtain ⟨out, hout⟩ := w
      rw [et, seqL_ok] at a1
      have ap1 := Apart.fresh s1 hD
      have hz : out.length ≤ sizeLim := by
        by_cases hz : out.length ≤ sizeLim
        · exact hz
        · simp only [oLst, hz, if_false] at a1
          exact a1.elim
      refine ⟨fun i k H2 => k = its.length - i ∧ LcI F m1 P1 h1 H1 D (compF (cnOf T F n) tg own cs el e) its out hout i H2, ⟨its.length, by simp, ⟨Nat.zero_le _, h1, m1, P1, [], [], out, Ext.refl.post hD, s1.over ap1, upd_same, ap1, .nil, by simpa using et, rfl⟩⟩, ?_⟩
      rintro i k H2 ⟨rfl, hle, h2, m2, P2, vs, acc, rest, x2, s2, hacc, ap2, rv, ht, ho⟩
      by_cases hlt : i < its.length
      · refine .inr ⟨wk.go m2 P2 h2 H2 i x2 s2 hlt, ?_⟩
        obtain ⟨itm, ei⟩ := get_lt hlt
        have hdrop : its.drop i = itm :: its.drop (i + 1) := by
          rw [List.drop_eq_getElem_cons hlt]
          rw [List.getElem?_eq_getElem hlt] at ei
          rw [Option.some.inj ei]
        rw [hdrop] at ht
        obtain ⟨o, h3, vs3, h4, ef, et3, er⟩ := turns_get ht (fun _ _ _ _ _ => compF_noexc) (fun _ _ _ z => by cases z) (fun z => by cases z)
        refine ⟨LcI F m1 P1 h1 H1 D (compF (cnOf T F n) tg own cs el e) its out hout (i + 1), fun H' q => ⟨its.length - (i + 1), by omega, rfl, q⟩, fun x H3 y => ?_⟩
        obtain ⟨P3, x3, s3, r3⟩ := wk.yld m2 P2 h2 H2 i itm x H3 x2 s2 ei y
        -- the block's names
        unfold compF at ef
        split at ef
        case h_2 => cases ef
        rename_i e' eg
        have reW : REnv F.G m2 P3 h2.length H3 (MI.wipe e own) (L2.wipe σ own) := ((x2.trans x3).env s1 re1).wipe own
        rw [g.hK]
        have hDn : H2 D ≠ none := by rw [hacc]; simp
        have la := Paired.length rv
        have lo := congrArg List.length ho
        rw [List.length_append] at lo
        rw [sizeLim_eq] at hz
        refine give_ok eg reW r3 fun σ2 re2 hw => ⟨?_, ?_⟩
        · rw [hw own hin, wipe_wipe]
        · refine ⟨e', h2, m2, P3, ⟨re2, s3⟩, ?_⟩
          revert ef
          cases evC (cnOf T F n) cs e' h2 with
          | exc c fs h5 => intro ef; cases ef
          | bad => intro ef; cases ef
          | ok b =>
            obtain ⟨b, h5⟩ := b
            intro ef H5 m5 P5 x5 s5
            have xx : Ext F.B m2 P2 h2 H2 m5 P5 h5 H5 := x3.trans x5
            have s5 : SR F.G m5 P5 h5 H5 := s5
            cases b with
            | false =>
              rw [if_neg (by decide)]
              cases ef
              cases er
              exact ⟨hlt, h3, m5, P5, vs, acc, vs3, x2.trans xx, s5, xx.fr D _ hacc ap2.nr, ap2.ext hDn xx, xx.rms s2 rv, et3, ho⟩
            | true =>
              rw [if_pos rfl]
              dsimp only at ef
              refine ⟨e', h5, m5, P5, ⟨Ext.env s3 x5 re2, s5⟩, ?_⟩
              revert ef
              cases evE (cnOf T F n) el e' h5 with
              | exc c fs h6 => intro ef; cases ef
              | bad => intro ef; cases ef
              | ok v =>
                obtain ⟨v, h6⟩ := v
                intro ef y H6 m6 P6 x6 s6 q6
                have x7 : Ext F.B m2 P2 h2 H2 m6 P6 h6 H6 := xx.trans x6
                have s6 : SR F.G m6 P6 h6 H6 := s6
                cases ef
                cases er
                have ap6 := ap2.ext hDn x7
                refine ⟨acc, x7.fr D _ hacc ap2.nr, ?_, hlt, h3, m6, P6, vs ++ [v], acc ++ [y], vs3, (x2.trans x7).post hD, s6.over ap6, upd_same, ap6, ?_, et3, by rw [List.append_assoc]; exact ho⟩
                · simp only [List.length_cons] at lo
                  omega
                · exact RMs.mono (fun _ _ => rfl) (Nat.le_refl _) (fun _ q => q) ap6.kp (paired_app (x7.rms s2 rv) (.cons q6 .nil))
      · have hi : i = its.length := by omega
        subst hi
        rw [List.drop_length] at ht
        cases ht
        rw [List.append_nil] at ho
        subst ho
        refine .inl ⟨wk.stop _ _ _ _ x2 s2, ?_⟩
        cases new with
        | true =>
          simp only [oLst, hz, if_true] at a1
          obtain ⟨s8, x8⟩ := adopt_r s2 hD x2 ap2 hacc rv
          exact a1 (.ref D) H2 _ _ x8 s8 ⟨by simp, by rw [mAt_same]⟩
        | false =>
          simp only [oLst, hz, if_true, Bool.false_eq_true, if_false] at a1
          split at a1
          · rename_i ps ep
            obtain ⟨s8, x8⟩ := adopt_p s2 hD x2 ap2 (by rw [hacc]; simp)
            exact a1 (.ref D) H2 _ _ x8 s8 ⟨D, acc, rfl, ⟨.inr rfl, hacc⟩, RVs.mono (fun _ q => .inl q) (fun _ _ _ e => e) _ _ (pures_rms rv ep)⟩
          · exact a1.elim
theorem e_comp (g : Good T S F n X) {new : Bool} {tg : TG} {own : List Nat} {it : IT} {cs : IEs} {el : IE} {elt tgE iter : Expr} {fs : List Expr} {scope : Scope} {pos : Pos}
    (hi : PI X tgE iter (tI F (evI (cnOf T F n) it))) (hb : blkC S.N S.sc scope (ownB S own) = true) (ho : (ownB S own).map (·.2) = own) (hin : tgIn own tg = true) (ht : tgB (blkS S scope) tg tgE = true)
    (hc : ∀ X', Good T (blkS S scope) (noX F) n X' → PTs X' fs (tT (noX F) (evC (cnOf T F n) cs))) (he : ∀ X', Good T (blkS S scope) (noX F) n X' → PE X' elt (tE (noX F) (evE (cnOf T F n) el)))
    (hs : ∀ x, foldedSetIterable iter X.env x = pure x) : PE X (.ListComp elt [⟨tgE, iter, fs, 0⟩] scope pos) (tE F (evE (cnOf T F n) (.comp new tg own it cs el))) := by
  have ok : BlkOk X.N X.env.scope scope (ownB S own) := by rw [g.N, g.sc]; exact blkOk_by hb
  have pe := pe_lc (pos := pos) (wi := tI F (evI (cnOf T F n) it)) (g := gOf X.K tg) (tt := tT (noX F) (evC (cnOf T F n) cs)) (te := tE (noX F) (evE (cnOf T F n) el)) g.calm (by rw [g.N]; exact g.nd) hi ok (fun s H C cl fp => pg_of g.blk ht) (fun s H C cl fp => hc _ g.blk) (fun s H C cl fp => he _ g.blk) hs
  rw [ho] at pe
  exact PE.imp pe fun σ H Q t => lc_t g hin t
end
end MI

/-! MiX: list(range(a)), min(l, default=d) -/
namespace MI
open PySem PySem.Spec L2
open PyProof.Rows hiding St
section
variable {T : Tb} {S : Sc} {F : Fx} {n : Nat} {X : Cx}
theorem rvs_range {G : Gb} {P : Addr → Prop} {H : Hp} : ∀ (l : List Nat), RVs G P H (l.map fun (i : Nat) => .int (i : Int)) (l.map fun (i : Nat) => V.int (i : Int))
  | [] => rfl
  | a :: l => ⟨_, _, rfl, rfl, rvs_range l⟩
theorem AllE.one {c : Cn} {es : IEs} {l : Expr} (h : AllE X F c es [l]) : ∃ a, es = .cons a .nil ∧ PE X l (tE F (evE c a)) := by
  cases es with
  | nil => exact h.elim
  | cons a es =>
    cases es with
    | nil => exact ⟨a, rfl, h.1⟩
    | cons b bs => exact h.2.elim
theorem x_lrng (g : Good T S F n X) {a : IE} {l : Expr} {x y : Str} {p q r s : Pos} (h1 : bltB T S x "list" = true) (h2 : bltB T S y "range" = true) (hm : mE T S a l = true) (ha : PE X l (tE F (evE (cnOf T F n) a))) :
    PE X (.Call (.Name x p) [.Call (.Name y q) [l] [] r] [] s) (tE F (evE (cnOf T F n) (.ext .lrng (.cons a .nil)))) := by
  obtain ⟨rfl, g1, m1⟩ := bltB_ok g h1
  obtain ⟨rfl, g2, m2⟩ := bltB_ok g h2
  refine PE.imp (pe_listRg g.calm g1 m1 (prg_1 g2 m2 ha (star_of hm)) rfl) ?_
  rintro σ H Q ⟨e, h, m, P, st, a0⟩
  have e1 : evE (cnOf T F n) (.ext .lrng (.cons a .nil)) e h = seq1 (evE (cnOf T F n) a e h) fun x h => oExt (cnOf T F n).rp .lrng [x] h := by
    rw [evE]
    simp only [evEs]
    cases evE (cnOf T F n) a e h <;> rfl
  rw [e1] at a0
  refine tE_mono (tE_un (F := F) (f := fun x h => oExt (cnOf T F n).rp .lrng [x] h) ⟨e, h, m, P, st, a0⟩) ?_
  rintro x H1 ⟨σ', v, h', m', P', S', rv, af⟩
  dsimp only [oExt] at af
  split at af <;> try exact af.elim
  · rename_i j _ hv
    cases hv
    split at af
    · rename_i hz
      obtain rfl : x = .int j := rv
      refine ⟨j, rfl, RgOk.of_le (by omega) (by omega) (by omega) hz.1, fun q hq => ?_⟩
      have e : rgV 0 j = (List.range j.toNat).map fun (i : Nat) => V.int (i : Int) := by
        unfold rgV
        simp only [Int.sub_zero, Int.zero_add]
      rw [e]
      exact af.newL S' (rvs_range _) hq
    · exact af.elim
  · rename_i hx _
    cases hx
theorem readsAll_ints (h : Heap) : ∀ {ns : List Int} {vs : List Value}, Vals (ns.map V.int) vs → PySem.W.HoldAll h vs ns := by
  intro ns
  induction ns with
  | nil =>
    intro vs r
    cases r
    exact ⟨[], .nil⟩
  | cons a ns ih =>
    intro vs r
    cases r with
    | cons r1 r2 =>
      obtain ⟨t, rfl⟩ := r1
      obtain ⟨as, q⟩ := ih r2
      exact ⟨[] ++ as, .cons (.int a t) q⟩
def rMinD (K : PySem.W.Frag) : List V → List V → Hp → VK → Prop := fun vs zs H Q => ∃ (a : Addr) (ns : List Int) (d : Int), vs = [V.ref a] ∧ zs = [V.int d] ∧ SqL K H a (ns.map V.int) ∧ Q (.int (match ns with | [] => d | b :: l => minI b l)) H
theorem minOf_I (a : Int) (l : List Int) : PySem.W.minOf a l = minI a l := by
  unfold PySem.W.minOf minI
  congr 1
  funext m x
  show (if decide (x < m) = true then x else m) = _
  simp only [decide_eq_true_eq]
theorem cr_minD (hc : X.calm = true) (hu : X.A.units + 65 < cLine) : CallRK X (.builtin "min") [Str.ofString "default"] (rMinD X.K) := by
  intro pins s σ H vs zs us ws Q I r rz h
  obtain ⟨a, ns, d, rfl, rfl, hs, q⟩ := h
  obtain ⟨its, rv, hl, _⟩ := I.list hs
  rw [Vals.ref1 r]
  obtain ⟨u, rfl, t, rfl⟩ := vals1 rz
  refine PySem.W.min_list_datum_default (α := Int) (I.ok.hd hc) hl.isList (readsAll_ints s.heap (by simpa using rv)) (by show X.A.units + 1 + 0 < cLine; omega) (fun e h' tk hk => ?_) (fun y ys i v h' tk e hv ho hk => ?_)
  · subst e
    exact ⟨.int d, H, I.kept hk, ⟨_, rfl⟩, q⟩
  · subst e
    rw [minOf_I] at ho
    obtain ⟨as, ho⟩ := ho
    have : ∃ t, v = Value.int (minI y ys) t := by
      cases ho
      exact ⟨_, rfl⟩
    obtain ⟨t', rfl⟩ := this
    exact ⟨.int _, H, I.kept hk, ⟨_, rfl⟩, q⟩
theorem x_mind (g : Good T S F n X) {d : Int} {a : IE} {l : Expr} {x : Str} {p s cp kp : Pos} {ck : Nat} (h1 : bltB T S x "min" = true) (hm : mE T S a l = true) (ha : PE X l (tE F (evE (cnOf T F n) a))) :
    PE X (.Call (.Name x p) [l] [⟨some ("default" : Str), .Constant (.int d) ck cp, kp⟩] s) (tE F (evE (cnOf T F n) (.ext (.mind d) (.cons a .nil)))) := by
  obtain ⟨rfl, g1, m1⟩ := bltB_ok g h1
  have hs : starEach (l :: []) X.env = (false, eval l X.env) :: starEach [] X.env := star_of hm
  refine PE.imp (pe_callBK (ks := [Str.ofString "default"]) (cr_minD g.calm g.un) g1 m1 (by decide +kernel) (pa_cons ha pa_nil hs) (pk_cons pe_int pk_nil) (by decide) (by decide) (by rw [hs]; try rfl) (by rw [hs]; try rfl)) ?_
  rintro σ H Q ⟨e, h, m, P, st, a0⟩
  have e1 : evE (cnOf T F n) (.ext (.mind d) (.cons a .nil)) e h = seq1 (evE (cnOf T F n) a e h) fun x h => oExt (cnOf T F n).rp (.mind d) [x] h := by
    rw [evE]
    simp only [evEs]
    cases evE (cnOf T F n) a e h <;> rfl
  rw [e1] at a0
  refine tE_mono (tE_un (F := F) (f := fun x h => oExt (cnOf T F n).rp (.mind d) [x] h) ⟨e, h, m, P, st, a0⟩) ?_
  rintro x H1 ⟨σ', v, h', m', P', S', rv, af⟩
  have af2 : AftE F σ' m' P' h' H1 (match seqpL v h' with | some xs => (match toInts xs with | some [] => okP (.int d) h' | some (a :: l) => okP (.int (minI a l)) h' | none => .bad) | none => .bad) Q := af
  cases ep : seqpL v h' with
  | none => rw [ep] at af2; exact af2.elim
  | some ps =>
    rw [ep] at af2
    dsimp only at af2
    cases el : toInts ps with
    | none => rw [el] at af2; exact af2.elim
    | some is =>
      rw [el] at af2
      obtain ⟨b, ws, rfl, q, rr⟩ := seqpL_case S' rv ep
      rw [toInts_map el rr] at q
      refine ⟨b, is, d, rfl, rfl, by rw [g.hK]; exact q, ?_⟩
      cases is with
      | nil => exact af2.okp S' rfl
      | cons b l => exact af2.okp S' rfl
theorem lookup_rv {G : Gb} {P : Addr → Prop} {H : Hp} {x : Str} {p : PV} : ∀ {ks : List Str} {fs : List PV} {vs : List V}, RVs G P H fs vs → (ks.zip fs).lookup x = some p → ∃ v, (ks.zip vs).lookup x = some v ∧ RV G P H p v ∧ x ∈ ks
  | [], _, _, _, e => by simp at e
  | k :: ks, [], _, _, e => by simp at e
  | k :: ks, f :: fs, vs, r, e => by
    simp only [RVs] at r
    obtain ⟨y, ys, rfl, r1, r2⟩ := r
    simp only [List.zip_cons_cons, List.lookup_cons] at e ⊢
    split at e
    · rename_i hk
      cases e
      exact ⟨y, rfl, r1, by rw [eq_of_beq hk]; exact List.mem_cons_self⟩
    · obtain ⟨v, h1, h2, h3⟩ := lookup_rv r2 e
      exact ⟨v, h1, h2, List.mem_cons_of_mem _ h3⟩
/-- e.f of an error -/
theorem e_fld (g : Good T S F n X) {a : IE} {z x : Str} {p pos : Pos} (hl : PE X (.Name z p) (tE F (evE (cnOf T F n) a))) : PE X (.Attribute (.Name z p) x pos) (tE F (evE (cnOf T F n) (.fld a x))) := by
  refine ⟨fun pins s σ H Q I t => ?_⟩
  obtain ⟨e, h, m, P, st, a0⟩ := t
  rw [evE] at a0
  have t2 := tE_un (F := F) (f := fun v h => fieldOf (cnOf T F n).nx (cnOf T F n).fields v x h) ⟨e, h, m, P, st, a0⟩
  refine attr_of rfl (thn (hl.run pins s σ H _ I t2) fun u s1 hh => ?_)
  obtain ⟨v, H1, I1, ru, σ', w, h1, m1, P1, S1, rw1, af⟩ := hh
  replace af : AftE F σ' m1 P1 h1 H1 (fieldOf (cnOf T F n).nx (cnOf T F n).fields w x h1) Q := af
  unfold fieldOf at af
  split at af
  case h_2 => exact af.elim
  rename_i c fs
  split at af
  case isFalse => exact af.elim
  rename_i hc
  split at af
  case h_2 => exact af.elim
  rename_i y ey
  obtain ⟨b, d, vs, fvs, rfl, _, hb, _, hd, rs, lk⟩ := rw1
  obtain rfl : u = Value.ref b := ru
  have hf : (cnOf T F n).fields = F.G.fields := by rw [g.G]; exact g.ok.fields
  rw [hf] at ey
  obtain ⟨v, e1, r1, hm⟩ := lookup_rv rs ey
  obtain ⟨xf, nf⟩ := g.ok.exf c hc
  rw [g.G] at hb hm
  obtain ⟨⟨oe, ovs, he, hz, hdt⟩, _⟩ := I1.hok b _ hb
  obtain ⟨mA, hns, hr⟩ := I1.hok d _ hd
  obtain ⟨od, ho, hl2⟩ := lookIn_ns hns
  obtain ⟨u, hu, ru⟩ := RelO.some_of (v := v) (o := mA x) (by rw [← e1, ← lk]; exact hr x)
  have J : PySem.W.InstAt s1.heap b oe (T.G.cA c) (some od) := ⟨he, hz.1, by unfold PySem.W.notCls; rw [hdt] <;> rfl, by rw [hz.2]; exact ho⟩
  have kin : T.G.K.In s1.heap := by rw [← g.K]; exact I1.kIn
  exact HandSPX.exc_get kin J xf.ga xf.gg xf.exC (PySem.W.findObj_own xf.hdC (nf x hm) rfl (by rw [hl2, hu])) (handed_of ru) ⟨v, H1, I1.tok _, ru, af.okp S1 r1⟩
theorem e_ext (g : Good T S F n X) {x : EX} {es : IEs} {e : Expr} {ls : List Expr} (hx : exArgs T S x e = some ls) (hm : mEs T S es ls = true) (ha : AllE X F (cnOf T F n) es ls) : PE X e (tE F (evE (cnOf T F n) (.ext x es))) := by
  unfold exArgs at hx
  split at hx
  · split at hx <;> cases hx
    rename_i h
    obtain ⟨a, rfl, pe⟩ := ha.one
    simp only [mEs, Bool.and_true] at hm
    exact x_lrng g h.1 h.2 hm pe
  · split at hx <;> cases hx
    rename_i h
    obtain ⟨h1, rfl, rfl⟩ := h
    obtain ⟨a, rfl, pe⟩ := ha.one
    simp only [mEs, Bool.and_true] at hm
    exact x_mind g h1 hm pe
  · cases hx
end
end MI

/-! MiC: list comprehensions of any number of clauses -/
namespace MI
open PySem PySem.Spec L2
open PyProof.Rows hiding St
section
variable {elt t i t1 i1 : Expr} {ifs ifs1 : List Expr} {gs : List Comprehension} {scope : Scope} {pos : Pos} {d : Nat} {it acc : Value} {env : PySem.Env}
/-- the tests of a clause -/
def tests (ifs : List Expr) (env : PySem.Env) : Sem Bool := forIn ifs true fun c r => if r = true then do let ok ← isTrue c env (eval c env); pure (ForInStep.yield ok) else pure (ForInStep.yield r)
theorem turn_mid (hg : gs[d]? = some ⟨t, i, ifs, 0⟩) (hn : gs[d + 1]? = some ⟨t1, i1, ifs1, 0⟩) : compTurn (.ListComp elt gs scope pos) d it acc env = (standAt i.pos >>= fun _ => pyNext it >>= fun o => match o with
      | none => pure (.done .next)
      | some v => letOwnedTupleGo t it v >>= fun _ => assign t env v >>= fun _ => tests ifs env >>= fun ok => if ok = true then
          eval i1 env >>= fun x => standAt i1.pos >>= fun _ => foldedSetIterable i1 env x >>= fun x => holding [x] (pyIter x) >>= fun j => runOwn (.compStart (.ListComp elt gs scope pos) (d + 1) j acc env) env >>= fun _ => again (.compLoop (.ListComp elt gs scope pos) d it acc env)
        else again (.compLoop (.ListComp elt gs scope pos) d it acc env)) := by
  unfold compTurn
  simp only [hg, hn]
  rfl
theorem turn_end (hg : gs[d]? = some ⟨t, i, ifs, 0⟩) (hn : gs[d + 1]? = none) : compTurn (.ListComp elt gs scope pos) d it acc env = (standAt i.pos >>= fun _ => pyNext it >>= fun o => match o with
      | none => pure (.done .next)
      | some v => letOwnedTupleGo t it v >>= fun _ => assign t env v >>= fun _ => tests ifs env >>= fun ok => if ok = true then
          (eval elt env >>= fun x => call (.builtin "list.append") [acc, x] >>= fun _ => pure ()) >>= fun _ => again (.compLoop (.ListComp elt gs scope pos) d it acc env)
        else again (.compLoop (.ListComp elt gs scope pos) d it acc env)) := by
  unfold compTurn
  simp only [hg, hn]
  rfl
end
/-- nothing is raised -/
abbrev nr : Value → Shared → Prop := fun _ _ => False
section
variable {prog : Program} {w : World} {A : Around} {s : Shared} {elt : Expr} {gs : List Comprehension} {scope : Scope} {pos : Pos} {acc : Value} {env : PySem.Env}
/-- behind the tests of clause d -/
def DeepW (prog : Program) (w : World) (A : Around) (elt : Expr) (gs : List Comprehension) (scope : Scope) (pos : Pos) (acc : Value) (env : PySem.Env) (d : Nat) (N : Shared → Prop) (s : Shared) : Prop := match gs[d + 1]? with
  | none => wpAny (model prog w) A (eval elt env) (fun x u => wpAny (model prog w) A (call (.builtin "list.append") [acc, x]) (fun _ u => N u) nr u) nr s
  | some g => wpAny (model prog w) A (eval g.iter env) (fun x u => wpAny (model prog w) A (pyIter x) (fun j u => codeAny (model prog w) A (.compStart (.ListComp elt gs scope pos) (d + 1) j acc env) (fun r u => match r with | .ok _ => N u | .error _ => False) u) nr u) nr s
theorem weak {α : Type} {m : Sem α} {M : Model} {A : Around} {Q Q' : α → Shared → Prop} {E : Value → Shared → Prop} {s : Shared} (h : wpAny M A m Q nr s) (k : ∀ a u, Q a u → Q' a u) : wpAny M A m Q' E s := wpAny_mono h k fun _ _ z => z.elim
theorem loop_n {R : Result → Shared → Prop} {t i : Expr} {ifs : List Expr} {d : Nat} {it : Value} (hg : gs[d]? = some ⟨t, i, ifs, 0⟩) (hn : ∀ g, gs[d + 1]? = some g → g.is_async = 0 ∧ ∀ x, foldedSetIterable g.iter env x = pure x) (I : Nat → Shared → Prop)
    (turn : ∀ n s, I n s → wpAny (model prog w) A (pyNext it) (fun o u => match o with
      | none => R (.ok .next) u
      | some v => wpAny (model prog w) A (letOwnedTupleGo t it v) (fun _ u => wpAny (model prog w) A (assign t env v) (fun _ u => wpAny (model prog w) A (tests ifs env) (fun ok u =>
          if ok = true then DeepW prog w A elt gs scope pos acc env d (fun u => ∃ m, m < n ∧ I m u) u else ∃ m, m < n ∧ I m u) nr u) nr u) nr u) nr s)
    (n : Nat) (h : I n s) : codeAny (model prog w) A (.compLoop (.ListComp elt gs scope pos) d it acc env) R s := by
  refine codeAny_loop rfl I (fun n s hI => ?_) n h
  show wpAny _ A ((compTurn (.ListComp elt gs scope pos) d it acc env).onRaise fun x => noteFrame x env >>= fun _ => theTreesLotGoes x) _ _ s
  refine wpAny_noted ?_
  have tn := turn n s hI
  cases hq : gs[d + 1]? with
  | none =>
    rw [turn_end hg hq]
    refine wpAny_bind (wpAny_standAt (wpAny_bind (weak tn fun o u hu => ?_)))
    cases o with
    | none => exact wpAny_pure hu
    | some v =>
      refine wpAny_bind (weak hu fun _ u hu => wpAny_bind (weak hu fun _ u hu => wpAny_bind (weak hu fun ok u hu => ?_)))
      cases ok with
      | false => exact wpAny_pure ⟨rfl, hu⟩
      | true =>
        rw [if_pos rfl] at hu ⊢
        unfold DeepW at hu
        rw [hq] at hu
        exact wpAny_bind (wpAny_bind (weak hu fun x u hu => wpAny_bind (weak hu fun _ u hu => wpAny_pure (wpAny_pure ⟨rfl, hu⟩))))
  | some g =>
    obtain ⟨ga, gf⟩ := hn g hq
    obtain ⟨t1, i1, ifs1, a1⟩ := g
    simp only at ga gf
    subst ga
    rw [turn_mid hg hq]
    refine wpAny_bind (wpAny_standAt (wpAny_bind (weak tn fun o u hu => ?_)))
    cases o with
    | none => exact wpAny_pure hu
    | some v =>
      refine wpAny_bind (weak hu fun _ u hu => wpAny_bind (weak hu fun _ u hu => wpAny_bind (weak hu fun ok u hu => ?_)))
      cases ok with
      | false => exact wpAny_pure ⟨rfl, hu⟩
      | true =>
        rw [if_pos rfl] at hu ⊢
        unfold DeepW at hu
        rw [hq] at hu
        refine wpAny_bind (weak hu fun x u hu => wpAny_bind (wpAny_standAt (wpAny_bind (wpAny_of_eq (gf x) (wpAny_bind (wpAny_holding (weak hu fun j u hu => ?_)))))))
        refine wpAny_bind (wpAny_runOwn ?_)
        rw [Around.mark_none]
        refine codeAny_mono hu fun r u hr => ?_
        cases r with
        | ok f => first
          | exact wpAny_pure ⟨rfl, hr⟩
          | exact wpAny_bind (wpAny_pure (wpAny_pure ⟨rfl, hr⟩))
        | error e => exact hr.elim
/-- the start of a clause -/
theorem start_n {R : Result → Shared → Prop} {t i : Expr} {ifs : List Expr} {d : Nat} {it : Value} (hg : gs[d]? = some ⟨t, i, ifs, 0⟩) (h0 : codeAny (model prog w) A (.compLoop (.ListComp elt gs scope pos) d it acc env) R s)
    (h : wpAny (model prog w) A (pyIter it) (fun j u => codeAny (model prog w) A (.compLoop (.ListComp elt gs scope pos) d j acc env) R u) nr s) :
    codeAny (model prog w) A (.compStart (.ListComp elt gs scope pos) d it acc env) R s := by
  refine codeAny_of_tree ?_
  show wpAny _ _ ((compStart (.ListComp elt gs scope pos) d it acc env).onRaise fun x => noteFrame x env >>= fun _ => standAt theWindowsPlace) _ _ s
  refine wpAny_notedAt ?_
  unfold compStart
  have hcl : (clausesOf (.ListComp elt gs scope pos))[d]? = some ⟨t, i, ifs, 0⟩ := hg
  simp only [hcl]
  show wpAny _ _ (ask >>= _) _ _ s
  refine wpAny_bind (wpAny_askSetting (wpAny_ite ?_))
  split
  · first
      | exact wpAny_bind (wpAny_pure (wpAny_pure (And.intro rfl h0)))
      | exact wpAny_pure (And.intro rfl h0)
  · refine wpAny_bind (wpAny_rule ?_)
    show wpAny _ _ (standAt i.pos >>= _) _ _ s
    exact wpAny_bind (wpAny_standAt (wpAny_bind (weak h fun j u hu => wpAny_pure (And.intro rfl hu))))
end
/-- a clause and how it is read; vs: the slots of its target -/
structure Cr where
  tg : Expr
  it : Expr
  ifs : List Expr
  wi : TI
  g : L2.TG
  tt : TT
  vs : List Nat
def Cr.gen (c : Cr) : Comprehension := ⟨c.tg, c.it, c.ifs, 0⟩
def dv : List Cr → List Nat
  | [] => []
  | c :: cs => c.vs ++ dv cs
/-- the clauses that are left, from the slots σ on; Nx: what is wished behind them -/
def tCs (te : TE) (D : Addr) : List Cr → St → Hp → (Hp → Prop) → Prop
  | [], σ, H, Nx => te σ H fun y H1 => ∃ acc, H1 D = some (.lst acc) ∧ acc.length < sizeLine ∧ Nx (upd H1 D (.lst (acc ++ [y])))
  | c :: cs, σ, H, Nx => c.wi σ H fun J H1 => ∃ W : Nat → Nat → Hp → Prop, (∃ m, W 0 m H1) ∧ ∀ j m H, W j m H → (J.stop j H ∧ Nx H) ∨
      (J.go j H ∧ ∃ N : Hp → Prop, (∀ H', N H' → ∃ m', m' < m ∧ W (j + 1) m' H') ∧ ∀ x H', J.yld j H x H' → c.g x (L2.wipe σ (dv (c :: cs))) H' fun τ H2 => L2.wipe τ c.vs = L2.wipe (L2.wipe σ (dv (c :: cs))) c.vs ∧ c.tt τ H2 fun b H3 => if b = true then tCs te D cs τ H3 N else N H3)
structure CrOk (Y : Cx) (c : Cr) : Prop where
  pi : PI Y c.tg c.it c.wi
  pg : PG Y c.tg c.g
  pt : PTs Y c.ifs c.tt
  fold : ∀ x, foldedSetIterable c.it Y.env x = pure x
/-- what σ knows is known still -/
def Kp (σ τ : St) : Prop := σ.length = τ.length ∧ ∀ (j : Nat) (v : V), σ[j]? = some (some v) → τ[j]? = some (some v)
theorem kp_wipe (σ : St) (vs : List Nat) : Kp (L2.wipe σ vs) σ := ⟨wipe_length _ _, fun j v e => (wipe_some e).1⟩
theorem wipe_app (σ : St) (a b : List Nat) {j : Nat} {v : V} (e : (L2.wipe σ (a ++ b))[j]? = some (some v)) : σ[j]? = some (some v) ∧ j ∉ a ∧ j ∉ b := by
  obtain ⟨e1, e2⟩ := wipe_some e
  exact ⟨e1, fun z => e2 (List.mem_append_left _ z), fun z => e2 (List.mem_append_right _ z)⟩
theorem wipe_not {σ : St} {vs : List Nat} {j : Nat} (h : j ∉ vs) : (L2.wipe σ vs)[j]? = σ[j]? := L2.wipe_out h
/-- behind a turn of clause c -/
theorem kp_turn {σ τ υ : St} {c : Cr} {cs : List Cr} (e : L2.wipe τ c.vs = L2.wipe (L2.wipe σ (dv (c :: cs))) c.vs) (k : Kp (L2.wipe τ (dv cs)) υ) : Kp (L2.wipe σ (dv (c :: cs))) υ := by
  have l1 : (L2.wipe τ c.vs).length = (L2.wipe (L2.wipe σ (dv (c :: cs))) c.vs).length := by rw [e]
  have l2 := k.1
  rw [wipe_length] at l2
  rw [wipe_length, wipe_length] at l1
  refine ⟨l1.symm.trans l2, fun j v q => ?_⟩
  obtain ⟨_, n1, n2⟩ := wipe_app σ c.vs (dv cs) q
  refine k.2 j v ?_
  rw [wipe_not n2, ← wipe_not (σ := τ) n1, e, wipe_not n1]
  exact q
theorem drop_get {gs : List Comprehension} {d : Nat} {cs : List Cr} (h : gs.drop d = cs.map Cr.gen) : gs[d]? = cs.head?.map Cr.gen := by
  have : gs[d]? = (gs.drop d)[0]? := by rw [List.getElem?_drop]; simp
  rw [this, h]
  cases cs <;> rfl
section
variable {Y : Cx} {elt : Expr} {te : TE} {gs : List Comprehension} {scope : Scope} {pos : Pos} {D : Addr}
theorem deep_ok (hx : Y.xe = nr) (hc : Y.calm = true) (pe : PE Y elt te) : ∀ (cs : List Cr) (d : Nat), gs.drop (d + 1) = cs.map Cr.gen → (∀ c ∈ cs, CrOk Y c) → ∀ (pins : List (Addr × Obj)) (σ : St) (H : Hp) (s : Shared) (Nx : Hp → Prop), L2.Inv Y pins σ H s → tCs te D cs σ H Nx →
    DeepW Y.prog Y.w Y.A elt gs scope pos (.ref D) Y.env d (fun u => ∃ τ H', L2.Inv Y pins τ H' u ∧ Kp (L2.wipe σ (dv cs)) τ ∧ Nx H') s
  | [], d, hg, _, pins, σ, H, s, Nx, I, h => by
    have hd : gs[d + 1]? = none := drop_get hg
    unfold DeepW
    rw [hd]
    have p := pe.run pins s σ H _ I h
    rw [hx] at p
    refine weak p fun x u ⟨y, H1, I1, r1, ac, hD, hz, nx⟩ => ?_
    exact app_ok I1 hD hz r1 fun u' I2 => ⟨σ, _, I2, kp_wipe σ _, nx⟩
  | c :: cs, d, hg, ok, pins, σ, H, s, Nx, I, h => by
    have hd : gs[d + 1]? = some c.gen := drop_get hg
    have c0 := ok c List.mem_cons_self
    have hg2 : gs.drop (d + 1 + 1) = cs.map Cr.gen := by
      have := congrArg (List.drop 1) hg
      rw [List.drop_drop] at this
      simpa using this
    unfold DeepW
    rw [hd]
    have p := c0.pi.run pins s σ H _ I h
    rw [hx] at p
    refine weak p fun x u hu => weak hu fun j u ⟨it1, fp1, tn1, J1, H1, e1, I1, T1, st1, f1, W, ⟨m0, w0⟩, turn⟩ => ?_
    subst e1
    have stat : ∀ {H' : Hp}, (∀ b ∈ fp1, H' b = none) → ∀ b ∈ fp1, FpOk Y pins H' b := fun hn b hb => ⟨hn b hb, (f1 b hb).2⟩
    have nxt : ∀ g, gs[d + 1 + 1]? = some g → g.is_async = 0 ∧ ∀ x, foldedSetIterable g.iter Y.env x = pure x := fun g e => by
      rw [drop_get hg2] at e
      cases cs with
      | nil => cases e
      | cons c2 cs => cases e; exact ⟨rfl, (ok c2 (by simp)).fold⟩
    have lp : codeAny (model Y.prog Y.w) Y.A (.compLoop (.ListComp elt gs scope pos) (d + 1) (.ref it1) (.ref D) Y.env) (fun r u => match r with | .ok _ => ∃ τ H', L2.Inv Y pins τ H' u ∧ Kp (L2.wipe σ (dv (c :: cs))) τ ∧ Nx H' | .error _ => False) u := by
      refine loop_n (t := c.tg) (i := c.it) (ifs := c.ifs) hd nxt (fun k u => ∃ j H', L2.Inv Y pins (L2.wipe σ (dv (c :: cs))) H' u ∧ tn1 j u.heap ∧ (∀ b ∈ fp1, H' b = none) ∧ W j k H') ?_ m0 ⟨0, H1, I1.weak (wipe_length _ _) (fun j v e => (wipe_some e).1), st1, fun b hb => (f1 b hb).1, w0⟩
      rintro k u ⟨j, H2, I2, st2, n2, w2⟩
      rcases turn j k H2 w2 with ⟨stop, nx⟩ | ⟨go, N, hN, step⟩
      · refine weak (T1.done Y rfl rfl rfl hc j _ u _ H2 nr I2 (stat n2) st2 stop) fun r u ⟨hr, I3⟩ => ?_
        subst hr
        exact ⟨_, H2, I3, ⟨rfl, fun _ _ e => e⟩, nx⟩
      · refine weak (T1.item Y rfl rfl rfl hc j _ u _ H2 nr I2 (stat n2) st2 go) fun r u ⟨v, hr, hu⟩ => ?_
        subst hr
        refine weak hu fun _ u4 ⟨y, H4, I4, r4, y4, st4, n4⟩ => ?_
        have I4' := I4.pinned (stat n4) (T1.obj _ _ st4)
        have pg := c0.pg.run _ u4 _ H4 y v _ I4' r4 (step y H4 y4)
        rw [hx] at pg
        refine weak pg fun _ u5 ⟨τ, H5, I5, hw5, q5⟩ => ?_
        have pt := c0.pt.run _ u5 τ H5 _ I5 q5
        rw [hx] at pt
        refine weak pt fun b u6 ⟨H6, I6, q6⟩ => ?_
        have fin : ∀ {υ : St} {u : Shared} {H' : Hp}, L2.Inv Y (pins ++ pinsAt fp1 u4.heap) υ H' u → Kp (L2.wipe σ (dv (c :: cs))) υ → N H' → ∃ m, m < k ∧ ∃ j H', L2.Inv Y pins (L2.wipe σ (dv (c :: cs))) H' u ∧ tn1 j u.heap ∧ (∀ b ∈ fp1, H' b = none) ∧ W j m H' := fun {υ u H'} I' kp nx => by
          obtain ⟨m', hm, w'⟩ := hN H' nx
          have pin : ∀ b ∈ fp1, ∀ o, u4.heap.get? b = some o → u.heap.get? b = some o ∧ H' b = none := fun b hb o e =>
            let z := I'.pin (b, o) (List.mem_append_right _ (List.mem_append_right _ (mem_pinsAt hb e)))
            ⟨z.1, z.2.1⟩
          refine ⟨m', hm, j + 1, H', I'.unpinned.weak kp.1 kp.2, T1.keep _ _ _ st4 fun b hb o e => (pin b hb o e).1, fun b hb => ?_, w'⟩
          obtain ⟨o, e, _⟩ := T1.obj _ _ st4 b hb
          exact (pin b hb o e).2
        have kτ : Kp (L2.wipe σ (dv (c :: cs))) τ := kp_turn hw5 (kp_wipe τ (dv cs))
        cases b with
        | false =>
          rw [if_neg (by decide)] at q6 ⊢
          exact fin I6 kτ q6
        | true =>
          rw [if_pos rfl] at q6 ⊢
          have dp := deep_ok hx hc pe cs (d + 1) hg2 (fun c hc' => ok c (List.mem_cons_of_mem _ hc')) _ τ H6 u6 N I6 q6
          unfold DeepW at dp ⊢
          cases hq : gs[d + 1 + 1]? with
          | none =>
            rw [hq] at dp
            exact weak dp fun x u hu => weak hu fun _ u ⟨υ, H', I', kp, nx⟩ => fin I' (kp_turn hw5 kp) nx
          | some g =>
            rw [hq] at dp
            refine weak dp fun x u hu => weak hu fun j u hu => codeAny_mono hu fun r u hr => ?_
            cases r with
            | ok f =>
              obtain ⟨υ, H', I', kp, nx⟩ := hr
              exact fin I' (kp_turn hw5 kp) nx
            | error e => exact hr
    exact start_n hd lp (T1.self Y.A 0 _ _ _ st1 lp)
end
section
variable {X : Cx} {elt : Expr} {te : TE} {scope : Scope} {pos : Pos}
/-- [elt for .. for ..]: the first source is looked at outside -/
def tLcN (c : Cr) (cs : List Cr) (te : TE) (own : List Nat) : TE := fun σ H Q => c.wi σ H fun J H1 => ∀ D, H1 D = none → ∃ W : Nat → Nat → Hp → Prop, (∃ m, W 0 m (upd H1 D (.lst []))) ∧ ∀ j m H, W j m H → (J.stop j H ∧ Q (.ref D) H) ∨
  (J.go j H ∧ ∃ N : Hp → Prop, (∀ H', N H' → ∃ m', m' < m ∧ W (j + 1) m' H') ∧ ∀ x H', J.yld j H x H' → c.g x (L2.wipe σ own) H' fun τ H2 => L2.wipe τ own = L2.wipe σ own ∧ c.tt τ H2 fun b H3 => if b = true then tCs te D cs τ H3 N else N H3)
/-- the rules of the parts, in the block -/
structure BlkR (X : Cx) (scope : Scope) (elt : Expr) (te : TE) (c : Cr) (cs : List Cr) : Prop where
  pg : ∀ (s : Shared) (H : Hp) (C : Addr) (cl : List (Str × Addr)) (fp : List Addr), PG (X.blk s H scope (compEnvC scope cl C X.env) fp) c.tg c.g
  pt : ∀ (s : Shared) (H : Hp) (C : Addr) (cl : List (Str × Addr)) (fp : List Addr), PTs (X.blk s H scope (compEnvC scope cl C X.env) fp) c.ifs c.tt
  pe : ∀ (s : Shared) (H : Hp) (C : Addr) (cl : List (Str × Addr)) (fp : List Addr), PE (X.blk s H scope (compEnvC scope cl C X.env) fp) elt te
  cs : ∀ (s : Shared) (H : Hp) (C : Addr) (cl : List (Str × Addr)) (fp : List Addr), ∀ c' ∈ cs, CrOk (X.blk s H scope (compEnvC scope cl C X.env) fp) c'
theorem lcn_core {pins : List (Addr × Obj)} {s : Shared} {σ : St} {H : Hp} {Q : VK} {own : List (Str × Nat)} {c : Cr} {cs : List Cr} {pos' : Pos} {use : Option (Value → Sem Unit)} {Qf : Value → Shared → Prop}
    (hc : X.calm = true) (hN : X.N.Nodup) (I : L2.Inv X pins σ H s) (hi : PI X c.tg c.it c.wi) (ok : BlkOk X.N X.env.scope scope own) (hv : ∀ i ∈ dv cs, i ∈ own.map (·.2)) (rules : BlkR X scope elt te c cs) (hs : ∀ x, foldedSetIterable c.it X.env x = pure x)
    (h : tLcN c cs te (own.map (·.2)) σ H Q)
    (hRR : ∀ D C s' m H', L2.Inv X pins σ H' s' → Q (.ref D) H' → s'.heap.Ns C m → FpOk X pins H' C → compPost (model X.prog X.w) X.A X.xe use Qf (.ref D) C (.ok .next) s') :
    wpAny (model X.prog X.w) X.A (comprehension (.ListComp elt (c.gen :: cs.map Cr.gen) scope pos) scope X.env pos' (newList []) false (eval c.it X.env) use) Qf X.xe s := by
  have hfree : ∀ y ∈ scope.names, y.2 = .free → ∃ a, X.env.cells.lookup y.1 = some a := fun y hy e =>
    (ok.free y hy e).elim (fun k => I.ok.has _ (.inl k)) fun k => I.ok.has _ (.inr k)
  have uniq : ∀ y ∈ scope.names, y.2 = .local → scope.names.lookup y.1 = some .local := fun y hy e => by rw [ok.uniq y hy, e]
  refine wpAny_comprehension_free (use := use) rfl hs (closure_ok hfree) ok.kind uniq (thn (hi.run pins s σ H _ I h) fun v1 s1 h1 => thn h1 fun v2 s2 ⟨it, fp, tn, J, H2, e, I2, T, st2, f2, q⟩ => ?_)
  subst e
  refine wpAny_newObj_type (newEnv_comp ?_) (by show 0 ≤ sizeLine; decide)
  obtain ⟨D, hD⟩ : ∃ D, s2.heap.objs.size = D := ⟨_, rfl⟩
  rw [hD]
  have hDn : H2 D = none := I2.hok.fresh (Nat.le_of_eq hD)
  obtain ⟨W, ⟨m0, w0⟩, turn⟩ := q D hDn
  obtain ⟨s3, hs3⟩ : ∃ s3 : Shared, { s2 with heap := s2.heap.push { cls := .type "list", data := .seq ([] : List Value).toArray } } = s3 := ⟨_, rfl⟩
  rw [hs3]
  have h3 : s3.heap = s2.heap.push { cls := .type "list", data := .seq ([] : List Value).toArray } := by rw [← hs3]
  have I3 : L2.Inv X pins σ (upd H2 D (.lst [])) s3 := by
    subst hs3
    refine I2.laid (t' := s2.toks) (fun b o e => Heap.get?_push_of_some _ e) (Nat.le_of_eq hD) ⟨Nat.zero_le _, [], 0, .nil, ?_⟩
    subst hD
    exact Heap.get?_push_size _ rfl
  have f3 : ∀ b ∈ fp, FpOk X pins (upd H2 D (.lst [])) b ∧ b < s3.heap.objs.size := fun b hb => by
    obtain ⟨o, e, _⟩ := T.obj _ _ st2 b hb
    have hlt := Heap.lt_size e
    refine ⟨⟨?_, (f2 b hb).2⟩, by rw [h3, Heap.size_push]; exact Nat.lt_succ_of_lt hlt⟩
    have ne : b ≠ D := by rw [← hD]; exact Nat.ne_of_lt hlt
    rw [upd_ne ne]
    exact (f2 b hb).1
  have st3 : tn 0 s3.heap := T.keep _ _ _ st2 fun b _ o e => by rw [h3]; exact Heap.get?_push_of_some _ e
  have I4 := block_start I3 ok hN f3
  obtain ⟨cel, hcel⟩ : ∃ cel, cellsFrom (s3.heap.objs.size + 1) scope.names (cloFrom X.env.cells scope.names []) = cel := ⟨_, rfl⟩
  rw [hcel] at I4 ⊢
  obtain ⟨H3, hH3⟩ : ∃ H3, upd H2 D (.lst []) = H3 := ⟨_, rfl⟩
  rw [hH3] at I3 I4 f3 w0
  have nfp : ∀ b ∈ fp, H3 b = none := fun b hb => (f3 b hb).1.1
  have rg := rules.pg s3 H3 s3.heap.objs.size cel fp
  have rt := rules.pt s3 H3 s3.heap.objs.size cel fp
  have re := rules.pe s3 H3 s3.heap.objs.size cel fp
  have rc := rules.cs s3 H3 s3.heap.objs.size cel fp
  show codeAny _ _ (.compStart (.ListComp elt (c.gen :: cs.map Cr.gen) scope pos) 0 (.ref it) (.ref D) (compEnvC scope cel s3.heap.objs.size X.env)) (compPost (model X.prog X.w) X.A X.xe use Qf (.ref D) s3.heap.objs.size) { s3 with heap := pushCells (s3.heap.push { cls := .type "dict", data := .dict #[] }) scope.names }
  obtain ⟨ce, hce⟩ : ∃ ce, compEnvC scope cel s3.heap.objs.size X.env = ce := ⟨_, rfl⟩
  rw [hce] at I4 rg rt re rc ⊢
  have cL : ce.locals = s3.heap.objs.size := by subst hce; try rfl
  obtain ⟨s4, hs4⟩ : ∃ s4 : Shared, { s3 with heap := pushCells (s3.heap.push { cls := .type "dict", data := .dict #[] }) scope.names } = s4 := ⟨_, rfl⟩
  rw [hs4] at I4 ⊢
  have st4 : tn 0 s4.heap := T.keep _ _ _ st3 fun b _ o e => by rw [← hs4]; exact pushCells_keeps _ _ _ _ (Heap.get?_push_of_some _ e)
  have stat : ∀ {H' : Hp} {υ : St} {u : Shared}, L2.Inv (X.blk s3 H3 scope ce fp) [] υ H' u → (∀ b ∈ fp, H' b = none) → ∀ b ∈ fp, FpOk (X.blk s3 H3 scope ce fp) [] H' b := fun {H' υ u} I' nn b hb =>
    have ex := I'.ok.exf b hb
    ⟨nn b hb, ex.1, I'.ok.exfs b hb, .inl hb, fun x c e => ex.2 x c e, fun p hp => by cases hp⟩
  have nxt : ∀ g, (c.gen :: cs.map Cr.gen)[0 + 1]? = some g → g.is_async = 0 ∧ ∀ x, foldedSetIterable g.iter ce x = pure x := fun g e => by
    cases cs with
    | nil => cases e
    | cons c2 cs => cases e; exact ⟨rfl, (rc c2 (by simp)).fold⟩
  have lp : codeAny (model X.prog X.w) X.A (.compLoop (.ListComp elt (c.gen :: cs.map Cr.gen) scope pos) 0 (.ref it) (.ref D) ce) (compPost (model X.prog X.w) X.A X.xe use Qf (.ref D) s3.heap.objs.size) s4 := by
    refine loop_n (t := c.tg) (i := c.it) (ifs := c.ifs) (show (c.gen :: cs.map Cr.gen)[0]? = some ⟨c.tg, c.it, c.ifs, 0⟩ from rfl) nxt (fun k u => ∃ j H', L2.Inv (X.blk s3 H3 scope ce fp) [] (L2.wipe σ (own.map (·.2))) H' u ∧ tn j u.heap ∧ (∀ b ∈ fp, H' b = none) ∧ W j k H') ?_ m0 ⟨0, H3, I4, st4, nfp, w0⟩
    rintro k u ⟨j, H5, I5, st5, n5, w5⟩
    rcases turn j k H5 w5 with ⟨stop, qq⟩ | ⟨go, N, hN, step⟩
    · refine weak (T.done (X.blk s3 H3 scope ce fp) rfl rfl rfl hc j [] u _ H5 nr I5 (stat I5 n5) st5 stop) fun r u6 ⟨hr, I6⟩ => ?_
      subst hr
      have back : L2.Inv X pins σ H5 u6 := I3.call' (ch := fp) I6.os I6.base I6.hok I6.bare fun b hb =>
        have z := (f3 b hb).1.2
        ⟨z.2.2.1, z.1, z.2.2.2.1, z.2.2.2.2⟩
      have nC : H5 s3.heap.objs.size = none := by rw [← cL]; exact I6.free
      obtain ⟨mm, hn, _⟩ := I6.loc
      have hn' : u6.heap.Ns s3.heap.objs.size mm := by rw [← cL]; exact hn
      exact hRR D s3.heap.objs.size u6 mm H5 back qq hn' (I3.fpOk (Nat.le_refl _) nC)
    · refine weak (T.item (X.blk s3 H3 scope ce fp) rfl rfl rfl hc j [] u _ H5 nr I5 (stat I5 n5) st5 go) fun r u6 ⟨v, hr, h6⟩ => ?_
      subst hr
      refine weak h6 fun _ u7 ⟨y, H7, I7, r7, y7, st7, n7⟩ => ?_
      have I7' := I7.pinned (stat I7 n7) (T.obj _ _ st7)
      refine weak (rg.run _ u7 _ H7 y v _ I7' r7 (step y H7 y7)) fun _ u8 ⟨τ, H8, I8, hw8, q8⟩ => ?_
      refine weak (rt.run _ u8 τ H8 _ I8 q8) fun b u9 ⟨H9, I9, q9⟩ => ?_
      have fin : ∀ {υ : St} {u : Shared} {H' : Hp}, L2.Inv (X.blk s3 H3 scope ce fp) ([] ++ pinsAt fp u7.heap) υ H' u → Kp (L2.wipe σ (own.map (·.2))) υ → N H' → ∃ m, m < k ∧ ∃ j H', L2.Inv (X.blk s3 H3 scope ce fp) [] (L2.wipe σ (own.map (·.2))) H' u ∧ tn j u.heap ∧ (∀ b ∈ fp, H' b = none) ∧ W j m H' := fun {υ u H'} I' kp nx => by
        obtain ⟨m', hm, w'⟩ := hN H' nx
        have pin : ∀ b ∈ fp, ∀ o, u7.heap.get? b = some o → u.heap.get? b = some o ∧ H' b = none := fun b hb o e =>
          let z := I'.pin (b, o) (List.mem_append_right _ (List.mem_append_right _ (mem_pinsAt hb e)))
          ⟨z.1, z.2.1⟩
        refine ⟨m', hm, j + 1, H', (I'.unpinned (pins := [])).weak kp.1 kp.2, T.keep _ _ _ st7 fun b hb o e => (pin b hb o e).1, fun b hb => ?_, w'⟩
        obtain ⟨o, e, _⟩ := T.obj _ _ st7 b hb
        exact (pin b hb o e).2
      have kτ : ∀ {υ : St}, Kp (L2.wipe τ (dv cs)) υ → Kp (L2.wipe σ (own.map (·.2))) υ := fun {υ} kp => by
        have l := kp.1
        rw [wipe_length] at l
        refine ⟨by rw [← hw8, wipe_length]; exact l, fun i w e => kp.2 i w ?_⟩
        rw [← hw8] at e
        obtain ⟨e1, e2⟩ := wipe_some e
        rw [wipe_not fun z => e2 (hv i z)]
        exact e1
      cases b with
      | false =>
        rw [if_neg (by decide)] at q9 ⊢
        exact fin I9 (kτ (kp_wipe τ _)) q9
      | true =>
        rw [if_pos rfl] at q9 ⊢
        have dp := deep_ok (Y := X.blk s3 H3 scope ce fp) (elt := elt) (te := te) (gs := c.gen :: cs.map Cr.gen) (scope := scope) (pos := pos) (D := D) rfl hc re cs 0 rfl rc _ τ H9 u9 N I9 q9
        have fo : ∀ {u : Shared}, (∃ υ H', L2.Inv (X.blk s3 H3 scope ce fp) ([] ++ pinsAt fp u7.heap) υ H' u ∧ Kp (L2.wipe τ (dv cs)) υ ∧ N H') → ∃ m, m < k ∧ ∃ j H', L2.Inv (X.blk s3 H3 scope ce fp) [] (L2.wipe σ (own.map (·.2))) H' u ∧ tn j u.heap ∧ (∀ b ∈ fp, H' b = none) ∧ W j m H' := fun {u} ⟨υ, H', I', kp, nx⟩ => fin I' (kτ kp) nx
        unfold DeepW at dp ⊢
        cases hq : (c.gen :: cs.map Cr.gen)[0 + 1]? with
        | none =>
          rw [hq] at dp
          exact weak dp fun x u hu => weak hu fun _ u hu => fo hu
        | some g =>
          rw [hq] at dp
          refine weak dp fun x u hu => weak hu fun j u hu => codeAny_mono hu fun r u hr => ?_
          cases r with
          | ok f => exact fo hr
          | error e => exact hr
  exact start_n rfl lp (T.self X.A 0 _ _ _ st4 lp)
theorem pe_lcN {own : List (Str × Nat)} {c : Cr} {cs : List Cr} (hc : X.calm = true) (hN : X.N.Nodup) (hi : PI X c.tg c.it c.wi) (ok : BlkOk X.N X.env.scope scope own) (hv : ∀ i ∈ dv cs, i ∈ own.map (·.2)) (rules : BlkR X scope elt te c cs)
    (hs : ∀ x, foldedSetIterable c.it X.env x = pure x) : PE X (.ListComp elt (c.gen :: cs.map Cr.gen) scope pos) (tLcN c cs te (own.map (·.2))) := by
  constructor
  intro pins s σ H Q I h
  rw [eval_ListComp]
  refine lcn_core hc hN I hi ok hv rules hs h fun D C u m H' I' q hn z => ?_
  have ch := z.2
  exact ⟨m, hn, fun _ sb => ⟨.ref D, H', I'.turned (t' := u.toks) (fun b _ hb e => (sb.2 b hb).trans e) z.1 ch.1 ch.2.2.1 ch.2.2.2.1 ch.2.2.2.2, rfl, q⟩⟩
/-- the list goes into a name -/
theorem ps_setLcN {i : Nat} {y : Str} {py spos : Pos} {own : List (Str × Nat)} {c : Cr} {cs : List Cr} (hc : X.calm = true) (hN : X.N.Nodup) (hy : X.N[i]? = some y) (hyl : X.env.scope.names.lookup y = some .local)
    (hsw : swapsWith (.ListComp elt (c.gen :: cs.map Cr.gen) scope pos) (some (.Name y py)) spos.line X.env = pure true) (hi : PI X c.tg c.it c.wi) (ok : BlkOk X.N X.env.scope scope own) (hv : ∀ i ∈ dv cs, i ∈ own.map (·.2)) (rules : BlkR X scope elt te c cs)
    (hs : ∀ x, foldedSetIterable c.it X.env x = pure x) : PS X (.Assign [.Name y py] (.ListComp elt (c.gen :: cs.map Cr.gen) scope pos) spos) (tAsg (tLcN c cs te (own.map (·.2))) (gName i)) := by
  constructor
  intro pins s σ H D I h
  rw [exec_Assign_Name_used _ _ _ _ hsw]
  refine wpAny_bind (wpAny_standAt (wpAny_bind ?_))
  have k := lcn_core (Qf := fun _ u => SP X pins D .next u) (pos := pos) (pos' := firstIterPos (c.gen :: cs.map Cr.gen) pos) (use := some (assign (.Name y py) X.env)) hc hN I hi ok hv rules hs (Q := fun x H1 => gName i x σ H1 D.nx) h fun L C u m H' I' q hn z => ?_
  · refine wpAny_bind (thn k fun _ u hq => ?_)
    exact wpAny_pure (wpAny_pure hq)
  · show wpAny _ X.A (assign (.Name y py) X.env (.ref L)) (fun _ w => ∃ m, w.heap.Ns C m ∧ ∀ h'', Heap.SameBut C w.heap h'' → SP X pins D .next { w with heap := h'' }) X.xe u
    refine wpAny_assign_Name ?_
    have ch := z.2
    refine store_ok2 (v := V.ref L) I' hN hy (Or.inl hyl) rfl ?_ (Or.inr hyl)
    rintro s2 I2 ⟨a, sb, ha⟩
    have ne : C ≠ a := fun e => ha.elim (fun w => absurd (e.trans w) ch.1) fun w => ch.2.2.2.1 y a w e.symm
    refine ⟨m, hn.sameBut sb ne, ?_⟩
    intro h3 sb3
    have I9 := I2.turned (t' := s2.toks) (fun b _ hb e => (sb3.2 b hb).trans e) z.1 ch.1 ch.2.2.1 ch.2.2.2.1 ch.2.2.2.2
    exact ⟨_, H', I9, q⟩
end
end MI

/-! MiN: comprehensions of any number of clauses -/
namespace MI
open PySem PySem.Spec L2
open PyProof.Rows hiding St
section
variable {T : Tb} {S : Sc} {F : Fx} {n : Nat} {X : Cx}
/-- a turn of a clause -/
def compD (c : Cn) (tg : TG) (own : List Nat) (cs : IEs) (r : ICl) (d : Nat) (e : Env) : Item → Sto → Option Sto := fun x h => match give tg x h (MI.wipe e own) with
  | some e' => (match evC c cs e' h with
    | .ok (true, h) => evD c r d e' h
    | .ok (false, h) => some h
    | _ => none)
  | none => none
theorem evD_el {c : Cn} {a : IE} {d : Nat} {e : Env} {h : Sto} : evD c (.el a) d e h = (match evE c a e h with
      | .ok (v, h) => (match oApp c.B (.loc d) v h with
        | .ok (_, h) => some h
        | _ => none)
      | _ => none) := by rw [evD]; try rfl
theorem evD_cons {c : Cn} {tg : TG} {vs : List Nat} {it : IT} {cs : IEs} {r : ICl} {d : Nat} {e : Env} {h : Sto} : evD c (.cons tg vs it cs r) d e h = (match evI c it e h with
      | .ok (its, h) => iterN (compD c tg (vs ++ dvs r) cs r d e) its h
      | _ => none) := by rw [evD]; try rfl
theorem evE_lcn {c : Cn} {new : Bool} {own : List Nat} {tg : TG} {it : IT} {cs : IEs} {r : ICl} {e : Env} {h : Sto} : evE c (.lcn new own tg it cs r) e h = (match evI c it e h with
      | .ok (its, h0) => (match iterN (compD c tg own cs r h0.length e) its (h0 ++ [.lst []]) with
        | some h1 => if new = true then .ok (.loc h0.length, h1) else oFrz (.loc h0.length) h1
        | none => .bad)
      | .exc c fs h => .exc c fs h
      | .bad => .bad) := by rw [evE]; try rfl
/-- the clauses as they are read -/
def Cl (F : Fx) (c : Cn) (a : IE) : ICl → List Cr → Prop
  | .el b, [] => b = a
  | .cons tg vs it cs r, cr :: crs => (cr.wi = tI (noX F) (evI c it) ∧ cr.g = gOf F.G.K tg ∧ cr.tt = tT (noX F) (evC c cs) ∧ cr.vs = vs ∧ tgIn vs tg = true) ∧ Cl F c a r crs
  | _, _ => False
theorem Cl.dv {c : Cn} {a : IE} : ∀ {r : ICl} {crs : List Cr}, Cl F c a r crs → MI.dv crs = dvs r
  | .el _, [], _ => rfl
  | .cons _ _ _ _ r, cr :: crs, k => by
    have := Cl.dv k.2
    show cr.vs ++ MI.dv crs = _ ++ dvs r
    rw [this, k.1.2.2.2.1]
  | .el _, _ :: _, k => k.elim
  | .cons _ _ _ _ _, [], k => k.elim
/-- what the clauses behind do -/
def Deep (T : Tb) (F : Fx) (n : Nat) (a : IE) (r : ICl) (crs : List Cr) : Prop := ∀ (σ : St) (e : Env) (h : Sto) (m : Nat → Addr) (P : Addr → Prop) (H : Hp) (h' : Sto) (d : Nat) (D : Addr) (Nx : Hp → Prop), evD (cnOf T F n) r d e h = some h' → REnv F.G m P h.length H e σ → SR F.G m P h H → m d = D → d < h.length →
  (∀ m' P' H', Ext F.B m P h H m' P' h' H' → SR F.G m' P' h' H' → Nx H') → tCs (tE (noX F) (evE (cnOf T F n) a)) D crs σ H Nx
theorem turn_t {a : IE} {r : ICl} {crs : List Cr} (rcd : Deep T F n a r crs) {tg : TG} {own vs : List Nat} {cs : IEs} {d : Nat} {D : Addr} {e : Env} {itm : Item} {h h' : Sto} {m : Nat → Addr} {P : Addr → Prop} {H : Hp} {x : V} {σ : St} {N : Hp → Prop}
    (ev : compD (cnOf T F n) tg own cs r d e itm h = some h') (re : REnv F.G m P h.length H e σ) (ri : RIt F.G m P h.length H itm x) (St : SR F.G m P h H) (hd : d < h.length) (hD : m d = D) (hin : tgIn vs tg = true)
    (k : ∀ m' P' H', Ext F.B m P h H m' P' h' H' → SR F.G m' P' h' H' → N H') :
    gOf F.G.K tg x (L2.wipe σ own) H fun τ H2 => L2.wipe τ vs = L2.wipe (L2.wipe σ own) vs ∧ tT (noX F) (evC (cnOf T F n) cs) τ H2 fun b H3 => if b = true then tCs (tE (noX F) (evE (cnOf T F n) a)) D crs τ H3 N else N H3 := by
  unfold compD at ev
  split at ev
  case h_2 => cases ev
  rename_i e' eg
  refine give_ok eg (re.wipe own) ri fun τ re2 hw => ⟨hw vs hin, ?_⟩
  refine ⟨e', h, m, P, ⟨re2, St⟩, ?_⟩
  revert ev
  cases evC (cnOf T F n) cs e' h with
  | exc c fs h5 => intro ev; cases ev
  | bad => intro ev; cases ev
  | ok b =>
    obtain ⟨b, h5⟩ := b
    intro ev H5 m5 P5 x5 s5
    have x5 : Ext F.B m P h H m5 P5 h5 H5 := x5
    have s5 : SR F.G m5 P5 h5 H5 := s5
    cases b with
    | false =>
      rw [if_neg (by decide)]
      cases ev
      exact k m5 P5 H5 x5 s5
    | true =>
      rw [if_pos rfl]
      dsimp only at ev
      exact rcd _ _ _ _ _ _ _ _ _ _ ev (x5.env St re2) s5 (by rw [x5.agree d hd]; exact hD) (Nat.lt_of_lt_of_le hd x5.len) fun m' P' H' x s => k m' P' H' (x5.trans x) s
theorem drop_cons {its : List Item} {i : Nat} (hlt : i < its.length) : ∃ itm, its[i]? = some itm ∧ its.drop i = itm :: its.drop (i + 1) :=
  ⟨its[i], List.getElem?_eq_getElem hlt, List.drop_eq_getElem_cons hlt⟩
theorem deep_t {a : IE} : ∀ (r : ICl) (crs : List Cr), Cl F (cnOf T F n) a r crs → Deep T F n a r crs
  | .el b, [], hcl => by
    intro σ e h m P H h' d D Nx ev re St hD hd k
    cases hcl
    rw [evD_el] at ev
    refine ⟨e, h, m, P, ⟨re, St⟩, ?_⟩
    revert ev
    cases evE (cnOf T F n) a e h with
    | exc c fs h5 => intro ev; cases ev
    | bad => intro ev; cases ev
    | ok v =>
      obtain ⟨v, h1⟩ := v
      dsimp only
      intro ev y H1 m1 P1 x1 s1 q1
      have x1 : Ext F.B m P h H m1 P1 h1 H1 := x1
      have s1 : SR F.G m1 P1 h1 H1 := s1
      have af : AftE F σ m1 P1 h1 H1 (oApp F.B (.loc d) v h1) (fun _ Hx => Nx Hx) := by
        revert ev
        show (match oApp F.B (.loc d) v h1 with | .ok (_, h) => some h | _ => none) = some h' → _
        cases oApp F.B (.loc d) v h1 with
        | exc c fs h5 => intro ev; cases ev
        | bad => intro ev; cases ev
        | ok w =>
          obtain ⟨w, h2⟩ := w
          intro ev
          cases ev
          exact fun x H' m' P' x2 s2 _ => k m' P' H' (x1.trans x2) s2
      obtain ⟨us, hv, hz, nx⟩ := app_end s1 q1 af
      rw [x1.agree d hd, hD] at hv nx
      exact ⟨us, hv, hz, nx⟩
  | .cons tg vs it cs r, cr :: crs, hcl => by
    intro σ e h m P H h' d D Nx ev re St hD hd k
    have rcd := deep_t r crs hcl.2
    obtain ⟨⟨e1, e2, e3, e4, e5⟩, hr⟩ := hcl
    have edv : dv (cr :: crs) = vs ++ dvs r := by show cr.vs ++ dv crs = _; rw [e4, hr.dv]
    rw [evD_cons] at ev
    unfold tCs
    rw [e1, e2, e3, e4, edv]
    refine ⟨e, h, m, P, ⟨re, St⟩, ?_⟩
    revert ev
    cases evI (cnOf T F n) it e h with
    | exc c fs h5 => intro ev; cases ev
    | bad => intro ev; cases ev
    | ok v =>
      obtain ⟨its, h1⟩ := v
      dsimp only
      intro ev J H1 m1 P1 x1 s1 wk
      have x1 : Ext F.B m P h H m1 P1 h1 H1 := x1
      have s1 : SR F.G m1 P1 h1 H1 := s1
      have re1 := x1.env St re
      refine ⟨fun i k H2 => k = its.length - i ∧ i ≤ its.length ∧ ∃ h2 m2 P2, Ext F.B m1 P1 h1 H1 m2 P2 h2 H2 ∧ SR F.G m2 P2 h2 H2 ∧ iterN (compD (cnOf T F n) tg (vs ++ dvs r) cs r d e) (its.drop i) h2 = some h', ⟨its.length, by simp, Nat.zero_le _, h1, m1, P1, Ext.refl, s1, by simpa using ev⟩, ?_⟩
      rintro i z H2 ⟨rfl, hle, h2, m2, P2, x2, s2, ht⟩
      by_cases hlt : i < its.length
      · refine .inr ⟨wk.go m2 P2 h2 H2 i x2 s2 hlt, ?_⟩
        obtain ⟨itm, ei, hdrop⟩ := drop_cons hlt
        rw [hdrop] at ht
        simp only [iterN] at ht
        split at ht
        case h_2 => cases ht
        rename_i h3 ef
        refine ⟨fun H' => ∃ m3 P3, Ext F.B m1 P1 h1 H1 m3 P3 h3 H' ∧ SR F.G m3 P3 h3 H', fun H' ⟨m3, P3, x3, s3⟩ => ⟨its.length - (i + 1), by omega, rfl, hlt, h3, m3, P3, x3, s3, ht⟩, fun x H3 y => ?_⟩
        obtain ⟨P3, x3, s3, r3⟩ := wk.yld m2 P2 h2 H2 i itm x H3 x2 s2 ei y
        have x3 : Ext F.B m2 P2 h2 H2 m2 P3 h2 H3 := x3
        have x13 := x1.trans (x2.trans x3)
        exact turn_t rcd ef ((x2.trans x3).env s1 re1) r3 s3 (Nat.lt_of_lt_of_le hd x13.len) (by rw [x13.agree d hd]; exact hD) e5 fun m' P' H' x s => ⟨m', P', (x2.trans x3).trans x, s⟩
      · have hi : i = its.length := by omega
        subst hi
        rw [List.drop_length] at ht
        cases ht
        exact .inl ⟨wk.stop _ _ _ _ x2 s2, k m2 P2 H2 (x1.trans x2) s2⟩
  | .el _, _ :: _, k => k.elim
  | .cons _ _ _ _ _, [], k => k.elim
theorem lcn_t {a : IE} {new : Bool} {own : List Nat} {tg : TG} {it : IT} {cs : IEs} {r : ICl} {c : Cr} {crs : List Cr} {σ : St} {H : Hp} {Q : VK} (hw : c.wi = tI F (evI (cnOf T F n) it)) (hg : c.g = gOf F.G.K tg) (ht : c.tt = tT (noX F) (evC (cnOf T F n) cs)) (hin : tgIn own tg = true)
    (hcl : Cl F (cnOf T F n) a r crs) (t : tE F (evE (cnOf T F n) (.lcn new own tg it cs r)) σ H Q) : tLcN c crs (tE (noX F) (evE (cnOf T F n) a)) own σ H Q := by
  have rcd := deep_t r crs hcl
  obtain ⟨e, h, m, P, ⟨re, St⟩, a0⟩ := t
  rw [evE_lcn] at a0
  unfold tLcN
  rw [hw, hg, ht]
  refine ⟨e, h, m, P, ⟨re, St⟩, ?_⟩
  revert a0
  cases evI (cnOf T F n) it e h with
  | exc c fs h1 => exact fun a => a
  | bad => exact fun a => a
  | ok v =>
    obtain ⟨its, h1⟩ := v
    dsimp only
    intro a0 J H1 m1 P1 x1 s1 wk D hD
    have a1 := AftE.af x1 a0
    have re1 := x1.env St re
    obtain ⟨s2, y2⟩ := s1.allocR (B := F.B) (p := D) (u := .lst []) (o := .lst []) hD ⟨[], upd_same, .nil⟩
    cases et : iterN (compD (cnOf T F n) tg own cs r h1.length e) its (h1 ++ [.lst []]) with
    | none => rw [et] at a1; exact a1.elim
    | some hout =>
      rw [et] at a1
      dsimp only at a1
      have fin : ∀ {H2 : Hp} {m2 : Nat → Addr} {P2 : Addr → Prop}, Ext F.B m1 P1 h1 H1 m2 P2 hout H2 → SR F.G m2 P2 hout H2 → m2 h1.length = D → h1.length < hout.length → Q (.ref D) H2 := fun {H2 m2 P2} x s hm hl => by
        have rr : RMV F.G m2 P2 hout.length H2 (.loc h1.length) (.ref D) := ⟨hl, by rw [hm]⟩
        cases new with
        | true =>
          rw [if_pos rfl] at a1
          exact a1 (.ref D) H2 m2 P2 x s rr
        | false =>
          rw [if_neg (by decide)] at a1
          unfold oFrz at a1
          split at a1
          · exact a1 (.ref D) H2 m2 P2 x s rr
          · split at a1
            · rename_i p h9 e9
              obtain ⟨_, P9, S9, x9, r9⟩ := frz_v (B := F.B) 4 s rr e9
              exact a1 (.ref D) H2 m2 P9 (x.trans x9) S9 r9
            · exact a1.elim
      have hl0 : h1.length < (h1 ++ [MO.lst []]).length := by simp
      have hm0 : mAt m1 h1.length D h1.length = D := mAt_same
      refine ⟨fun i k H2 => k = its.length - i ∧ i ≤ its.length ∧ ∃ h2 m2 P2, Ext F.B (mAt m1 h1.length D) P1 (h1 ++ [.lst []]) (upd H1 D (.lst [])) m2 P2 h2 H2 ∧ SR F.G m2 P2 h2 H2 ∧ iterN (compD (cnOf T F n) tg own cs r h1.length e) (its.drop i) h2 = some hout, ⟨its.length, by simp, Nat.zero_le _, _, _, _, Ext.refl, s2, by simpa using et⟩, ?_⟩
      rintro i z H2 ⟨rfl, hle, h2, m2, P2, x2, s2', hq⟩
      have hm2 : m2 h1.length = D := by rw [x2.agree _ hl0]; exact hm0
      have hl2 : h1.length < h2.length := Nat.lt_of_lt_of_le hl0 x2.len
      by_cases hlt : i < its.length
      · refine .inr ⟨wk.go m2 P2 h2 H2 i (y2.trans x2) s2' hlt, ?_⟩
        obtain ⟨itm, ei, hdrop⟩ := drop_cons hlt
        rw [hdrop] at hq
        simp only [iterN] at hq
        split at hq
        case h_2 => cases hq
        rename_i h3 ef
        refine ⟨fun H' => ∃ m3 P3, Ext F.B (mAt m1 h1.length D) P1 (h1 ++ [.lst []]) (upd H1 D (.lst [])) m3 P3 h3 H' ∧ SR F.G m3 P3 h3 H', fun H' ⟨m3, P3, x3, s3⟩ => ⟨its.length - (i + 1), by omega, rfl, hlt, h3, m3, P3, x3, s3, hq⟩, fun x H3 y => ?_⟩
        obtain ⟨P3, x3, s3, r3⟩ := wk.yld m2 P2 h2 H2 i itm x H3 (y2.trans x2) s2' ei y
        have xx := x2.trans x3
        have tt := turn_t (N := fun H' => ∃ m3 P3, Ext F.B (mAt m1 h1.length D) P1 (h1 ++ [.lst []]) (upd H1 D (.lst [])) m3 P3 h3 H' ∧ SR F.G m3 P3 h3 H') rcd ef (((y2.trans xx)).env s1 re1) r3 s3 hl2 hm2 hin fun m' P' H' x s => ⟨m', P', xx.trans x, s⟩
        rw [wipe_wipe] at tt
        exact tt
      · have hi : i = its.length := by omega
        subst hi
        rw [List.drop_length] at hq
        cases hq
        exact .inl ⟨wk.stop _ _ _ _ (y2.trans x2) s2', fin (y2.trans x2) s2' hm2 hl2⟩
/-- what the clauses behind the first are, where they are read -/
def LRes (T : Tb) (S : Sc) (F : Fx) (n : Nat) (r : ICl) (gs : List Comprehension) (elt : Expr) : Prop := ∃ (crs : List Cr) (a : IE), gs = crs.map Cr.gen ∧ Cl F (cnOf T F n) a r crs ∧ ∀ X', Good T S (noX F) n X' → (∀ c ∈ crs, CrOk X' c) ∧ PE X' elt (tE (noX F) (evE (cnOf T F n) a))
theorem e_lcn (g : Good T S F n X) {new : Bool} {tg : TG} {own : List Nat} {it : IT} {cs : IEs} {r : ICl} {elt tgE iter : Expr} {fs : List Expr} {gs : List Comprehension} {scope : Scope} {pos : Pos}
    (hi : PI X tgE iter (tI F (evI (cnOf T F n) it))) (hb : blkC S.N S.sc scope (ownB S own) = true) (ho : (ownB S own).map (·.2) = own) (hin : tgIn own tg = true) (ht : tgB (blkS S scope) tg tgE = true)
    (hc : ∀ X', Good T (blkS S scope) (noX F) n X' → PTs X' fs (tT (noX F) (evC (cnOf T F n) cs))) (hv : ((dvs r).all fun j => own.contains j) = true) (hr : LRes T (blkS S scope) F n r gs elt)
    (hs : ∀ x, foldedSetIterable iter X.env x = pure x) : PE X (.ListComp elt (⟨tgE, iter, fs, 0⟩ :: gs) scope pos) (tE F (evE (cnOf T F n) (.lcn new own tg it cs r))) := by
  have ok : BlkOk X.N X.env.scope scope (ownB S own) := by rw [g.N, g.sc]; exact blkOk_by hb
  obtain ⟨crs, a, rfl, hcl, hx⟩ := hr
  have hv2 : ∀ i ∈ dv crs, i ∈ (ownB S own).map (·.2) := fun i hi => by
    rw [hcl.dv] at hi
    rw [ho]
    exact List.contains_iff_mem.mp (List.all_eq_true.mp hv i hi)
  have pe := pe_lcN (X := X) (elt := elt) (te := tE (noX F) (evE (cnOf T F n) a)) (scope := scope) (pos := pos) (own := ownB S own) (c := ⟨tgE, iter, fs, tI F (evI (cnOf T F n) it), gOf X.K tg, tT (noX F) (evC (cnOf T F n) cs), []⟩) (cs := crs) g.calm (by rw [g.N]; exact g.nd) hi ok hv2
    ⟨fun s H C cl fp => pg_of g.blk ht, fun s H C cl fp => hc _ g.blk, fun s H C cl fp => (hx _ g.blk).2, fun s H C cl fp => (hx _ g.blk).1⟩ hs
  rw [ho] at pe
  exact PE.imp pe fun σ H Q t => lcn_t (c := ⟨tgE, iter, fs, tI F (evI (cnOf T F n) it), gOf X.K tg, tT (noX F) (evC (cnOf T F n) cs), []⟩) rfl (by show gOf X.K tg = _; rw [g.hK]) rfl hin hcl t
/-- one clause more -/
theorem lres_cons {tg : TG} {vs : List Nat} {it : IT} {cs : IEs} {r : ICl} {t i elt : Expr} {fs : List Expr} {gs : List Comprehension} (hi : ∀ X', Good T S (noX F) n X' → PI X' t i (tI (noX F) (evI (cnOf T F n) it))) (hin : tgIn vs tg = true) (ht : tgB S tg t = true)
    (hc : ∀ X', Good T S (noX F) n X' → PTs X' fs (tT (noX F) (evC (cnOf T F n) cs))) (hs : ∀ env x, foldedSetIterable i env x = pure x) (hr : LRes T S F n r gs elt) : LRes T S F n (.cons tg vs it cs r) (⟨t, i, fs, 0⟩ :: gs) elt := by
  obtain ⟨crs, a, rfl, hcl, hx⟩ := hr
  refine ⟨⟨t, i, fs, tI (noX F) (evI (cnOf T F n) it), gOf F.G.K tg, tT (noX F) (evC (cnOf T F n) cs), vs⟩ :: crs, a, rfl, ⟨⟨rfl, rfl, rfl, rfl, hin⟩, hcl⟩, fun X' g' => ⟨fun c hc' => ?_, (hx X' g').2⟩⟩
  rcases List.mem_cons.mp hc' with rfl | hm
  · refine ⟨hi X' g', ?_, hc X' g', hs X'.env⟩
    have pg := pg_of g' ht
    rw [g'.hK] at pg
    exact pg
  · exact (hx X' g').1 c hm
theorem lres_el {a : IE} {elt : Expr} (he : ∀ X', Good T S (noX F) n X' → PE X' elt (tE (noX F) (evE (cnOf T F n) a))) : LRes T S F n (.el a) [] elt := ⟨[], a, rfl, rfl, fun X' g' => ⟨fun c h => (by cases h), he X' g'⟩⟩
end
end MI

/-! MiS16: the text that is looked at, read -/
namespace MI
open PySem PySem.Spec L2
open PyProof.Rows hiding St
section
variable {T : Tb} {n : Nat}
theorem fn_get {f : Nat} {x : Str} (h : (match T.prg.fns f with | some Fn => Fn.name == x | none => false) = true) : ∃ Fn, T.prg.fns f = some Fn ∧ Fn.name = x := by
  split at h
  · rename_i Fn e
    exact ⟨Fn, e, eq_of_beq h⟩
  · cases h
theorem kbs_get {f k : Nat} {ns : List Str} {perm : List Nat} (h : (T.kbs.any fun (j, np, l, q) => j == f && np == k && l == ns && q == perm) = true) : (f, k, ns, perm) ∈ T.kbs := by
  rw [List.any_eq_true] at h
  obtain ⟨⟨j, np, l, q⟩, hm, h⟩ := h
  simp only [Bool.and_eq_true, beq_iff_eq] at h
  obtain ⟨⟨⟨rfl, rfl⟩, rfl⟩, rfl⟩ := h
  exact hm
theorem mI_set {S : Sc} {it : IT} {e : Expr} (h : mI T S it e = true) (env : PySem.Env) (x : Value) : foldedSetIterable e env x = pure x := by
  cases e <;> first | rfl | skip
  exfalso
  cases it <;> simp [mI] at h
  rename_i a
  cases a <;> simp [mE] at h
theorem dec_op {α : Type} [DecidableEq α] {a b : α} (h : decide (a = b) = true) : a = b := of_decide_eq_true h
theorem tt_yes {F : Fx} {c : Cn} {σ : St} {H : Hp} {Q : Bool → Hp → Prop} (t : tT F (evC c .nil) σ H Q) : tYes σ H Q := by
  obtain ⟨e, h, m, P, ⟨re, St⟩, a⟩ := t
  rw [evC] at a
  exact a H m P Ext.refl St
mutual
theorem mE_ok : ∀ (ie : IE) {S : Sc} {F : Fx} {X : Cx} {e : Expr}, Good T S F n X → mE T S ie e = true → PE X e (tE F (evE (cnOf T F n) ie))
  | .var i, S, F, X, e, g, h => by
    cases e <;> first | (simp [mE] at h; done) | skip
    exact e_var g h
  | .k v, S, F, X, e, g, h => e_k h
  | .glob y v, S, F, X, e, g, h => e_glob g h
  | .bin o a b, S, F, X, e, g, h => by
    cases e <;> first | (simp [mE] at h; done) | skip
    simp only [mE, Bool.and_eq_true] at h
    cases dec_op h.1.1
    exact e_bin g (mE_ok a g h.1.2) (mE_ok b g h.2)
  | .mkb o a b, S, F, X, e, g, h => by
    cases e <;> first | (simp [mE] at h; done) | skip
    simp only [mE, Bool.and_eq_true] at h
    cases dec_op h.1.1
    exact e_mkb g (mE_ok a g h.1.2) (mE_ok b g h.2)
  | .neg a, S, F, X, e, g, h => by
    cases e <;> first | (simp [mE] at h; done) | skip
    rename_i op l p
    cases op <;> first | (simp [mE] at h; done) | skip
    simp only [mE] at h
    exact e_neg (mE_ok a g h)
  | .not a, S, F, X, e, g, h => by
    cases e <;> first | (simp [mE] at h; done) | skip
    rename_i op l p
    cases op <;> first | (simp [mE] at h; done) | skip
    simp only [mE] at h
    exact e_not g (mE_ok a g h)
  | .cmp o a b, S, F, X, e, g, h => by
    cases e <;> first | (simp [mE] at h; done) | skip
    rename_i l ops rs p
    rcases ops with _ | ⟨op, _ | ⟨op2, ops⟩⟩ <;> rcases rs with _ | ⟨r, _ | ⟨r2, rs⟩⟩ <;> first | (simp [mE] at h; done) | skip
    simp only [mE, Bool.and_eq_true] at h
    cases dec_op h.1.1
    exact e_cmp g (opC_mark h.2) (mE_ok a g h.1.2) (mE_ok b g h.2)
  | .cmp2 o o2 a b d, S, F, X, e, g, h => by
    cases e <;> first | (simp [mE] at h; done) | skip
    rename_i l ops rs p
    rcases ops with _ | ⟨op, _ | ⟨op2, _ | ⟨op3, ops⟩⟩⟩ <;> rcases rs with _ | ⟨r, _ | ⟨r2, _ | ⟨r3, rs⟩⟩⟩ <;> first | (simp [mE] at h; done) | skip
    simp only [mE, Bool.and_eq_true, decide_eq_true_eq] at h
    obtain ⟨⟨⟨⟨⟨⟨⟨⟨rfl, rfl⟩, n1⟩, n2⟩, n3⟩, n4⟩, ha⟩, hb⟩, hd⟩ := h
    exact e_cmp2 g (lastM n1 n2 n3 n4) (mE_ok a g ha) (mE_ok b g hb) (mE_ok d g hd)
  | .cmp3 o o2 o3 a b d f, S, F, X, e, g, h => by
    cases e <;> first | (simp [mE] at h; done) | skip
    rename_i l ops rs p
    simp only [mE] at h
    split at h
    case h_2 => cases h
    simp only [Bool.and_eq_true, decide_eq_true_eq] at h
    obtain ⟨⟨⟨⟨⟨⟨⟨⟨⟨⟨⟨⟨rfl, rfl⟩, rfl⟩, n1⟩, n2⟩, n3⟩, n4⟩, n5⟩, n6⟩, ha⟩, hb⟩, hd⟩, hf⟩ := h
    exact e_cmp3 g (lastM3 n1 n2 n3 n4 n5 n6) (mE_ok a g ha) (mE_ok b g hb) (mE_ok d g hd) (mE_ok f g hf)
  | .lcn new own tg it cs r, S, F, X, e, g, h => by
    unfold mE at h
    split at h <;> first | contradiction | skip
    rename_i e1
    cases e1
    simp only [Bool.and_eq_true, beq_iff_eq] at h
    obtain ⟨⟨⟨⟨⟨⟨⟨⟨h1, h2⟩, h3⟩, h4⟩, h5⟩, h6⟩, h7⟩, h8⟩, h9⟩ := h
    exact e_lcn g (mI_ok it g h4 h1) h2 h3 h5 h6 (fun X' g' => mC_ok cs g' h7) h8 (mL_ok r h9) (mI_set h1 _)
  | .ext x es, S, F, X, e, g, h => by
    rw [mE.eq_def] at h
    dsimp only at h
    split at h
    · rename_i ls hx
      exact e_ext g hx h (mEs_ok es g h)
    · cases h
  | .frz a, S, F, X, e, g, h => by
    cases e <;> first | (simp [mE] at h; done) | skip
    simp only [mE] at h
    split at h
    case h_2 => cases h
    exact e_frz (e_var g (by simp only [mE]; exact h))
  | .and a b, S, F, X, e, g, h => by
    cases e <;> first | (simp [mE] at h; done) | skip
    rename_i op es p
    cases op <;> rcases es with _ | ⟨l, _ | ⟨r, rest⟩⟩ <;> first | (simp [mE] at h; done) | skip
    cases rest with
    | nil =>
      simp only [mE, Bool.and_eq_true] at h
      exact e_and (mE_ok a g h.1) (pe_one (mE_ok b g h.2))
    | cons q qs =>
      simp only [mE, Bool.and_eq_true] at h
      exact e_and (mE_ok a g h.1) (mE_ok b g h.2)
  | .or a b, S, F, X, e, g, h => by
    cases e <;> first | (simp [mE] at h; done) | skip
    rename_i op es p
    cases op <;> rcases es with _ | ⟨l, _ | ⟨r, rest⟩⟩ <;> first | (simp [mE] at h; done) | skip
    cases rest with
    | nil =>
      simp only [mE, Bool.and_eq_true] at h
      exact e_or (mE_ok a g h.1) (pe_one (mE_ok b g h.2))
    | cons q qs =>
      simp only [mE, Bool.and_eq_true] at h
      exact e_or (mE_ok a g h.1) (mE_ok b g h.2)
  | .ite t a b, S, F, X, e, g, h => by
    cases e <;> first | (simp [mE] at h; done) | skip
    simp only [mE, Bool.and_eq_true] at h
    exact e_ite (mT_ok t g h.1.1) (mE_ok a g h.1.2) (mE_ok b g h.2)
  | .tup es, S, F, X, e, g, h => by
    cases e <;> first | (simp [mE] at h; done) | skip
    simp only [mE] at h
    exact e_tup (AllE.pa h (mEs_ok es g h))
  | .lst es, S, F, X, e, g, h => by
    cases e <;> first | (simp [mE] at h; done) | skip
    simp only [mE] at h
    exact e_lst (AllE.pa h (mEs_ok es g h))
  | .newl es, S, F, X, e, g, h => by
    cases e <;> first | (simp [mE] at h; done) | skip
    simp only [mE] at h
    exact e_newl (AllE.pa h (mEs_ok es g h))
  | .newd ks es, S, F, X, e, g, h => by
    cases e <;> first | (simp [mE] at h; done) | skip
    simp only [mE, Bool.and_eq_true, decide_eq_true_eq] at h
    exact e_newd h.1.1.1.1 h.1.1.1.2 h.1.1.2 h.1.2 h.2 (mEs_ok es g h.2)
  | .emp, S, F, X, e, g, h => by
    cases e <;> first | (simp [mE] at h; done) | skip
    rename_i ks vs p
    cases ks <;> cases vs <;> first | (simp [mE] at h; done) | skip
    exact e_emp
  | .idx a b, S, F, X, e, g, h => by
    cases e <;> first | (simp [mE] at h; done) | skip
    simp only [mE, Bool.and_eq_true] at h
    exact e_idx g h.2 (mE_ok a g h.1) (mE_ok b g h.2)
  | .sl a lo hi, S, F, X, e, g, h => by
    cases e <;> first | (simp [mE] at h; done) | skip
    rename_i l ix p
    cases ix <;> first | (simp [mE] at h; done) | skip
    rename_i x y z q
    cases z <;> first | (simp [mE] at h; done) | skip
    simp only [mE, Bool.and_eq_true] at h
    exact e_sl g (mE_ok a g h.1.1) (mO_ok lo g h.1.2) (mO_ok hi g h.2)
  | .rev a, S, F, X, e, g, h => by
    unfold mE at h
    split at h <;> first | contradiction | skip
    rename_i e1
    cases e1
    exact e_rev g (mE_ok a g h)
  | .call f es ds, S, F, X, e, g, h => by
    cases e <;> first | (simp [mE] at h; done) | skip
    rename_i fe as kws p
    cases fe <;> cases kws <;> first | (simp [mE] at h; done) | skip
    simp only [mE, Bool.and_eq_true] at h
    obtain ⟨⟨⟨⟨h1, h2⟩, h3⟩, h4⟩, h5⟩ := h
    obtain ⟨Fn, h6, h7⟩ := fn_get h3
    exact e_call g h1 h2 h6 h7 h4 h5 (AllE.pa h5 (mEs_ok es g h5))
  | .callk f es ns ks perm, S, F, X, e, g, h => by
    cases e <;> first | (simp [mE] at h; done) | skip
    rename_i fe as kws p
    cases fe <;> first | (simp [mE] at h; done) | skip
    simp only [mE, Bool.and_eq_true] at h
    obtain ⟨⟨⟨⟨⟨h1, h2⟩, h3⟩, h4⟩, h5⟩, h8⟩ := h
    obtain ⟨Fn, h6, h7⟩ := fn_get h3
    exact e_callk g h1 h2 h6 h7 (kbs_get h4) h5 h8 (AllE.pa h5 (mEs_ok es g h5)) (AllE.pk h8 (mK_ok ks g h8))
  | .isI t a, S, F, X, e, g, h => by
    unfold mE at h
    split at h <;> first | contradiction | skip
    rename_i e1
    cases e1
    simp only [Bool.and_eq_true] at h
    exact e_isI g h.1.1 h.1.2 h.2 (mE_ok a g h.2)
  | .blt b es, S, F, X, e, g, h => by
    cases e <;> first | (simp [mE] at h; done) | skip
    rename_i fe as kws p
    cases fe <;> rcases as with _ | ⟨a, as⟩ <;> cases kws <;> first | (simp [mE] at h; done) | skip
    simp only [mE, Bool.and_eq_true] at h
    exact e_blt g h.1.1 h.1.2 h.2 (AllE.pa h.2 (mEs_ok es g h.2))
  | .comp new tg own it cs el, S, F, X, e, g, h => by
    unfold mE at h
    split at h <;> first | contradiction | skip
    rename_i e1
    cases e1
    simp only [Bool.and_eq_true, beq_iff_eq] at h
    obtain ⟨⟨⟨⟨⟨⟨⟨h1, h2⟩, h3⟩, h4⟩, h5⟩, h6⟩, h7⟩, h8⟩ := h
    exact e_comp g (mI_ok it g h4 h1) h2 h3 h5 h6 (fun X' g' => mC_ok cs g' h7) (fun X' g' => mE_ok el g' h8) (mI_set h1 _)
  | .app o a, S, F, X, e, g, h => by
    unfold mE at h
    split at h <;> first | contradiction | skip
    rename_i e1
    cases e1
    simp only [Bool.and_eq_true, beq_iff_eq] at h
    obtain ⟨⟨⟨h1, h2⟩, h3⟩, h4⟩ := h
    exact e_app g h1 h2 h4 (mE_ok o g h3) (mE_ok a g h4)
  | .fld a x, S, F, X, e, g, h => by
    unfold mE at h
    split at h <;> first | contradiction | skip
    rename_i e1
    cases e1
    simp only [Bool.and_eq_true, beq_iff_eq] at h
    obtain ⟨rfl, h2⟩ := h
    exact e_fld g (mE_ok a g h2)
  | .mkl a, S, F, X, e, g, h => by
    unfold mE at h
    split at h <;> first | contradiction | skip
    rename_i e1
    cases e1
    simp only [Bool.and_eq_true] at h
    exact e_mkl g h.1 h.2 (mE_ok a g h.2)
theorem mT_ok : ∀ (ie : IE) {S : Sc} {F : Fx} {X : Cx} {e : Expr}, Good T S F n X → mT T S ie e = true → PT X e (tT F (evT (cnOf T F n) ie))
  | .and a b, S, F, X, e, g, h => by
    cases e <;> first | (simp [mT] at h; done) | skip
    rename_i op es p
    cases op <;> rcases es with _ | ⟨l, _ | ⟨r, rest⟩⟩ <;> first | (simp [mT] at h; done) | skip
    cases rest with
    | nil =>
      simp only [mT, Bool.and_eq_true] at h
      exact t_and (mT_ok a g h.1) (pw_and1 (mT_ok b g h.2))
    | cons q qs =>
      simp only [mT, Bool.and_eq_true] at h
      exact t_and (mT_ok a g h.1) (PT.pw (mT_ok b g h.2))
  | .or a b, S, F, X, e, g, h => by
    cases e <;> first | (simp [mT] at h; done) | skip
    rename_i op es p
    cases op <;> rcases es with _ | ⟨l, _ | ⟨r, rest⟩⟩ <;> first | (simp [mT] at h; done) | skip
    cases rest with
    | nil =>
      simp only [mT, Bool.and_eq_true] at h
      exact t_or (mT_ok a g h.1) (pw_or1 (mT_ok b g h.2))
    | cons q qs =>
      simp only [mT, Bool.and_eq_true] at h
      exact t_or (mT_ok a g h.1) (PT.pw (mT_ok b g h.2))
  | .not a, S, F, X, e, g, h => by
    cases e <;> first | (simp [mT] at h; done) | skip
    rename_i op l p
    cases op <;> first | (simp [mT] at h; done) | skip
    simp only [mT] at h
    exact t_not (mT_ok a g h)
  | .cmp o a b, S, F, X, e, g, h => by
    cases e <;> first | (simp [mT] at h; done) | skip
    rename_i l ops rs p
    rcases ops with _ | ⟨op, _ | ⟨op2, ops⟩⟩ <;> rcases rs with _ | ⟨r, _ | ⟨r2, rs⟩⟩ <;> first | (simp [mT] at h; done) | skip
    simp only [mT, Bool.and_eq_true] at h
    cases dec_op h.1.1
    exact t_cmp g (opC_mark h.2) (mE_ok a g h.1.2) (mE_ok b g h.2)
  | .cmp2 o o2 a b d, S, F, X, e, g, h => by
    cases e <;> first | (simp [mT] at h; done) | skip
    rename_i l ops rs p
    rcases ops with _ | ⟨op, _ | ⟨op2, _ | ⟨op3, ops⟩⟩⟩ <;> rcases rs with _ | ⟨r, _ | ⟨r2, _ | ⟨r3, rs⟩⟩⟩ <;> first | (simp [mT] at h; done) | skip
    simp only [mT, Bool.and_eq_true, decide_eq_true_eq] at h
    obtain ⟨⟨⟨⟨⟨⟨⟨⟨rfl, rfl⟩, n1⟩, n2⟩, n3⟩, n4⟩, ha⟩, hb⟩, hd⟩ := h
    exact t_cmp2 g (lastM n1 n2 n3 n4) (mE_ok a g ha) (mE_ok b g hb) (mE_ok d g hd)
  | .var i, S, F, X, e, g, h => by
    cases e <;> first | (simp [mT] at h; done) | skip
    refine t_var g ?_
    simp only [mT] at h
    simp only [mE]
    exact h
  | .call f es ds, S, F, X, e, g, h => by
    cases e <;> first | (simp [mT] at h; done) | skip
    rename_i fe as kws p
    cases fe <;> cases kws <;> first | (simp [mT] at h; done) | skip
    simp only [mT, Bool.and_eq_true] at h
    obtain ⟨⟨⟨⟨h1, h2⟩, h3⟩, h4⟩, h5⟩ := h
    obtain ⟨Fn, h6, h7⟩ := fn_get h3
    exact t_call g (e_call g h1 h2 h6 h7 h4 h5 (AllE.pa h5 (mEs_ok es g h5)))
  | .isI t a, S, F, X, e, g, h => by
    unfold mT at h
    split at h <;> first | contradiction | skip
    rename_i e1
    cases e1
    simp only [Bool.and_eq_true] at h
    exact t_isI g (e_isI g h.1.1 h.1.2 h.2 (mE_ok a g h.2))
  | .blt b es, S, F, X, e, g, h => by
    cases e <;> first | (simp [mT] at h; done) | skip
    rename_i fe as kws p
    cases fe <;> rcases as with _ | ⟨a, as⟩ <;> cases kws <;> first | (simp [mT] at h; done) | skip
    simp only [mT, Bool.and_eq_true] at h
    exact t_blt g (e_blt g h.1.1 h.1.2 h.2 (AllE.pa h.2 (mEs_ok es g h.2)))
  | .k _, S, F, X, e, g, h => by cases e <;> (simp [mT] at h; done)
  | .glob _ _, S, F, X, e, g, h => by cases e <;> (simp [mT] at h; done)
  | .bin _ _ _, S, F, X, e, g, h => by cases e <;> (simp [mT] at h; done)
  | .mkb _ _ _, S, F, X, e, g, h => by cases e <;> (simp [mT] at h; done)
  | .neg _, S, F, X, e, g, h => by cases e <;> (simp [mT] at h; done)
  | .ite _ _ _, S, F, X, e, g, h => by cases e <;> (simp [mT] at h; done)
  | .tup _, S, F, X, e, g, h => by cases e <;> (simp [mT] at h; done)
  | .lst _, S, F, X, e, g, h => by cases e <;> (simp [mT] at h; done)
  | .newl _, S, F, X, e, g, h => by cases e <;> (simp [mT] at h; done)
  | .newd _ _, S, F, X, e, g, h => by cases e <;> (simp [mT] at h; done)
  | .emp, S, F, X, e, g, h => by cases e <;> (simp [mT] at h; done)
  | .idx _ _, S, F, X, e, g, h => by cases e <;> (simp [mT] at h; done)
  | .sl _ _ _, S, F, X, e, g, h => by cases e <;> (simp [mT] at h; done)
  | .rev _, S, F, X, e, g, h => by cases e <;> (simp [mT] at h; done)
  | .callk _ _ _ _ _, S, F, X, e, g, h => by cases e <;> (simp [mT] at h; done)
  | .comp _ _ _ _ _ _, S, F, X, e, g, h => by cases e <;> (simp [mT] at h; done)
  | .app _ _, S, F, X, e, g, h => by cases e <;> (simp [mT] at h; done)
  | .fld _ _, S, F, X, e, g, h => by cases e <;> (simp [mT] at h; done)
  | .mkl _, S, F, X, e, g, h => by cases e <;> (simp [mT] at h; done)
  | .cmp3 _ _ _ _ _ _ _, S, F, X, e, g, h => by cases e <;> (simp [mT] at h; done)
  | .frz _, S, F, X, e, g, h => by cases e <;> (simp [mT] at h; done)
  | .lcn _ _ _ _ _ _, S, F, X, e, g, h => by cases e <;> (simp [mT] at h; done)
  | .ext x es, S, F, X, e, g, h => by
    cases e <;> first | (simp [mT] at h; done) | skip
    rw [mT.eq_def] at h
    dsimp only at h
    split at h
    · rename_i ls hx
      exact t_ext g (e_ext g hx h (mEs_ok es g h))
    · cases h
theorem mL_ok : ∀ (r : ICl) {S : Sc} {F : Fx} {gs : List Comprehension} {e : Expr}, mL T S r gs e = true → LRes T S F n r gs e
  | .el a, S, F, gs, e, h => by
    cases gs with
    | nil =>
      simp only [mL] at h
      exact lres_el fun X' g' => mE_ok a g' h
    | cons _ _ => simp [mL] at h
  | .cons tg vs it cs r, S, F, gs, e, h => by
    unfold mL at h
    split at h <;> first | contradiction | skip
    rename_i e1
    cases e1
    simp only [Bool.and_eq_true] at h
    obtain ⟨⟨⟨⟨⟨h1, h2⟩, h3⟩, h4⟩, h5⟩, h6⟩ := h
    exact lres_cons (fun X' g' => mI_ok it g' h2 h1) h3 h4 (fun X' g' => mC_ok cs g' h5) (fun env x => mI_set h1 env x) (mL_ok r h6)
theorem mEs_ok : ∀ (es : IEs) {S : Sc} {F : Fx} {X : Cx} {ls : List Expr}, Good T S F n X → mEs T S es ls = true → AllE X F (cnOf T F n) es ls
  | .nil, S, F, X, ls, g, h => by
    cases ls with
    | nil => exact True.intro
    | cons _ _ => simp [mEs] at h
  | .cons a es, S, F, X, ls, g, h => by
    cases ls with
    | nil => simp [mEs] at h
    | cons l ls =>
      simp only [mEs, Bool.and_eq_true] at h
      exact ⟨mE_ok a g h.1, mEs_ok es g h.2⟩
theorem mK_ok : ∀ (es : IEs) {S : Sc} {F : Fx} {X : Cx} {ns : List Str} {ls : List Keyword}, Good T S F n X → mK T S ns es ls = true → AllE X F (cnOf T F n) es (ls.map (·.value))
  | .nil, S, F, X, ns, ls, g, h => by
    cases ls with
    | nil => exact True.intro
    | cons _ _ => cases ns <;> simp [mK] at h
  | .cons a es, S, F, X, ns, ls, g, h => by
    cases ls with
    | nil => cases ns <;> simp [mK] at h
    | cons l ls =>
      cases ns with
      | nil => simp [mK] at h
      | cons x ns =>
        obtain ⟨y, l, q⟩ := l
        simp only [mK, Bool.and_eq_true] at h
        exact ⟨mE_ok a g h.1.2, mK_ok es g h.2⟩
theorem mO_ok : ∀ (o : IO) {S : Sc} {F : Fx} {X : Cx} {e : Option Expr}, Good T S F n X → mO T S o e = true → PO X e (tOo F (evO (cnOf T F n) o))
  | .no, S, F, X, e, g, h => by
    cases e with
    | none => exact o_no
    | some _ => simp [mO] at h
  | .so a, S, F, X, e, g, h => by
    cases e with
    | none => simp [mO] at h
    | some l =>
      simp only [mO] at h
      exact o_so (mE_ok a g h)
theorem mC_ok : ∀ (cs : IEs) {S : Sc} {F : Fx} {X : Cx} {ls : List Expr}, Good T S F n X → mC T S cs ls = true → PTs X ls (tT F (evC (cnOf T F n) cs))
  | .nil, S, F, X, ls, g, h => by
    cases ls with
    | nil => exact ⟨fun pins s σ H Q I q => pts_nil.run pins s σ H Q I (tt_yes q)⟩
    | cons _ _ => simp [mC] at h
  | .cons a .nil, S, F, X, ls, g, h => by
    rcases ls with _ | ⟨l, _ | ⟨l2, ls⟩⟩ <;> first | (simp [mC] at h; done) | skip
    simp only [mC] at h
    refine ⟨fun pins s σ H Q I q => (pts_one (mT_ok a g h)).run pins s σ H Q I ?_⟩
    obtain ⟨e, h, m, P, st, a⟩ := q
    rw [evC] at a
    exact ⟨e, h, m, P, st, a⟩
  | .cons _ (.cons _ _), S, F, X, ls, g, h => by
    rcases ls with _ | ⟨l, _ | ⟨l2, ls⟩⟩ <;> (simp [mC] at h; done)
theorem mI_ok : ∀ (it : IT) {S : Sc} {F : Fx} {X : Cx} {tg e : Expr}, Good T S F n X → tupOk it tg = true → mI T S it e = true → PI X tg e (tI F (evI (cnOf T F n) it))
  | .val a, S, F, X, tg, e, g, ht, h => by
    simp only [mI, Bool.and_eq_true] at h
    exact i_val g (mE_ok a g h.1)
  | .rng1 a, S, F, X, tg, e, g, ht, h => by
    unfold mI at h
    split at h <;> first | contradiction | skip
    rename_i e1
    cases e1
    simp only [Bool.and_eq_true] at h
    exact i_rng1 g h.1 h.2 (mE_ok a g h.2)
  | .rng2 a b, S, F, X, tg, e, g, ht, h => by
    unfold mI at h
    split at h <;> first | contradiction | skip
    rename_i e1
    cases e1
    simp only [Bool.and_eq_true] at h
    exact i_rng2 g h.1.1 h.1.2 h.2 (mE_ok a g h.1.2) (mE_ok b g h.2)
  | .enum a, S, F, X, tg, e, g, ht, h => by
    cases tg <;> first | (simp [tupOk] at ht; done) | skip
    unfold mI at h
    split at h <;> first | contradiction | skip
    rename_i e1
    cases e1
    simp only [Bool.and_eq_true] at h
    exact i_enum g h.1 h.2 (mE_ok a g h.2)
  | .zip a b, S, F, X, tg, e, g, ht, h => by
    cases tg <;> first | (simp [tupOk] at ht; done) | skip
    unfold mI at h
    split at h <;> first | contradiction | skip
    rename_i e1
    cases e1
    simp only [Bool.and_eq_true] at h
    exact i_zip g h.1.1 h.1.2 h.2 (mE_ok a g h.1.2) (mE_ok b g h.2)
end
end
end MI

/-! MiS17: statements -/
namespace MI
open PySem PySem.Spec L2
open PyProof.Rows hiding St
/-- the context of a body -/
structure GoodB (T : Tb) (S : Sc) (F : Fx) (n : Nat) (X : Cx) : Prop where
  g : Good T S F n X
  po : PassesOwn (model X.prog X.w) X.A X.env X.xe
  stk : X.stack = X.env :: X.outer
  fr : X.env.frame = some X.env.locals
section
variable {T : Tb} {S : Sc} {F : Fx} {n : Nat} {X : Cx} {σ : St} {H : Hp} {D : Ends}
/-! ### what runs first -/
theorem tS_E {r : Env → Sto → RE} {k : Env → MV → Sto → RS} (t : tS F (fun e h => match r e h with | .ok (v, h) => k e v h | .exc c fs h => some (.ex c fs e, h) | .bad => none) D σ H) :
    tE F r σ H fun x H1 => ∃ e v h1 m1 P1, Stn F e h1 σ m1 P1 H1 ∧ RMV F.G m1 P1 h1.length H1 v x ∧ AftS F m1 P1 h1 H1 D (k e v h1) := by
  obtain ⟨e, h, m, P, ⟨re, St⟩, a⟩ := t
  refine ⟨e, h, m, P, ⟨re, St⟩, ?_⟩
  dsimp only at a
  revert a
  cases r e h with
  | exc c fs h1 => exact fun a d H' m' P' x s xr => a d σ H' m' P' x s xr (x.env St re)
  | bad => exact fun a => a
  | ok v =>
    obtain ⟨v, h1⟩ := v
    exact fun a x H1 m1 P1 x1 s1 q1 => ⟨e, v, h1, m1, P1, ⟨x1.env St re, s1⟩, q1, AftS.af x1 a⟩
theorem tS_A {r : Env → Sto → R (List MV × Sto)} {k : Env → List MV → Sto → RS} (t : tS F (fun e h => match r e h with | .ok (v, h) => k e v h | .exc c fs h => some (.ex c fs e, h) | .bad => none) D σ H) :
    tA F r σ H fun x H1 => ∃ e v h1 m1 P1, Stn F e h1 σ m1 P1 H1 ∧ RMs F.G m1 P1 h1.length H1 v x ∧ AftS F m1 P1 h1 H1 D (k e v h1) := by
  obtain ⟨e, h, m, P, ⟨re, St⟩, a⟩ := t
  refine ⟨e, h, m, P, ⟨re, St⟩, ?_⟩
  dsimp only at a
  revert a
  cases r e h with
  | exc c fs h1 => exact fun a d H' m' P' x s xr => a d σ H' m' P' x s xr (x.env St re)
  | bad => exact fun a => a
  | ok v =>
    obtain ⟨v, h1⟩ := v
    exact fun a x H1 m1 P1 x1 s1 q1 => ⟨e, v, h1, m1, P1, ⟨x1.env St re, s1⟩, q1, AftS.af x1 a⟩
theorem tS_T {r : Env → Sto → R (Bool × Sto)} {k : Env → Bool → Sto → RS} (t : tS F (fun e h => match r e h with | .ok (v, h) => k e v h | .exc c fs h => some (.ex c fs e, h) | .bad => none) D σ H) :
    tT F r σ H fun b H1 => ∃ e h1 m1 P1, Stn F e h1 σ m1 P1 H1 ∧ AftS F m1 P1 h1 H1 D (k e b h1) := by
  obtain ⟨e, h, m, P, ⟨re, St⟩, a⟩ := t
  refine ⟨e, h, m, P, ⟨re, St⟩, ?_⟩
  dsimp only at a
  revert a
  cases r e h with
  | exc c fs h1 => exact fun a d H' m' P' x s xr => a d σ H' m' P' x s xr (x.env St re)
  | bad => exact fun a => a
  | ok v =>
    obtain ⟨v, h1⟩ := v
    exact fun a H1 m1 P1 x1 s1 => ⟨e, h1, m1, P1, ⟨x1.env St re, s1⟩, AftS.af x1 a⟩
/-! ### small statements -/
def isComp : Expr → Bool
  | .ListComp _ _ _ _ => true
  | .SetComp _ _ _ _ => true
  | .DictComp _ _ _ _ _ => true
  | _ => false
theorem sw_no {e : Expr} {t : Option Expr} {l : Nat} {env : PySem.Env} (h : isComp e = false) : swapsWith e t l env = pure false := by
  cases e <;> first | rfl | (exact absurd h (by simp [isComp]))
theorem set_tE {i : Nat} {a : IE} (t : tS F (evS (cnOf T F n) (.set i a)) D σ H) : tE F (evE (cnOf T F n) a) σ H fun x H1 => gName i x σ H1 D.nx := by
  obtain ⟨e, h, m, P, st, a0⟩ := t
  rw [evS] at a0
  refine tE_mono (tS_E (F := F) (k := fun e v h => some (.nx (e.set i (some v)), h)) ⟨e, h, m, P, st, a0⟩) ?_
  rintro x H1 ⟨e, v, h1, m1, P1, ⟨re, s1⟩, q1, a1⟩
  exact a1 _ H1 m1 P1 Ext.refl s1 (re.set q1)
theorem s_set (g : Good T S F n X) {i : Nat} {a : IE} {x : Str} {p q : Pos} {e : Expr} (h1 : (S.N[i]? == some x) = true) (h2 : stoB S x = true) (hc : isComp e = false) (ha : PE X e (tE F (evE (cnOf T F n) a))) : PS X (.Assign [.Name x p] e q) (tS F (evS (cnOf T F n) (.set i a))) := by
  obtain ⟨l1, l2⟩ := g.loc h2
  exact PS.imp (ps_set (by rw [g.N]; exact g.nd) (by rw [g.N]; exact eq_of_beq h1) l1 ha (sw_no hc) l2) fun D σ H t => set_tE t
theorem s_setc (g : Good T S F n X) {i : Nat} {x : Str} {p q : Pos} {new : Bool} {tg : TG} {own : List Nat} {it : IT} {cs : IEs} {el : IE} {elt tgE iter : Expr} {fs : List Expr} {scope : Scope} {pos : Pos}
    (h1 : (S.N[i]? == some x) = true) (h2 : S.sc.names.lookup x = some .local) (h3 : S.sc.kind = .function) (h4 : (p.line == pos.line) = true) (h5 : (scope.names.any fun (n, k) => n == x && (k == .local || k == .cell)) = false)
    (h : mE T S (.comp new tg own it cs el) (.ListComp elt [⟨tgE, iter, fs, 0⟩] scope pos) = true) :
    PS X (.Assign [.Name x p] (.ListComp elt [⟨tgE, iter, fs, 0⟩] scope pos) q) (tS F (evS (cnOf T F n) (.set i (.comp new tg own it cs el)))) := by
  simp only [mE, Bool.and_eq_true, beq_iff_eq] at h
  obtain ⟨⟨⟨⟨⟨⟨⟨k1, k2⟩, k3⟩, k4⟩, k5⟩, k6⟩, k7⟩, k8⟩ := h
  have ok : BlkOk X.N X.env.scope scope (ownB S own) := by rw [g.N, g.sc]; exact blkOk_by k2
  have hl : X.env.scope.names.lookup x = some .local := by rw [g.sc]; exact h2
  have pe := ps_setLc (pos := pos) (py := p) (spos := q) (wi := tI F (evI (cnOf T F n) it)) (g := gOf X.K tg) (tt := tT (noX F) (evC (cnOf T F n) cs)) (te := tE (noX F) (evE (cnOf T F n) el)) (i := i) g.calm (by rw [g.N]; exact g.nd)
    (by rw [g.N]; exact eq_of_beq h1) hl (sw_true (by rw [g.sc]; exact h3) hl h4 h5) (mI_ok it g k4 k1) ok (fun s H C cl fp => pg_of g.blk k6) (fun s H C cl fp => mC_ok cs g.blk k7) (fun s H C cl fp => mE_ok el g.blk k8) (mI_set k1 _)
  rw [k3] at pe
  exact PS.imp pe fun D σ H t => lc_t g k5 (set_tE t)
theorem s_setl (g : Good T S F n X) {i : Nat} {x : Str} {p q : Pos} {new : Bool} {tg : TG} {own : List Nat} {it : IT} {cs : IEs} {r : ICl} {elt tgE iter : Expr} {fs : List Expr} {gs : List Comprehension} {scope : Scope} {pos : Pos}
    (h1 : (S.N[i]? == some x) = true) (h2 : S.sc.names.lookup x = some .local) (h3 : S.sc.kind = .function) (h4 : (p.line == pos.line) = true) (h5 : (scope.names.any fun (n, k) => n == x && (k == .local || k == .cell)) = false)
    (h : mE T S (.lcn new own tg it cs r) (.ListComp elt (⟨tgE, iter, fs, 0⟩ :: gs) scope pos) = true) :
    PS X (.Assign [.Name x p] (.ListComp elt (⟨tgE, iter, fs, 0⟩ :: gs) scope pos) q) (tS F (evS (cnOf T F n) (.set i (.lcn new own tg it cs r)))) := by
  simp only [mE, Bool.and_eq_true, beq_iff_eq] at h
  obtain ⟨⟨⟨⟨⟨⟨⟨⟨k1, k2⟩, k3⟩, k4⟩, k5⟩, k6⟩, k7⟩, k8⟩, k9⟩ := h
  have ok : BlkOk X.N X.env.scope scope (ownB S own) := by rw [g.N, g.sc]; exact blkOk_by k2
  have hl : X.env.scope.names.lookup x = some .local := by rw [g.sc]; exact h2
  obtain ⟨crs, a, rfl, hcl, hx⟩ := mL_ok (n := n) (F := F) r k9
  have hv2 : ∀ i ∈ dv crs, i ∈ (ownB S own).map (·.2) := fun i hi => by
    rw [hcl.dv] at hi
    rw [k3]
    exact List.contains_iff_mem.mp (List.all_eq_true.mp k8 i hi)
  have pe := ps_setLcN (X := X) (elt := elt) (te := tE (noX F) (evE (cnOf T F n) a)) (scope := scope) (pos := pos) (py := p) (spos := q) (i := i) (own := ownB S own) (c := ⟨tgE, iter, fs, tI F (evI (cnOf T F n) it), gOf X.K tg, tT (noX F) (evC (cnOf T F n) cs), []⟩) (cs := crs) g.calm (by rw [g.N]; exact g.nd)
    (by rw [g.N]; exact eq_of_beq h1) hl (sw_true (by rw [g.sc]; exact h3) hl h4 h5) (mI_ok it g k4 k1) ok hv2
    ⟨fun s H C cl fp => pg_of g.blk k6, fun s H C cl fp => mC_ok cs g.blk k7, fun s H C cl fp => (hx _ g.blk).2, fun s H C cl fp => (hx _ g.blk).1⟩ (mI_set k1 _)
  rw [k3] at pe
  exact PS.imp pe fun D σ H t => lcn_t (c := ⟨tgE, iter, fs, tI F (evI (cnOf T F n) it), gOf X.K tg, tT (noX F) (evC (cnOf T F n) cs), []⟩) rfl (by show gOf X.K tg = _; rw [g.hK]) rfl k5 hcl (set_tE t)
theorem s_ret {a : IE} {e : Expr} {p : Pos} (ha : PE X e (tE F (evE (cnOf T F n) a))) : PS X (.Return (some e) p) (tS F (evS (cnOf T F n) (.ret a))) := by
  refine PS.imp (ps_ret ha) ?_
  rintro D σ H ⟨e, h, m, P, st, a0⟩
  rw [evS] at a0
  refine tE_mono (tS_E (F := F) (k := fun e v h => some (.rt v, h)) ⟨e, h, m, P, st, a0⟩) ?_
  rintro x H1 ⟨e, v, h1, m1, P1, ⟨re, s1⟩, q1, a1⟩
  exact a1 _ H1 m1 P1 Ext.refl s1 q1
theorem s_retn {p : Pos} : PS X (.Return none p) (tS F (evS (cnOf T F n) .retn)) := by
  refine PS.imp ps_retN ?_
  rintro D σ H ⟨e, h, m, P, st, a0⟩
  rw [evS] at a0
  exact a0 .non H m P Ext.refl st.2 rfl
theorem s_ex {a : IE} {e : Expr} {p : Pos} (hc : isComp e = false) (ha : PE X e (tE F (evE (cnOf T F n) a))) : PS X (.Expr e p) (tS F (evS (cnOf T F n) (.ex a))) := by
  refine PS.imp (ps_expr ha (sw_no hc)) ?_
  rintro D σ H ⟨e, h, m, P, st, a0⟩
  rw [evS] at a0
  refine tE_mono (tS_E (F := F) (k := fun e v h => some (.nx e, h)) ⟨e, h, m, P, st, a0⟩) ?_
  rintro x H1 ⟨e, v, h1, m1, P1, ⟨re, s1⟩, q1, a1⟩
  exact a1 _ H1 m1 P1 Ext.refl s1 re
theorem s_pass {p : Pos} : PS X (.Pass p) (tS F (evS (cnOf T F n) .pass)) := by
  refine PS.imp ps_pass ?_
  rintro D σ H ⟨e, h, m, P, st, a0⟩
  rw [evS] at a0
  exact a0 σ H m P Ext.refl st.2 st.1
theorem s_brk {p : Pos} : PS X (.Break p) (tS F (evS (cnOf T F n) .brk)) := by
  refine PS.imp ps_break ?_
  rintro D σ H ⟨e, h, m, P, st, a0⟩
  rw [evS] at a0
  exact a0 σ H m P Ext.refl st.2 st.1
theorem s_cnt {p : Pos} : PS X (.Continue p) (tS F (evS (cnOf T F n) .cnt)) := by
  refine PS.imp ps_continue ?_
  rintro D σ H ⟨e, h, m, P, st, a0⟩
  rw [evS] at a0
  exact a0 σ H m P Ext.refl st.2 st.1
/-! ### several names -/
def isTupE : Expr → Bool
  | .Tuple _ _ _ => true
  | _ => false
theorem s_unp (g : Good T S F n X) {l : List Nat} {a : IE} {ts : List Expr} {k : Nat} {p q : Pos} {e : Expr} (hn : nmB S l ts = true) (ht : isTupE e = false) (ha : PE X e (tE F (evE (cnOf T F n) a))) :
    PS X (.Assign [.Tuple ts k p] e q) (tS F (evS (cnOf T F n) (.unp l a))) := by
  have hs : swapsWithSole [.Tuple ts k p] e q.line X.env = pure false := by cases e <;> rfl
  have hw : swappedStores [.Tuple ts k p] e X.env = pure none := by cases e <;> first | rfl | (exact absurd ht (by simp [isTupE]))
  refine PS.imp (ps_asg ha (pg_of g (tg := .tp l) hn) hs hw) ?_
  rintro D σ H ⟨e, h, m, P, st, a0⟩
  rw [evS] at a0
  refine tE_mono (tS_E (F := F) (k := fun e v h => (match give (.tp l) (.one v) h e with | some e' => some (.nx e', h) | none => none)) ⟨e, h, m, P, st, a0⟩) ?_
  rintro x H1 ⟨e, v, h1, m1, P1, ⟨re, s1⟩, q1, a1⟩
  rw [g.hK]
  split at a1
  · rename_i e' eg
    exact give_ok (x := .one v) eg re q1 fun σ' re' _ => a1 σ' H1 m1 P1 Ext.refl s1 re'
  · exact a1.elim
def isStar : Expr → Bool
  | .Starred _ _ => true
  | _ => false
theorem s_par (g : Good T S F n X) {i j : Nat} {a b : IE} {x y : Str} {px py pt pt2 q : Pos} {kt k2 : Nat} {l r : Expr} (hi : (S.N[i]? == some x) = true) (hj : (S.N[j]? == some y) = true) (hij : i ≠ j) (hx : S.sc.names.lookup x = some .local) (hy : S.sc.names.lookup y = some .local)
    (hk : S.sc.kind = .function) (hln : (py.line == px.line) = true) (hxy : (x == y) = false) (hs1 : isStar l = false) (hs2 : isStar r = false)
    (hf : (foldedForSure 8 l && foldedForSure 8 r) = false) (hc : (constantsAlone 8 l && constantsAlone 8 r) = false) (ha : PA X [l, r] (tA F (evEs (cnOf T F n) (.cons a (.cons b .nil))))) :
    PS X (.Assign [.Tuple [.Name x px, .Name y py] kt pt] (.Tuple [l, r] k2 pt2) q) (tS F (evS (cnOf T F n) (.par i j a b))) := by
  have kx : X.env.kindOf x = some .local := by show X.env.scope.names.lookup x = _; rw [g.sc]; exact hx
  have ky : X.env.kindOf y = some .local := by show X.env.scope.names.lookup y = _; rw [g.sc]; exact hy
  have kb : X.env.blockKind = .function := by unfold Env.blockKind; rw [g.sc, hk]; try rfl
  have hw : swappedStores [.Tuple [.Name x px, .Name y py] kt pt] (.Tuple [l, r] k2 pt2) X.env = pure (some [x, y]) := by
    unfold swappedStores
    have e1 : ((py.line == px.line) = true) := hln
    have e2 : (y == x) = false := by
      cases q : y == x with
      | false => rfl
      | true => rw [eq_of_beq q] at hxy; simp at hxy
    simp only [kb, List.length_cons, List.length_nil, List.any_cons, List.any_nil, List.head?_cons, Option.map_some, Option.getD_some, List.filterMap_cons, List.filterMap_nil, kx, ky, Expr.pos, hln, List.all_cons, List.all_nil, Bool.and_true, Bool.or_false, hf, hc]
    have e3 : (some NameKind.local == some NameKind.local) = true := rfl
    have e4 : (px.line == px.line) = true := beq_self_eq_true _
    simp only [e3, e4, Bool.and_self, if_true]
    have e5 : ([x, y] : List Str).eraseDups.length = 2 := by simp [List.eraseDups_cons, e2]
    simp only [e5]
    rw [if_neg (by decide), if_neg (fun hh => by
      rw [Bool.or_eq_true] at hh
      rcases hh with hh | hh
      · exact Bool.false_ne_true (hs1.symm.trans hh)
      · exact Bool.false_ne_true (hs2.symm.trans hh)), if_neg (by simp), if_neg (by decide), if_neg (by decide)]
  refine PS.imp (ps_par g.calm (by rw [g.N]; exact g.nd) (by rw [g.N]; exact eq_of_beq hi) (by rw [g.N]; exact eq_of_beq hj) hij kx ky ha hw) ?_
  rintro D σ H ⟨e, h, m, P, st, a0⟩
  rw [evS] at a0
  refine tA_mono (tS_A (F := F) (D := D) (k := fun e vs h => (match vs with | [v, w] => some (.nx ((e.set i (some v)).set j (some w)), h) | _ => none)) ⟨e, h, m, P, st, ?_⟩) ?_
  · revert a0
    dsimp only
    cases evEs (cnOf T F n) (.cons a (.cons b .nil)) e h with
    | exc c fs h1 => exact fun a => a
    | bad => exact fun a => a
    | ok vs =>
      obtain ⟨vs, h1⟩ := vs
      rcases vs with _ | ⟨v, _ | ⟨w, _ | ⟨z, vs⟩⟩⟩ <;> exact fun a => a
  · rintro xs H1 ⟨e, vs, h1, m1, P1, ⟨re, s1⟩, q1, a1⟩
    split at a1
    · rename_i v w
      obtain ⟨x1, y1, rfl, r1, r2⟩ := rms2 q1
      exact ⟨x1, y1, rfl, a1 _ H1 m1 P1 Ext.refl s1 ((re.set r1).set r2)⟩
    · exact a1.elim
theorem s_par2 (g : Good T S F n X) {i j : Nat} {a b : IE} {x y : Str} {px py pt pt2 q : Pos} {kt k2 : Nat} {l r : Expr} (hn : nmB S [i, j] [.Name x px, .Name y py] = true) (hl : (S.sc.names.lookup x == some .local && S.sc.names.lookup y == some .local) = false)
    (ha : PA X [l, r] (tA F (evEs (cnOf T F n) (.cons a (.cons b .nil))))) : PS X (.Assign [.Tuple [.Name x px, .Name y py] kt pt] (.Tuple [l, r] k2 pt2) q) (tS F (evS (cnOf T F n) (.par i j a b))) := by
  have kxy : (X.env.kindOf x == some .local && X.env.kindOf y == some .local) = false := by
    show (X.env.scope.names.lookup x == some .local && X.env.scope.names.lookup y == some .local) = false
    rw [g.sc]; exact hl
  have hw : swappedStores [.Tuple [.Name x px, .Name y py] kt pt] (.Tuple [l, r] k2 pt2) X.env = pure none := by
    unfold swappedStores
    simp only [List.head?_cons, Option.map_some, Option.getD_some, List.filterMap_cons, List.filterMap_nil, Expr.pos]
    rw [Bool.and_eq_false_iff] at kxy
    rcases kxy with k | k
    · by_cases hy : (X.env.kindOf y == some NameKind.local && py.line == px.line) = true <;> simp [k, hy]
    · by_cases hy : X.env.kindOf x = some NameKind.local <;> simp [k, hy]
  have hs : swapsWithSole [.Tuple [.Name x px, .Name y py] kt pt] (.Tuple [l, r] k2 pt2) q.line X.env = pure false := rfl
  refine PS.imp (ps_asg (pe_tup ha) (pg_of g (tg := .tp [i, j]) hn) hs hw) ?_
  rintro D σ H ⟨e, h, m, P, st, a0⟩
  rw [evS] at a0
  show tTup (tA F (evEs (cnOf T F n) (.cons a (.cons b .nil)))) σ H fun x H1 => gOf X.K (.tp [i, j]) x σ H1 D.nx
  refine tA_mono (tS_A (F := F) (D := D) (k := fun e vs h => (match vs with | [v, w] => some (.nx ((e.set i (some v)).set j (some w)), h) | _ => none)) ⟨e, h, m, P, st, ?_⟩) ?_
  · revert a0
    dsimp only
    cases evEs (cnOf T F n) (.cons a (.cons b .nil)) e h with
    | exc c fs h1 => exact fun a => a
    | bad => exact fun a => a
    | ok vs =>
      obtain ⟨vs, h1⟩ := vs
      rcases vs with _ | ⟨v, _ | ⟨w, _ | ⟨z, vs⟩⟩⟩ <;> exact fun a => a
  · rintro xs H1 ⟨e, vs, h1, m1, P1, ⟨re, s1⟩, q1, a1⟩
    split at a1
    · rename_i v w
      obtain ⟨x1, y1, rfl, r1, r2⟩ := rms2 q1
      refine ⟨by show 2 ≤ sizeLine; decide, fun p hp => ?_⟩
      obtain ⟨s2, x2⟩ := s1.allocP (B := F.B) (u := .tup [x1, y1]) hp
      refine ⟨p, [x1, y1], rfl, .inl (.inl upd_same), rfl, ?_⟩
      exact ⟨x1, [y1], rfl, y1, [], rfl, rfl, a1 _ _ m1 _ x2 s2 (((x2.env s1 re).set (x2.rmv s1 r1)).set (x2.rmv s1 r2))⟩
    · exact a1.elim
/-! ### o[i] = v -/
theorem locs_set {xs : List MV} {j k : Nat} {v : MV} (h : k ∈ (MO.lst (xs.set j v)).locs) : k ∈ (MO.lst xs).locs ∨ v = .loc k := by
  simp only [MO.locs, List.mem_filterMap] at h ⊢
  obtain ⟨w, hw, e⟩ := h
  rcases List.mem_or_eq_of_mem_set hw with hw | hw
  · exact .inl ⟨w, hw, e⟩
  · subst hw
    cases w with
    | pv _ => cases e
    | loc n => exact .inr (by have := Option.some.inj e; rw [this])
theorem paired_set {α β : Type} {R : α → β → Prop} : ∀ {xs : List α} {ys : List β} {i : Nat} {x : α} {y : β}, Paired R xs ys → R x y → Paired R (xs.set i x) (ys.set i y)
  | _, _, _, _, _, .nil, _ => .nil
  | _, _, 0, _, _, .cons _ t, q => .cons q t
  | _, _, i + 1, _, _, .cons r t, q => .cons r (paired_set t q)
theorem kput_mem {k : DKey} {v : MV} : ∀ {kvs : List (DKey × MV)} {p : DKey × MV}, p ∈ kput k v kvs → p ∈ kvs ∨ p.2 = v := by
  intro kvs p h
  unfold kput at h
  split at h
  · rw [List.mem_map] at h
    obtain ⟨q, hq, e⟩ := h
    split at e
    · subst e; exact .inr rfl
    · subst e; exact .inl hq
  · rw [List.mem_append] at h
    rcases h with h | h
    · exact .inl h
    · simp at h; subst h; exact .inr rfl
theorem locs_kput {k : DKey} {v : MV} {kvs : List (DKey × MV)} {j : Nat} (h : j ∈ (MO.dct (kput k v kvs)).locs) : j ∈ (MO.dct kvs).locs ∨ v = .loc j := by
  simp only [MO.locs, List.mem_filterMap] at h ⊢
  obtain ⟨⟨a, w⟩, hw, e⟩ := h
  rcases kput_mem hw with hw | hw
  · exact .inl ⟨_, hw, e⟩
  · dsimp only at hw
    subst hw
    cases w with
    | pv _ => cases e
    | loc n => exact .inr (by have := Option.some.inj e; rw [this])
abbrev RK (G : Gb) (m : Nat → Addr) (P : Addr → Prop) (N : Nat) (H : Hp) : List (DKey × MV) → List (Key × V) → Prop := Paired (fun (p : DKey × MV) (q : Key × V) => p.1 = q.1 ∧ RMV G m P N H p.2 q.2)
theorem kmap_put {G : Gb} {m : Nat → Addr} {P : Addr → Prop} {N : Nat} {H : Hp} {k : DKey} {v : MV} {x : V} : ∀ {kvs : List (DKey × MV)} {kws : List (Key × V)}, RK G m P N H kvs kws → RMV G m P N H v x →
    RK G m P N H (kvs.map fun kv => if kv.1 = k then (kv.1, v) else kv) (kws.map fun kv => if kv.1 = k then (kv.1, x) else kv)
  | _, _, .nil, _ => .nil
  | a :: as, b :: bs, .cons h t, q => by
    refine .cons ?_ (kmap_put t q)
    have e : a.1 = b.1 := h.1
    dsimp only
    rw [e]
    split
    · exact ⟨rfl, q⟩
    · exact h
theorem kput_put {G : Gb} {m : Nat → Addr} {P : Addr → Prop} {N : Nat} {H : Hp} {k : DKey} {v : MV} {x : V} {kvs : List (DKey × MV)} {kws : List (Key × V)} (r : RK G m P N H kvs kws) (q : RMV G m P N H v x) : RK G m P N H (kput k v kvs) (putK kws k x) := by
  have any : (kvs.any fun kv => decide (kv.1 = k)) = (kws.any fun kv => decide (kv.1 = k)) := by
    induction r with
    | nil => rfl
    | cons h t ih => simp only [List.any_cons, ih, h.1]
  unfold kput putK
  rw [any]
  split
  · exact kmap_put r q
  · exact paired_app r (.cons ⟨rfl, q⟩ .nil)
theorem dset_end {m : Nat → Addr} {P : Addr → Prop} {h : Sto} {H : Hp} {u i w : MV} {x z y : V} {h' : Sto} (s2 : SR F.G m P h H) (q0 : RMV F.G m P h.length H u x) (q1 : RMV F.G m P h.length H i z) (q2 : RMV F.G m P h.length H w y) (e : oSet F.B u i w h = some h') {Q : Hp → Prop}
    (q : ∀ H', Ext F.B m P h H m P h' H' → SR F.G m P h' H' → Q H') : rSetL x z y H Q ∨ rSetD x z y H Q := by
  cases u with
  | pv _ => simp [oSet] at e
  | loc k =>
    obtain ⟨hk, rfl⟩ := q0
    simp only [oSet] at e
    split at e
    case isFalse => cases e
    rename_i hm
    split at e
    · rename_i xs eo
      split at e
      · rename_i j
        split at e
        · rename_i ix ej
          cases e
          obtain ⟨vs, hv, rr⟩ := s2.obj k _ eo
          have hl := Paired.length rr
          refine .inl ⟨_, vs, j, ix, rfl, q1, hv, by rw [← hl]; exact ej, ?_⟩
          have w2 := write_lst (B := F.B) s2 eo (xs' := xs.set ix w) (vs' := vs.set ix y) ?_ (fun hB j hj => by
            rcases locs_set hj with z | z
            · exact z
            · subst z; exact (may_loc hm hB).elim)
          · exact q _ w2.2 w2.1
          · exact paired_set rr q2
        · cases e
      · cases e
    · rename_i kvs eo
      split at e
      · rename_i kk ek
        split at e
        · rename_i hlt
          cases e
          obtain ⟨kws, hv, rr⟩ := s2.obj k _ eo
          have hl := Paired.length rr
          have hz : kws.length < sizeLine := by rw [sizeLine_eq]; omega
          refine .inr ⟨_, _, rfl, .inl ⟨kws, kk, hv, key_rel q1 ek, hz, rfl⟩, ?_⟩
          have w2 := SR.write (B := F.B) (ob' := .dct (kput kk w kvs)) (u := .dK (putK kws kk y)) s2 eo rfl rfl ⟨_, upd_same, Paired.mono (fun _ _ z => ⟨z.1, RMV.mono (fun _ _ => rfl) (Nat.le_refl _) (fun _ q => q) (kp_write s2 eo rfl) z.2⟩) (kput_put rr q2)⟩ (fun hB j hj => by
            rcases locs_kput hj with z | z
            · exact z
            · subst z; exact (may_loc hm hB).elim)
          exact q _ w2.2 w2.1
        · cases e
      · cases e
    · cases e
theorem set_any (hu : X.A.units + 1 < cLine) : PSet X (fun o i v H Q => rSetL o i v H Q ∨ rSetD o i v H Q) := by
  intro pins s σ H o i v ov iv u Q I ro ri rv h
  rcases h with h | h
  · exact set_list pins s σ H o i v ov iv u Q I ro ri rv h
  · exact set_dict hu pins s σ H o i v ov iv u Q I ro ri rv h
theorem s_sub (g : Good T S F n X) {o i a : IE} {l r e : Expr} {p q : Pos} (hmi : mE T S i r = true) (ho : PE X l (tE F (evE (cnOf T F n) o))) (hi : PE X r (tE F (evE (cnOf T F n) i))) (ha : PE X e (tE F (evE (cnOf T F n) a))) :
    PS X (.Assign [.Subscript l r p] e q) (tS F (evS (cnOf T F n) (.sub o i a))) := by
  have hs : swapsWithSole [.Subscript l r p] e q.line X.env = pure false := by cases e <;> rfl
  have hw : swappedStores [.Subscript l r p] e X.env = pure none := by cases e <;> rfl
  have hsub : ∀ v, assign (.Subscript l r p) X.env v = (do
      let ov ← holding [v] (eval l X.env)
      let iv ← holding [v, ov] (eval r X.env)
      standAt p
      holding [v, ov, iv] (setItem ov iv v)
      release [v, ov, iv] []) := fun v => by
    cases r <;> first | rfl | (exfalso; cases i <;> simp [mE] at hmi)
  refine PS.imp (ps_asg ha (pg_sub ho hi (set_any (by have := g.un; omega)) hsub) hs hw) ?_
  rintro D σ H ⟨e, h, m, P, st, a0⟩
  rw [evS] at a0
  refine tE_mono (tS_E (F := F) (k := fun e v h => (match evE (cnOf T F n) o e h with
        | .ok (x, h) => (match evE (cnOf T F n) i e h with
          | .ok (y, h) => (match oSet (cnOf T F n).B x y v h with | some h' => some (.nx e, h') | none => none)
          | .exc c fs h => some (.ex c fs e, h)
          | .bad => none)
        | .exc c fs h => some (.ex c fs e, h)
        | .bad => none)) ⟨e, h, m, P, st, a0⟩) ?_
  rintro z H1 ⟨e, v, h1, m1, P1, st1, q1, a1⟩
  obtain ⟨re1, s1⟩ := st1
  refine ⟨e, h1, m1, P1, ⟨re1, s1⟩, ?_⟩
  revert a1
  cases evE (cnOf T F n) o e h1 with
  | exc c fs h2 => exact fun a d H' m' P' x s xr => a d σ H' m' P' x s xr (x.env s1 re1)
  | bad => exact fun a => a
  | ok x =>
    obtain ⟨x, h2⟩ := x
    intro a1 xo H2 m2 P2 x2 s2 q2
    have a2 := AftS.af x2 a1
    have re2 := x2.env s1 re1
    refine ⟨e, h2, m2, P2, ⟨re2, s2⟩, ?_⟩
    dsimp only at a2
    revert a2
    cases evE (cnOf T F n) i e h2 with
    | exc c fs h3 => exact fun a d H' m' P' x s xr => a d σ H' m' P' x s xr (x.env s2 re2)
    | bad => exact fun a => a
    | ok y =>
      obtain ⟨y, h3⟩ := y
      intro a2 yo H3 m3 P3 x3 s3 q3
      have a3 := AftS.af x3 a2
      have re3 := x3.env s2 re2
      dsimp only at a3
      split at a3
      · rename_i h' eh
        exact dset_end s3 (x3.rmv s2 q2) q3 ((x2.trans x3).rmv s1 q1) eh fun H' x' s' => a3 σ H' m3 P3 x' s' (x'.env s3 re3)
      · exact a3.elim
theorem s_if {t : IE} {a b : ISs} {c : Expr} {x y : List Stmt} {p : Pos} (ht : PT X c (tT F (evT (cnOf T F n) t))) (ha : PSs X x (tS F (evB (cnOf T F n) a))) (hb : PSs X y (tS F (evB (cnOf T F n) b))) : PS X (.If c x y p) (tS F (evS (cnOf T F n) (.iff t a b))) := by
  refine PS.imp (ps_if ht ha hb) ?_
  rintro D σ H ⟨e, h, m, P, ⟨re, St⟩, a0⟩
  rw [evS] at a0
  refine ⟨e, h, m, P, ⟨re, St⟩, ?_⟩
  revert a0
  cases evT (cnOf T F n) t e h with
  | exc c fs h1 => exact fun a d H' m' P' x s xr => a d σ H' m' P' x s xr (x.env St re)
  | bad => exact fun a => a
  | ok v =>
    obtain ⟨v, h1⟩ := v
    intro a0 H1 m1 P1 x1 s1
    cases v with
    | true => rw [if_pos rfl]; exact ⟨e, h1, m1, P1, ⟨x1.env St re, s1⟩, AftS.af x1 a0⟩
    | false => rw [if_neg (by decide)]; exact ⟨e, h1, m1, P1, ⟨x1.env St re, s1⟩, AftS.af x1 a0⟩
/-- one statement, then the rest -/
theorem AftS.seq {m : Nat → Addr} {P : Addr → Prop} {h : Sto} {r : RS} {f : Env → Sto → RS} (St : SR F.G m P h H) (a : AftS F m P h H D (match r with | some (.nx e1, h1) => f e1 h1 | r => r)) :
    AftS F m P h H { D with nx := fun σ' H' => ∃ e1 h1 m1 P1, Stn F e1 h1 σ' m1 P1 H' ∧ AftS F m1 P1 h1 H' D (f e1 h1) } r := by
  match r, a with
  | none, a => exact a
  | some (.nx e, h2), a => exact fun σ2 H2 m2 P2 x2 s2 r2 => ⟨e, h2, m2, P2, ⟨r2, s2⟩, AftS.af x2 a⟩
  | some (.bk e, h2), a => exact a
  | some (.ct e, h2), a => exact a
  | some (.rt e, h2), a => exact a
  | some (.ex c fs e, h2), a => exact a
theorem b_nil : PSs X [] (tS F (evB (cnOf T F n) .nil)) := by
  refine PSs.imp pss_nil ?_
  rintro D σ H ⟨e, h, m, P, st, a0⟩
  rw [evB] at a0
  exact a0 σ H m P Ext.refl st.2 st.1
theorem b_cons {s : IS} {ss : ISs} {st : Stmt} {sts : List Stmt} (h1 : PS X st (tS F (evS (cnOf T F n) s))) (h2 : PSs X sts (tS F (evB (cnOf T F n) ss))) : PSs X (st :: sts) (tS F (evB (cnOf T F n) (.cons s ss))) := by
  refine PSs.imp (pss_cons h1 h2) ?_
  rintro D σ H ⟨e, h, m, P, ⟨re, St⟩, a0⟩
  rw [evB] at a0
  exact ⟨e, h, m, P, ⟨re, St⟩, AftS.seq (f := fun e1 h1 => evB (cnOf T F n) ss e1 h1) St a0⟩
/-! ### loops -/
theorem tS_I {r : Env → Sto → R (List Item × Sto)} {k : Env → List Item → Sto → RS} (t : tS F (fun e h => match r e h with | .ok (v, h) => k e v h | .exc c fs h => some (.ex c fs e, h) | .bad => none) D σ H) :
    tI F r σ H fun J H1 => ∃ e its h1 m1 P1, Stn F e h1 σ m1 P1 H1 ∧ Wk F its J m1 P1 h1 H1 ∧ AftS F m1 P1 h1 H1 D (k e its h1) := by
  obtain ⟨e, h, m, P, ⟨re, St⟩, a⟩ := t
  refine ⟨e, h, m, P, ⟨re, St⟩, ?_⟩
  dsimp only at a
  revert a
  cases r e h with
  | exc c fs h1 => exact fun a d H' m' P' x s xr => a d σ H' m' P' x s xr (x.env St re)
  | bad => exact fun a => a
  | ok v =>
    obtain ⟨v, h1⟩ := v
    exact fun a J H1 m1 P1 x1 s1 wk => ⟨e, v, h1, m1, P1, ⟨x1.env St re, s1⟩, wk, AftS.af x1 a⟩
theorem AftS.turn {m : Nat → Addr} {P : Addr → Prop} {h : Sto} {r : RS} {f : Item → Env → Sto → RS} {xs : List Item} (S0 : SR F.G m P h H) (a : AftS F m P h H D (match r with
    | some (.nx e1, h1) => loop f xs e1 h1
    | some (.ct e1, h1) => loop f xs e1 h1
    | some (.bk e1, h1) => some (.nx e1, h1)
    | some (.rt v, h1) => some (.rt v, h1)
    | some (.ex c fs e1, h1) => some (.ex c fs e1, h1)
    | none => none)) {N : St → Hp → Prop} (hN : ∀ σ' H' e1 h1 m1 P1, Ext F.B m P h H m1 P1 h1 H' → Stn F e1 h1 σ' m1 P1 H' → AftS F m1 P1 h1 H' D (loop f xs e1 h1) → N σ' H') :
    AftS F m P h H { D with nx := N, ct := N, bk := D.nx } r := by
  match r, a with
  | none, a => exact a
  | some (.nx e, h2), a => exact fun σ2 H2 m2 P2 x2 s2 r2 => hN σ2 H2 e h2 m2 P2 x2 ⟨r2, s2⟩ (AftS.af x2 a)
  | some (.ct e, h2), a => exact fun σ2 H2 m2 P2 x2 s2 r2 => hN σ2 H2 e h2 m2 P2 x2 ⟨r2, s2⟩ (AftS.af x2 a)
  | some (.bk e, h2), a => exact a
  | some (.rt e, h2), a => exact a
  | some (.ex c fs e, h2), a => exact a
theorem s_for (g : GoodB T S F n X) {tg : TG} {it : IT} {b : ISs} {t iter : Expr} {body : List Stmt} {p : Pos} (hi : PI X t iter (tI F (evI (cnOf T F n) it))) (ht : tgB S tg t = true) (hb : PSs X body (tS F (evB (cnOf T F n) b))) (hs : ∀ x, foldedSetIterable iter X.env x = pure x) :
    PS X (.For t iter body [] p) (tS F (evS (cnOf T F n) (.for_ tg it b))) := by
  refine PS.imp (ps_for g.po g.g.calm hi (pg_of g.g ht) hb hs) ?_
  rintro D σ H ⟨e, h, m, P, st, a0⟩
  rw [evS] at a0
  have t := tS_I (F := F) (k := fun e its h => loop (fun x e h => match give tg x h e with | some e' => evB (cnOf T F n) b e' h | none => none) its e h) ⟨e, h, m, P, st, a0⟩
  obtain ⟨e, h, m, P, st, a0⟩ := t
  refine ⟨e, h, m, P, st, ?_⟩
  revert a0
  cases evI (cnOf T F n) it e h with
  | exc c fs h1 => exact fun a => a
  | bad => exact fun a => a
  | ok v =>
    obtain ⟨its, h1⟩ := v
    intro a0 J H1 m1 P1 x1 s1 wk
    obtain ⟨e1, its1, h2, m2, P2, ⟨re2, s2⟩, wk2, a2⟩ := a0 J H1 m1 P1 x1 s1 wk
    refine ⟨fun i k σ H => k = its1.length - i ∧ i ≤ its1.length ∧ ∃ e h m P, Ext F.B m2 P2 h2 H1 m P h H ∧ Stn F e h σ m P H ∧ AftS F m P h H D (loop (fun x e h => match give tg x h e with | some e' => evB (cnOf T F n) b e' h | none => none) (its1.drop i) e h),
      ⟨its1.length, by simp, Nat.zero_le _, e1, h2, m2, P2, Ext.refl, ⟨re2, s2⟩, by simpa using a2⟩, ?_⟩
    rintro i k σ3 H3 ⟨rfl, hle, e3, h3, m3, P3, x3, ⟨re3, s3⟩, a3⟩
    by_cases hlt : i < its1.length
    · obtain ⟨itm, ei⟩ := get_lt hlt
      have hdrop : its1.drop i = itm :: its1.drop (i + 1) := by
        rw [List.drop_eq_getElem_cons hlt]
        rw [List.getElem?_eq_getElem hlt] at ei
        rw [Option.some.inj ei]
      rw [hdrop] at a3
      refine .inr ⟨wk2.go m3 P3 h3 H3 i x3 s3 hlt, fun σ' H' => i + 1 ≤ its1.length ∧ ∃ e h m P, Ext F.B m2 P2 h2 H1 m P h H' ∧ Stn F e h σ' m P H' ∧ AftS F m P h H' D (loop (fun x e h => match give tg x h e with | some e' => evB (cnOf T F n) b e' h | none => none) (its1.drop (i + 1)) e h),
        fun σ' H' q => ⟨its1.length - (i + 1), by omega, rfl, q⟩, fun x H4 y => ?_⟩
      obtain ⟨P4, x4, s4, r4⟩ := wk2.yld m3 P3 h3 H3 i itm x H4 x3 s3 ei y
      have re4 := x4.env s3 re3
      have a4 := AftS.af x4 a3
      rw [g.g.hK]
      simp only [loop] at a4
      cases eg : give tg itm h3 e3 with
      | none => rw [eg] at a4; exact a4.elim
      | some e' =>
        rw [eg] at a4
        refine give_ok eg re4 r4 fun σ5 re5 _ => ⟨e', h3, m3, P4, ⟨re5, s4⟩, ?_⟩
        exact AftS.turn s4 a4 fun σ' H' e6 h6 m6 P6 x6 st6 a6 => ⟨hlt, e6, h6, m6, P6, (x3.trans x4).trans x6, st6, a6⟩
    · have hi : i = its1.length := by omega
      subst hi
      rw [List.drop_length] at a3
      exact .inl ⟨wk2.stop _ _ _ _ x3 s3, a3 σ3 H3 m3 P3 Ext.refl s3 re3⟩
theorem s_whl (g : GoodB T S F n X) {t : IE} {b : ISs} {c : Expr} {body : List Stmt} {p : Pos} (ht : PT X c (tT F (evT (cnOf T F n) t))) (hb : PSs X body (tS F (evB (cnOf T F n) b))) : PS X (.While c body [] p) (tS F (evS (cnOf T F n) (.whl t b))) := by
  refine PS.imp (ps_while g.po ht hb) ?_
  rintro D σ H ⟨e, h, m, P, st, a0⟩
  rw [evS] at a0
  refine ⟨fun k σ' H' => ∃ e' h' m' P', Stn F e' h' σ' m' P' H' ∧ AftS F m' P' h' H' D (wloop (fun e h => evT (cnOf T F n) t e h) (fun e h => evB (cnOf T F n) b e h) k e' h'), ⟨_, e, h, m, P, st, a0⟩, ?_⟩
  rintro k σ1 H1 ⟨e1, h1, m1, P1, ⟨re1, s1⟩, a1⟩
  cases k with
  | zero => exact a1.elim
  | succ k =>
    refine ⟨e1, h1, m1, P1, ⟨re1, s1⟩, ?_⟩
    simp only [wloop] at a1
    revert a1
    cases evT (cnOf T F n) t e1 h1 with
    | exc c fs h2 => exact fun a d H' m' P' x s xr => a d σ1 H' m' P' x s xr (x.env s1 re1)
    | bad => exact fun a => a
    | ok v =>
      obtain ⟨v, h2⟩ := v
      intro a1 H2 m2 P2 x2 s2
      have a2 := AftS.af x2 a1
      have re2 := x2.env s1 re1
      cases v with
      | false => rw [if_neg (by decide)]; exact a2 σ1 H2 m2 P2 Ext.refl s2 re2
      | true =>
        rw [if_pos rfl]
        refine ⟨fun σ' H' => ∃ e' h' m' P', Stn F e' h' σ' m' P' H' ∧ AftS F m' P' h' H' D (wloop (fun e h => evT (cnOf T F n) t e h) (fun e h => evB (cnOf T F n) b e h) k e' h'), fun σ' H' q => ⟨k, by omega, q⟩, e1, h2, m2, P2, ⟨re2, s2⟩, ?_⟩
        dsimp only at a2
        match evB (cnOf T F n) b e1 h2, a2 with
        | none, a => exact a
        | some (.nx e, h3), a => exact fun σ3 H3 m3 P3 x3 s3 r3 => ⟨e, h3, m3, P3, ⟨r3, s3⟩, AftS.af x3 a⟩
        | some (.ct e, h3), a => exact fun σ3 H3 m3 P3 x3 s3 r3 => ⟨e, h3, m3, P3, ⟨r3, s3⟩, AftS.af x3 a⟩
        | some (.bk e, h3), a => exact a
        | some (.rt e, h3), a => exact a
        | some (.ex c fs e, h3), a => exact a
end
end MI

/-! MiT: try: .. except C as n: y = n -- the error is a value from there on -/
namespace MI
open PySem PySem.Spec L2
open PyProof.Rows hiding St
section
variable {X : Cx} {pins : List (Addr × Obj)} {σ : St} {H : Hp} {s : Shared}
/-- an object of ours that wasn't looked at is looked at from now on -/
theorem adopt (I : L2.Inv X pins σ H s) {a : Addr} {u : HO} (na : H a = none) (n0 : ∀ o, X.s_0.heap.get? a = some o → X.H_0 a = none → a ∉ X.ex → False) (nL : a ≠ X.env.locals) (nc : ∀ x c, X.env.cells.lookup x = some c → c ≠ a) (np : ∀ p ∈ X.pn ++ pins, p.1 ≠ a) (ok : ObjOk X.prog X.w (upd H a u) s.heap a u) : L2.Inv X pins σ (upd H a u) s where
  ok := I.ok
  os := I.os
  bare := I.bare
  base := {
    keep := I.base.keep, slot := I.base.slot, there := I.base.there
    free := fun b o e n hx => by
      have hb : b ≠ a := fun z => n0 o (z ▸ e) (z ▸ n) (z ▸ hx)
      rw [upd_ne hb]; exact I.base.free b o e n hx
    tups := fun b xs e => by
      have z := I.base.tups b xs e
      rw [upd_ne (ne_of_none z na)]; exact z
    frzs := fun b o v e => by
      have z := I.base.frzs b o v e
      rw [upd_ne (ne_of_none z na)]; exact z
    tbls := fun b ps e => by
      obtain ⟨more, z⟩ := I.base.tbls b ps e
      exact ⟨more, by rw [upd_ne (ne_of_none z na)]; exact z⟩ }
  loc := I.loc
  cell := I.cell
  free := by rw [upd_ne (Ne.symm nL)]; exact I.free
  freeC := fun x c e => by rw [upd_ne (nc x c e)]; exact I.freeC x c e
  pin := fun p hp => by
    obtain ⟨h1, h2, h3⟩ := I.pin p hp
    exact ⟨h1, by rw [upd_ne (np p hp)]; exact h2, h3⟩
  hok := fun b v e => by
    by_cases hb : b = a
    · subst hb
      rw [upd_same] at e
      cases e
      exact ok
    · rw [upd_ne hb] at e
      exact (I.hok b v e).stay (fun _ _ _ q => q) (fun c q => by rw [upd_ne (ne_of_none q na)]; exact q) fun c xs q => by rw [upd_ne (ne_of_none q na)]; exact q
  len := I.len
theorem exq_ok {P : Program} {w : World} {H : Hp} {h : Heap} {a C d : Addr} {oe : Obj} {vs : Array Value} (e : h.get? a = some oe) (z : Zc (.ref C) (some d) oe) (dd : oe.data = .fields vs) : ObjOk P w H h a (exq a C d) :=
  ⟨⟨oe, vs, e, z, dd⟩, ⟨oe, e⟩, fun _ _ ⟨o, v, q, r⟩ k => ⟨o, v, k o q, r⟩⟩
/-- what is wished of an error of the body: slot i is the clause's name, slot j the other -/
def wKeep (K : PySem.W.Frag) (c : Value) (i j : Nat) (Wout : WX) (D : Ends) : WX := fun cls d σ H =>
  ∃ b, PySem.W.exmOne K cls c = some b ∧ (b = true → ∃ C dd, cls = .ref C ∧ d = some dd ∧ ∀ a, H a = none → D.nx (((σ.set i (some (.ref a))).set j (some (.ref a))).set i none) (upd H a (exq a C dd))) ∧ (b = false → Wout cls d σ H)
end
section
variable {X : Cx} {x n y : Str} {c : Value} {i j : Nat} {body : List Stmt} {np p1 p2 p3 pos pos' : Pos} {tb : WX → TS} {Wout : WX}
theorem try_keep (st : X.stack = X.env :: X.outer) (fr : X.env.frame = some X.env.locals) (nd : X.N.Nodup) (hi : X.N[i]? = some n) (hln : X.env.kindOf n = some .local) (hj : X.N[j]? = some y) (hlj : L2.Loc X.env.scope y) (hcj : X.fn y = true ∨ X.env.scope.names.lookup y = some .local) (hdn : (n == ("__debug__" : Str)) = false) (hdn2 : (n == ("__classdict__" : Str)) = false) (hc : Names X x c) (tk : Takes X Wout)
    (hb : ∀ (W : WX) (pn : List (Addr × Obj)) (xe : Value → Shared → Prop), Takes (X.tr pn xe) W → PassesOwn (model X.prog X.w) X.A X.env xe → PSs (X.tr pn xe) body (tb W)) :
    PS X (.Try body [.ExceptHandler (some (.Name x np)) (some n) [.Assign [.Name y p1] (.Name n p2) p3] pos'] [] [] pos) (fun D σ H => tb (wKeep X.K c i j Wout D) D σ H) := by
  refine ⟨fun pins s σ H D I h => ?_⟩; have okX := I.ok
  have frames : X.A.frames = some (X.env :: X.outer) := by rw [okX.frames, st]
  have locn : L2.Loc X.env.scope n := .inl hln; refine wpAny_Try_except ?_
  let hand : List ExceptHandler := [.ExceptHandler (some (.Name x np)) (some n) [.Assign [.Name y p1] (.Name n p2) p3] pos']
  let xe2 : Value → Shared → Prop := fun e t1 => wpAny (model X.prog X.w) X.A (noteFrame e X.env) (fun _ t2 => wpAny (model X.prog X.w) X.A (setFlight e none) (fun _ t3 => wpAny (model X.prog X.w) X.A (handleBy e X.env hand) (SP X pins D) X.xe t3) X.xe t2) X.xe t1
  refine wpAny_mono ((hb (wKeep X.K c i j Wout D) (X.pn ++ pins) xe2 (fun u t xx => ?_) PassesOwn.looking).run [] s σ H D (I.toTry _) h) (fun f t hsp => ?_) (fun _ _ z => z)
  · obtain ⟨a, B, sI, pins2, τ, G, cls, d, rfl, J0, nb, up, sky, na, os, ag, b, hb1, hyes, hno⟩ := xx
    have J : L2.Inv X pins τ G sI := J0.ofTry okX; rw [st] at sky
    show wpAny (model X.prog X.w) X.A (noteFrame (.ref a) X.env) _ _ _
    refine Sky.land Zc.steady frames fr sky fun h3 fl3 up3 => ?_
    have J3 : L2.Inv X pins τ G { t with heap := h3 } := J.landed nb fl3.1 (up.trans up3) os ag
    obtain ⟨oe3, vs3, he3, hz3, hd3⟩ := fl3.there
    have nfr : a ∉ frs (X.env :: X.outer) := fun hm => by
      obtain ⟨_, o', e', hnf⟩ := fl3.2.2.1.mem hm; rw [he3] at e'; cases e'; exact hnf _ hd3
    have nL : a ≠ X.env.locals := fun z => nfr (List.mem_filterMap.mpr ⟨X.env, List.mem_cons_self, by rw [fr, z]⟩)
    have nF : a ∉ X.fs := fun hm => by
      obtain ⟨e, he, q⟩ := List.mem_filterMap.mp hm; exact nfr (List.mem_filterMap.mpr ⟨e, List.mem_cons_of_mem _ he, q⟩)
    have nI : ∀ o, sI.heap.get? a = some o → False := fun o e => by
      have z := nb a o e (by rw [st]; exact nfr); rw [fl3.2.1] at z; cases z
    refine wpAny_handleBy_cons (codeAny_handlers_test ?_) (by intro q; cases q)
    have LM := PySem.W.exm_one (M := model X.prog X.w) (J3.kIn) (fun A Q E t k q => wpAny_typeOf_ref (k _ _ he3) (by rw [hz3.1]; exact q) : PySem.W.Looks (model X.prog X.w) h3 (typeOf (.ref a)) cls) hb1
    have S3 := J3.suite he3 hd3 na nL nF
    have test : ∀ {Q : Value → Shared → Prop} {E : Value → Shared → Prop}, Q c { t with heap := h3 } → wpAny (model X.prog X.w) (X.A.mark (some (.ref a))) (eval (.Name x np) X.env) Q E { t with heap := h3 } := fun {Q E} q => by
      rcases hc with ⟨hg, hdbg, hm | ⟨hm, hv, hnn⟩⟩
      · exact (ld_glob (X := X.suite a ((a, oe3) :: (X.pn ++ pins))) S3 hg hm q hdbg :)
      · exact (ld_blt (X := X.suite a ((a, oe3) :: (X.pn ++ pins))) S3 hg hm hv q hnn hdbg :)
    refine test (LM.here ?_)
    cases b with
    | false =>
      show wpAny _ X.A (handleBy (.ref a) X.env []) _ _ _; refine wpAny_handleBy_nil ?_
      obtain ⟨k1, k2, k3, oe, vs, T, oT, ts', he, hz, hd, h1, hr⟩ := id fl3
      unfold PySem.passOn; refine wpAny_bind (wpAny_field he hd h1 ?_)
      rw [if_neg (show ¬ ((Value.ref T == Value.none) = true) from by simp)]
      have fin : wpAny (model X.prog X.w) X.A (setFlight (.ref a) X.env.frame) (fun _ t4 => wpAny (model X.prog X.w) X.A (throw (.ref a) : Sem Flow) (SP X pins D) X.xe t4) X.xe { t with heap := h3 } := by
        rw [fr]; refine HandSPX.setFlight_upZ fl3 fun h4 hh4 up4 => wpAny_throw (tk _ _ ?_)
        exact ⟨a, B, sI, pins, τ, G, cls, d, rfl, J, nb, (up.trans up3).trans up4, .inr (.inr (by rw [st]; exact hh4)), na, os, ag, hno rfl⟩
      first | exact wpAny_bind (wpAny_pure (wpAny_bind fin)) | exact wpAny_bind fin
    | true =>
      obtain ⟨C, dd, rfl, rfl, hq⟩ := hyes rfl
      refine codeAny_handlers_suite_as ?_; refine HandSPX.lands_againZ fl3 fun h4 fl4 up4 => ?_
      have J4 : L2.Inv X pins τ G { t with heap := h4 } := J.landed nb fl4.1 ((up.trans up3).trans up4) os ag
      obtain ⟨oe4, vs4, he4, hz4, hd4⟩ := fl4.there; have S4 := J4.suite he4 hd4 na nL nF
      refine store_ok (X := X.suite a ((a, oe4) :: (X.pn ++ pins))) (v := .ref a) S4 nd hi locn rfl (fun s5 S5 => ?_) (.inr hln)
      have pv : PE (X.suite a ((a, oe4) :: (X.pn ++ pins))) (.Name n p2) (tVar i) := pe_var hi (.inl hln) hdn hdn2
      have ps := pss_one (ps_set (X := X.suite a ((a, oe4) :: (X.pn ++ pins))) (pos := p3) (pos' := p1) nd hj hlj pv rfl hcj)
      let D2 : Ends := { nx := fun σ2 H2 => σ2 = (τ.set i (some (.ref a))).set j (some (.ref a)) ∧ H2 = G, rt := fun _ _ => False, bk := fun _ _ => False, ct := fun _ _ => False }
      have hil : i < τ.length := by rw [J.len]; exact (List.getElem?_eq_some_iff.mp hi).1
      refine wpAny_mono (ps.run [] s5 _ G D2 S5 ⟨.ref a, by rw [List.getElem?_set_self hil], rfl, rfl⟩) (fun f s6 hsp => ?_) (fun _ _ z => False.elim z)
      cases f with
      | next =>
        obtain ⟨σ6, H6, S6, rfl, rfl⟩ := hsp
        have hp6 := S6.pin (a, oe4) (List.mem_append_left _ List.mem_cons_self)
        refine gone_ok (X := X.suite a ((a, oe4) :: (X.pn ++ pins))) S6 nd hi hln fun s7 S7 => ?_
        have hp7 := S7.pin (a, oe4) (List.mem_append_left _ List.mem_cons_self)
        have J7 : L2.Inv X pins _ _ s7 := S7.unsuite okX
        refine ⟨_, _, adopt J7 na (fun o e0 n0 x0 => ?_) nL (fun z c' e' z' => ?_) (fun p hp z => ?_) (exq_ok hp7.1 hz4 hd4), hq a na⟩
        · obtain ⟨o', e'⟩ := J.base.there a o e0 x0
          exact nI o' e'
        · obtain ⟨v, oc, hc', hd'⟩ := J7.cell z c' e'
          rw [z', hp7.1] at hc'; cases hc'; rw [hd4] at hd'; cases hd'
        · have := (J.pin p hp).1
          rw [z] at this; exact nI _ this
      | brk => obtain ⟨_, _, _, z⟩ := hsp; exact z.elim
      | cont => obtain ⟨_, _, _, z⟩ := hsp; exact z.elim
      | ret u => obtain ⟨_, _, _, _, _, z⟩ := hsp; exact z.elim
  · cases f with
    | next => obtain ⟨τ, G, J, q⟩ := hsp; exact wpAny_execs_nil ⟨τ, G, J.ofTry okX, q⟩
    | brk => obtain ⟨τ, G, J, q⟩ := hsp; exact ⟨τ, G, J.ofTry okX, q⟩
    | cont => obtain ⟨τ, G, J, q⟩ := hsp; exact ⟨τ, G, J.ofTry okX, q⟩
    | ret u => obtain ⟨v, τ, G, J, r, q⟩ := hsp; exact ⟨v, τ, G, J.ofTry okX, r, q⟩
end
end MI

/-! MiS18: raise, try; every statement -/
namespace MI
open PySem PySem.Spec L2
open PyProof.Rows hiding St
section
variable {T : Tb} {S : Sc} {F : Fx} {n : Nat} {X : Cx} {σ : St} {H : Hp} {D : Ends}
theorem pas_no : Passes (L2.CX X.prog X.w) X (fun _ _ _ => False) := fun pins σ H s e s' I c => by
  obtain ⟨_, _, _, _, _, _, _, _, _, _, _, _, hE⟩ := c
  exact hE.elim
theorem pures_len : ∀ {vs : List MV} {ps : List PV}, pures vs = some ps → vs.length = ps.length
  | [], ps, h => by simp [pures] at h; subst h; try rfl
  | .pv v :: vs, ps, h => by
    simp only [pures] at h
    split at h
    · rename_i qs e
      cases h
      simp [pures_len e]
    · cases h
  | .loc _ :: _, ps, h => by simp [pures] at h
theorem s_rai (g : Good T S F n X) {c : Nat} {es : IEs} {x : Str} {a : Expr} {as : List Expr} {p q r : Pos} (h1 : glB S.sc x = true) (h2 : notDbg x = true) (hx : T.excs c = some x) (hl : esLen es = (T.G.fields c).length) (hl2 : (T.G.fields c).length ≤ 1000) (hm : mEs T S es (a :: as) = true)
    (ha : PA X (a :: as) (tA F (evEs (cnOf T F n) es))) : PS X (.Raise (some (.Call (.Name x p) (a :: as) [] q)) none r) (tS F (evS (cnOf T F n) (.rai c es []))) := by
  obtain ⟨mgx, oex, fI, fd, ps, e1, e2, Fo, hb⟩ := g.ok.exc c x hx
  obtain ⟨d1, _, _⟩ := dbg1 h2
  rw [← g.prog, ← g.w, ← g.K, ← g.mg, ← g.base] at Fo
  rw [← g.K] at oex e1 e2 hb
  rw [← g.mg] at mgx
  have hs : starEach (a :: as) X.env = (false, eval a X.env) :: starEach as X.env := by
    cases es with
    | nil => simp [mEs] at hm
    | cons b bs => simp only [mEs, Bool.and_eq_true] at hm; exact star_of hm.1
  have hpl : (backTo q (starEach as X.env)).any (·.1) = false := by
    cases es with
    | nil => simp [mEs] at hm
    | cons b bs => simp only [mEs, Bool.and_eq_true] at hm; exact stars_of hm.2
  refine PS.imp (ps_raise g.calm g.tk (pmk_oex (dvs := []) (ds := []) oex e1 e2 Fo g.room hb .nil pas_no (g.gl h1) mgx ha d1 hs hpl)) ?_
  rintro D σ H ⟨e, h, m, P, st, a0⟩
  rw [evS] at a0
  have t0 := tS_A (F := F) (D := D) (r := fun e h => evEs (cnOf T F n) es e h) (k := fun e vs h => (match pures vs with | some xs => some (.ex c (xs ++ []) e, h) | none => none)) ⟨e, h, m, P, st, a0⟩
  have t1 : tA F (evEs (cnOf T F n) es) σ H fun xs H1 => xs.length = esLen es ∧ ∃ e v h1 m1 P1, Stn F e h1 σ m1 P1 H1 ∧ RMs F.G m1 P1 h1.length H1 v xs ∧ AftS F m1 P1 h1 H1 D (match pures v with | some xs => some (.ex c (xs ++ []) e, h1) | none => none) := by
    obtain ⟨e, h, m, P, st, a⟩ := t0
    refine ⟨e, h, m, P, st, ?_⟩
    revert a
    dsimp only
    cases ee : evEs (cnOf T F n) es e h with
    | exc c fs h1 => exact fun a => a
    | bad => exact fun a => a
    | ok w =>
      obtain ⟨w, h1⟩ := w
      exact fun a xs H1 m1 P1 x1 s1 r1 => ⟨by rw [← Paired.length r1]; exact evEs_len ee, a xs H1 m1 P1 x1 s1 r1⟩
  refine tA_mono t1 ?_
  rintro xs H1 ⟨lx, e, vs, h1, m1, P1, ⟨re, s1⟩, r1, a1⟩
  refine ⟨by omega, fun b hb => ⟨b, xs, by simp, by omega, upd_same, fun d fs hd hdb hf => ⟨rfl, d, fs, upd_same, by rw [upd_ne hdb, upd_same], by rw [upd_ne hdb] at hd; exact hd, ?_⟩⟩⟩
  rw [upd_ne hdb] at hd
  have eH : upd (del (upd (upd (upd H1 b (exo b (T.G.cA c) none)) d (exd d fs)) b (exo b (T.G.cA c) (some d))) b) d (.xd fs) = upd H1 d (.xd fs) := by
    funext z
    by_cases hz : z = d
    · subst hz; rw [upd_same, upd_same]
    · rw [upd_ne hz, upd_ne hz]
      by_cases hz2 : z = b
      · subst hz2; rw [del_same, hb]
      · rw [del_ne hz2, upd_ne hz2, upd_ne hz, upd_ne hz2]
  rw [eH]
  split at a1
  · rename_i ps ep
    rw [List.append_nil] at a1
    obtain ⟨s2, x2⟩ := s1.allocP (B := F.B) (u := .xd fs) hd
    have rr := pures_rms r1 ep
    have := a1 d σ _ m1 _ x2 s2 ⟨.inr rfl, xs, fs, upd_same, RVs.mono x2.sub (x2.pk s1) _ _ rr, by rw [g.G]; exact hf⟩ (x2.env s1 re)
    rw [g.G] at this
    exact this
  · exact a1.elim
/-! ### try -/
/-- a suite that asks nothing -/
def hdB (T : Tb) (S : Sc) : ISs → List Stmt → Bool
  | .cons (.ret (.k v)) .nil, [.Return (some e) _] => mE T S (.k v) e
  | .cons .retn .nil, [.Return none _] => true
  | .cons .pass .nil, [.Pass _] => true
  | _, _ => false
theorem hd_ok {hd : ISs} {sts : List Stmt} (h : hdB T S hd sts = true) : PSs X sts (tS F (evB (cnOf T F n) hd)) ∧ ∃ b r, sts = b :: r := by
  unfold hdB at h
  split at h
  · exact ⟨b_cons (s_ret (e_k h)) b_nil, _, _, rfl⟩
  · exact ⟨b_cons s_retn b_nil, _, _, rfl⟩
  · exact ⟨b_cons s_pass b_nil, _, _, rfl⟩
  · cases h
def inTry (F : Fx) (W : WX) : Fx := ⟨F.G, F.B, W⟩
theorem GoodB.tr (g : GoodB T S F n X) {W : WX} {pn : List (Addr × Obj)} {xe : Value → Shared → Prop} (tk : Takes (X.tr pn xe) W) (po : PassesOwn (model X.prog X.w) X.A X.env xe) : GoodB T S (inTry F W) n (X.tr pn xe) where
  g := ⟨g.g.prog, g.g.w, g.g.K, g.g.mg, g.g.base, g.g.G, g.g.N, g.g.nd, g.g.sc, g.g.room, g.g.gd, g.g.calm, tk, g.g.cel, g.g.ok⟩
  po := po
  stk := g.stk
  fr := g.fr
theorem s_try (g : GoodB T S F n X) {b hd : ISs} {k : Nat} {body suite : List Stmt} {x : Str} {np pos pos' : Pos} (h1 : glB S.sc x = true) (h2 : notDbg x = true) (hx : T.excs k = some x) (hk : T.prg.nx k = true) (hh : hdB T S hd suite = true)
    (hb : ∀ (W : WX) (X' : Cx), GoodB T S (inTry F W) n X' → PSs X' body (tS (inTry F W) (evB (cnOf T F n) b))) : PS X (.Try body [.ExceptHandler (some (.Name x np)) none suite pos'] [] [] pos) (tS F (evS (cnOf T F n) (.tri b k none hd))) := by
  obtain ⟨mgx, _⟩ := g.g.ok.exc k x hx
  obtain ⟨d1, _, _⟩ := dbg1 h2
  rw [← g.g.mg] at mgx
  obtain ⟨b0, r0, rfl⟩ := (hd_ok (X := X) (F := F) (n := n) hh).2
  refine PS.imp (ps_try_only (tb := fun W => tS (inTry F W) (evB (cnOf T F n) b)) (ts := fun _ _ _ => tS F (evB (cnOf T F n) hd)) g.stk g.fr ⟨g.g.gl h1, d1, .inl mgx⟩ g.g.tk (fun W pn xe tk po => hb W _ (g.tr tk po)) (fun a oe cls d pn _ _ => (hd_ok hh).1)) ?_
  rintro D σ H ⟨e, h, m, P, st, a0⟩
  rw [evS] at a0
  refine ⟨e, h, m, P, st, ?_⟩
  revert a0
  match evB (cnOf T F n) b e h with
  | none => exact fun a => a
  | some (.nx e, h2) => exact fun a => a
  | some (.bk e, h2) => exact fun a => a
  | some (.ct e, h2) => exact fun a => a
  | some (.rt v, h2) => exact fun a => a
  | some (.ex k' fs e1, h1) =>
    intro a0 d σ' H' m' P' x' s' xr re'
    have x' : Ext F.B m P h H m' P' h1 H' := x'
    have s' : SR F.G m' P' h1 H' := s'
    have re' : REnv F.G m' P' h1.length H' e1 σ' := re'
    have xr : XR F.G P' H' k' fs d := xr
    have a1 := AftS.af (F := F) x' a0
    by_cases hk' : T.prg.nx k' = true
    · simp only [cnOf, hk', if_true] at a1
      have ee := g.g.ok.exm k k' hk hk'
      refine ⟨T.prg.sub k' k, by rw [g.g.K]; show PySem.W.exmOne T.G.K (.ref (F.G.cA k')) (.ref (T.G.cA k)) = _; rw [g.g.G]; exact ee, fun hs a _ => ?_, fun hs => ?_⟩
      · simp only [hs, if_true] at a1
        refine ⟨e1, h1, m', P', ⟨re', s'⟩, ?_⟩
        revert a1
        show AftS F m' P' h1 H' D (match evB (cnOf T F n) hd e1 h1 with | some (.nx e2, h2) => some (.nx e2, h2) | some (.rt v, h2) => some (.rt v, h2) | _ => none) → _
        match evB (cnOf T F n) hd e1 h1 with
        | none => exact fun a => a
        | some (.nx e, h2) => exact fun a => a
        | some (.bk e, h2) => exact fun a => a.elim
        | some (.ct e, h2) => exact fun a => a.elim
        | some (.rt v, h2) => exact fun a => a
        | some (.ex k' fs e1, h1) => exact fun a => a.elim
      · simp only [hs, Bool.false_eq_true, if_false] at a1
        exact a1 d σ' H' m' P' Ext.refl s' xr re'
    · simp only [cnOf, hk', if_false] at a1
      exact a1.elim
/-- except C as n: y = n -/
theorem s_tryas (g : GoodB T S F n X) {b : ISs} {i j k : Nat} {body : List Stmt} {x nm y : Str} {np p1 p2 p3 pos pos' : Pos} (h1 : glB S.sc x = true) (h2 : notDbg x = true) (hx : T.excs k = some x) (hk : T.prg.nx k = true) (hi : (S.N[i]? == some nm) = true) (hl : (S.sc.names.lookup nm == some .local) = true) (hdn : notDbg nm = true) (hj : (S.N[j]? == some y) = true) (hsy : stoB S y = true)
    (hb : ∀ (W : WX) (X' : Cx), GoodB T S (inTry F W) n X' → PSs X' body (tS (inTry F W) (evB (cnOf T F n) b))) : PS X (.Try body [.ExceptHandler (some (.Name x np)) (some nm) [.Assign [.Name y p1] (.Name nm p2) p3] pos'] [] [] pos) (tS F (evS (cnOf T F n) (.tri b k (some i) (.cons (.set j (.var i)) .nil)))) := by
  obtain ⟨mgx, _⟩ := g.g.ok.exc k x hx
  obtain ⟨d1, _, _⟩ := dbg1 h2
  obtain ⟨e1, e2, _⟩ := dbg1 hdn
  obtain ⟨l1, l2⟩ := g.g.loc hsy
  rw [← g.g.mg] at mgx
  have kl : X.env.kindOf nm = some .local := by
    show X.env.scope.names.lookup nm = _
    rw [g.g.sc]; exact eq_of_beq hl
  refine PS.imp (try_keep (tb := fun W => tS (inTry F W) (evB (cnOf T F n) b)) g.stk g.fr (by rw [g.g.N]; exact g.g.nd) (by rw [g.g.N]; exact eq_of_beq hi) kl (by rw [g.g.N]; exact eq_of_beq hj) l1 l2 e1 e2 ⟨g.g.gl h1, d1, .inl mgx⟩ g.g.tk (fun W pn xe tk po => hb W _ (g.tr tk po))) ?_
  rintro D σ H ⟨e, h, m, P, st, a0⟩
  rw [evS] at a0
  refine ⟨e, h, m, P, st, ?_⟩
  revert a0
  match evB (cnOf T F n) b e h with
  | none => exact fun a => a
  | some (.nx e, h2) => exact fun a => a
  | some (.bk e, h2) => exact fun a => a
  | some (.ct e, h2) => exact fun a => a
  | some (.rt v, h2) => exact fun a => a
  | some (.ex k' fs e1, h1) =>
    intro a0 d σ' H' m' P' x' s' xr re'
    have x' : Ext F.B m P h H m' P' h1 H' := x'
    have s' : SR F.G m' P' h1 H' := s'
    have re' : REnv F.G m' P' h1.length H' e1 σ' := re'
    have xr : XR F.G P' H' k' fs d := xr
    have a1 := AftS.af (F := F) x' a0
    by_cases hk' : T.prg.nx k' = true
    · simp only [cnOf, hk', if_true] at a1
      have ee := g.g.ok.exm k k' hk hk'
      refine ⟨T.prg.sub k' k, by rw [g.g.K]; show PySem.W.exmOne T.G.K (.ref (F.G.cA k')) (.ref (T.G.cA k)) = _; rw [g.g.G]; exact ee, fun hs => ⟨F.G.cA k', d, rfl, rfl, fun a na => ?_⟩, fun hs => ?_⟩
      · simp only [hs, if_true] at a1
        obtain ⟨s2, x2⟩ := s'.allocP (B := F.B) (u := exq a (F.G.cA k') d) na
        have rv : RMV F.G m' (fun b => P' b ∨ b = a) h1.length (upd H' a (exq a (F.G.cA k') d)) (.pv (.exc k' fs)) (.ref a) := by
          obtain ⟨pd, vs, fvs, hd, rr, hf⟩ := xr
          exact ⟨a, d, vs, fvs, rfl, .inr rfl, upd_same, .inl pd, x2.pk s' d _ pd hd, RVs.mono x2.sub (x2.pk s') _ _ rr, hf⟩
        by_cases hz : i < e1.length
        · have ev : evB (cnOf T F n) (.cons (.set j (.var i)) .nil) (e1.set i (some (.pv (.exc k' fs)))) h1 = some (.nx ((e1.set i (some (.pv (.exc k' fs)))).set j (some (.pv (.exc k' fs)))), h1) := by
            rw [evB, evS, evE, List.getElem?_set_self hz]
            simp only [evB]
          have a2 : AftS F m' P' h1 H' D (match evB (cnOf T F n) (.cons (.set j (.var i)) .nil) (e1.set i (some (.pv (.exc k' fs)))) h1 with | some (.nx e2, h2) => some (.nx (e2.set i none), h2) | some (.rt v, h2) => some (.rt v, h2) | _ => none) := a1
          rw [ev] at a2
          exact a2 _ _ _ _ x2 s2 ((((x2.env s' re').set rv).set rv).unset)
        · have ev : evB (cnOf T F n) (.cons (.set j (.var i)) .nil) (e1.set i (some (.pv (.exc k' fs)))) h1 = none := by
            rw [evB, evS, evE, List.getElem?_eq_none (by simpa using hz)]
          have a2 : AftS F m' P' h1 H' D (match evB (cnOf T F n) (.cons (.set j (.var i)) .nil) (e1.set i (some (.pv (.exc k' fs)))) h1 with | some (.nx e2, h2) => some (.nx (e2.set i none), h2) | some (.rt v, h2) => some (.rt v, h2) | _ => none) := a1
          rw [ev] at a2
          exact a2.elim
      · simp only [hs, Bool.false_eq_true, if_false] at a1
        exact a1 d σ' H' m' P' Ext.refl s' xr re'
    · simp only [cnOf, hk', if_false] at a1
      exact a1.elim
/-! ### every statement -/
mutual
def mS (T : Tb) (S : Sc) : IS → Stmt → Bool
  | .set i a, .Assign [.Name x p] e _ => (S.N[i]? == some x) && stoB S x && mE T S a e && (match a, e with
      | .comp _ _ _ _ _ _, .ListComp _ [⟨_, _, _, 0⟩] scope pos => (S.sc.names.lookup x == some .local) && (match S.sc.kind with | .function => true | _ => false) && (p.line == pos.line) && !(scope.names.any fun (n, k) => n == x && (k == .local || k == .cell))
      | .lcn _ _ _ _ _ _, .ListComp _ (⟨_, _, _, 0⟩ :: _) scope pos => (S.sc.names.lookup x == some .local) && (match S.sc.kind with | .function => true | _ => false) && (p.line == pos.line) && !(scope.names.any fun (n, k) => n == x && (k == .local || k == .cell))
      | _, e => !(isComp e))
  | .par i j a b, .Assign [.Tuple [.Name x px, .Name y py] _ _] (.Tuple [l, r] _ _) _ => mEs T S (.cons a (.cons b .nil)) [l, r] && (if (S.sc.names.lookup x == some .local && S.sc.names.lookup y == some .local) = true then
      (S.N[i]? == some x) && (S.N[j]? == some y) && !(i == j) && (match S.sc.kind with | .function => true | _ => false) && (py.line == px.line) && !(x == y) && !(foldedForSure 8 l && foldedForSure 8 r) && !(constantsAlone 8 l && constantsAlone 8 r)
      else nmB S [i, j] [.Name x px, .Name y py])
  | .unp l a, .Assign [.Tuple ts _ _] e _ => nmB S l ts && !(isTupE e) && mE T S a e
  | .sub o i a, .Assign [.Subscript l r _] e _ => mE T S o l && mE T S i r && mE T S a e
  | .ret a, .Return (some e) _ => mE T S a e
  | .retn, .Return none _ => true
  | .ex a, .Expr e _ => !(isComp e) && mE T S a e
  | .iff t a b, .If c x y _ => mT T S t c && mB T S a x && mB T S b y
  | .for_ tg it b, .For t iter body [] _ => tupOk it t && tgB S tg t && mI T S it iter && mB T S b body
  | .whl t b, .While c body [] _ => mT T S t c && mB T S b body
  | .rai c es ds, .Raise (some (.Call (.Name x _) (a :: as) [] _)) none _ => ds.isEmpty && glB S.sc x && notDbg x && (T.excs c == some x) && (esLen es == (T.G.fields c).length) && decide ((T.G.fields c).length ≤ 1000) && mEs T S es (a :: as)
  | .tri b k none hd, .Try body [.ExceptHandler (some (.Name x _)) none suite _] [] [] _ => glB S.sc x && notDbg x && (T.excs k == some x) && T.prg.nx k && hdB T S hd suite && mB T S b body
  | .tri b k (some i) (.cons (.set j (.var i2)) .nil), .Try body [.ExceptHandler (some (.Name x _)) (some nm) [.Assign [.Name y _] (.Name nm2 _) _] _] [] [] _ => (i2 == i) && (nm2 == nm) && glB S.sc x && notDbg x && (T.excs k == some x) && T.prg.nx k && (S.N[i]? == some nm) && (S.sc.names.lookup nm == some .local) && notDbg nm && (S.N[j]? == some y) && stoB S y && mB T S b body
  | .pass, .Pass _ => true
  | .brk, .Break _ => true
  | .cnt, .Continue _ => true
  | _, _ => false
def mB (T : Tb) (S : Sc) : ISs → List Stmt → Bool
  | .nil, [] => true
  | .cons s ss, st :: sts => mS T S s st && mB T S ss sts
  | _, _ => false
end
theorem star_no {a : IE} {e : Expr} (h : mE T S a e = true) : isStar e = false := by
  cases e <;> first | rfl | (cases a <;> simp [mE] at h)
theorem fun_kind {k : ScopeKind} (h : (match k with | .function => true | _ => false) = true) : k = .function := by
  cases k <;> first | rfl | simp at h
mutual
theorem mS_ok : ∀ (s : IS) {S : Sc} {F : Fx} {X : Cx} {st : Stmt}, GoodB T S F n X → mS T S s st = true → PS X st (tS F (evS (cnOf T F n) s))
  | .set i a, S, F, X, st, g, h => by
    unfold mS at h
    split at h <;> first | contradiction | skip
    rename_i e1
    cases e1
    simp only [Bool.and_eq_true] at h
    obtain ⟨⟨⟨h1, h2⟩, h3⟩, h4⟩ := h
    split at h4
    · simp only [Bool.and_eq_true, Bool.not_eq_true', beq_iff_eq] at h4
      obtain ⟨⟨⟨k1, k2⟩, k3⟩, k4⟩ := h4
      exact s_setc g.g h1 k1 (fun_kind k2) (by rw [k3]; exact beq_self_eq_true _) k4 h3
    · simp only [Bool.and_eq_true, Bool.not_eq_true', beq_iff_eq] at h4
      obtain ⟨⟨⟨k1, k2⟩, k3⟩, k4⟩ := h4
      exact s_setl g.g h1 k1 (fun_kind k2) (by rw [k3]; exact beq_self_eq_true _) k4 h3
    · simp only [Bool.not_eq_true'] at h4
      exact s_set g.g h1 h2 h4 (mE_ok a g.g h3)
  | .par i j a b, S, F, X, st, g, h => by
    unfold mS at h
    split at h <;> first | contradiction | skip
    rename_i e1
    cases e1
    simp only [Bool.and_eq_true] at h
    obtain ⟨h11, h⟩ := h
    have hm := h11
    simp only [mEs, Bool.and_eq_true] at hm
    split at h
    · rename_i hl
      simp only [Bool.and_eq_true, Bool.not_eq_true'] at h hl
      obtain ⟨⟨⟨⟨⟨⟨⟨h1, h2⟩, h3⟩, h6⟩, h7⟩, h8⟩, h9⟩, h10⟩ := h
      exact s_par g.g h1 h2 (by simpa using h3) (eq_of_beq hl.1) (eq_of_beq hl.2) (fun_kind h6) h7 h8 (star_no hm.1) (star_no hm.2.1) h9 h10 (AllE.pa h11 (mEs_ok _ g.g h11))
    · rename_i hl
      exact s_par2 g.g h (by simpa using hl) (AllE.pa h11 (mEs_ok _ g.g h11))
  | .unp l a, S, F, X, st, g, h => by
    unfold mS at h
    split at h <;> first | contradiction | skip
    rename_i e1
    cases e1
    simp only [Bool.and_eq_true, Bool.not_eq_true'] at h
    exact s_unp g.g h.1.1 h.1.2 (mE_ok a g.g h.2)
  | .sub o i a, S, F, X, st, g, h => by
    unfold mS at h
    split at h <;> first | contradiction | skip
    rename_i e1
    cases e1
    simp only [Bool.and_eq_true] at h
    exact s_sub g.g h.1.2 (mE_ok o g.g h.1.1) (mE_ok i g.g h.1.2) (mE_ok a g.g h.2)
  | .ret a, S, F, X, st, g, h => by
    unfold mS at h
    split at h <;> first | contradiction | skip
    rename_i e1
    cases e1
    exact s_ret (mE_ok a g.g h)
  | .retn, S, F, X, st, g, h => by
    unfold mS at h
    split at h <;> first | contradiction | skip
    exact s_retn
  | .ex a, S, F, X, st, g, h => by
    unfold mS at h
    split at h <;> first | contradiction | skip
    rename_i e1
    cases e1
    simp only [Bool.and_eq_true, Bool.not_eq_true'] at h
    exact s_ex h.1 (mE_ok a g.g h.2)
  | .iff t a b, S, F, X, st, g, h => by
    unfold mS at h
    split at h <;> first | contradiction | skip
    rename_i e1
    cases e1
    simp only [Bool.and_eq_true] at h
    exact s_if (mT_ok t g.g h.1.1) (mB_ok a g h.1.2) (mB_ok b g h.2)
  | .for_ tg it b, S, F, X, st, g, h => by
    unfold mS at h
    split at h <;> first | contradiction | skip
    rename_i e1
    cases e1
    simp only [Bool.and_eq_true] at h
    exact s_for g (mI_ok it g.g h.1.1.1 h.1.2) h.1.1.2 (mB_ok b g h.2) (mI_set h.1.2 _)
  | .whl t b, S, F, X, st, g, h => by
    unfold mS at h
    split at h <;> first | contradiction | skip
    rename_i e1
    cases e1
    simp only [Bool.and_eq_true] at h
    exact s_whl g (mT_ok t g.g h.1) (mB_ok b g h.2)
  | .rai c es ds, S, F, X, st, g, h => by
    unfold mS at h
    split at h <;> first | contradiction | skip
    rename_i e1
    cases e1
    simp only [Bool.and_eq_true, beq_iff_eq, decide_eq_true_eq] at h
    obtain ⟨⟨⟨⟨⟨⟨h1, h2⟩, h3⟩, h4⟩, h5⟩, h6⟩, h7⟩ := h
    have e0 : ds = [] := List.isEmpty_iff.mp h1
    subst e0
    exact s_rai g.g h2 h3 h4 h5 h6 h7 (AllE.pa h7 (mEs_ok es g.g h7))
  | .tri b k as_ hd, S, F, X, st, g, h => by
    unfold mS at h
    split at h <;> first | contradiction | skip
    · rename_i e1
      cases e1
      simp only [Bool.and_eq_true, beq_iff_eq, decide_eq_true_eq] at h
      obtain ⟨⟨⟨⟨⟨h2, h3⟩, h4⟩, h5⟩, h6⟩, h7⟩ := h
      exact s_try g h2 h3 h4 h5 h6 fun W X' g' => mB_ok b g' h7
    · rename_i e1
      cases e1
      simp only [Bool.and_eq_true, beq_iff_eq] at h
      obtain ⟨⟨⟨⟨⟨⟨⟨⟨⟨⟨⟨rfl, rfl⟩, h1⟩, h2⟩, h3⟩, h4⟩, h5⟩, h6⟩, h7⟩, h8⟩, h9⟩, h10⟩ := h
      exact s_tryas g h1 h2 h3 h4 (beq_iff_eq.mpr h5) (beq_iff_eq.mpr h6) h7 (beq_iff_eq.mpr h8) h9 fun W X' g' => mB_ok b g' h10
  | .pass, S, F, X, st, g, h => by
    unfold mS at h
    split at h <;> first | contradiction | skip
    exact s_pass
  | .brk, S, F, X, st, g, h => by
    unfold mS at h
    split at h <;> first | contradiction | skip
    exact s_brk
  | .cnt, S, F, X, st, g, h => by
    unfold mS at h
    split at h <;> first | contradiction | skip
    exact s_cnt
theorem mB_ok : ∀ (b : ISs) {S : Sc} {F : Fx} {X : Cx} {sts : List Stmt}, GoodB T S F n X → mB T S b sts = true → PSs X sts (tS F (evB (cnOf T F n) b))
  | .nil, S, F, X, sts, g, h => by
    cases sts with
    | nil => exact b_nil
    | cons _ _ => simp [mB] at h
  | .cons s ss, S, F, X, sts, g, h => by
    cases sts with
    | nil => simp [mB] at h
    | cons st sts =>
      simp only [mB, Bool.and_eq_true] at h
      exact b_cons (mS_ok s g h.1) (mB_ok ss g h.2)
end
end
end MI

/-! MiS19: a def keeps its promise -/
namespace MI
open PySem PySem.Spec L2
open PyProof.Rows hiding St
section
variable {G : Gb} {B : Nat} {m m' : Nat → Addr} {P P' : Addr → Prop} {h h' : Sto} {H H' : Hp}
theorem locs_lt {N : Nat} {o : MO} {a : Addr} (r : RO G m P N H o a) : ∀ k, k ∈ o.locs → k < N := by
  cases o with
  | lst xs =>
    obtain ⟨vs, _, rr⟩ := r
    intro k hk
    simp only [MO.locs, List.mem_filterMap] at hk
    obtain ⟨v, hv, e⟩ := hk
    obtain ⟨i, hi⟩ := List.mem_iff_getElem?.mp hv
    obtain ⟨y, _, ry⟩ := paired_get rr hi
    cases v with
    | pv _ => cases e
    | loc n => cases e; exact ry.1
  | lock xs => intro k hk; simp [MO.locs] at hk
  | dct kvs =>
    obtain ⟨kws, _, rr⟩ := r
    intro k hk
    simp only [MO.locs, List.mem_filterMap] at hk
    obtain ⟨⟨q, v⟩, hv, e⟩ := hk
    obtain ⟨i, hi⟩ := List.mem_iff_getElem?.mp hv
    obtain ⟨y, _, ry⟩ := paired_get rr hi
    cases v with
    | pv _ => cases e
    | loc n => cases e; exact ry.2.1
theorem rms_shrink {N N' : Nat} : ∀ {xs : List MV} {vs : List V}, RMs G m P N H xs vs → (∀ k, k ∈ (MO.lst xs).locs → k < N') → RMs G m P N' H xs vs
  | _, _, .nil, _ => .nil
  | .pv v :: xs, _, .cons r t, q => .cons r (rms_shrink t fun k hk => q k (by simpa [MO.locs] using hk))
  | .loc n :: xs, _, .cons r t, q => .cons ⟨q n (by simp [MO.locs]), r.2⟩ (rms_shrink t fun k hk => q k (by simp only [MO.locs, List.filterMap_cons, List.mem_cons]; exact .inr hk))
theorem rk_shrink {N N' : Nat} : ∀ {xs : List (DKey × MV)} {vs : List (Key × V)}, RK G m P N H xs vs → (∀ k, k ∈ (MO.dct xs).locs → k < N') → RK G m P N' H xs vs
  | _, _, .nil, _ => .nil
  | (a, .pv v) :: xs, _, .cons r t, q => .cons r (rk_shrink t fun k hk => q k (by simpa [MO.locs] using hk))
  | (a, .loc n) :: xs, _, .cons r t, q => .cons ⟨r.1, q n (by simp [MO.locs]), r.2.2⟩ (rk_shrink t fun k hk => q k (by simp only [MO.locs, List.filterMap_cons, List.mem_cons]; exact .inr hk))
theorem RO.shrink {N N' : Nat} {o : MO} {a : Addr} (r : RO G m P N H o a) (q : ∀ k, k ∈ o.locs → k < N') : RO G m P N' H o a := by
  cases o with
  | lst xs => obtain ⟨vs, e, rr⟩ := r; exact ⟨vs, e, rms_shrink rr q⟩
  | lock xs => exact r
  | dct kvs => obtain ⟨vs, e, rr⟩ := r; exact ⟨vs, e, rk_shrink rr q⟩
theorem take_get {n k : Nat} {o : MO} (e : (h'.take n)[k]? = some o) : k < n ∧ h'[k]? = some o := by
  rw [List.getElem?_take] at e
  split at e
  · exact ⟨by assumption, e⟩
  · cases e
/-- behind a def: what is left of the store -/
theorem trunc (S : SR G m P h H) (x : Ext h.length m P h H m' P' h' H') (s : SR G m' P' h' H') {P'' : Addr → Prop} (hp : ∀ a, P' a → P'' a) (hn : ∀ a, P'' a → P' a ∨ H a = none) (hd : ∀ a, P'' a → H' a ≠ none)
    (ha : ∀ k o, k < h.length → h'[k]? = some o → o.isOpen = true → ¬ P'' (m' k)) : Ext B m P h H m' P'' (h'.take h.length) H' ∧ SR G m' P'' (h'.take h.length) H' := by
  have hl : (h'.take h.length).length = h.length := by rw [List.length_take]; have := x.len; omega
  refine ⟨⟨by omega, x.agree, fun a q => hp a (x.sub a q), x.fr, fun n o' hk e ho => x.lk n o' hk (take_get e).2 ho, fun n h1 h2 => by omega, x.dom, fun n o' hB hk e k hk' => x.cl n o' hk hk (take_get e).2 k hk', fun a q => ?_⟩,
    ⟨fun n o e => ?_, fun i j oi oj ei ej => s.inj i j oi oj (take_get ei).2 (take_get ej).2, fun n o e ho => ha n o (take_get e).1 (take_get e).2 ho, hd⟩⟩
  · rcases hn a q with q | q
    · exact x.pn a q
    · exact .inr (.inl q)
  · obtain ⟨hk, e⟩ := take_get e
    rw [hl]
    have r1 := s.obj n o e
    have r2 : RO G m' P'' h'.length H' o (m' n) := RO.mono (fun _ _ => rfl) (Nat.le_refl _) hp (fun _ _ _ e => e) (fun _ u e => e) r1
    refine r2.shrink fun k hk' => ?_
    obtain ⟨o0, e0, k0⟩ := x.cl n o hk hk e k hk'
    exact locs_lt (S.obj n o0 e0) k k0
end
section
variable {T : Tb} {n : Nat}
/-- what a def's end wishes -/
theorem AftE.close {G : Gb} {B : Nat} {W : WX} {σ : St} {m : Nat → Addr} {P : Addr → Prop} {h : Sto} {H : Hp} {keep : Bool} {v : MV} {h' : Sto} {Q : VK} (S : SR G m P h H) (a : AftE ⟨G, B, W⟩ σ m P h H (MI.close keep h.length v h') Q) :
    ∀ x H' m' P', Ext (if keep = true then B else h.length) m P h H m' P' h' H' → SR G m' P' h' H' → RMV G m' P' h'.length H' v x → Q x H' := by
  intro x H' m' P' ex s r
  cases keep with
  | true =>
    simp only [MI.close, if_true] at a ex
    exact a x H' m' P' ex s r
  | false =>
    simp only [MI.close, Bool.false_eq_true, if_false] at a ex
    have plain := trunc (B := B) S ex s (fun _ q => q) (fun _ q => .inl q) s.pd (fun k o _ e ho => s.np k o e ho)
    have hl : (h'.take h.length).length = h.length := by rw [List.length_take]; have := ex.len; omega
    cases v with
    | pv p => exact a x H' m' P' plain.1 plain.2 r
    | loc k =>
      dsimp only at a
      split at a
      · rename_i hk
        exact a x H' m' P' plain.1 plain.2 ⟨by rw [hl]; exact hk, r.2⟩
      · rename_i hk
        split at a
        · rename_i p ep
          obtain ⟨hk', rfl⟩ := r
          -- the list stays
          simp only [snap] at ep
          split at ep
          · rename_i xs eo
            split at ep
            · rename_i ps epu
              cases ep
              obtain ⟨vs, q, rr⟩ := s.obj k _ eo
              have t := trunc (B := B) (P'' := fun b => P' b ∨ b = m' k) S ex s (fun _ q => .inl q) (fun b q => q.imp id fun (e : b = m' k) => by rw [e]; exact ex.new k (by omega) hk') (fun b q z => by
                rcases q with q1 | rfl
                · exact s.pd b q1 z
                · rw [q] at z; cases z) (fun j o hj e ho z => by
                rcases z with z | z
                · exact s.np j o e ho z
                · exact absurd (s.inj j k o _ e eo ho rfl z) (by omega))
              exact a _ H' m' _ t.1 t.2 ⟨m' k, vs, rfl, ⟨.inr rfl, q⟩, RVs.mono (fun _ q => .inl q) (fun _ _ _ e => e) _ _ (pures_rms rr epu)⟩
            · cases ep
          · cases ep
        · exact a.elim
theorem renv_start {G : Gb} {m : Nat → Addr} {P : Addr → Prop} {k : Nat} {H : Hp} {N : List Str} {ms : List MV} {vs : List V} (r : RMs G m P k H ms vs) : REnv G m P k H (MI.start N ms) (L2.start N vs) := by
  have hl := Paired.length r
  refine ⟨by simp [MI.start, L2.start, hl], fun i v e => ?_⟩
  unfold MI.start at e
  by_cases hi : i < ms.length
  · rw [List.getElem?_append_left (by simpa using hi), List.getElem?_map] at e
    cases q : ms[i]? with
    | none => rw [q] at e; cases e
    | some w =>
      rw [q] at e
      cases e
      obtain ⟨y, ey, ry⟩ := paired_get r q
      refine ⟨y, ?_, ry⟩
      unfold L2.start
      rw [List.getElem?_append_left (by simp; omega), List.getElem?_map, ey]
      rfl
  · rw [List.getElem?_append_right (by simpa using hi), List.getElem?_replicate] at e
    split at e <;> cases e
/-- what the text of a def is -/
structure FnT (T : Tb) (Fn : Fn) (f : Addr) (fd : FuncData) : Prop where
  it : ∃ (name qual : Str) (params : Arguments) (body : List Stmt) (scope : Scope) (dV kV doc pm cdv ct oc : Value) (an od : Option Addr) (osl : Array (Option Value)), fd = PySem.W.fnOf name qual params body scope dV kV doc pm an cdv ct ∧
    T.G.K.lookup f = some ⟨oc, od, .func (PySem.W.fnOf name qual params body scope dV kV doc pm an cdv ct), osl⟩ ∧ PySem.W.codeIn T.G.K cdv qual = true ∧ FnScope Fn.N Fn.ps scope ∧ mB T ⟨Fn.N, scope, fun _ => true⟩ Fn.body body = true
/-- the rule for a def, where no text of repr is being made around it -/
theorem fnG_of {P : Program} {w : World} {K : PySem.W.Frag} {mg : Str → Option Value} {base : Heap} {k : Nat} {f : Addr} {name qual : Str} {params : Arguments} {body : List Stmt} {scope : Scope} {dV kV doc pm cdv ct oc : Value} {an od : Option Addr}
    {osl : Array (Option Value)} {N ps : List Str} {sp : Sp} (lk : K.lookup f = some ⟨oc, od, .func (PySem.W.fnOf name qual params body scope dV kV doc pm an cdv ct), osl⟩) (hcd : PySem.W.codeIn K cdv qual = true) (S : FnScope N ps scope) (len : ∀ vs H Q E, sp vs H Q E → vs.length = ps.length)
    (hbody : ∀ (A : Around) (outer : List PySem.Env) (s : Shared) (H : Hp) (vs : List V) (Q : VK) (E : XK), Room k (A.deeper (envOfC qual scope s.heap.objs.size f cdv)) → (A.deeper (envOfC qual scope s.heap.objs.size f cdv)).guards = some [] → sp vs H Q E →
      ∃ t, PSs (cxOf (L2.CX P w) P w K mg base N qual scope f cdv A outer s H E) body t ∧ t { nx := fun _ H' => Q .non H', rt := Q } (L2.start N vs) H) :
    FnG P w K mg base (k + 1) f (PySem.W.fnOf name qual params body scope dV kV doc pm an cdv ct) ps sp where
  len := len
  run := fun A outer s H args us vs Q E hr hg e0 hb r hsp => by
    have hlen := len _ _ _ _ hsp
    have kin : K.In s.heap := e0.mod.kin.keeps fun b o z => (e0.bs b o z).1
    have nol : s.heap.NoLimit := e0.mod.nolimit.keeps fun b o z => (e0.bs b o z).1
    have kinds : ∀ y ∈ ps.zip us, scope.names.lookup y.1 = some .local ∨ (scope.names.lookup y.1 = some .cell ∧ ((cellsFrom (s.heap.objs.size + 1) scope.names []).lookup y.1).isSome = true) := by
      rintro ⟨x, v⟩ hy
      exact (S.par x (List.of_mem_zip hy).1).imp id fun q => ⟨q, PySem.W.cellsFrom_some _ _ _ (.inl q)⟩
    refine codeAny_call_function hr.depth (kin _ _ lk) rfl S.co S.gen rfl (PySem.W.codeRec_of kin hcd) (hb _ _ _ _ (wpAny_newFunctionEnv_cells S.kind kinds fun env he s1 x => ?_))
    subst he
    obtain ⟨t, ht, ht2⟩ := hbody A outer s H vs Q E (hr.deeper _) hg hsp
    have I0 : L2.Inv (cxOf (L2.CX P w) P w K mg base N qual scope f cdv A outer s H E) [] (L2.start N vs) H s1 := inv_start S hr.hd e0 hlen r x
    refine ⟨nol.keeps x.toInCall.keep, codeAny_func (wpAny_mono (ht.run [] s1 (L2.start N vs) H _ I0 ht2) (fun fl s2 hs => ?_) fun _ _ hs => hs)⟩
    cases fl with
    | ret u =>
      obtain ⟨v, _, H2, J, rv, q⟩ := hs
      exact ⟨v, H2, J.os, J.bare, J.base, J.hok, rv, q⟩
    | next =>
      obtain ⟨_, H2, J, q⟩ := hs
      exact ⟨V.non, H2, J.os, J.bare, J.base, J.hok, rfl, q⟩
    | brk => obtain ⟨_, _, _, q⟩ := hs; exact False.elim q
    | cont => obtain ⟨_, _, _, q⟩ := hs; exact False.elim q
/-- calls, one deeper -/
theorem fnG_step (ok : TbOk T n) {j : Nat} {Fn : Fn} {f : Addr} {fd : FuncData} (hj : T.prg.fns j = some Fn) (ft : FnT T Fn f fd) : FnG T.P T.w T.G.K T.mg T.base (lvl (n + 1)) f fd Fn.ps (spI T (n + 1) j) := by
  obtain ⟨name, qual, params, body, scope, dV, kV, doc, pm, cdv, ct, oc, an, od, osl, rfl, lk, hcd, Sx, hm⟩ := ft.it
  have hrun : ∀ B ms h, callI T.prg (n + 1) j B ms h = MI.run T.prg (callI T.prg n) j B ms h := fun _ _ _ => rfl
  refine fnG_of (k := lvl n) lk hcd Sx ?_ ?_
  · rintro vs H Q E ⟨ms, h, m, P, B, σ, St, r, a⟩
    rw [hrun] at a
    simp only [MI.run, hj] at a
    have hl := Paired.length r
    split at a
    · omega
    · exact a.elim
  · rintro A outer s H vs Q E hr hg ⟨ms, h, m, P, B, σ, St, r, a⟩
    rw [hrun] at a
    simp only [MI.run, hj] at a
    split at a
    case isFalse => exact a.elim
    let F : Fx := ⟨T.G, if Fn.keep = true then B else h.length, fun cls d _ H => E cls d H⟩
    have gb : GoodB T ⟨Fn.N, scope, fun _ => true⟩ F n (cxOf (L2.CX T.P T.w) T.P T.w T.G.K T.mg T.base Fn.N qual scope f cdv A outer s H E) := {
      g := ⟨rfl, rfl, rfl, rfl, rfl, rfl, rfl, Sx.nd, rfl, hr, hg, rfl, takes_of rfl rfl rfl rfl, fun _ _ => rfl, ok⟩
      po := passes_of rfl
      stk := rfl
      fr := rfl }
    refine ⟨_, mB_ok Fn.body gb hm, MI.start Fn.N ms, h, m, P, ⟨renv_start r, St⟩, ?_⟩
    revert a
    show AftE ⟨T.G, B, fun cls d _ H => E cls d H⟩ σ m P h H (match evB (cnOf T F n) Fn.body (MI.start Fn.N ms) h with
      | some (.rt v, h') => MI.close Fn.keep h.length v h'
      | some (.nx _, h') => MI.close Fn.keep h.length (.pv .non) h'
      | some (.ex c fs _, h') => .exc c fs (if Fn.keep = true then h' else h'.take h.length)
      | _ => .bad) Q → _
    match evB (cnOf T F n) Fn.body (MI.start Fn.N ms) h with
    | none => exact fun a => a.elim
    | some (.bk e, h2) => exact fun a => a.elim
    | some (.ct e, h2) => exact fun a => a.elim
    | some (.rt v, h2) => exact fun a x H' m' P' ex s r => AftE.close St a x H' m' P' ex s r
    | some (.nx e, h2) => exact fun a σ' H' m' P' ex s r => AftE.close St a .non H' m' P' ex s rfl
    | some (.ex c fs e, h2) =>
      intro a d σ' H' m' P' ex s xr re
      by_cases hk : Fn.keep = true
      · simp only [hk, if_true] at a
        have ex : Ext (if Fn.keep = true then B else h.length) m P h H m' P' h2 H' := ex
        rw [if_pos hk] at ex
        exact a d H' m' P' ex s xr
      · simp only [hk, if_false] at a
        have ex : Ext (if Fn.keep = true then B else h.length) m P h H m' P' h2 H' := ex
        rw [if_neg hk] at ex
        have t := trunc (B := B) St ex s (fun _ q => q) (fun _ q => .inl q) s.pd (fun k o _ e ho => s.np k o e ho)
        exact a d H' m' P' t.1 t.2 xr
end
end MI

/-! MiS20: error classes' __init__; all defs; the end -/
namespace MI
open PySem PySem.Spec L2
open PyProof.Rows hiding St
/-! ### an error class -/
theorem pe_oinit {X : Cx} {x msg : Str} {C0 : Addr} {e : Expr} {es : List Expr} {ta : TA} {p1 p2 pos : Pos} (hg : Gl X x) (hm : X.mg x = some (.ref C0)) (hdb : (x == ("__debug__" : Str)) = false)
    (g1 : PySem.W.specialIn X.K (.ref C0) "__getattribute__" = some (some (.builtin "type.__getattribute__"))) (g2 : PySem.W.readsIn X.K C0 (.type "type") = true) (g3 : PySem.W.findCls X.K (.ref C0) (.type "type") "__init__" = some (.val (.builtin "ValueError.__init__")))
    (ha : PA X (e :: es) ta) (hbase : attributeBase (.Name x p1) "__init__" X.env (eval (.Name x p1) X.env) = eval (.Name x p1) X.env)
    (hfew : ((backTo pos (starEach (e :: es) X.env)).all (fun x => !x.1) && (backToKw pos (keywordEach [] X.env)).all (fun x => x.1.isSome) && decide ((e :: es).length + ([] : List Keyword).length + (if ([] : List Keyword).isEmpty then 0 else 1) < 30)) = true) (hline : (p2.endLine == pos.line) = true)
    (he : starEach (e :: es) X.env = (false, eval e X.env) :: starEach es X.env) (hpl : (backTo pos (starEach es X.env)).any (·.1) = false) :
    PE X (.Call (.Attribute (.Name x p1) "__init__" p2) (e :: es) [] pos) (tVeI X.K ta) := by
  refine ⟨fun pins s σ H Q I h => ?_⟩
  have hform : methodCallForm ((e :: es).length + ([] : List Keyword).length) (backTo pos (starEach (e :: es) X.env)) (backToKw pos (keywordEach [] X.env)) = true := hfew
  have hpos : methodCallPos true (.Name x p1) X.env p2 pos = pure pos := by unfold methodCallPos; simp [hline]
  rw [arm_eval_Call, hbase]
  refine wpAny_bind (ld_glob I hg hm (wpAny_bind (wpAny_standAt ?_)) hdb)
  unfold methodCall
  rw [hform]
  refine wpAny_bind (wpAny_holding (PySem.W.method_cls I.kIn g1 (PySem.W.cls_value I.kIn g2 g3 (by decide +kernel) ?_)))
  refine wpAny_bind (wpAny_of_eq hpos ?_)
  refine PyProof.Rows.callWith_method1 (thn (ha.run pos pins _ σ H _ (I.tok _) h) fun us s1 ⟨vs, H1, I1, r1, a, C, ws, ev, hl, Tc, ea, q⟩ => ?_) he hpl
  subst ev
  cases r1 with
  | @cons _ u0 _ ur ra rt =>
    obtain rfl : u0 = Value.ref a := ra
    have hu : ur.length ≤ sizeLine := by
      rw [← Paired.length rt, sizeLine_eq]; omega
    exact oinit_ok Tc I1 ea hu fun s' J => ⟨.non, H1, J, rfl, q⟩
/-- def __init__(self, p): X.__init__(self, 'text'); self.f = p -/
def initT (sts : List Stmt) (x par fld : Str) : Bool := match sts with
  | [.Expr (.Call (.Attribute (.Name x' _) m p2) [.Name s1 _, .Constant (.str _) _ _] [] pos) _, .Assign [.Attribute (.Name s2 _) f' _] (.Name par' _) _] => x' == x && m == ("__init__" : Str) && s1 == ("self" : Str) && s2 == ("self" : Str) && f' == fld && par' == par && p2.endLine == pos.line
  | _ => false
theorem init1 {P : Program} {w : World} {K : PySem.W.Frag} {mg : Str → Option Value} {base : Heap} {f C C0 : Addr} {name qual x par fld : Str} {params : Arguments} {body : List Stmt} {scope : Scope} {dV kV doc pm cdv ct oc : Value} {an od : Option Addr} {osl : Array (Option Value)}
    (lk : K.lookup f = some ⟨oc, od, .func (PySem.W.fnOf name qual params body scope dV kV doc pm an cdv ct), osl⟩) (hcd : PySem.W.codeIn K cdv qual = true) (S : FnScope ["self", par] ["self", par] scope) (hb : initT body x par fld = true) (oex : OexC K C) (no : PySem.W.findIn K (.ref C) fld = some none)
    (hm : mg x = some (.ref C0)) (hgl : scope.names.lookup x = some .globalImplicit) (hx : notDbg x = true) (hp : notDbg par = true) (g1 : PySem.W.specialIn K (.ref C0) "__getattribute__" = some (some (.builtin "type.__getattribute__"))) (g2 : PySem.W.readsIn K C0 (.type "type") = true)
    (g3 : PySem.W.findCls K (.ref C0) (.type "type") "__init__" = some (.val (.builtin "ValueError.__init__"))) : FnOk P w K mg base (L2.CX P w) 1 f (PySem.W.fnOf name qual params body scope dV kV doc pm an cdv ct) ["self", par] (spMk C [fld]) := by
  refine fn_of (k := 0) lk hcd S ?_ ?_
  · rintro vs H Q E ⟨a, args, rfl, hl, _⟩
    simp [hl]
  · rintro A outer s H vs Q E hr ⟨a, args, rfl, hl, hH, hq⟩
    obtain ⟨v, rfl⟩ : ∃ v, args = [v] := by
      rcases args with _ | ⟨v, _ | ⟨_, _⟩⟩ <;> first | exact ⟨_, rfl⟩ | simp at hl
    unfold initT at hb
    split at hb
    case h_2 => cases hb
    simp only [Bool.and_eq_true, beq_iff_eq] at hb
    obtain ⟨⟨⟨⟨⟨⟨rfl, rfl⟩, rfl⟩, rfl⟩, rfl⟩, rfl⟩, hln⟩ := hb
    obtain ⟨d1, _, _⟩ := dbg1 hx
    obtain ⟨dp, dp2, _⟩ := dbg1 hp
    have v0 : Vis scope ("self" : Str) := (S.par _ (by simp)).elim .inl fun q => .inr (.inl q)
    have v1 := (S.par _ (List.mem_cons_of_mem _ (List.mem_singleton.mpr rfl)))
    have v1' := v1.elim (fun q => (Or.inl q : Vis scope _)) fun q => .inr (.inl q)
    refine ⟨_, pss_cons (ps_expr (pe_oinit (C0 := C0) (msg := "") hgl hm d1 g1 g2 g3 (pa_cons (pe_var (i := 0) rfl v0 (by decide) (by decide)) (pa_cons pe_str pa_nil rfl) rfl) rfl rfl (by rw [hln]; exact beq_self_eq_true _) rfl rfl) rfl) (pss_one (ps_ost (pe_var (i := 0) rfl v0 (by decide) (by decide)) (pe_var (i := 1) rfl v1' dp dp2) rfl)), ?_⟩
    refine ⟨.ref a, rfl, ?_⟩
    refine ⟨a, C, _, rfl, by simp, oex, hH, ?_⟩
    refine ⟨v, rfl, .ref a, rfl, a, C, rfl, oex, no, .inl ⟨hH, fun dx hd hne => ?_⟩⟩
    exact hq dx _ hd hne fun g => rfl
/-! ### all defs -/
structure Stat (T : Tb) : Prop where
  exc : ∀ c x, T.excs c = some x → T.mg x = some (.ref (T.G.cA c)) ∧ OexC T.G.K (T.G.cA c) ∧ ∃ fI fd ps, PySem.W.findIn T.G.K (.ref (T.G.cA c)) "__init__" = some (some (.ref fI)) ∧ PySem.W.typeIn T.G.K (.ref fI) = some (.type "function") ∧ FnOk T.P T.w T.G.K T.mg T.base (L2.CX T.P T.w) 1 fI fd ps (spMk (T.G.cA c) (T.G.fields c)) ∧ Binds T.G.K fd ps []
  smd : NoDig T.G.K
  exf : ∀ c, T.prg.nx c = true → XfC T.G.K (T.G.cA c) ∧ ∀ f, f ∈ T.G.fields c → PySem.W.findIn T.G.K (.ref (T.G.cA c)) f = some none
  exm : ∀ k k', T.prg.nx k = true → T.prg.nx k' = true → PySem.W.exmOne T.G.K (.ref (T.G.cA k')) (.ref (T.G.cA k)) = some (T.prg.sub k' k)
  rp : T.prg.rp = rpOf
  fields : T.prg.fields = T.G.fields
  con : ∀ x v, T.consts x = some v → ∃ u x', T.mg x = some u ∧ RelV x' u ∧ ∀ P H, RV T.G P H v x'
  blt : ∀ x, x ∈ T.bl → T.mg x = none
  fn : ∀ j Fn, T.prg.fns j = some Fn → ∃ f fd, T.mg Fn.name = some (.ref f) ∧ PySem.W.keepIn T.G.K (.ref f) = true ∧ FnT T Fn f fd ∧
    (∀ ds, (j, ds) ∈ T.binds → ∃ dvs dus, (ds.mapM sV) = some dvs ∧ Vals dvs dus ∧ Binds T.G.K fd Fn.ps dus) ∧ (∀ np ns perm, (j, np, ns, perm) ∈ T.kbs → KB fd Fn.ps np ns perm)
theorem tb_all {T : Tb} (s : Stat T) : ∀ n, TbOk T n
  | 0 => ⟨fun c x e => let ⟨a, b, fI, fd, ps, c1, c2, c3, c4⟩ := s.exc c x e; ⟨a, b, fI, fd, ps, c1, c2, c3.mono (by omega), c4⟩, s.smd, s.exf, s.exm, s.rp, s.fields, s.con, s.blt, fun j Fn e => by
      obtain ⟨f, fd, a, b, _, c, d⟩ := s.fn j Fn e
      exact ⟨f, fd, a, b, ⟨fun vs H Q E ⟨ms, h, m, P, B, σ, St, r, z⟩ => z.elim, fun A outer s H args us vs Q E _ _ _ _ _ ⟨ms, h, m, P, B, σ, St, r, z⟩ => z.elim⟩, c, d⟩⟩
  | n + 1 => ⟨fun c x e => let ⟨a, b, fI, fd, ps, c1, c2, c3, c4⟩ := s.exc c x e; ⟨a, b, fI, fd, ps, c1, c2, c3.mono (by omega), c4⟩, s.smd, s.exf, s.exm, s.rp, s.fields, s.con, s.blt, fun j Fn e => by
      obtain ⟨f, fd, a, b, ft, c, d⟩ := s.fn j Fn e
      exact ⟨f, fd, a, b, fnG_step (tb_all s n) e ft, c, d⟩⟩
/-! ### the end -/
theorem law_callG {P : Program} {w : World} {K : PySem.W.Frag} {mg mb : Str → Option Value} {k : Nat} {fa a : Addr} {fd : FuncData} {x : Str} {sp : Sp} {s₁ : Shared} {vs : List Value} {ns : List Int} (KX : K.In s₁.heap) (hns : s₁.heap.Ns mainGlobals mg) (hb : s₁.heap.Ns builtinsNs mb)
    (hbb : ∀ x : Str, x ≠ "__name__" → mb x = bootBuiltins x) (hlim : s₁.heap.NoLimit) (hg : s₁.gens = #[]) (ha : s₁.heap.get? a = some { cls := .type "list", data := .seq vs.toArray }) (hi : IntsAre vs ns) (hl : ns.length ≤ sizeLine) (hr : Room k callerA)
    (F : ∀ base : Heap, K.In base → base.Ns mainGlobals mg → FnG P w K mg base k fa fd [x] sp) (hbind : ∀ (s : Shared) (u : Value), BindsTo s fd ⟨[u], []⟩ [(x, u)])
    (hsp : ∀ H : Hp, Only H → SqL K H a (ns.map V.int) → sp [.ref a] H (fun v _ => v = .bl true) fun _ _ _ => False) :
    codeAny (model P w) callerA (.call (.ref fa) ⟨[.ref a], []⟩) (fun r s' => r = .ok (.ret (.bool true)) ∧ PySem.OldK s₁.heap s'.heap ∧ s'.os = s₁.os ∧ AllBare s'.gens) s₁ := by
  have rv := vals_ints hi
  have lenV := hi.length
  have main : ∀ H : Hp, Only H → SqL K H a (ns.map V.int) → HOk P w H s₁.heap → (∀ b, H b ≠ none → b = a ∧ K.lookup a = none) →
      codeAny (model P w) callerA (.call (.ref fa) ⟨[.ref a], []⟩) (fun r s' => r = .ok (.ret (.bool true)) ∧ PySem.OldK s₁.heap s'.heap ∧ s'.os = s₁.os ∧ AllBare s'.gens) s₁ := by
    intro H hO hS hok hA
    have only : ∀ {b : Addr} {u : HO}, H b = some u → b = a ∧ K.lookup a = none := fun {b u} q => hA b (by rw [q]; simp)
    have noDict : ∀ {b : Addr} {o : Obj} {es : Array DictEntry} {ep : Nat}, s₁.heap.get? b = some o → o.data = .dict es ep → H b = none := fun {b o es ep} e d => by
      cases q : H b with
      | none => rfl
      | some u =>
        rw [(only q).1, ha] at e
        cases e
        have d2 : Data.seq vs.toArray _ = Data.dict es ep := d
        cases d2
    have nsK : ∀ {b : Addr} {m : Str → Option Value}, s₁.heap.Ns b m → (hidT s₁.heap H).Ns b m := fun {b m} ⟨o, es, ep, e, d, r⟩ => ⟨o, es, ep, hidT_get e (noDict e d), d, r⟩
    have kin : K.In (hidT s₁.heap H) := fun b o e => hidT_get (KX b o e) (by
      cases q : H b with
      | none => rfl
      | some u =>
        obtain ⟨z1, z2⟩ := only q
        rw [z1, z2] at e; cases e)
    obtain ⟨mc, l1, l2⟩ := hlim
    have e0 : Env0 P w K mg (hidT s₁.heap H) callerA [] s₁ H := ⟨rfl, ⟨kin, nsK hns, ⟨mb, nsK hb, hbb⟩, ⟨mc, nsK l1, l2⟩⟩, fun b o e => of_hidT e, Nat.le_of_eq (hidT_size _ _), trivial, fun b hb => absurd (show b ∈ ([] : List Addr) from hb) (by simp), hok, .of_eq hg⟩
    refine codeAny_mono ((F _ kin (nsK hns)).run callerA [] s₁ H ⟨[.ref a], []⟩ [.ref a] [.ref a] _ _ hr rfl e0 (hbind s₁ (.ref a)) (.cons rfl .nil) (hsp H hO hS)) fun r s' h => ?_
    cases r with
    | error e =>
      obtain ⟨_, _, _, _, _, _, _, _, _, _, _, _, hE⟩ := h
      exact hE.elim
    | ok fl =>
      cases fl with
      | ret u =>
        obtain ⟨v, H', os, bare, un, hok', r', q⟩ := h
        obtain rfl : v = .bl true := q
        obtain rfl : u = Value.bool true := r'
        refine ⟨rfl, PySem.OldK.of_keep fun b o e => ?_, os, bare⟩
        cases q : H b with
        | none => exact un.keep b o e q (fun z => by simp [frs] at z) (by simp)
        | some u =>
          rcases hO b with z | ⟨ob, xs, z⟩
          · rw [q] at z; cases z
          · obtain ⟨e1, _⟩ := hok b _ z
            obtain ⟨e2, _⟩ := hok' b _ (un.frzs b ob _ z)
            rw [e] at e1; cases e1
            exact e2
      | next => exact False.elim h
      | brk => exact False.elim h
      | cont => exact False.elim h
  cases hk : K.lookup a with
  | some o =>
    have e := KX a o hk
    rw [ha] at e
    cases e
    exact main (fun _ => none) (fun _ => .inl rfl) (.inr ⟨_, vs.toArray, _, hk, rfl, rfl, rfl, by rw [List.size_toArray, lenV]; exact hl, by simpa using rv⟩) (fun b u z => by cases (show (none : Option HO) = some u from z)) (fun b z => absurd rfl z)
  | none =>
    have at_ : ∀ b u, (fun b => if b = a then some (HO.frz { cls := .type "list", data := .seq vs.toArray } (.lst (ns.map V.int))) else none : Hp) b = some u → b = a ∧ u = HO.frz { cls := .type "list", data := .seq vs.toArray } (.lst (ns.map V.int)) := fun b u z => by
      by_cases hb : b = a
      · exact ⟨hb, (Option.some.inj ((if_pos hb).symm.trans z)).symm⟩
      · cases (if_neg hb).symm.trans z
    refine main (fun b => if b = a then some (.frz { cls := .type "list", data := .seq vs.toArray } (.lst (ns.map V.int))) else none) (fun b => ?_) (.inl (.inr ⟨_, if_pos rfl⟩)) (fun b u z => ?_) (fun b z => ⟨?_, hk⟩)
    · by_cases hb : b = a
      · exact .inr ⟨_, _, if_pos hb⟩
      · exact .inl (if_neg hb)
    · obtain ⟨rfl, rfl⟩ := at_ b u z
      exact ⟨ha, by rw [List.length_map]; exact hl, vs, _, rv, ha⟩
    · by_cases hb : b = a
      · exact hb
      · exact absurd (if_neg hb) z
theorem walk_ofG {l : PySem.W.OpenLaw} {n k : Nat} {q : Program} {loose : List Str} {XP : (Str → Option Value) → Heap → Prop} {YP : World → Heap → Prop} {d : DefRec} {K : Params → PySem.W.Frag} {x : Str}
    (hn : l.most = some n) (hn2 : n ≤ sizeLine) (hdf : d.params.defaults = []) (hr : Room k callerA) (hY : ∀ (w : World) (h : Heap), YP w h → (K w.params).In h)
    (F : ∀ (w : World) (mg : Str → Option Value) (fa : Addr) (h : Heap), (K w.params).In h → h.Ns mainGlobals mg → mg d.name = some (.ref fa) → ∃ (fd : FuncData) (sp : Sp), (∀ (s : Shared) (u : Value), BindsTo s fd ⟨[u], []⟩ [(x, u)]) ∧
        (∀ base : Heap, (K w.params).In base → base.Ns mainGlobals mg → FnG l.prog w (K w.params) mg base k fa fd [x] sp) ∧
        ∀ (H : Hp) (a : Addr) (ns : List Int), ns.length ≤ n → Only H → SqL (K w.params) H a (ns.map V.int) → sp [.ref a] H (fun v _ => v = .bl true) fun _ _ _ => False) :
    PySem.W.WalkO q loose XP YP l.row.toRowW d [] (fun f vs => PySem.call f vs) := by
  refine Att.attach_call hn hdf fun w s₀ s₁ mg mb fa o pm cd doc a vs ns G Y ho hd hcd hmg hobj hints hlen hg => ?_
  have KX := hY w _ Y
  obtain ⟨fd, sp, hb, hF, hsp⟩ := F w mg fa _ KX G.T.g hmg
  exact law_callG KX G.T.g G.T.b G.T.builtins G.T.nolimit hg hobj hints (Nat.le_trans hlen hn2) hr hF hb fun H hO hS => hsp H a ns hlen hO hS
theorem rvs_ints {G : Gb} {P : Addr → Prop} {H : Hp} : ∀ ns : List Int, RVs G P H (ns.map PV.int) (ns.map V.int)
  | [] => rfl
  | n :: ns => ⟨.int n, ns.map V.int, rfl, rfl, rvs_ints ns⟩
/-- the law's own promise, from the evaluator's answer -/
theorem sp_law {T : Tb} {n j : Nat} (hres : ∀ ns : List Int, ns.length ≤ 63 → ∃ h', callI T.prg n j 0 [.loc 0] [.lock (ns.map PV.int)] = .ok (.pv (.bl true), h')) {H : Hp} {a : Addr} {ns : List Int} (hl : ns.length ≤ 63) (hS : SqL T.G.K H a (ns.map V.int)) :
    spI T n j [.ref a] H (fun v _ => v = .bl true) fun _ _ _ => False := by
  obtain ⟨h', e⟩ := hres ns hl
  have fin : ∀ P : Addr → Prop, SR T.G (fun _ => a) P [.lock (ns.map PV.int)] H → spI T n j [.ref a] H (fun v _ => v = .bl true) fun _ _ _ => False := fun P St => by
    refine ⟨[.loc 0], [.lock (ns.map PV.int)], fun _ => a, P, 0, [], St, .cons ⟨by simp, rfl⟩ .nil, ?_⟩
    rw [e]
    exact fun x H' m' P' _ _ r => r
  have one : ∀ {k : Nat} {o : MO}, ([.lock (ns.map PV.int)] : Sto)[k]? = some o → o = .lock (ns.map PV.int) := fun {k o} q => by
    cases k with
    | zero => exact (Option.some.inj q).symm
    | succ k => cases q
  rcases hS with hS | hS
  · refine fin (fun b => b = a) ⟨fun k o q => ?_, fun i j oi oj ei ej hi => ?_, fun k o q ho => ?_, fun b q => ?_⟩
    · rw [one q]
      exact ⟨_, .inl ⟨rfl, hS⟩, rvs_ints ns⟩
    · rw [one ei] at hi; cases hi
    · rw [one q] at ho; cases ho
    · rw [q]
      rcases hS with q | ⟨o, q⟩ <;> (rw [q]; simp)
  · refine fin (fun _ => False) ⟨fun k o q => ?_, fun i j oi oj ei ej hi => ?_, fun k o q ho => ?_, fun b q => q.elim⟩
    · rw [one q]
      exact ⟨_, .inr hS, rvs_ints ns⟩
    · rw [one ei] at hi; cases hi
    · rw [one q] at ho; cases ho
end MI

namespace MI
open PySem
def f_is_integer : Fn := { name := "is_integer", ps := ["value"], N := ["value"], keep := false, body :=
  (.cons (.ret (.and (.isI .int (.var 0)) (.not (.isI .bool (.var 0))))) .nil) }
def f_check_partition_b0 : ISs :=
  (.cons (.iff (.not (.call 0 (.cons (.var 2) .nil) [])) (.cons (.rai 0 (.cons (.var 1) .nil) []) .nil) .nil) (.cons (.iff (.and (.cmp .gt (.var 1) (.k (.int 0))) (.cmp .gt (.var 2) (.idx (.var 0) (.bin .sub (.var 1) (.k (.int 1)))))) (.cons (.rai 0 (.cons (.var 1) .nil) []) .nil) .nil) .nil))
def f_check_partition : Fn := { name := "check_partition", ps := ["value"], N := ["value", "position", "item"], keep := false, body :=
  (.cons (.iff (.or (.not (.isI .tuple (.var 0))) (.not (.cmp2 .le .le (.k (.int 1)) (.blt .len (.cons (.var 0) .nil)) (.glob "MAX_SIZE" (.int 6))))) (.cons (.rai 0 (.cons (.k .non) .nil) []) .nil) .nil) (.cons (.for_ (.tp [1, 2]) (.enum (.var 0)) f_check_partition_b0) .nil)) }
def f_is_partition : Fn := { name := "is_partition", ps := ["value"], N := ["value"], keep := false, body :=
  (.cons (.tri (.cons (.ex (.call 1 (.cons (.var 0) .nil) [])) .nil) 0 none (.cons (.ret (.k (.bl false))) .nil)) (.cons (.ret (.k (.bl true))) .nil)) }
def f_check_equal_sizes_b0 : ISs :=
  (.cons (.ex (.call 1 (.cons (.var 1) .nil) [])) .nil)
def f_check_equal_sizes_c1 : IE :=
  (.comp false (.nm 1) [1] (.val (.var 0)) .nil (.blt .len (.cons (.var 1) .nil)))
def f_check_equal_sizes : Fn := { name := "check_equal_sizes", ps := ["values"], N := ["values", "value", "sizes"], keep := false, body :=
  (.cons (.for_ (.nm 1) (.val (.var 0)) f_check_equal_sizes_b0) (.cons (.set 2 (.blt .tuple (.cons f_check_equal_sizes_c1 .nil))) (.cons (.iff (.cmp .ne (.blt .min (.cons (.var 2) .nil)) (.blt .max (.cons (.var 2) .nil))) (.cons (.rai 2 (.cons (.var 2) .nil) []) .nil) .nil) .nil))) }
def f_check_factor : Fn := { name := "check_factor", ps := ["value"], N := ["value"], keep := false, body :=
  (.cons (.iff (.or (.not (.call 0 (.cons (.var 0) .nil) [])) (.cmp .lt (.var 0) (.k (.int 0)))) (.cons (.rai 1 (.cons (.var 0) .nil) []) .nil) .nil) .nil) }
def f_negate_c0 : IE :=
  (.comp false (.nm 1) [1] (.val (.rev (.var 0))) .nil (.neg (.var 1)))
def f_negate : Fn := { name := "negate", ps := ["partition"], N := ["partition", "item"], keep := false, body :=
  (.cons (.ex (.call 1 (.cons (.var 0) .nil) [])) (.cons (.ret (.blt .tuple (.cons f_negate_c0 .nil))) .nil)) }
def f_shift_c0 : IE :=
  (.comp false (.nm 2) [2] (.val (.var 0)) .nil (.bin .add (.var 2) (.var 1)))
def f_shift : Fn := { name := "shift", ps := ["partition", "amount"], N := ["partition", "amount", "item"], keep := false, body :=
  (.cons (.ex (.call 1 (.cons (.var 0) .nil) [])) (.cons (.iff (.not (.call 0 (.cons (.var 1) .nil) [])) (.cons (.rai 1 (.cons (.var 1) .nil) []) .nil) .nil) (.cons (.ret (.blt .tuple (.cons f_shift_c0 .nil))) .nil))) }
def f_scale_partition_c0 : IE :=
  (.comp false (.nm 2) [2] (.val (.var 0)) .nil (.bin .mul (.var 2) (.var 1)))
def f_scale_partition : Fn := { name := "scale_partition", ps := ["partition", "factor"], N := ["partition", "factor", "item"], keep := false, body :=
  (.cons (.ex (.call 1 (.cons (.var 0) .nil) [])) (.cons (.ex (.call 4 (.cons (.var 1) .nil) [])) (.cons (.ret (.blt .tuple (.cons f_scale_partition_c0 .nil))) .nil))) }
def f_add_partitions_c0 : IE :=
  (.comp false (.tp [2, 3]) [2, 3] (.zip (.var 0) (.var 1)) .nil (.bin .add (.var 2) (.var 3)))
def f_add_partitions : Fn := { name := "add_partitions", ps := ["first", "second"], N := ["first", "second", "left", "right"], keep := false, body :=
  (.cons (.ex (.call 3 (.cons (.tup (.cons (.var 0) (.cons (.var 1) .nil))) .nil) [])) (.cons (.ret (.blt .tuple (.cons f_add_partitions_c0 .nil))) .nil)) }
def f_law_mixed : Fn := { name := "_law_mixed", ps := ["cell", "n"], N := ["cell", "n", "turned"], keep := false, body :=
  (.cons (.set 2 (.bin .add (.bin .add (.bin .mod (.bin .mul (.bin .mul (.var 0) (.bin .add (.k (.int 1)) (.bin .mul (.k (.int 2)) (.var 1)))) (.k (.int 48271))) (.k (.int 2147483647))) (.bin .mul (.bin .mul (.k (.int 7919)) (.var 1)) (.var 1))) (.bin .mul (.k (.int 104729)) (.var 1)))) (.cons (.ret (.bin .fdiv (.bin .mod (.bin .mul (.var 2) (.k (.int 69621))) (.k (.int 2147483629))) (.k (.int 7)))) .nil)) }
def f_law_folded_c0 : IE :=
  (.comp true (.nm 2) [2] (.rng1 (.k (.int 64))) .nil (.bin .add (.k (.int 17)) (.var 2)))
def f_law_folded_b1 : ISs :=
  (.cons (.sub (.var 1) (.bin .mod (.var 2) (.k (.int 64))) (.bin .mod (.bin .add (.bin .mul (.idx (.var 1) (.bin .mod (.var 2) (.k (.int 64)))) (.k (.int 48271))) (.var 3)) (.k (.int 2147483647)))) .nil)
def f_law_folded_b2 : ISs :=
  (.cons (.sub (.var 1) (.var 2) (.bin .mod (.bin .add (.idx (.var 1) (.var 2)) (.bin .mul (.idx (.var 1) (.bin .sub (.var 2) (.k (.int 1)))) (.k (.int 16807)))) (.k (.int 2147483647)))) .nil)
def f_law_folded : Fn := { name := "_law_folded", ps := ["script"], N := ["script", "found", "n", "cell"], keep := false, body :=
  (.cons (.set 1 f_law_folded_c0) (.cons (.for_ (.tp [2, 3]) (.enum (.var 0)) f_law_folded_b1) (.cons (.for_ (.nm 2) (.rng2 (.k (.int 1)) (.k (.int 64))) f_law_folded_b2) (.cons (.ret (.var 1)) .nil)))) }
def f_law_draw : Fn := { name := "_law_draw", ps := ["m", "top"], N := ["m", "top", "n", "at", "cell"], keep := false, body :=
  (.cons (.set 2 (.idx (.var 0) (.k (.str "spot")))) (.cons (.sub (.var 0) (.k (.str "spot")) (.bin .add (.var 2) (.k (.int 1)))) (.cons (.iff (.cmp .ne (.idx (.var 0) (.k (.str "great"))) (.lst .nil)) (.cons (.set 3 (.bin .mod (.var 2) (.blt .len (.cons (.idx (.var 0) (.k (.str "great"))) .nil)))) (.cons (.set 4 (.idx (.idx (.var 0) (.k (.str "great"))) (.var 3))) (.cons (.iff (.cmp .gt (.var 4) (.k (.int 0))) (.cons (.sub (.idx (.var 0) (.k (.str "great"))) (.var 3) (.bin .fdiv (.var 4) (.var 1))) (.cons (.ret (.bin .mod (.var 4) (.var 1))) .nil)) .nil) .nil))) .nil) (.cons (.ret (.bin .mod (.call 9 (.cons (.call 9 (.cons (.bin .add (.idx (.idx (.var 0) (.k (.str "cells"))) (.bin .mod (.var 2) (.k (.int 64)))) (.bin .mul (.k (.int 31)) (.bin .fdiv (.var 2) (.k (.int 64))))) (.cons (.var 2) .nil)) []) (.cons (.bin .add (.var 2) (.k (.int 7))) .nil)) []) (.var 1))) .nil)))) }
def f_law_begun_c0 : IE :=
  (.comp true (.nm 2) [2] (.val (.var 0)) .nil (.ite (.cmp .ge (.var 2) (.bin .pow (.k (.int 10)) (.k (.int 18)))) (.var 2) (.k (.int 0))))
def f_law_begun : Fn := { name := "_law_begun", ps := ["script"], N := ["script", "m", "cell"], keep := true, body :=
  (.cons (.set 1 (.newd ["cells", "great", "spot"] (.cons (.call 10 (.cons (.var 0) .nil) []) (.cons (.newl .nil) (.cons (.k (.int 0)) .nil))))) (.cons (.sub (.var 1) (.k (.str "great")) f_law_begun_c0) (.cons (.ret (.var 1)) .nil))) }
def f_law_part_b0 : ISs :=
  (.cons (.set 6 (.blt .min (.cons (.var 4) (.cons (.idx (.lst (.cons (.k (.int 0)) (.cons (.k (.int 1)) (.cons (.call 11 (.cons (.var 0) (.cons (.k (.int 3)) .nil)) []) (.cons (.call 11 (.cons (.var 0) (.cons (.k (.int 8)) .nil)) []) .nil))))) (.call 11 (.cons (.var 0) (.cons (.k (.int 4)) .nil)) [])) .nil)))) (.cons (.set 4 (.bin .sub (.var 4) (.var 6))) (.cons (.ex (.app (.var 3) (.bin .sub (.idx (.var 3) (.neg (.k (.int 1)))) (.var 6)))) .nil)))
def f_law_part : Fn := { name := "_law_part", ps := ["m", "many", "most"], N := ["m", "many", "most", "found", "left", "n", "drop"], keep := false, body :=
  (.cons (.set 3 (.newl (.cons (.bin .sub (.call 11 (.cons (.var 0) (.cons (.k (.int 9)) .nil)) []) (.k (.int 2))) .nil))) (.cons (.set 4 (.var 2)) (.cons (.for_ (.nm 5) (.rng1 (.bin .sub (.var 1) (.k (.int 1)))) f_law_part_b0) (.cons (.ret (.blt .tuple (.cons (.var 3) .nil))) .nil)))) }
def f_law_pair_c0 : IE :=
  (.comp false (.nm 4) [4] (.val (.call 13 (.cons (.var 0) (.cons (.var 1) (.cons (.k (.int 40)) .nil))) [])) .nil (.bin .mul (.var 4) (.var 2)))
def f_law_pair : Fn := { name := "_law_pair", ps := ["m"], N := ["m", "many", "times", "one", "item"], keep := false, body :=
  (.cons (.par 1 2 (.bin .add (.k (.int 1)) (.call 11 (.cons (.var 0) (.cons (.k (.int 6)) .nil)) [])) (.idx (.lst (.cons (.k (.int 1)) (.cons (.k (.int 1)) (.cons (.k (.int 1)) (.cons (.bin .add (.bin .pow (.k (.int 10)) (.k (.int 40))) (.k (.int 3))) .nil))))) (.call 11 (.cons (.var 0) (.cons (.k (.int 4)) .nil)) []))) (.cons (.set 3 (.blt .tuple (.cons f_law_pair_c0 .nil))) (.cons (.ret (.tup (.cons (.var 3) (.cons (.call 13 (.cons (.var 0) (.cons (.var 1) (.cons (.k (.int 40)) .nil))) []) .nil)))) .nil))) }
def f_law_single_right_c0 : IE :=
  (.comp false (.nm 6) [6] (.rng1 (.blt .len (.cons (.var 0) .nil))) .nil (.bin .sub (.k (.int 0)) (.idx (.var 0) (.bin .sub (.bin .sub (.blt .len (.cons (.var 0) .nil)) (.k (.int 1))) (.var 6)))))
def f_law_single_right_c1 : IE :=
  (.comp false (.nm 7) [7] (.val (.var 0)) .nil (.bin .add (.var 7) (.var 1)))
def f_law_single_right_c2 : IE :=
  (.comp false (.nm 7) [7] (.val (.var 0)) .nil (.bin .mul (.var 7) (.var 2)))
def f_law_single_right_c3 : IE :=
  (.comp false (.nm 7) [7] (.val (.tup (.cons (.var 3) (.cons (.var 4) (.cons (.var 5) .nil))))) (.cons (.not (.call 2 (.cons (.var 7) .nil) [])) .nil) (.var 7))
def f_law_single_right : Fn := { name := "_law_single_right", ps := ["part", "more", "times"], N := ["part", "more", "times", "flipped", "moved", "grown", "n", "item"], keep := false, body :=
  (.cons (.set 3 (.blt .tuple (.cons f_law_single_right_c0 .nil))) (.cons (.iff (.cmp .ne (.blt .repr (.cons (.lst (.cons (.call 5 (.cons (.var 0) .nil) []) (.cons (.callk 5 .nil ["partition"] (.cons (.var 0) .nil) [0]) (.cons (.call 5 (.cons (.call 5 (.cons (.var 0) .nil) []) .nil) []) .nil)))) .nil)) (.blt .repr (.cons (.lst (.cons (.var 3) (.cons (.var 3) (.cons (.var 0) .nil)))) .nil))) (.cons (.ret (.k (.bl false))) .nil) .nil) (.cons (.set 4 (.blt .tuple (.cons f_law_single_right_c1 .nil))) (.cons (.iff (.cmp .ne (.blt .repr (.cons (.lst (.cons (.call 6 (.cons (.var 0) (.cons (.var 1) .nil)) []) (.cons (.callk 6 .nil ["amount", "partition"] (.cons (.var 1) (.cons (.var 0) .nil)) [1, 0]) .nil))) .nil)) (.blt .repr (.cons (.lst (.cons (.var 4) (.cons (.var 4) .nil))) .nil))) (.cons (.ret (.k (.bl false))) .nil) .nil) (.cons (.iff (.cmp .ne (.blt .repr (.cons (.call 6 (.cons (.var 4) (.cons (.bin .sub (.k (.int 0)) (.var 1)) .nil)) []) .nil)) (.blt .repr (.cons (.var 0) .nil))) (.cons (.ret (.k (.bl false))) .nil) .nil) (.cons (.set 5 (.blt .tuple (.cons f_law_single_right_c2 .nil))) (.cons (.iff (.cmp .ne (.blt .repr (.cons (.lst (.cons (.call 7 (.cons (.var 0) (.cons (.var 2) .nil)) []) (.cons (.callk 7 .nil ["factor", "partition"] (.cons (.var 2) (.cons (.var 0) .nil)) [1, 0]) .nil))) .nil)) (.blt .repr (.cons (.lst (.cons (.var 5) (.cons (.var 5) .nil))) .nil))) (.cons (.ret (.k (.bl false))) .nil) .nil) (.cons (.ret (.cmp .eq f_law_single_right_c3 (.lst .nil))) .nil)))))))) }
def f_law_pair_right_c0 : IE :=
  (.comp false (.nm 5) [5] (.rng1 (.blt .len (.cons (.var 0) .nil))) .nil (.bin .add (.idx (.var 0) (.var 5)) (.idx (.var 1) (.var 5))))
def f_law_pair_right_c1 : IE :=
  (.comp false (.nm 5) [5] (.rng1 (.blt .len (.cons (.var 0) .nil))) .nil (.bin .sub (.idx (.var 0) (.var 5)) (.idx (.var 0) (.bin .sub (.bin .sub (.blt .len (.cons (.var 0) .nil)) (.k (.int 1))) (.var 5)))))
def f_law_pair_right : Fn := { name := "_law_pair_right", ps := ["one", "two", "times"], N := ["one", "two", "times", "due", "found", "n"], keep := false, body :=
  (.cons (.set 3 (.blt .tuple (.cons f_law_pair_right_c0 .nil))) (.cons (.set 4 (.lst (.cons (.call 8 (.cons (.var 0) (.cons (.var 1) .nil)) []) (.cons (.callk 8 .nil ["second", "first"] (.cons (.var 1) (.cons (.var 0) .nil)) [1, 0]) (.cons (.call 8 (.cons (.var 1) (.cons (.var 0) .nil)) []) .nil))))) (.cons (.iff (.cmp .ne (.blt .repr (.cons (.var 4) .nil)) (.blt .repr (.cons (.bin .mul (.lst (.cons (.var 3) .nil)) (.k (.int 3))) .nil))) (.cons (.ret (.k (.bl false))) .nil) .nil) (.cons (.iff (.cmp .ne (.call 8 (.cons (.call 7 (.cons (.var 0) (.cons (.var 2) .nil)) []) (.cons (.call 7 (.cons (.var 1) (.cons (.var 2) .nil)) []) .nil)) []) (.call 7 (.cons (.var 3) (.cons (.var 2) .nil)) [])) (.cons (.ret (.k (.bl false))) .nil) .nil) (.cons (.iff (.cmp .ne (.call 8 (.cons (.var 0) (.cons (.call 5 (.cons (.var 0) .nil) []) .nil)) []) (.blt .tuple (.cons f_law_pair_right_c1 .nil))) (.cons (.ret (.k (.bl false))) .nil) .nil) (.cons (.ret (.and (.cmp .eq (.call 5 (.cons (.var 3) .nil) []) (.call 8 (.cons (.call 5 (.cons (.var 1) .nil) []) (.cons (.call 5 (.cons (.var 0) .nil) []) .nil)) [])) (.call 2 (.cons (.var 3) .nil) []))) .nil)))))) }
def f_law_b0 : ISs :=
  (.cons (.unp [3, 4] (.call 14 (.cons (.var 1) .nil) [])) (.cons (.set 5 (.idx (.lst (.cons (.k (.int 0)) (.cons (.k (.int 1)) (.cons (.bin .sub (.k (.int 0)) (.k (.int 1))) (.cons (.bin .sub (.call 11 (.cons (.var 1) (.cons (.k (.int 1000)) .nil)) []) (.k (.int 500))) (.cons (.bin .pow (.k (.int 10)) (.k (.int 30))) (.cons (.bin .sub (.k (.int 0)) (.bin .pow (.k (.int 10)) (.k (.int 60)))) .nil))))))) (.call 11 (.cons (.var 1) (.cons (.k (.int 6)) .nil)) []))) (.cons (.set 6 (.idx (.lst (.cons (.k (.int 0)) (.cons (.k (.int 1)) (.cons (.k (.int 2)) (.cons (.call 11 (.cons (.var 1) (.cons (.k (.int 100)) .nil)) []) (.cons (.bin .pow (.k (.int 10)) (.k (.int 25))) (.cons (.k (.int 7)) .nil))))))) (.call 11 (.cons (.var 1) (.cons (.k (.int 6)) .nil)) []))) (.cons (.set 7 (.blt .repr (.cons (.lst (.cons (.var 3) (.cons (.var 4) .nil))) .nil))) (.cons (.iff (.or (.not (.call 15 (.cons (.var 3) (.cons (.var 5) (.cons (.var 6) .nil))) [])) (.not (.call 15 (.cons (.var 4) (.cons (.var 5) (.cons (.var 6) .nil))) []))) (.cons (.ret (.k (.bl false))) .nil) .nil) (.cons (.iff (.or (.not (.call 16 (.cons (.var 3) (.cons (.var 4) (.cons (.var 6) .nil))) [])) (.cmp .ne (.blt .repr (.cons (.lst (.cons (.var 3) (.cons (.var 4) .nil))) .nil)) (.var 7))) (.cons (.ret (.k (.bl false))) .nil) .nil) .nil))))))
def f_law : Fn := { name := "law", ps := ["script"], N := ["script", "m", "n", "one", "two", "more", "times", "kept"], keep := false, body :=
  (.cons (.set 1 (.call 12 (.cons (.var 0) .nil) [])) (.cons (.for_ (.nm 2) (.rng1 (.k (.int 8))) f_law_b0) (.cons (.ret (.k (.bl true))) .nil))) }
def f_law_other : Fn := { name := "_law_other", ps := ["m", "thing_here"], N := ["m", "thing_here", "some"], keep := false, body :=
  (.cons (.set 2 (.lst (.cons (.k .non) (.cons (.k (.bl true)) (.cons (.k (.bl false)) (.cons (.bin .sub (.k (.int 0)) (.k (.int 1))) (.cons (.k (.str "")) (.cons (.tup .nil) (.cons (.lst .nil) (.cons .emp (.cons (.k (.str "a")) (.cons (.blt .int (.cons (.bin .mul (.k (.str "7")) (.k (.int 1000))) .nil)) (.cons (.tup (.cons (.var 1) .nil)) (.cons (.lst (.cons (.var 1) .nil)) .nil)))))))))))))) (.cons (.iff (.isI .int (.var 1)) (.cons (.set 2 (.bin .add (.var 2) (.lst (.cons (.bin .add (.var 1) (.k (.int 1))) (.cons (.bin .sub (.var 1) (.k (.int 1))) (.cons (.bin .sub (.k (.int 0)) (.var 1)) (.cons (.cmp .eq (.var 1) (.k (.int 1))) (.cons (.blt .str (.cons (.var 1) .nil)) .nil)))))))) .nil) (.cons (.set 2 (.bin .add (.var 2) (.lst (.cons (.tup (.cons (.k (.int 0)) .nil)) (.cons (.tup (.cons (.k (.int 1)) (.cons (.k (.int 0)) .nil))) (.cons (.tup (.cons (.k (.int 0)) (.cons (.k (.int 0)) (.cons (.k (.int 0)) .nil)))) (.cons (.k (.int 5)) (.cons (.k (.str "flat")) .nil)))))))) .nil)) (.cons (.ret (.idx (.var 2) (.call 11 (.cons (.var 0) (.cons (.k (.int 17)) .nil)) []))) .nil))) }
def f_law_changed : Fn := { name := "_law_changed", ps := ["m", "thing_here"], N := ["m", "thing_here", "at", "way", "before", "behind"], keep := false, body :=
  (.cons (.iff (.or (.not (.isI .tuple (.var 1))) (.or (.cmp .eq (.var 1) (.tup .nil)) (.cmp .eq (.call 11 (.cons (.var 0) (.cons (.k (.int 6)) .nil)) []) (.k (.int 0))))) (.cons (.ret (.call 18 (.cons (.var 0) (.cons (.var 1) .nil)) [])) .nil) .nil) (.cons (.par 2 3 (.call 11 (.cons (.var 0) (.cons (.blt .len (.cons (.var 1) .nil)) .nil)) []) (.call 11 (.cons (.var 0) (.cons (.k (.int 12)) .nil)) [])) (.cons (.par 4 5 (.sl (.var 1) .no (.so (.var 2))) (.sl (.var 1) (.so (.bin .add (.var 2) (.k (.int 1)))) .no)) (.cons (.iff (.cmp .lt (.var 3) (.k (.int 3))) (.cons (.ret (.idx (.lst (.cons (.bin .add (.var 4) (.var 5)) (.cons (.bin .add (.bin .add (.var 4) (.bin .mul (.sl (.var 1) (.so (.var 2)) (.so (.bin .add (.var 2) (.k (.int 1))))) (.k (.int 2)))) (.var 5)) (.cons (.blt .list (.cons (.var 1) .nil)) .nil)))) (.var 3))) .nil) .nil) (.cons (.iff (.cmp .eq (.var 3) (.k (.int 3))) (.cons (.ret (.bin .add (.bin .add (.var 4) (.rev (.sl (.var 1) (.so (.var 2)) (.so (.bin .add (.var 2) (.k (.int 2))))))) (.sl (.var 1) (.so (.bin .add (.var 2) (.k (.int 2)))) .no))) .nil) .nil) (.cons (.ret (.bin .add (.bin .add (.var 4) (.tup (.cons (.call 19 (.cons (.var 0) (.cons (.idx (.var 1) (.var 2)) .nil)) []) .nil))) (.var 5))) .nil)))))) }
def f_law_nested_b0 : ISs :=
  (.cons (.set 1 (.idx (.lst (.cons (.tup (.cons (.var 1) (.cons (.var 1) .nil))) (.cons (.lst (.cons (.var 1) (.cons (.var 1) .nil))) .nil))) (.var 0))) .nil)
def f_law_nested : Fn := { name := "_law_nested", ps := ["way"], N := ["way", "found", "n"], keep := false, body :=
  (.cons (.set 1 (.tup .nil)) (.cons (.for_ (.nm 2) (.rng1 (.k (.int 60))) f_law_nested_b0) (.cons (.ret (.var 1)) .nil))) }
def f_law_is_whole : Fn := { name := "_law_is_whole", ps := ["thing_here"], N := ["thing_here"], keep := false, body :=
  (.cons (.ret (.and (.isI .int (.var 0)) (.not (.isI .bool (.var 0))))) .nil) }
def f_law_expected_b0 : ISs :=
  (.cons (.iff (.or (.not (.call 21 (.cons (.var 2) .nil) [])) (.and (.cmp .gt (.var 1) (.k (.int 0))) (.cmp .gt (.var 2) (.idx (.var 0) (.bin .sub (.var 1) (.k (.int 1))))))) (.cons (.ret (.lst (.cons (.var 1) .nil))) .nil) .nil) .nil)
def f_law_expected : Fn := { name := "_law_expected", ps := ["thing_here"], N := ["thing_here", "n", "item"], keep := false, body :=
  (.cons (.iff (.or (.not (.isI .tuple (.var 0))) (.not (.cmp2 .lt .lt (.k (.int 0)) (.blt .len (.cons (.var 0) .nil)) (.k (.int 7))))) (.cons (.ret (.lst (.cons (.k .non) .nil))) .nil) .nil) (.cons (.for_ (.tp [1, 2]) (.enum (.var 0)) f_law_expected_b0) (.cons (.ret (.lst .nil)) .nil))) }
def f_law_position : Fn := { name := "_law_position", ps := ["thing_here", "by_name"], N := ["thing_here", "by_name", "error", "found", "e"], keep := false, body :=
  (.cons (.set 2 (.k .non)) (.cons (.set 3 (.k .non)) (.cons (.tri (.cons (.set 3 (.ite (.var 1) (.callk 1 .nil ["value"] (.cons (.var 0) .nil) [0]) (.call 1 (.cons (.var 0) .nil) []))) .nil) 0 (some 4) (.cons (.set 2 (.var 4)) .nil)) (.cons (.iff (.cmp .is (.var 2) (.k .non)) (.cons (.ret (.ite (.cmp .is (.var 3) (.k .non)) (.lst .nil) (.lst (.cons (.var 3) (.cons (.k (.str "returned")) .nil))))) .nil) .nil) (.cons (.ret (.lst (.cons (.fld (.var 2) "position") .nil))) .nil))))) }
def f_law_checked_b0 : ISs :=
  (.cons (.iff (.cmp .ne (.blt .repr (.cons (.call 23 (.cons (.var 0) (.cons (.var 3) .nil)) []) .nil)) (.blt .repr (.cons (.var 1) .nil))) (.cons (.ret (.k (.bl false))) .nil) .nil) .nil)
def f_law_checked : Fn := { name := "_law_checked", ps := ["thing_here"], N := ["thing_here", "due", "kept", "by_name"], keep := false, body :=
  (.cons (.par 1 2 (.call 22 (.cons (.var 0) .nil) []) (.blt .repr (.cons (.var 0) .nil))) (.cons (.for_ (.nm 3) (.val (.tup (.cons (.k (.bl false)) (.cons (.k (.bl true)) .nil)))) f_law_checked_b0) (.cons (.iff (.cmp .ne (.blt .repr (.cons (.lst (.cons (.call 2 (.cons (.var 0) .nil) []) (.cons (.callk 2 .nil ["value"] (.cons (.var 0) .nil) [0]) .nil))) .nil)) (.blt .repr (.cons (.bin .mul (.lst (.cons (.cmp .eq (.var 1) (.lst .nil)) .nil)) (.k (.int 2))) .nil))) (.cons (.ret (.k (.bl false))) .nil) .nil) (.cons (.set 1 (.bin .mul (.lst (.cons (.call 21 (.cons (.var 0) .nil) []) .nil)) (.k (.int 2)))) (.cons (.ret (.and (.cmp .eq (.blt .repr (.cons (.lst (.cons (.call 0 (.cons (.var 0) .nil) []) (.cons (.callk 0 .nil ["value"] (.cons (.var 0) .nil) [0]) .nil))) .nil)) (.blt .repr (.cons (.var 1) .nil))) (.cmp .eq (.blt .repr (.cons (.var 0) .nil)) (.var 2)))) .nil))))) }
def f_law_nested_checked_b0 : ISs :=
  (.cons (.set 1 (.call 20 (.cons (.var 0) .nil) [])) (.cons (.iff (.cmp .ne (.lst (.cons (.call 0 (.cons (.var 1) .nil) []) (.cons (.call 2 (.cons (.var 1) .nil) []) (.cons (.call 2 (.cons (.tup (.cons (.var 1) .nil)) .nil) []) (.cons (.call 2 (.cons (.tup (.cons (.k (.int 3)) (.cons (.var 1) .nil))) .nil) []) .nil))))) (.bin .mul (.lst (.cons (.k (.bl false)) .nil)) (.k (.int 4)))) (.cons (.ret (.k (.bl false))) .nil) .nil) (.cons (.iff (.cmp .ne (.lst (.cons (.call 23 (.cons (.tup (.cons (.var 1) .nil)) (.cons (.k (.bl false)) .nil)) []) (.cons (.call 23 (.cons (.tup (.cons (.k (.int 3)) (.cons (.var 1) .nil))) (.cons (.k (.bl false)) .nil)) []) .nil))) (.lst (.cons (.lst (.cons (.k (.int 0)) .nil)) (.cons (.lst (.cons (.k (.int 1)) .nil)) .nil)))) (.cons (.ret (.k (.bl false))) .nil) .nil) .nil)))
def f_law_nested_checked : Fn := { name := "_law_nested_checked", ps := [], N := ["way", "far"], keep := false, body :=
  (.cons (.for_ (.nm 0) (.rng1 (.k (.int 2))) f_law_nested_checked_b0) (.cons (.ret (.and (.cmp .eq (.call 23 (.cons (.call 20 (.cons (.k (.int 0)) .nil) []) (.cons (.k (.bl false)) .nil)) []) (.lst (.cons (.k (.int 0)) .nil))) (.cmp .eq (.call 23 (.cons (.call 20 (.cons (.k (.int 1)) .nil) []) (.cons (.k (.bl false)) .nil)) []) (.lst (.cons (.k .non) .nil))))) .nil)) }
def f_law_v2_c0 : IE :=
  (.comp false (.nm 7) [7] (.val (.var 3)) .nil (.bin .mul (.var 7) (.bin .pow (.k (.int 10)) (.k (.int 40)))))
def f_law_v2_b1 : ISs :=
  (.cons (.iff (.not (.call 24 (.cons (.var 6) .nil) [])) (.cons (.ret (.k (.bl false))) .nil) .nil) .nil)
def f_law_v2_b2 : ISs :=
  (.cons (.set 3 (.call 13 (.cons (.var 1) (.cons (.bin .add (.k (.int 1)) (.call 11 (.cons (.var 1) (.cons (.k (.int 6)) .nil)) [])) (.cons (.call 11 (.cons (.var 1) (.cons (.k (.int 30)) .nil)) []) .nil))) [])) (.cons (.set 3 (.ite (.cmp .gt (.call 11 (.cons (.var 1) (.cons (.k (.int 5)) .nil)) []) (.k (.int 0))) (.var 3) (.blt .tuple (.cons f_law_v2_c0 .nil)))) (.cons (.set 4 (.call 19 (.cons (.var 1) (.cons (.var 3) .nil)) [])) (.cons (.set 5 (.lst (.cons (.var 3) (.cons (.var 4) (.cons (.call 19 (.cons (.var 1) (.cons (.var 4) .nil)) []) (.cons (.call 18 (.cons (.var 1) (.cons (.var 3) .nil)) []) (.cons (.bin .add (.var 3) (.sl (.var 3) (.so (.neg (.k (.int 1)))) .no)) (.cons (.bin .mul (.var 3) (.k (.int 2))) (.cons (.rev (.var 3)) .nil))))))))) (.cons (.for_ (.nm 6) (.val (.bin .add (.var 5) (.lst (.cons (.sl (.var 3) .no (.so (.k (.int 1)))) (.cons (.tup .nil) (.cons (.blt .list (.cons (.var 3) .nil)) (.cons (.idx (.var 3) (.k (.int 0))) (.cons (.blt .str (.cons (.var 3) .nil)) .nil)))))))) f_law_v2_b1) .nil)))))
def f_law_v2 : Fn := { name := "law", ps := ["script"], N := ["script", "m", "n", "part", "changed", "some", "thing_here", "item"], keep := false, body :=
  (.cons (.set 1 (.call 12 (.cons (.var 0) .nil) [])) (.cons (.for_ (.nm 2) (.rng1 (.k (.int 10))) f_law_v2_b2) (.cons (.ret (.and (.call 25 .nil []) (.cmp .eq (.glob "MAX_SIZE" (.int 6)) (.k (.int 6))))) .nil))) }
def f_is_integer_tuple_c0 : IE :=
  (.comp false (.nm 2) [2] (.val (.var 0)) .nil (.call 0 (.cons (.var 2) .nil) []))
def f_is_integer_tuple : Fn := { name := "is_integer_tuple", ps := ["value", "length"], N := ["value", "length", "item"], keep := false, body :=
  (.cons (.iff (.or (.not (.isI .tuple (.var 0))) (.cmp .ne (.blt .len (.cons (.var 0) .nil)) (.var 1))) (.cons (.ret (.k (.bl false))) .nil) .nil) (.cons (.ret (.blt .all (.cons f_is_integer_tuple_c0 .nil))) .nil)) }
def f_check_array_b0 : ISs :=
  (.cons (.iff (.not (.call 27 (.cons (.var 2) (.cons (.bin .add (.var 1) (.k (.int 1))) .nil)) [])) (.cons (.rai 3 (.cons (.var 1) .nil) []) .nil) .nil) (.cons (.iff (.and (.cmp .eq (.var 1) (.k (.int 0))) (.cmp .ne (.idx (.var 2) (.k (.int 0))) (.k (.int 0)))) (.cons (.rai 3 (.cons (.var 1) .nil) []) .nil) .nil) .nil))
def f_check_array : Fn := { name := "check_array", ps := ["value"], N := ["value", "row", "items"], keep := false, body :=
  (.cons (.iff (.or (.not (.isI .tuple (.var 0))) (.not (.cmp2 .le .le (.k (.int 2)) (.blt .len (.cons (.var 0) .nil)) (.bin .add (.glob "MAX_SIZE" (.int 6)) (.k (.int 1)))))) (.cons (.rai 3 (.cons (.k .non) .nil) []) .nil) .nil) (.cons (.for_ (.tp [1, 2]) (.enum (.var 0)) f_check_array_b0) .nil)) }
def f_is_array : Fn := { name := "is_array", ps := ["value"], N := ["value"], keep := false, body :=
  (.cons (.tri (.cons (.ex (.call 28 (.cons (.var 0) .nil) [])) .nil) 3 none (.cons (.ret (.k (.bl false))) .nil)) (.cons (.ret (.k (.bl true))) .nil)) }
def f_law_weights : Fn := { name := "_law_weights", ps := ["many", "r", "n"], N := ["many", "r", "n"], keep := false, body :=
  (.cons (.ret (.tup (.cons (.bin .sub (.var 0) (.var 1)) (.cons (.bin .sub (.var 1) (.var 2)) (.cons (.var 2) .nil))))) .nil) }
def f_law_piece : Fn := { name := "_law_piece", ps := ["m", "many"], N := ["m", "many", "axis", "far"], keep := false, body :=
  (.cons (.set 2 (.call 11 (.cons (.var 0) (.cons (.k (.int 3)) .nil)) [])) (.cons (.set 3 (.bin .mod (.bin .add (.bin .add (.var 2) (.k (.int 1))) (.call 11 (.cons (.var 0) (.cons (.k (.int 2)) .nil)) [])) (.k (.int 3)))) (.cons (.ret (.tup (.cons (.call 11 (.cons (.var 0) (.cons (.k (.int 3)) .nil)) []) (.cons (.var 2) (.cons (.var 3) (.cons (.call 11 (.cons (.var 0) (.cons (.bin .add (.var 1) (.k (.int 1))) .nil)) []) (.cons (.call 11 (.cons (.var 0) (.cons (.bin .add (.var 1) (.k (.int 1))) .nil)) []) .nil))))))) .nil))) }
def f_law_piece_at : Fn := { name := "_law_piece_at", ps := ["piece", "weights"], N := ["piece", "weights", "sort", "axis", "far", "low", "high"], keep := false, body :=
  (.cons (.unp [2, 3, 4, 5, 6] (.var 0)) (.cons (.iff (.cmp .eq (.var 2) (.k (.int 0))) (.cons (.ret (.idx (.var 1) (.var 3))) .nil) .nil) (.cons (.iff (.cmp .eq (.var 2) (.k (.int 1))) (.cons (.ret (.blt .min (.cons (.idx (.var 1) (.var 3)) (.cons (.var 5) .nil)))) .nil) .nil) (.cons (.ret (.blt .min (.cons (.k (.int 0)) (.cons (.bin .sub (.idx (.var 1) (.var 3)) (.var 5)) (.cons (.bin .sub (.var 6) (.idx (.var 1) (.var 4))) .nil))))) .nil)))) }
def f_law_grid_of_c0 : IE :=
  (.comp false (.tp [8, 9]) [8, 9] (.val (.var 1)) .nil (.bin .mul (.var 9) (.call 32 (.cons (.var 8) (.cons (.var 6) .nil)) [])))
def f_law_grid_of_b1 : ISs :=
  (.cons (.set 6 (.call 30 (.cons (.var 0) (.cons (.var 3) (.cons (.var 5) .nil))) [])) (.cons (.ex (.app (.var 4) (.blt .sum (.cons f_law_grid_of_c0 .nil)))) .nil))
def f_law_grid_of_b2 : ISs :=
  (.cons (.set 4 (.newl .nil)) (.cons (.for_ (.nm 5) (.rng1 (.bin .add (.var 3) (.k (.int 1)))) f_law_grid_of_b1) (.cons (.ex (.app (.var 2) (.var 4))) .nil)))
def f_law_grid_of_c3 : IE :=
  (.comp false (.nm 10) [10] (.val (.var 4)) .nil (.bin .sub (.var 10) (.var 7)))
def f_law_grid_of_c4 : IE :=
  (.comp false (.nm 4) [4] (.val (.var 2)) .nil (.blt .tuple (.cons f_law_grid_of_c3 .nil)))
def f_law_grid_of : Fn := { name := "_law_grid_of", ps := ["many", "pieces"], N := ["many", "pieces", "found", "r", "line", "n", "weights", "start", "piece", "times", "one"], keep := false, body :=
  (.cons (.set 2 (.newl .nil)) (.cons (.for_ (.nm 3) (.rng1 (.bin .add (.var 0) (.k (.int 1)))) f_law_grid_of_b2) (.cons (.set 7 (.idx (.idx (.var 2) (.k (.int 0))) (.k (.int 0)))) (.cons (.ret (.blt .tuple (.cons f_law_grid_of_c4 .nil))) .nil)))) }
def f_law_bowed_c0 : IE :=
  (.comp false (.nm 3) [3] (.rng1 (.bin .add (.k (.int 1)) (.call 11 (.cons (.var 0) (.cons (.k (.int 6)) .nil)) []))) .nil (.tup (.cons (.call 31 (.cons (.var 0) (.cons (.var 1) .nil)) []) (.cons (.call 11 (.cons (.var 0) (.cons (.k (.int 4)) .nil)) []) .nil))))
def f_law_bowed : Fn := { name := "_law_bowed", ps := ["m", "many"], N := ["m", "many", "pieces", "n"], keep := false, body :=
  (.cons (.set 2 f_law_bowed_c0) (.cons (.ret (.call 33 (.cons (.var 1) (.cons (.var 2) .nil)) [])) .nil)) }
def f_law_grid_c0 : IE :=
  (.comp true (.nm 6) [6] (.val (.call 34 (.cons (.var 0) (.cons (.var 1) .nil)) [])) .nil (.mkl (.var 6)))
def f_law_grid_c1 : IE :=
  (.comp true (.nm 5) [5] (.rng1 (.bin .add (.var 4) (.k (.int 1)))) .nil (.bin .sub (.call 11 (.cons (.var 0) (.cons (.k (.int 19)) .nil)) []) (.k (.int 9))))
def f_law_grid_c2 : IE :=
  (.comp true (.nm 4) [4] (.rng1 (.bin .add (.var 1) (.k (.int 1)))) .nil f_law_grid_c1)
def f_law_grid_c3 : IE :=
  (.comp true (.nm 7) [7] (.val (.var 6)) .nil (.bin .mul (.var 7) (.bin .pow (.k (.int 10)) (.k (.int 20)))))
def f_law_grid_c4 : IE :=
  (.comp true (.nm 6) [6] (.val (.var 3)) .nil f_law_grid_c3)
def f_law_grid_c5 : IE :=
  (.comp false (.nm 6) [6] (.val (.var 3)) .nil (.blt .tuple (.cons (.var 6) .nil)))
def f_law_grid : Fn := { name := "_law_grid", ps := ["m", "many"], N := ["m", "many", "way", "found", "r", "n", "line", "one"], keep := false, body :=
  (.cons (.set 2 (.call 11 (.cons (.var 0) (.cons (.k (.int 4)) .nil)) [])) (.cons (.set 3 f_law_grid_c0) (.cons (.iff (.cmp .eq (.var 2) (.k (.int 2))) (.cons (.set 4 (.bin .add (.k (.int 1)) (.call 11 (.cons (.var 0) (.cons (.var 1) .nil)) []))) (.cons (.set 5 (.call 11 (.cons (.var 0) (.cons (.bin .add (.var 4) (.k (.int 1))) .nil)) [])) (.cons (.sub (.idx (.var 3) (.var 4)) (.var 5) (.bin .add (.idx (.idx (.var 3) (.var 4)) (.var 5)) (.idx (.lst (.cons (.k (.int 1)) (.cons (.bin .sub (.k (.int 0)) (.k (.int 1))) (.cons (.k (.int 5)) (.cons (.bin .sub (.k (.int 0)) (.k (.int 9))) .nil))))) (.call 11 (.cons (.var 0) (.cons (.k (.int 4)) .nil)) [])))) .nil))) .nil) (.cons (.iff (.cmp .eq (.var 2) (.k (.int 3))) (.cons (.set 3 f_law_grid_c2) (.cons (.sub (.idx (.var 3) (.k (.int 0))) (.k (.int 0)) (.k (.int 0))) .nil)) .nil) (.cons (.iff (.cmp .eq (.call 11 (.cons (.var 0) (.cons (.k (.int 12)) .nil)) []) (.k (.int 0))) (.cons (.set 3 f_law_grid_c4) .nil) .nil) (.cons (.ret (.blt .tuple (.cons f_law_grid_c5 .nil))) .nil)))))) }
def f_law_expected_v2_c0 : IE :=
  (.comp false (.nm 3) [3] (.val (.var 2)) (.cons (.or (.not (.isI .int (.var 3))) (.isI .bool (.var 3))) .nil) (.var 3))
def f_law_expected_v2_b1 : ISs :=
  (.cons (.iff (.or (.not (.isI .tuple (.var 2))) (.cmp .ne (.blt .len (.cons (.var 2) .nil)) (.bin .add (.var 1) (.k (.int 1))))) (.cons (.ret (.lst (.cons (.var 1) .nil))) .nil) .nil) (.cons (.iff (.cmp .ne f_law_expected_v2_c0 (.lst .nil)) (.cons (.ret (.lst (.cons (.var 1) .nil))) .nil) .nil) (.cons (.iff (.and (.cmp .eq (.var 1) (.k (.int 0))) (.cmp .ne (.idx (.var 2) (.k (.int 0))) (.k (.int 0)))) (.cons (.ret (.lst (.cons (.var 1) .nil))) .nil) .nil) .nil)))
def f_law_expected_v2 : Fn := { name := "_law_expected", ps := ["thing_here"], N := ["thing_here", "r", "line", "item"], keep := false, body :=
  (.cons (.iff (.or (.not (.isI .tuple (.var 0))) (.not (.cmp2 .lt .lt (.k (.int 1)) (.blt .len (.cons (.var 0) .nil)) (.k (.int 8))))) (.cons (.ret (.lst (.cons (.k .non) .nil))) .nil) .nil) (.cons (.for_ (.tp [1, 2]) (.enum (.var 0)) f_law_expected_v2_b1) (.cons (.ret (.lst .nil)) .nil))) }
def f_law_invalid_row : Fn := { name := "_law_invalid_row", ps := ["thing_here", "by_name"], N := ["thing_here", "by_name", "error", "found", "e"], keep := false, body :=
  (.cons (.set 2 (.k .non)) (.cons (.set 3 (.k .non)) (.cons (.tri (.cons (.set 3 (.ite (.var 1) (.callk 28 .nil ["value"] (.cons (.var 0) .nil) [0]) (.call 28 (.cons (.var 0) .nil) []))) .nil) 3 (some 4) (.cons (.set 2 (.var 4)) .nil)) (.cons (.iff (.cmp .is (.var 2) (.k .non)) (.cons (.ret (.ite (.cmp .is (.var 3) (.k .non)) (.lst .nil) (.lst (.cons (.var 3) (.cons (.k (.str "returned")) .nil))))) .nil) .nil) (.cons (.ret (.lst (.cons (.fld (.var 2) "row") .nil))) .nil))))) }
def f_law_checked_v2_b0 : ISs :=
  (.cons (.iff (.cmp .ne (.blt .repr (.cons (.call 37 (.cons (.var 0) (.cons (.var 3) .nil)) []) .nil)) (.blt .repr (.cons (.var 1) .nil))) (.cons (.ret (.k (.bl false))) .nil) .nil) .nil)
def f_law_checked_v2 : Fn := { name := "_law_checked", ps := ["thing_here"], N := ["thing_here", "due", "kept", "by_name"], keep := false, body :=
  (.cons (.par 1 2 (.call 36 (.cons (.var 0) .nil) []) (.blt .repr (.cons (.var 0) .nil))) (.cons (.for_ (.nm 3) (.val (.tup (.cons (.k (.bl false)) (.cons (.k (.bl true)) .nil)))) f_law_checked_v2_b0) (.cons (.iff (.cmp .ne (.blt .repr (.cons (.lst (.cons (.call 29 (.cons (.var 0) .nil) []) (.cons (.callk 29 .nil ["value"] (.cons (.var 0) .nil) [0]) .nil))) .nil)) (.blt .repr (.cons (.bin .mul (.lst (.cons (.cmp .eq (.var 1) (.lst .nil)) .nil)) (.k (.int 2))) .nil))) (.cons (.ret (.k (.bl false))) .nil) .nil) (.cons (.ret (.cmp .eq (.blt .repr (.cons (.var 0) .nil)) (.var 2))) .nil)))) }
def f_law_near_checked_b0 : ISs :=
  (.cons (.ex (.app (.var 4) (.bin .add (.bin .add (.sl (.var 1) .no (.so (.var 2))) (.tup (.cons (.bin .add (.bin .add (.sl (.idx (.var 1) (.var 2)) .no (.so (.var 3))) (.tup (.cons (.var 5) .nil))) (.sl (.idx (.var 1) (.var 2)) (.so (.bin .add (.var 3) (.k (.int 1)))) .no)) .nil))) (.sl (.var 1) (.so (.bin .add (.var 2) (.k (.int 1)))) .no)))) .nil)
def f_law_near_checked_c1 : IE :=
  (.comp false (.nm 6) [6] (.val (.var 4)) (.cons (.not (.call 38 (.cons (.var 6) .nil) [])) .nil) (.k (.int 1)))
def f_law_near_checked : Fn := { name := "_law_near_checked", ps := ["m", "grid"], N := ["m", "grid", "r", "n", "some", "item", "thing_here"], keep := false, body :=
  (.cons (.set 2 (.call 11 (.cons (.var 0) (.cons (.blt .len (.cons (.var 1) .nil)) .nil)) [])) (.cons (.set 3 (.call 11 (.cons (.var 0) (.cons (.bin .add (.var 2) (.k (.int 1))) .nil)) [])) (.cons (.set 4 (.newl (.cons (.sl (.var 1) .no (.so (.neg (.k (.int 1))))) (.cons (.bin .add (.var 1) (.tup (.cons (.idx (.var 1) (.neg (.k (.int 1)))) .nil))) (.cons (.sl (.var 1) (.so (.k (.int 1))) .no) (.cons (.rev (.var 1)) (.cons (.blt .list (.cons (.var 1) .nil)) (.cons (.bin .add (.tup (.cons (.tup (.cons (.k (.int 1)) .nil)) .nil)) (.sl (.var 1) (.so (.k (.int 1))) .no)) (.cons (.bin .add (.tup (.cons (.tup (.cons (.k (.bl false)) .nil)) .nil)) (.sl (.var 1) (.so (.k (.int 1))) .no)) .nil))))))))) (.cons (.for_ (.nm 5) (.val (.tup (.cons (.k (.bl true)) (.cons (.k .non) (.cons (.k (.str "0")) (.cons (.tup (.cons (.k (.int 0)) .nil)) (.cons (.bin .sub (.k (.int 1)) (.idx (.idx (.var 1) (.var 2)) (.var 3))) (.cons (.bin .add (.idx (.idx (.var 1) (.var 2)) (.var 3)) (.bin .pow (.k (.int 10)) (.k (.int 60)))) .nil)))))))) f_law_near_checked_b0) (.cons (.set 4 (.mkb .add (.var 4) (.lst (.cons (.bin .add (.bin .add (.sl (.var 1) .no (.so (.var 2))) (.tup (.cons (.blt .list (.cons (.idx (.var 1) (.var 2)) .nil)) .nil))) (.sl (.var 1) (.so (.bin .add (.var 2) (.k (.int 1)))) .no)) (.cons (.bin .add (.bin .add (.sl (.var 1) .no (.so (.var 2))) (.tup (.cons (.bin .add (.idx (.var 1) (.var 2)) (.tup (.cons (.k (.int 0)) .nil))) .nil))) (.sl (.var 1) (.so (.bin .add (.var 2) (.k (.int 1)))) .no)) .nil))))) (.cons (.set 4 (.mkb .add (.var 4) (.lst (.cons (.bin .add (.bin .add (.sl (.var 1) .no (.so (.var 2))) (.tup (.cons (.sl (.idx (.var 1) (.var 2)) .no (.so (.neg (.k (.int 1))))) .nil))) (.sl (.var 1) (.so (.bin .add (.var 2) (.k (.int 1)))) .no)) (.cons (.bin .add (.bin .add (.sl (.var 1) .no (.so (.var 2))) (.tup (.cons (.k .non) (.cons (.k (.int 5)) .nil)))) (.sl (.var 1) (.so (.bin .add (.var 2) (.k (.int 2)))) .no)) .nil))))) (.cons (.ret (.cmp .eq f_law_near_checked_c1 (.lst .nil))) .nil))))))) }
def f_law_nested_checked_v2_b0 : ISs :=
  (.cons (.set 4 (.lst (.cons (.bin .add (.bin .add (.sl (.var 0) .no (.so (.var 3))) (.tup (.cons (.var 2) .nil))) (.sl (.var 0) (.so (.bin .add (.var 3) (.k (.int 1)))) .no)) (.cons (.bin .add (.bin .add (.sl (.var 0) .no (.so (.var 3))) (.tup (.cons (.bin .add (.sl (.idx (.var 0) (.var 3)) .no (.so (.neg (.k (.int 1))))) (.tup (.cons (.var 2) .nil))) .nil))) (.sl (.var 0) (.so (.bin .add (.var 3) (.k (.int 1)))) .no)) .nil)))) (.cons (.iff (.cmp .ne (.lst (.cons (.call 29 (.cons (.idx (.var 4) (.k (.int 0))) .nil) []) (.cons (.call 29 (.cons (.idx (.var 4) (.k (.int 1))) .nil) []) (.cons (.call 29 (.cons (.var 2) .nil) []) .nil)))) (.bin .mul (.lst (.cons (.k (.bl false)) .nil)) (.k (.int 3)))) (.cons (.ret (.k (.bl false))) .nil) .nil) (.cons (.iff (.cmp .ne (.lst (.cons (.call 37 (.cons (.idx (.var 4) (.k (.int 0))) (.cons (.k (.bl false)) .nil)) []) (.cons (.call 37 (.cons (.idx (.var 4) (.k (.int 1))) (.cons (.k (.bl true)) .nil)) []) .nil))) (.lst (.cons (.lst (.cons (.var 3) .nil)) (.cons (.lst (.cons (.var 3) .nil)) .nil)))) (.cons (.ret (.k (.bl false))) .nil) .nil) .nil)))
def f_law_nested_checked_v2_b1 : ISs :=
  (.cons (.set 2 (.call 20 (.cons (.var 1) .nil) [])) (.cons (.for_ (.nm 3) (.rng1 (.blt .len (.cons (.var 0) .nil))) f_law_nested_checked_v2_b0) .nil))
def f_law_nested_checked_v2 : Fn := { name := "_law_nested_checked", ps := ["grid"], N := ["grid", "way", "far", "r", "bad"], keep := false, body :=
  (.cons (.for_ (.nm 1) (.rng1 (.k (.int 2))) f_law_nested_checked_v2_b1) (.cons (.ret (.and (.cmp .eq (.call 37 (.cons (.call 20 (.cons (.k (.int 0)) .nil) []) (.cons (.k (.bl false)) .nil)) []) (.lst (.cons (.k (.int 0)) .nil))) (.cmp .eq (.call 37 (.cons (.call 20 (.cons (.k (.int 1)) .nil) []) (.cons (.k (.bl false)) .nil)) []) (.lst (.cons (.k .non) .nil))))) .nil)) }
def f_law_v3_b0 : ISs :=
  (.cons (.set 5 (.call 19 (.cons (.var 1) (.cons (.var 3) .nil)) [])) (.cons (.iff (.or (.not (.call 38 (.cons (.var 5) .nil) [])) (.not (.call 38 (.cons (.call 19 (.cons (.var 1) (.cons (.call 19 (.cons (.var 1) (.cons (.var 5) .nil)) []) .nil)) []) .nil) []))) (.cons (.ret (.k (.bl false))) .nil) .nil) .nil))
def f_law_v3_b1 : ISs :=
  (.cons (.set 3 (.call 35 (.cons (.var 1) (.cons (.bin .add (.k (.int 1)) (.bin .mod (.bin .add (.var 2) (.call 11 (.cons (.var 1) (.cons (.k (.int 6)) .nil)) [])) (.k (.int 6)))) .nil)) [])) (.cons (.iff (.or (.not (.call 38 (.cons (.var 3) .nil) [])) (.or (.not (.call 39 (.cons (.var 1) (.cons (.var 3) .nil)) [])) (.not (.call 40 (.cons (.var 3) .nil) [])))) (.cons (.ret (.k (.bl false))) .nil) .nil) (.cons (.for_ (.nm 4) (.rng1 (.k (.int 8))) f_law_v3_b0) .nil)))
def f_law_v3_c2 : IE :=
  (.comp false (.nm 7) [7] (.rng1 (.k (.int 8))) .nil (.bin .mul (.tup (.cons (.k (.int 0)) .nil)) (.bin .add (.var 7) (.k (.int 1)))))
def f_law_v3 : Fn := { name := "law", ps := ["script"], N := ["script", "m", "trial", "grid", "n", "changed", "zero", "r"], keep := false, body :=
  (.cons (.set 1 (.call 12 (.cons (.var 0) .nil) [])) (.cons (.for_ (.nm 2) (.rng1 (.k (.int 6))) f_law_v3_b1) (.cons (.set 6 (.blt .tuple (.cons f_law_v3_c2 .nil))) (.cons (.ret (.and (.call 38 (.cons (.var 6) .nil) []) (.and (.call 38 (.cons (.sl (.var 6) .no (.so (.k (.int 7)))) .nil) []) (.cmp .eq (.lst (.cons (.call 29 (.cons (.var 6) .nil) []) (.cons (.call 29 (.cons (.sl (.var 6) .no (.so (.k (.int 7)))) .nil) []) .nil))) (.lst (.cons (.k (.bl false)) (.cons (.k (.bl true)) .nil))))))) .nil)))) }
def f_size_of : Fn := { name := "size_of", ps := ["array"], N := ["array"], keep := false, body :=
  (.cons (.ex (.call 28 (.cons (.var 0) .nil) [])) (.cons (.ret (.bin .sub (.blt .len (.cons (.var 0) .nil)) (.k (.int 1)))) .nil)) }
def f_differences_c0 : IE :=
  (.comp false (.nm 1) [1] (.rng1 (.bin .sub (.blt .len (.cons (.var 0) .nil)) (.k (.int 1)))) .nil (.bin .sub (.idx (.var 0) (.bin .add (.var 1) (.k (.int 1)))) (.idx (.var 0) (.var 1))))
def f_differences : Fn := { name := "differences", ps := ["numbers"], N := ["numbers", "at"], keep := false, body :=
  (.cons (.ret (.blt .tuple (.cons f_differences_c0 .nil))) .nil) }
def f_borders_c0 : IE :=
  (.comp false (.nm 4) [4] (.val (.var 0)) .nil (.idx (.var 4) (.k (.int 0))))
def f_borders_c1 : IE :=
  (.comp false (.nm 4) [4] (.val (.var 0)) .nil (.idx (.var 4) (.neg (.k (.int 1)))))
def f_borders : Fn := { name := "borders", ps := ["array"], N := ["array", "first", "second", "third", "row"], keep := false, body :=
  (.cons (.ex (.call 28 (.cons (.var 0) .nil) [])) (.cons (.set 1 (.call 43 (.cons f_borders_c0 .nil) [])) (.cons (.set 2 (.call 43 (.cons (.idx (.var 0) (.neg (.k (.int 1)))) .nil) [])) (.cons (.set 3 (.call 43 (.cons f_borders_c1 .nil) [])) (.cons (.ret (.tup (.cons (.var 1) (.cons (.var 2) (.cons (.var 3) .nil))))) .nil))))) }
def f_is_vertex : Fn := { name := "is_vertex", ps := ["value", "size"], N := ["value", "size", "row", "place"], keep := false, body :=
  (.cons (.iff (.not (.call 27 (.cons (.var 0) (.cons (.k (.int 2)) .nil)) [])) (.cons (.ret (.k (.bl false))) .nil) .nil) (.cons (.unp [2, 3] (.var 0)) (.cons (.ret (.cmp3 .le .le .le (.k (.int 0)) (.var 3) (.var 2) (.var 1))) .nil))) }
def f_entry : Fn := { name := "entry", ps := ["array", "vertex"], N := ["array", "vertex", "row", "place"], keep := false, body :=
  (.cons (.ex (.call 28 (.cons (.var 0) .nil) [])) (.cons (.iff (.not (.call 45 (.cons (.var 1) (.cons (.bin .sub (.blt .len (.cons (.var 0) .nil)) (.k (.int 1))) .nil)) [])) (.cons (.rai 4 (.cons (.var 1) .nil) []) .nil) .nil) (.cons (.unp [2, 3] (.var 1)) (.cons (.ret (.idx (.idx (.var 0) (.var 2)) (.var 3))) .nil)))) }
def f_flat_differences : Fn := { name := "flat_differences", ps := ["array", "row"], N := ["array", "row"], keep := false, body :=
  (.cons (.ex (.call 28 (.cons (.var 0) .nil) [])) (.cons (.iff (.or (.not (.call 0 (.cons (.var 1) .nil) [])) (.not (.cmp2 .le .lt (.k (.int 0)) (.var 1) (.blt .len (.cons (.var 0) .nil))))) (.cons (.rai 4 (.cons (.var 1) .nil) []) .nil) .nil) (.cons (.ret (.call 43 (.cons (.idx (.var 0) (.var 1)) .nil) [])) .nil))) }
def f_law_grid_of_v2_c0 : IE :=
  (.comp false (.tp [8, 9]) [8, 9] (.val (.var 1)) .nil (.bin .mul (.var 9) (.call 32 (.cons (.var 8) (.cons (.var 6) .nil)) [])))
def f_law_grid_of_v2_b1 : ISs :=
  (.cons (.set 6 (.call 30 (.cons (.var 0) (.cons (.var 3) (.cons (.var 5) .nil))) [])) (.cons (.ex (.app (.var 4) (.blt .sum (.cons f_law_grid_of_v2_c0 .nil)))) .nil))
def f_law_grid_of_v2_b2 : ISs :=
  (.cons (.set 4 (.newl .nil)) (.cons (.for_ (.nm 5) (.rng1 (.bin .add (.var 3) (.k (.int 1)))) f_law_grid_of_v2_b1) (.cons (.ex (.app (.var 2) (.frz (.var 4)))) .nil)))
def f_law_grid_of_v2_c3 : IE :=
  (.comp false (.nm 10) [10] (.val (.frz (.var 4))) .nil (.bin .sub (.var 10) (.var 7)))
def f_law_grid_of_v2_c4 : IE :=
  (.comp false (.nm 4) [4] (.val (.frz (.var 2))) .nil (.blt .tuple (.cons f_law_grid_of_v2_c3 .nil)))
def f_law_grid_of_v2 : Fn := { name := "_law_grid_of", ps := ["many", "pieces"], N := ["many", "pieces", "found", "r", "line", "n", "weights", "start", "piece", "times", "one"], keep := false, body :=
  (.cons (.set 2 (.newl .nil)) (.cons (.for_ (.nm 3) (.rng1 (.bin .add (.var 0) (.k (.int 1)))) f_law_grid_of_v2_b2) (.cons (.set 7 (.idx (.idx (.var 2) (.k (.int 0))) (.k (.int 0)))) (.cons (.ret (.blt .tuple (.cons f_law_grid_of_v2_c4 .nil))) .nil)))) }
def f_law_bowed_v2_c0 : IE :=
  (.comp false (.nm 3) [3] (.rng1 (.bin .add (.k (.int 1)) (.call 11 (.cons (.var 0) (.cons (.k (.int 6)) .nil)) []))) .nil (.tup (.cons (.call 31 (.cons (.var 0) (.cons (.var 1) .nil)) []) (.cons (.call 11 (.cons (.var 0) (.cons (.k (.int 4)) .nil)) []) .nil))))
def f_law_bowed_v2 : Fn := { name := "_law_bowed", ps := ["m", "many"], N := ["m", "many", "pieces", "n"], keep := false, body :=
  (.cons (.set 2 f_law_bowed_v2_c0) (.cons (.ret (.call 48 (.cons (.var 1) (.cons (.var 2) .nil)) [])) .nil)) }
def f_law_grid_v2_c0 : IE :=
  (.comp true (.nm 6) [6] (.val (.call 49 (.cons (.var 0) (.cons (.var 1) .nil)) [])) .nil (.mkl (.var 6)))
def f_law_grid_v2_c1 : IE :=
  (.comp true (.nm 5) [5] (.rng1 (.bin .add (.var 4) (.k (.int 1)))) .nil (.bin .sub (.call 11 (.cons (.var 0) (.cons (.k (.int 19)) .nil)) []) (.k (.int 9))))
def f_law_grid_v2_c2 : IE :=
  (.comp true (.nm 4) [4] (.rng1 (.bin .add (.var 1) (.k (.int 1)))) .nil f_law_grid_v2_c1)
def f_law_grid_v2_c3 : IE :=
  (.comp true (.nm 7) [7] (.val (.var 6)) .nil (.bin .mul (.var 7) (.bin .pow (.k (.int 10)) (.k (.int 20)))))
def f_law_grid_v2_c4 : IE :=
  (.comp true (.nm 6) [6] (.val (.frz (.var 3))) .nil f_law_grid_v2_c3)
def f_law_grid_v2_c5 : IE :=
  (.comp false (.nm 6) [6] (.val (.frz (.var 3))) .nil (.blt .tuple (.cons (.var 6) .nil)))
def f_law_grid_v2 : Fn := { name := "_law_grid", ps := ["m", "many"], N := ["m", "many", "way", "found", "r", "n", "line", "one"], keep := false, body :=
  (.cons (.set 2 (.call 11 (.cons (.var 0) (.cons (.k (.int 4)) .nil)) [])) (.cons (.set 3 f_law_grid_v2_c0) (.cons (.iff (.cmp .eq (.var 2) (.k (.int 2))) (.cons (.set 4 (.bin .add (.k (.int 1)) (.call 11 (.cons (.var 0) (.cons (.var 1) .nil)) []))) (.cons (.set 5 (.call 11 (.cons (.var 0) (.cons (.bin .add (.var 4) (.k (.int 1))) .nil)) [])) (.cons (.sub (.idx (.var 3) (.var 4)) (.var 5) (.bin .add (.idx (.idx (.var 3) (.var 4)) (.var 5)) (.idx (.lst (.cons (.k (.int 1)) (.cons (.bin .sub (.k (.int 0)) (.k (.int 1))) (.cons (.k (.int 5)) (.cons (.bin .sub (.k (.int 0)) (.k (.int 9))) .nil))))) (.call 11 (.cons (.var 0) (.cons (.k (.int 4)) .nil)) [])))) .nil))) .nil) (.cons (.iff (.cmp .eq (.var 2) (.k (.int 3))) (.cons (.set 3 f_law_grid_v2_c2) (.cons (.sub (.idx (.var 3) (.k (.int 0))) (.k (.int 0)) (.k (.int 0))) .nil)) .nil) (.cons (.iff (.cmp .eq (.call 11 (.cons (.var 0) (.cons (.k (.int 12)) .nil)) []) (.k (.int 0))) (.cons (.set 3 f_law_grid_v2_c4) .nil) .nil) (.cons (.ret (.blt .tuple (.cons f_law_grid_v2_c5 .nil))) .nil)))))) }
def f_law_walk_b0 : ISs :=
  (.cons (.ex (.app (.var 4) (.bin .sub (.idx (.idx (.var 0) (.bin .add (.var 5) (.var 2))) (.bin .add (.var 6) (.var 3))) (.idx (.idx (.var 0) (.var 5)) (.var 6))))) (.cons (.par 5 6 (.bin .add (.var 5) (.var 2)) (.bin .add (.var 6) (.var 3))) .nil))
def f_law_walk : Fn := { name := "_law_walk", ps := ["grid", "spot", "down", "across"], N := ["grid", "spot", "down", "across", "found", "r", "n"], keep := false, body :=
  (.cons (.set 4 (.newl .nil)) (.cons (.unp [5, 6] (.var 1)) (.cons (.whl (.and (.cmp2 .le .lt (.k (.int 0)) (.bin .add (.var 5) (.var 2)) (.blt .len (.cons (.var 0) .nil))) (.cmp2 .le .le (.k (.int 0)) (.bin .add (.var 6) (.var 3)) (.bin .add (.var 5) (.var 2)))) f_law_walk_b0) (.cons (.ret (.blt .tuple (.cons (.var 4) .nil))) .nil)))) }
def f_law_borders_right : Fn := { name := "_law_borders_right", ps := ["grid"], N := ["grid", "many", "due", "first_here", "second_here", "third_here"], keep := false, body :=
  (.cons (.set 1 (.bin .sub (.blt .len (.cons (.var 0) .nil)) (.k (.int 1)))) (.cons (.set 2 (.tup (.cons (.call 51 (.cons (.var 0) (.cons (.tup (.cons (.k (.int 0)) (.cons (.k (.int 0)) .nil))) (.cons (.k (.int 1)) (.cons (.k (.int 0)) .nil)))) []) (.cons (.call 51 (.cons (.var 0) (.cons (.tup (.cons (.var 1) (.cons (.k (.int 0)) .nil))) (.cons (.k (.int 0)) (.cons (.k (.int 1)) .nil)))) []) (.cons (.call 51 (.cons (.var 0) (.cons (.tup (.cons (.k (.int 0)) (.cons (.k (.int 0)) .nil))) (.cons (.k (.int 1)) (.cons (.k (.int 1)) .nil)))) []) .nil))))) (.cons (.iff (.cmp .ne (.blt .repr (.cons (.lst (.cons (.call 44 (.cons (.var 0) .nil) []) (.cons (.callk 44 .nil ["array"] (.cons (.var 0) .nil) [0]) .nil))) .nil)) (.blt .repr (.cons (.lst (.cons (.var 2) (.cons (.var 2) .nil))) .nil))) (.cons (.ret (.k (.bl false))) .nil) .nil) (.cons (.iff (.cmp .ne (.blt .repr (.cons (.lst (.cons (.call 42 (.cons (.var 0) .nil) []) (.cons (.callk 42 .nil ["array"] (.cons (.var 0) .nil) [0]) .nil))) .nil)) (.blt .repr (.cons (.lst (.cons (.var 1) (.cons (.var 1) .nil))) .nil))) (.cons (.ret (.k (.bl false))) .nil) .nil) (.cons (.unp [3, 4, 5] (.call 44 (.cons (.var 0) .nil) [])) (.cons (.ret (.cmp .eq (.blt .sum (.cons (.var 5) .nil)) (.bin .add (.blt .sum (.cons (.var 3) .nil)) (.blt .sum (.cons (.var 4) .nil))))) .nil)))))) }
def f_law_entries_right_b0 : ISs :=
  (.cons (.iff (.cmp .ne (.blt .repr (.cons (.lst (.cons (.call 46 (.cons (.var 0) (.cons (.tup (.cons (.var 1) (.cons (.var 4) .nil))) .nil)) []) (.cons (.callk 46 .nil ["vertex", "array"] (.cons (.tup (.cons (.var 1) (.cons (.var 4) .nil))) (.cons (.var 0) .nil)) [1, 0]) .nil))) .nil)) (.blt .repr (.cons (.lst (.cons (.var 5) (.cons (.var 5) .nil))) .nil))) (.cons (.ret (.k (.bl false))) .nil) .nil) (.cons (.set 6 (.bin .add (.blt .sum (.cons (.sl (.idx (.call 44 (.cons (.var 0) .nil) []) (.k (.int 0))) .no (.so (.var 1))) .nil)) (.blt .sum (.cons (.sl (.var 3) .no (.so (.var 4))) .nil)))) (.cons (.set 7 (.bin .sub (.blt .sum (.cons (.sl (.idx (.call 44 (.cons (.var 0) .nil) []) (.k (.int 2))) .no (.so (.var 1))) .nil)) (.blt .sum (.cons (.sl (.var 3) (.so (.var 4)) .no) .nil)))) (.cons (.iff (.cmp .ne (.lst (.cons (.var 6) (.cons (.var 7) .nil))) (.lst (.cons (.var 5) (.cons (.var 5) .nil)))) (.cons (.ret (.k (.bl false))) .nil) .nil) .nil))))
def f_law_entries_right_b1 : ISs :=
  (.cons (.set 3 (.call 47 (.cons (.var 0) (.cons (.var 1) .nil)) [])) (.cons (.iff (.cmp .ne (.blt .repr (.cons (.lst (.cons (.var 3) (.cons (.callk 47 .nil ["row", "array"] (.cons (.var 1) (.cons (.var 0) .nil)) [1, 0]) .nil))) .nil)) (.blt .repr (.cons (.bin .mul (.lst (.cons (.call 51 (.cons (.var 0) (.cons (.tup (.cons (.var 1) (.cons (.k (.int 0)) .nil))) (.cons (.k (.int 0)) (.cons (.k (.int 1)) .nil)))) []) .nil)) (.k (.int 2))) .nil))) (.cons (.ret (.k (.bl false))) .nil) .nil) (.cons (.for_ (.tp [4, 5]) (.enum (.var 2)) f_law_entries_right_b0) .nil)))
def f_law_entries_right : Fn := { name := "_law_entries_right", ps := ["grid"], N := ["grid", "r", "line", "steps", "n", "item", "left_first", "right_first"], keep := false, body :=
  (.cons (.for_ (.tp [1, 2]) (.enum (.var 0)) f_law_entries_right_b1) (.cons (.ret (.k (.bl true))) .nil)) }
def f_law_v4_c0 : IE :=
  (.comp false (.nm 5) [5] (.rng1 (.k (.int 8))) .nil (.call 50 (.cons (.var 1) (.cons (.bin .add (.k (.int 1)) (.bin .mod (.bin .add (.var 5) (.call 11 (.cons (.var 1) (.cons (.k (.int 6)) .nil)) [])) (.k (.int 6)))) .nil)) []))
def f_law_v4_c1 : IE :=
  (.comp false (.nm 7) [7] (.rng1 (.bin .add (.var 6) (.k (.int 1)))) .nil (.bin .mul (.tup (.cons (.k (.int 0)) .nil)) (.bin .add (.var 7) (.k (.int 1)))))
def f_law_v4_c2 : IE :=
  (.comp false (.nm 6) [6] (.val (.tup (.cons (.k (.int 1)) (.cons (.k (.int 2)) (.cons (.k (.int 6)) .nil))))) .nil (.blt .tuple (.cons f_law_v4_c1 .nil)))
def f_law_v4_b3 : ISs :=
  (.cons (.set 4 (.blt .repr (.cons (.var 3) .nil))) (.cons (.iff (.or (.not (.call 52 (.cons (.var 3) .nil) [])) (.or (.not (.call 53 (.cons (.var 3) .nil) [])) (.cmp .ne (.blt .repr (.cons (.var 3) .nil)) (.var 4)))) (.cons (.ret (.k (.bl false))) .nil) .nil) .nil))
def f_law_v4 : Fn := { name := "law", ps := ["script"], N := ["script", "m", "some", "grid", "kept", "trial", "many", "r"], keep := false, body :=
  (.cons (.set 1 (.call 12 (.cons (.var 0) .nil) [])) (.cons (.set 2 f_law_v4_c0) (.cons (.set 2 (.bin .add (.var 2) f_law_v4_c2)) (.cons (.for_ (.nm 3) (.val (.var 2)) f_law_v4_b3) (.cons (.ret (.k (.bl true))) .nil))))) }
def f_law_near_checked_v2_b0 : ISs :=
  (.cons (.ex (.app (.var 4) (.bin .add (.bin .add (.sl (.var 1) .no (.so (.var 2))) (.tup (.cons (.bin .add (.bin .add (.sl (.idx (.var 1) (.var 2)) .no (.so (.var 3))) (.tup (.cons (.var 5) .nil))) (.sl (.idx (.var 1) (.var 2)) (.so (.bin .add (.var 3) (.k (.int 1)))) .no)) .nil))) (.sl (.var 1) (.so (.bin .add (.var 2) (.k (.int 1)))) .no)))) .nil)
def f_law_near_checked_v2_c1 : IE :=
  (.comp false (.nm 6) [6] (.val (.frz (.var 4))) (.cons (.not (.call 38 (.cons (.var 6) .nil) [])) .nil) (.k (.int 1)))
def f_law_near_checked_v2 : Fn := { name := "_law_near_checked", ps := ["m", "grid"], N := ["m", "grid", "r", "n", "some", "item", "thing_here"], keep := false, body :=
  (.cons (.set 2 (.call 11 (.cons (.var 0) (.cons (.blt .len (.cons (.var 1) .nil)) .nil)) [])) (.cons (.set 3 (.call 11 (.cons (.var 0) (.cons (.bin .add (.var 2) (.k (.int 1))) .nil)) [])) (.cons (.set 4 (.newl (.cons (.sl (.var 1) .no (.so (.neg (.k (.int 1))))) (.cons (.bin .add (.var 1) (.tup (.cons (.idx (.var 1) (.neg (.k (.int 1)))) .nil))) (.cons (.sl (.var 1) (.so (.k (.int 1))) .no) (.cons (.rev (.var 1)) (.cons (.blt .list (.cons (.var 1) .nil)) (.cons (.bin .add (.tup (.cons (.tup (.cons (.k (.int 1)) .nil)) .nil)) (.sl (.var 1) (.so (.k (.int 1))) .no)) (.cons (.bin .add (.tup (.cons (.tup (.cons (.k (.bl false)) .nil)) .nil)) (.sl (.var 1) (.so (.k (.int 1))) .no)) .nil))))))))) (.cons (.for_ (.nm 5) (.val (.tup (.cons (.k (.bl true)) (.cons (.k .non) (.cons (.k (.str "0")) (.cons (.tup (.cons (.k (.int 0)) .nil)) (.cons (.bin .sub (.k (.int 1)) (.idx (.idx (.var 1) (.var 2)) (.var 3))) (.cons (.bin .add (.idx (.idx (.var 1) (.var 2)) (.var 3)) (.bin .pow (.k (.int 10)) (.k (.int 60)))) .nil)))))))) f_law_near_checked_v2_b0) (.cons (.set 4 (.mkb .add (.var 4) (.lst (.cons (.bin .add (.bin .add (.sl (.var 1) .no (.so (.var 2))) (.tup (.cons (.blt .list (.cons (.idx (.var 1) (.var 2)) .nil)) .nil))) (.sl (.var 1) (.so (.bin .add (.var 2) (.k (.int 1)))) .no)) (.cons (.bin .add (.bin .add (.sl (.var 1) .no (.so (.var 2))) (.tup (.cons (.bin .add (.idx (.var 1) (.var 2)) (.tup (.cons (.k (.int 0)) .nil))) .nil))) (.sl (.var 1) (.so (.bin .add (.var 2) (.k (.int 1)))) .no)) .nil))))) (.cons (.set 4 (.mkb .add (.var 4) (.lst (.cons (.bin .add (.bin .add (.sl (.var 1) .no (.so (.var 2))) (.tup (.cons (.sl (.idx (.var 1) (.var 2)) .no (.so (.neg (.k (.int 1))))) .nil))) (.sl (.var 1) (.so (.bin .add (.var 2) (.k (.int 1)))) .no)) (.cons (.bin .add (.bin .add (.sl (.var 1) .no (.so (.var 2))) (.tup (.cons (.k .non) (.cons (.k (.int 5)) .nil)))) (.sl (.var 1) (.so (.bin .add (.var 2) (.k (.int 2)))) .no)) .nil))))) (.cons (.ret (.cmp .eq f_law_near_checked_v2_c1 (.lst .nil))) .nil))))))) }
def f_law_v5_b0 : ISs :=
  (.cons (.set 5 (.call 19 (.cons (.var 1) (.cons (.var 3) .nil)) [])) (.cons (.iff (.or (.not (.call 38 (.cons (.var 5) .nil) [])) (.not (.call 38 (.cons (.call 19 (.cons (.var 1) (.cons (.call 19 (.cons (.var 1) (.cons (.var 5) .nil)) []) .nil)) []) .nil) []))) (.cons (.ret (.k (.bl false))) .nil) .nil) .nil))
def f_law_v5_b1 : ISs :=
  (.cons (.set 3 (.call 50 (.cons (.var 1) (.cons (.bin .add (.k (.int 1)) (.bin .mod (.bin .add (.var 2) (.call 11 (.cons (.var 1) (.cons (.k (.int 6)) .nil)) [])) (.k (.int 6)))) .nil)) [])) (.cons (.iff (.or (.not (.call 38 (.cons (.var 3) .nil) [])) (.or (.not (.call 55 (.cons (.var 1) (.cons (.var 3) .nil)) [])) (.not (.call 40 (.cons (.var 3) .nil) [])))) (.cons (.ret (.k (.bl false))) .nil) .nil) (.cons (.for_ (.nm 4) (.rng1 (.k (.int 8))) f_law_v5_b0) .nil)))
def f_law_v5_c2 : IE :=
  (.comp false (.nm 7) [7] (.rng1 (.k (.int 8))) .nil (.bin .mul (.tup (.cons (.k (.int 0)) .nil)) (.bin .add (.var 7) (.k (.int 1)))))
def f_law_v5 : Fn := { name := "law", ps := ["script"], N := ["script", "m", "trial", "grid", "n", "changed", "zero", "r"], keep := false, body :=
  (.cons (.set 1 (.call 12 (.cons (.var 0) .nil) [])) (.cons (.for_ (.nm 2) (.rng1 (.k (.int 6))) f_law_v5_b1) (.cons (.set 6 (.blt .tuple (.cons f_law_v5_c2 .nil))) (.cons (.ret (.and (.call 38 (.cons (.var 6) .nil) []) (.and (.call 38 (.cons (.sl (.var 6) .no (.so (.k (.int 7)))) .nil) []) (.cmp .eq (.lst (.cons (.call 29 (.cons (.var 6) .nil) []) (.cons (.call 29 (.cons (.sl (.var 6) .no (.so (.k (.int 7)))) .nil) []) .nil))) (.lst (.cons (.k (.bl false)) (.cons (.k (.bl true)) .nil))))))) .nil)))) }
def f_check_size : Fn := { name := "check_size", ps := ["value"], N := ["value"], keep := false, body :=
  (.cons (.iff (.or (.not (.call 0 (.cons (.var 0) .nil) [])) (.not (.cmp2 .le .le (.k (.int 1)) (.var 0) (.glob "MAX_SIZE" (.int 6))))) (.cons (.rai 6 (.cons (.var 0) .nil) []) .nil) .nil) .nil) }
def f_is_rhombus : Fn := { name := "is_rhombus", ps := ["value", "size"], N := ["value", "size", "direction", "row", "place"], keep := false, body :=
  (.cons (.iff (.or (.not (.isI .tuple (.var 0))) (.cmp .ne (.blt .len (.cons (.var 0) .nil)) (.k (.int 3)))) (.cons (.ret (.k (.bl false))) .nil) .nil) (.cons (.unp [2, 3, 4] (.var 0)) (.cons (.iff (.or (.not (.isI .str (.var 2))) (.or (.not (.call 0 (.cons (.var 3) .nil) [])) (.not (.call 0 (.cons (.var 4) .nil) [])))) (.cons (.ret (.k (.bl false))) .nil) .nil) (.cons (.iff (.cmp .eq (.var 2) (.k (.str "flat"))) (.cons (.ret (.cmp3 .le .le .le (.k (.int 0)) (.var 4) (.var 3) (.bin .sub (.var 1) (.k (.int 2))))) .nil) .nil) (.cons (.iff (.cmp .eq (.var 2) (.k (.str "left"))) (.cons (.ret (.cmp3 .le .le .le (.k (.int 1)) (.var 4) (.var 3) (.bin .sub (.var 1) (.k (.int 1))))) .nil) .nil) (.cons (.iff (.cmp .eq (.var 2) (.k (.str "right"))) (.cons (.ret (.cmp3 .le .lt .le (.k (.int 0)) (.var 4) (.var 3) (.bin .sub (.var 1) (.k (.int 1))))) .nil) .nil) (.cons (.ret (.k (.bl false))) .nil))))))) }
def f_rhombuses_c0 : IE :=
  (.lcn false [1, 2, 3] (.nm 1) (.val (.glob "DIRECTIONS" (.tup [(.str "flat"), (.str "left"), (.str "right")]))) .nil (.cons (.nm 2) [2] (.rng1 (.var 0)) .nil (.cons (.nm 3) [3] (.rng1 (.bin .add (.var 2) (.k (.int 1)))) (.cons (.call 58 (.cons (.tup (.cons (.var 1) (.cons (.var 2) (.cons (.var 3) .nil)))) (.cons (.var 0) .nil)) []) .nil) (.el (.tup (.cons (.var 1) (.cons (.var 2) (.cons (.var 3) .nil))))))))
def f_rhombuses : Fn := { name := "rhombuses", ps := ["size"], N := ["size", "direction", "row", "place"], keep := false, body :=
  (.cons (.ex (.call 57 (.cons (.var 0) .nil) [])) (.cons (.ret (.blt .tuple (.cons f_rhombuses_c0 .nil))) .nil)) }
def f_rhombus_vertices : Fn := { name := "rhombus_vertices", ps := ["rhombus"], N := ["rhombus", "direction", "row", "place"], keep := false, body :=
  (.cons (.iff (.not (.call 58 (.cons (.var 0) (.cons (.glob "MAX_SIZE" (.int 6)) .nil)) [])) (.cons (.rai 5 (.cons (.var 0) .nil) []) .nil) .nil) (.cons (.unp [1, 2, 3] (.var 0)) (.cons (.iff (.cmp .eq (.var 1) (.k (.str "flat"))) (.cons (.ret (.tup (.cons (.tup (.cons (.tup (.cons (.bin .add (.var 2) (.k (.int 1))) (.cons (.var 3) .nil))) (.cons (.tup (.cons (.bin .add (.var 2) (.k (.int 1))) (.cons (.bin .add (.var 3) (.k (.int 1))) .nil))) .nil))) (.cons (.tup (.cons (.tup (.cons (.var 2) (.cons (.var 3) .nil))) (.cons (.tup (.cons (.bin .add (.var 2) (.k (.int 2))) (.cons (.bin .add (.var 3) (.k (.int 1))) .nil))) .nil))) .nil)))) .nil) .nil) (.cons (.iff (.cmp .eq (.var 1) (.k (.str "left"))) (.cons (.ret (.tup (.cons (.tup (.cons (.tup (.cons (.var 2) (.cons (.var 3) .nil))) (.cons (.tup (.cons (.bin .add (.var 2) (.k (.int 1))) (.cons (.var 3) .nil))) .nil))) (.cons (.tup (.cons (.tup (.cons (.var 2) (.cons (.bin .sub (.var 3) (.k (.int 1))) .nil))) (.cons (.tup (.cons (.bin .add (.var 2) (.k (.int 1))) (.cons (.bin .add (.var 3) (.k (.int 1))) .nil))) .nil))) .nil)))) .nil) .nil) (.cons (.ret (.tup (.cons (.tup (.cons (.tup (.cons (.var 2) (.cons (.var 3) .nil))) (.cons (.tup (.cons (.bin .add (.var 2) (.k (.int 1))) (.cons (.bin .add (.var 3) (.k (.int 1))) .nil))) .nil))) (.cons (.tup (.cons (.tup (.cons (.var 2) (.cons (.bin .add (.var 3) (.k (.int 1))) .nil))) (.cons (.tup (.cons (.bin .add (.var 2) (.k (.int 1))) (.cons (.var 3) .nil))) .nil))) .nil)))) .nil))))) }
def f_measure_slack_c0 : IE :=
  (.comp false (.tp [4, 5]) [4, 5] (.val (.var 2)) .nil (.idx (.idx (.var 0) (.var 4)) (.var 5)))
def f_measure_slack_c1 : IE :=
  (.comp false (.tp [4, 5]) [4, 5] (.val (.var 3)) .nil (.idx (.idx (.var 0) (.var 4)) (.var 5)))
def f_measure_slack : Fn := { name := "measure_slack", ps := ["array", "rhombus"], N := ["array", "rhombus", "ends", "tips", "row", "place"], keep := false, body :=
  (.cons (.unp [2, 3] (.call 60 (.cons (.var 1) .nil) [])) (.cons (.ret (.bin .sub (.blt .sum (.cons f_measure_slack_c0 .nil)) (.blt .sum (.cons f_measure_slack_c1 .nil)))) .nil)) }
def f_slacks_c0 : IE :=
  (.comp false (.nm 1) [1] (.val (.call 59 (.cons (.bin .sub (.blt .len (.cons (.var 0) .nil)) (.k (.int 1))) .nil) [])) .nil (.tup (.cons (.var 1) (.cons (.call 61 (.cons (.var 0) (.cons (.var 1) .nil)) []) .nil))))
def f_slacks : Fn := { name := "slacks", ps := ["array"], N := ["array", "rhombus"], keep := false, body :=
  (.cons (.ex (.call 28 (.cons (.var 0) .nil) [])) (.cons (.ret (.blt .tuple (.cons f_slacks_c0 .nil))) .nil)) }
def f_is_concave_c0 : IE :=
  (.comp false (.nm 1) [1] (.val (.call 62 (.cons (.var 0) .nil) [])) .nil (.cmp .ge (.idx (.var 1) (.k (.int 1))) (.k (.int 0))))
def f_is_concave : Fn := { name := "is_concave", ps := ["array"], N := ["array", "pair"], keep := false, body :=
  (.cons (.ret (.blt .all (.cons f_is_concave_c0 .nil))) .nil) }
def f_rotate_c0 : IE :=
  (.comp false (.nm 4) [4] (.rng1 (.bin .add (.var 3) (.k (.int 1)))) .nil (.bin .sub (.idx (.idx (.var 0) (.bin .sub (.var 1) (.var 4))) (.bin .sub (.var 3) (.var 4))) (.var 2)))
def f_rotate_c1 : IE :=
  (.comp false (.nm 3) [3] (.rng1 (.bin .add (.var 1) (.k (.int 1)))) .nil (.blt .tuple (.cons f_rotate_c0 .nil)))
def f_rotate : Fn := { name := "rotate", ps := ["array"], N := ["array", "size", "corner", "row", "place"], keep := false, body :=
  (.cons (.ex (.call 28 (.cons (.var 0) .nil) [])) (.cons (.set 1 (.bin .sub (.blt .len (.cons (.var 0) .nil)) (.k (.int 1)))) (.cons (.set 2 (.idx (.idx (.var 0) (.var 1)) (.k (.int 0)))) (.cons (.ret (.blt .tuple (.cons f_rotate_c1 .nil))) .nil)))) }
def f_reflect_c0 : IE :=
  (.comp false (.nm 1) [1] (.val (.var 0)) .nil (.rev (.var 1)))
def f_reflect : Fn := { name := "reflect", ps := ["array"], N := ["array", "row"], keep := false, body :=
  (.cons (.ex (.call 28 (.cons (.var 0) .nil) [])) (.cons (.ret (.blt .tuple (.cons f_reflect_c0 .nil))) .nil)) }
def f_scale_array_c0 : IE :=
  (.comp false (.nm 3) [3] (.val (.var 2)) .nil (.bin .mul (.var 3) (.var 1)))
def f_scale_array_c1 : IE :=
  (.comp false (.nm 2) [2] (.val (.var 0)) .nil (.blt .tuple (.cons f_scale_array_c0 .nil)))
def f_scale_array : Fn := { name := "scale_array", ps := ["array", "factor"], N := ["array", "factor", "row", "item"], keep := false, body :=
  (.cons (.ex (.call 28 (.cons (.var 0) .nil) [])) (.cons (.ex (.call 4 (.cons (.var 1) .nil) [])) (.cons (.ret (.blt .tuple (.cons f_scale_array_c1 .nil))) .nil))) }
def f_add_arrays_c0 : IE :=
  (.comp false (.tp [4, 5]) [4, 5] (.zip (.var 2) (.var 3)) .nil (.bin .add (.var 4) (.var 5)))
def f_add_arrays_c1 : IE :=
  (.comp false (.tp [2, 3]) [2, 3] (.zip (.var 0) (.var 1)) .nil (.blt .tuple (.cons f_add_arrays_c0 .nil)))
def f_add_arrays : Fn := { name := "add_arrays", ps := ["first", "second"], N := ["first", "second", "above", "below", "left", "right"], keep := false, body :=
  (.cons (.ex (.call 28 (.cons (.var 0) .nil) [])) (.cons (.ex (.call 28 (.cons (.var 1) .nil) [])) (.cons (.iff (.cmp .ne (.blt .len (.cons (.var 0) .nil)) (.blt .len (.cons (.var 1) .nil))) (.cons (.rai 2 (.cons (.tup (.cons (.bin .sub (.blt .len (.cons (.var 0) .nil)) (.k (.int 1))) (.cons (.bin .sub (.blt .len (.cons (.var 1) .nil)) (.k (.int 1))) .nil))) .nil) []) .nil) .nil) (.cons (.ret (.blt .tuple (.cons f_add_arrays_c1 .nil))) .nil)))) }
def f_law_sum_c0 : IE :=
  (.comp false (.tp [6, 7]) [6, 7] (.enum (.var 5)) .nil (.bin .add (.var 7) (.bin .mul (.var 2) (.idx (.idx (.var 1) (.var 4)) (.var 6)))))
def f_law_sum_b1 : ISs :=
  (.cons (.ex (.app (.var 3) (.blt .tuple (.cons f_law_sum_c0 .nil)))) .nil)
def f_law_sum : Fn := { name := "_law_sum", ps := ["one", "two", "times"], N := ["one", "two", "times", "rows_here", "r", "line", "n", "item"], keep := false, body :=
  (.cons (.set 3 (.newl .nil)) (.cons (.for_ (.tp [4, 5]) (.enum (.var 0)) f_law_sum_b1) (.cons (.ret (.blt .tuple (.cons (.var 3) .nil))) .nil))) }
def f_law_sides_c0 : IE :=
  (.comp false (.tp [6, 7]) [6, 7] (.enum (.var 4)) .nil (.bin .add (.var 7) (.bin .mul (.var 2) (.idx (.var 5) (.var 6)))))
def f_law_sides_b1 : ISs :=
  (.cons (.ex (.app (.var 3) (.blt .tuple (.cons f_law_sides_c0 .nil)))) .nil)
def f_law_sides : Fn := { name := "_law_sides", ps := ["one", "two", "times"], N := ["one", "two", "times", "found", "line", "other", "n", "item"], keep := false, body :=
  (.cons (.set 3 (.newl .nil)) (.cons (.for_ (.tp [4, 5]) (.zip (.call 44 (.cons (.var 0) .nil) []) (.call 44 (.cons (.var 1) .nil) [])) f_law_sides_b1) (.cons (.ret (.blt .tuple (.cons (.var 3) .nil))) .nil))) }
def f_law_much_b0 : ISs :=
  (.cons (.ex (.app (.var 3) (.tup (.cons (.idx (.var 4) (.k (.int 0))) (.cons (.bin .add (.idx (.var 4) (.k (.int 1))) (.bin .mul (.var 2) (.idx (.var 5) (.k (.int 1))))) .nil))))) .nil)
def f_law_much : Fn := { name := "_law_much", ps := ["one", "two", "times"], N := ["one", "two", "times", "found", "own", "other"], keep := false, body :=
  (.cons (.set 3 (.newl .nil)) (.cons (.for_ (.tp [4, 5]) (.zip (.call 62 (.cons (.var 0) .nil) []) (.call 62 (.cons (.var 1) .nil) [])) f_law_much_b0) (.cons (.ret (.blt .tuple (.cons (.var 3) .nil))) .nil))) }
def f_law_sum_right : Fn := { name := "_law_sum_right", ps := ["one", "two"], N := ["one", "two", "due", "found"], keep := false, body :=
  (.cons (.set 2 (.call 68 (.cons (.var 0) (.cons (.var 1) (.cons (.k (.int 1)) .nil))) [])) (.cons (.set 3 (.lst (.cons (.call 67 (.cons (.var 0) (.cons (.var 1) .nil)) []) (.cons (.callk 67 .nil ["second", "first"] (.cons (.var 1) (.cons (.var 0) .nil)) [1, 0]) (.cons (.call 67 (.cons (.var 1) (.cons (.var 0) .nil)) []) .nil))))) (.cons (.iff (.or (.cmp .ne (.blt .repr (.cons (.var 3) .nil)) (.blt .repr (.cons (.bin .mul (.lst (.cons (.var 2) .nil)) (.k (.int 3))) .nil))) (.cmp .ne (.call 44 (.cons (.var 2) .nil) []) (.call 69 (.cons (.var 0) (.cons (.var 1) (.cons (.k (.int 1)) .nil))) []))) (.cons (.ret (.k (.bl false))) .nil) .nil) (.cons (.iff (.cmp .ne (.call 62 (.cons (.var 2) .nil) []) (.call 70 (.cons (.var 0) (.cons (.var 1) (.cons (.k (.int 1)) .nil))) [])) (.cons (.ret (.k (.bl false))) .nil) .nil) (.cons (.iff (.and (.call 63 (.cons (.var 0) .nil) []) (.and (.call 63 (.cons (.var 1) .nil) []) (.not (.call 63 (.cons (.var 2) .nil) [])))) (.cons (.ret (.k (.bl false))) .nil) .nil) (.cons (.iff (.cmp .ne (.call 64 (.cons (.var 2) .nil) []) (.call 67 (.cons (.call 64 (.cons (.var 0) .nil) []) (.cons (.call 64 (.cons (.var 1) .nil) []) .nil)) [])) (.cons (.ret (.k (.bl false))) .nil) .nil) (.cons (.ret (.cmp .eq (.call 65 (.cons (.var 2) .nil) []) (.call 67 (.cons (.call 65 (.cons (.var 0) .nil) []) (.cons (.call 65 (.cons (.var 1) .nil) []) .nil)) []))) .nil))))))) }
def f_law_scaled_right : Fn := { name := "_law_scaled_right", ps := ["one", "two", "times", "more"], N := ["one", "two", "times", "more", "zero", "due"], keep := false, body :=
  (.cons (.set 4 (.call 68 (.cons (.var 0) (.cons (.var 0) (.cons (.bin .sub (.k (.int 0)) (.k (.int 1))) .nil))) [])) (.cons (.set 5 (.call 68 (.cons (.var 4) (.cons (.var 0) (.cons (.var 2) .nil))) [])) (.cons (.iff (.cmp .ne (.blt .repr (.cons (.lst (.cons (.call 66 (.cons (.var 0) (.cons (.var 2) .nil)) []) (.cons (.callk 66 .nil ["factor", "array"] (.cons (.var 2) (.cons (.var 0) .nil)) [1, 0]) .nil))) .nil)) (.blt .repr (.cons (.lst (.cons (.var 5) (.cons (.var 5) .nil))) .nil))) (.cons (.ret (.k (.bl false))) .nil) .nil) (.cons (.iff (.or (.cmp .ne (.call 44 (.cons (.var 5) .nil) []) (.call 69 (.cons (.var 4) (.cons (.var 0) (.cons (.var 2) .nil))) [])) (.cmp .ne (.call 62 (.cons (.var 5) .nil) []) (.call 70 (.cons (.var 4) (.cons (.var 0) (.cons (.var 2) .nil))) []))) (.cons (.ret (.k (.bl false))) .nil) .nil) (.cons (.iff (.or (.and (.cmp .gt (.var 2) (.k (.int 0))) (.cmp .ne (.call 63 (.cons (.var 5) .nil) []) (.call 63 (.cons (.var 0) .nil) []))) (.and (.cmp .eq (.var 2) (.k (.int 0))) (.not (.call 63 (.cons (.var 5) .nil) [])))) (.cons (.ret (.k (.bl false))) .nil) .nil) (.cons (.iff (.cmp .ne (.call 66 (.cons (.call 67 (.cons (.var 0) (.cons (.var 1) .nil)) []) (.cons (.var 2) .nil)) []) (.call 67 (.cons (.var 5) (.cons (.call 66 (.cons (.var 1) (.cons (.var 2) .nil)) []) .nil)) [])) (.cons (.ret (.k (.bl false))) .nil) .nil) (.cons (.iff (.cmp .ne (.call 67 (.cons (.var 5) (.cons (.call 66 (.cons (.var 0) (.cons (.var 3) .nil)) []) .nil)) []) (.call 66 (.cons (.var 0) (.cons (.bin .add (.var 2) (.var 3)) .nil)) [])) (.cons (.ret (.k (.bl false))) .nil) .nil) (.cons (.ret (.and (.cmp .eq (.call 66 (.cons (.var 5) (.cons (.var 3) .nil)) []) (.call 66 (.cons (.var 0) (.cons (.bin .mul (.var 2) (.var 3)) .nil)) [])) (.cmp .eq (.call 64 (.cons (.var 5) .nil) []) (.call 66 (.cons (.call 64 (.cons (.var 0) .nil) []) (.cons (.var 2) .nil)) [])))) .nil)))))))) }
def f_law_v6_b0 : ISs :=
  (.cons (.set 3 (.bin .add (.k (.int 1)) (.bin .mod (.bin .add (.var 2) (.call 11 (.cons (.var 1) (.cons (.k (.int 6)) .nil)) [])) (.k (.int 6))))) (.cons (.par 4 5 (.call 50 (.cons (.var 1) (.cons (.var 3) .nil)) []) (.idx (.lst (.cons (.call 50 (.cons (.var 1) (.cons (.var 3) .nil)) []) (.cons (.call 49 (.cons (.var 1) (.cons (.var 3) .nil)) []) .nil))) (.call 11 (.cons (.var 1) (.cons (.k (.int 2)) .nil)) []))) (.cons (.set 6 (.idx (.lst (.cons (.k (.int 0)) (.cons (.k (.int 1)) (.cons (.k (.int 2)) (.cons (.call 11 (.cons (.var 1) (.cons (.k (.int 50)) .nil)) []) (.cons (.bin .pow (.k (.int 10)) (.k (.int 25))) .nil)))))) (.call 11 (.cons (.var 1) (.cons (.k (.int 5)) .nil)) []))) (.cons (.set 7 (.blt .repr (.cons (.lst (.cons (.var 4) (.cons (.var 5) .nil))) .nil))) (.cons (.iff (.or (.not (.call 71 (.cons (.var 4) (.cons (.var 5) .nil)) [])) (.not (.call 72 (.cons (.var 4) (.cons (.var 5) (.cons (.var 6) (.cons (.call 11 (.cons (.var 1) (.cons (.k (.int 9)) .nil)) []) .nil)))) []))) (.cons (.ret (.k (.bl false))) .nil) .nil) (.cons (.iff (.cmp .ne (.blt .repr (.cons (.lst (.cons (.var 4) (.cons (.var 5) .nil))) .nil)) (.var 7)) (.cons (.ret (.k (.bl false))) .nil) .nil) .nil))))))
def f_law_v6 : Fn := { name := "law", ps := ["script"], N := ["script", "m", "trial", "many", "one", "two", "times", "kept"], keep := false, body :=
  (.cons (.set 1 (.call 12 (.cons (.var 0) .nil) [])) (.cons (.for_ (.nm 2) (.rng1 (.k (.int 8))) f_law_v6_b0) (.cons (.ret (.k (.bl true))) .nil))) }
def f_check_descending_b0 : ISs :=
  (.cons (.iff (.not (.call 0 (.cons (.var 2) .nil) [])) (.cons (.rai 0 (.cons (.var 1) .nil) []) .nil) .nil) (.cons (.iff (.and (.cmp .gt (.var 1) (.k (.int 0))) (.cmp .gt (.var 2) (.idx (.var 0) (.bin .sub (.var 1) (.k (.int 1)))))) (.cons (.rai 0 (.cons (.var 1) .nil) []) .nil) .nil) .nil))
def f_check_descending : Fn := { name := "check_descending", ps := ["value"], N := ["value", "position", "item"], keep := false, body :=
  (.cons (.for_ (.tp [1, 2]) (.enum (.var 0)) f_check_descending_b0) .nil) }
def f_check_partition_v2 : Fn := { name := "check_partition", ps := ["value"], N := ["value"], keep := false, body :=
  (.cons (.iff (.or (.not (.isI .tuple (.var 0))) (.not (.cmp2 .le .le (.k (.int 1)) (.blt .len (.cons (.var 0) .nil)) (.glob "MAX_SIZE" (.int 6))))) (.cons (.rai 0 (.cons (.k .non) .nil) []) .nil) .nil) (.cons (.ex (.call 74 (.cons (.var 0) .nil) [])) .nil)) }
def f_is_partition_v2 : Fn := { name := "is_partition", ps := ["value"], N := ["value"], keep := false, body :=
  (.cons (.tri (.cons (.ex (.call 75 (.cons (.var 0) .nil) [])) .nil) 0 none (.cons (.ret (.k (.bl false))) .nil)) (.cons (.ret (.k (.bl true))) .nil)) }
def f_law_steps_c0 : IE :=
  (.comp false (.nm 1) [1] (.rng1 (.bin .sub (.blt .len (.cons (.var 0) .nil)) (.k (.int 1)))) .nil (.bin .sub (.idx (.var 0) (.bin .add (.var 1) (.k (.int 1)))) (.idx (.var 0) (.var 1))))
def f_law_steps : Fn := { name := "_law_steps", ps := ["line"], N := ["line", "n"], keep := false, body :=
  (.cons (.ret (.blt .tuple (.cons f_law_steps_c0 .nil))) .nil) }
def f_law_interlaced_c0 : IE :=
  (.comp false (.tp [2, 3]) [2, 3] (.enum (.var 0)) (.cons (.not (.cmp2 .ge .ge (.idx (.var 1) (.var 2)) (.var 3) (.idx (.var 1) (.bin .add (.var 2) (.k (.int 1)))))) .nil) (.var 2))
def f_law_interlaced : Fn := { name := "_law_interlaced", ps := ["short", "long"], N := ["short", "long", "n", "item"], keep := false, body :=
  (.cons (.ret (.cmp .eq f_law_interlaced_c0 (.lst .nil))) .nil) }
def f_law_right_c0 : IE :=
  (.comp false (.nm 4) [4] (.rng1 (.bin .add (.var 1) (.k (.int 1)))) .nil (.call 47 (.cons (.var 0) (.cons (.var 4) .nil)) []))
def f_law_right_c1 : IE :=
  (.comp false (.nm 7) [7] (.val (.var 3)) .nil (.blt .len (.cons (.var 7) .nil)))
def f_law_right_c2 : IE :=
  (.comp false (.tp [8, 9]) [8, 9] (.val (.var 2)) (.cons (.and (.cmp .ne (.idx (.var 8) (.k (.int 0))) (.k (.str "flat"))) (.cmp .eq (.idx (.var 8) (.k (.int 1))) (.var 4))) .nil) (.var 9))
def f_law_right_b3 : ISs :=
  (.cons (.set 5 f_law_right_c2) (.cons (.iff (.or (.cmp .ne (.call 78 (.cons (.idx (.var 3) (.var 4)) (.cons (.idx (.var 3) (.bin .add (.var 4) (.k (.int 1)))) .nil)) []) (.cmp .ge (.blt .min (.cons (.var 5) .nil)) (.k (.int 0)))) (.cmp .ne (.blt .len (.cons (.var 5) .nil)) (.bin .mul (.k (.int 2)) (.var 4)))) (.cons (.ret (.k (.bl false))) .nil) .nil) .nil))
def f_law_right_c4 : IE :=
  (.comp false (.tp [8, 9]) [8, 9] (.val (.var 2)) .nil (.var 9))
def f_law_right_c5 : IE :=
  (.comp false (.nm 10) [10] (.val (.var 6)) (.cons (.not (.call 76 (.cons (.var 10) .nil) [])) .nil) (.var 10))
def f_law_right : Fn := { name := "_law_right", ps := ["grid"], N := ["grid", "many", "told", "lines", "r", "between", "some", "line", "tile", "much", "part"], keep := false, body :=
  (.cons (.par 1 2 (.bin .sub (.blt .len (.cons (.var 0) .nil)) (.k (.int 1))) (.call 62 (.cons (.var 0) .nil) [])) (.cons (.set 3 f_law_right_c0) (.cons (.iff (.cmp .ne f_law_right_c1 (.ext .lrng (.cons (.bin .add (.var 1) (.k (.int 1))) .nil))) (.cons (.ret (.k (.bl false))) .nil) .nil) (.cons (.for_ (.nm 4) (.rng2 (.k (.int 1)) (.var 1)) f_law_right_b3) (.cons (.iff (.not (.call 63 (.cons (.var 0) .nil) [])) (.cons (.ret (.cmp .lt (.ext (.mind 0) (.cons f_law_right_c4 .nil)) (.k (.int 0)))) .nil) .nil) (.cons (.set 6 (.bin .add (.blt .list (.cons (.call 44 (.cons (.var 0) .nil) []) .nil)) (.sl (.var 3) (.so (.k (.int 1))) .no))) (.cons (.ret (.and (.cmp .eq f_law_right_c5 (.lst .nil)) (.cmp .eq (.idx (.var 3) (.var 1)) (.idx (.call 44 (.cons (.var 0) .nil) []) (.k (.int 1)))))) .nil))))))) }
def f_law_down_left_c0 : IE :=
  (.comp false (.nm 5) [5] (.rng2 (.var 2) (.bin .add (.var 1) (.k (.int 1)))) .nil (.idx (.idx (.var 0) (.var 5)) (.var 2)))
def f_law_down_left_c1 : IE :=
  (.comp false (.nm 5) [5] (.rng2 (.var 2) (.bin .add (.var 1) (.k (.int 1)))) .nil (.idx (.idx (.var 0) (.var 5)) (.bin .sub (.var 5) (.var 2))))
def f_law_down_left_b2 : ISs :=
  (.cons (.set 3 (.call 77 (.cons f_law_down_left_c0 .nil) [])) (.cons (.set 4 (.call 77 (.cons f_law_down_left_c1 .nil) [])) (.cons (.iff (.or (.not (.call 76 (.cons (.var 3) .nil) [])) (.not (.call 76 (.cons (.var 4) .nil) []))) (.cons (.ret (.k (.bl false))) .nil) .nil) .nil)))
def f_law_down_left : Fn := { name := "_law_down_left", ps := ["grid"], N := ["grid", "many", "n", "down", "aside", "r"], keep := false, body :=
  (.cons (.set 1 (.bin .sub (.blt .len (.cons (.var 0) .nil)) (.k (.int 1)))) (.cons (.for_ (.nm 2) (.rng1 (.var 1)) f_law_down_left_b2) (.cons (.ret (.k (.bl true))) .nil))) }
def f_law_v7_c0 : IE :=
  (.comp false (.nm 7) [7] (.rng1 (.bin .add (.var 6) (.k (.int 1)))) .nil (.bin .add (.bin .mul (.k (.int 2)) (.var 6)) (.bin .mul (.k (.int 3)) (.var 7))))
def f_law_v7_c1 : IE :=
  (.comp false (.nm 6) [6] (.rng1 (.k (.int 7))) .nil (.blt .tuple (.cons f_law_v7_c0 .nil)))
def f_law_v7_c2 : IE :=
  (.comp false (.nm 7) [7] (.rng1 (.bin .add (.var 6) (.k (.int 1)))) .nil (.bin .sub (.bin .mul (.k (.int 5)) (.var 7)) (.bin .mul (.k (.int 7)) (.var 6))))
def f_law_v7_c3 : IE :=
  (.comp false (.nm 6) [6] (.rng1 (.k (.int 7))) .nil (.blt .tuple (.cons f_law_v7_c2 .nil)))
def f_law_v7_b4 : ISs :=
  (.cons (.set 4 (.bin .add (.k (.int 1)) (.bin .mod (.bin .add (.var 3) (.call 11 (.cons (.var 1) (.cons (.k (.int 6)) .nil)) [])) (.k (.int 6))))) (.cons (.set 2 (.mkb .add (.var 2) (.lst (.cons (.call 50 (.cons (.var 1) (.cons (.var 4) .nil)) []) (.cons (.call 49 (.cons (.var 1) (.cons (.var 4) .nil)) []) .nil))))) .nil))
def f_law_v7_b5 : ISs :=
  (.cons (.iff (.or (.not (.call 79 (.cons (.var 5) .nil) [])) (.and (.call 63 (.cons (.var 5) .nil) []) (.not (.call 80 (.cons (.var 5) .nil) [])))) (.cons (.ret (.k (.bl false))) .nil) .nil) .nil)
def f_law_v7_c6 : IE :=
  (.comp false (.nm 5) [5] (.val (.sl (.var 2) .no (.so (.k (.int 2))))) .nil (.call 63 (.cons (.var 5) .nil) []))
def f_law_v7 : Fn := { name := "law", ps := ["script"], N := ["script", "m", "some", "trial", "many", "grid", "r", "n"], keep := false, body :=
  (.cons (.set 1 (.call 12 (.cons (.var 0) .nil) [])) (.cons (.set 2 (.newl (.cons (.blt .tuple (.cons f_law_v7_c1 .nil)) .nil))) (.cons (.ex (.app (.var 2) (.blt .tuple (.cons f_law_v7_c3 .nil)))) (.cons (.for_ (.nm 3) (.rng1 (.k (.int 6))) f_law_v7_b4) (.cons (.for_ (.nm 5) (.val (.frz (.var 2))) f_law_v7_b5) (.cons (.ret (.cmp .eq f_law_v7_c6 (.lst (.cons (.k (.bl true)) (.cons (.k (.bl true)) .nil))))) .nil)))))) }
def f_compare_sizes_c0 : IE :=
  (.comp false (.nm 2) [2] (.val (.var 0)) .nil (.blt .len (.cons (.var 2) .nil)))
def f_compare_sizes : Fn := { name := "compare_sizes", ps := ["values"], N := ["values", "sizes", "value"], keep := false, body :=
  (.cons (.set 1 (.blt .tuple (.cons f_compare_sizes_c0 .nil))) (.cons (.iff (.cmp .ne (.blt .min (.cons (.var 1) .nil)) (.blt .max (.cons (.var 1) .nil))) (.cons (.rai 2 (.cons (.var 1) .nil) []) .nil) .nil) .nil)) }
def f_check_equal_sizes_v2_b0 : ISs :=
  (.cons (.ex (.call 75 (.cons (.var 1) .nil) [])) .nil)
def f_check_equal_sizes_v2 : Fn := { name := "check_equal_sizes", ps := ["values"], N := ["values", "value"], keep := false, body :=
  (.cons (.for_ (.nm 1) (.val (.var 0)) f_check_equal_sizes_v2_b0) (.cons (.ex (.call 82 (.cons (.var 0) .nil) [])) .nil)) }
def f_negate_v2_c0 : IE :=
  (.comp false (.nm 1) [1] (.val (.rev (.var 0))) .nil (.neg (.var 1)))
def f_negate_v2 : Fn := { name := "negate", ps := ["partition"], N := ["partition", "item"], keep := false, body :=
  (.cons (.ex (.call 75 (.cons (.var 0) .nil) [])) (.cons (.ret (.blt .tuple (.cons f_negate_v2_c0 .nil))) .nil)) }
def f_shift_v2_c0 : IE :=
  (.comp false (.nm 2) [2] (.val (.var 0)) .nil (.bin .add (.var 2) (.var 1)))
def f_shift_v2 : Fn := { name := "shift", ps := ["partition", "amount"], N := ["partition", "amount", "item"], keep := false, body :=
  (.cons (.ex (.call 75 (.cons (.var 0) .nil) [])) (.cons (.iff (.not (.call 0 (.cons (.var 1) .nil) [])) (.cons (.rai 1 (.cons (.var 1) .nil) []) .nil) .nil) (.cons (.ret (.blt .tuple (.cons f_shift_v2_c0 .nil))) .nil))) }
def f_scale_partition_v2_c0 : IE :=
  (.comp false (.nm 2) [2] (.val (.var 0)) .nil (.bin .mul (.var 2) (.var 1)))
def f_scale_partition_v2 : Fn := { name := "scale_partition", ps := ["partition", "factor"], N := ["partition", "factor", "item"], keep := false, body :=
  (.cons (.ex (.call 75 (.cons (.var 0) .nil) [])) (.cons (.ex (.call 4 (.cons (.var 1) .nil) [])) (.cons (.ret (.blt .tuple (.cons f_scale_partition_v2_c0 .nil))) .nil))) }
def f_add_partitions_v2_c0 : IE :=
  (.comp false (.tp [2, 3]) [2, 3] (.zip (.var 0) (.var 1)) .nil (.bin .add (.var 2) (.var 3)))
def f_add_partitions_v2 : Fn := { name := "add_partitions", ps := ["first", "second"], N := ["first", "second", "left", "right"], keep := false, body :=
  (.cons (.ex (.call 83 (.cons (.tup (.cons (.var 0) (.cons (.var 1) .nil))) .nil) [])) (.cons (.ret (.blt .tuple (.cons f_add_partitions_v2_c0 .nil))) .nil)) }
def f_law_single_right_v2_c0 : IE :=
  (.comp false (.nm 6) [6] (.rng1 (.blt .len (.cons (.var 0) .nil))) .nil (.bin .sub (.k (.int 0)) (.idx (.var 0) (.bin .sub (.bin .sub (.blt .len (.cons (.var 0) .nil)) (.k (.int 1))) (.var 6)))))
def f_law_single_right_v2_c1 : IE :=
  (.comp false (.nm 7) [7] (.val (.var 0)) .nil (.bin .add (.var 7) (.var 1)))
def f_law_single_right_v2_c2 : IE :=
  (.comp false (.nm 7) [7] (.val (.var 0)) .nil (.bin .mul (.var 7) (.var 2)))
def f_law_single_right_v2_c3 : IE :=
  (.comp false (.nm 7) [7] (.val (.tup (.cons (.var 3) (.cons (.var 4) (.cons (.var 5) .nil))))) (.cons (.not (.call 76 (.cons (.var 7) .nil) [])) .nil) (.var 7))
def f_law_single_right_v2 : Fn := { name := "_law_single_right", ps := ["part", "more", "times"], N := ["part", "more", "times", "flipped", "moved", "grown", "n", "item"], keep := false, body :=
  (.cons (.set 3 (.blt .tuple (.cons f_law_single_right_v2_c0 .nil))) (.cons (.iff (.cmp .ne (.blt .repr (.cons (.lst (.cons (.call 84 (.cons (.var 0) .nil) []) (.cons (.callk 84 .nil ["partition"] (.cons (.var 0) .nil) [0]) (.cons (.call 84 (.cons (.call 84 (.cons (.var 0) .nil) []) .nil) []) .nil)))) .nil)) (.blt .repr (.cons (.lst (.cons (.var 3) (.cons (.var 3) (.cons (.var 0) .nil)))) .nil))) (.cons (.ret (.k (.bl false))) .nil) .nil) (.cons (.set 4 (.blt .tuple (.cons f_law_single_right_v2_c1 .nil))) (.cons (.iff (.cmp .ne (.blt .repr (.cons (.lst (.cons (.call 85 (.cons (.var 0) (.cons (.var 1) .nil)) []) (.cons (.callk 85 .nil ["amount", "partition"] (.cons (.var 1) (.cons (.var 0) .nil)) [1, 0]) .nil))) .nil)) (.blt .repr (.cons (.lst (.cons (.var 4) (.cons (.var 4) .nil))) .nil))) (.cons (.ret (.k (.bl false))) .nil) .nil) (.cons (.iff (.cmp .ne (.blt .repr (.cons (.call 85 (.cons (.var 4) (.cons (.bin .sub (.k (.int 0)) (.var 1)) .nil)) []) .nil)) (.blt .repr (.cons (.var 0) .nil))) (.cons (.ret (.k (.bl false))) .nil) .nil) (.cons (.set 5 (.blt .tuple (.cons f_law_single_right_v2_c2 .nil))) (.cons (.iff (.cmp .ne (.blt .repr (.cons (.lst (.cons (.call 86 (.cons (.var 0) (.cons (.var 2) .nil)) []) (.cons (.callk 86 .nil ["factor", "partition"] (.cons (.var 2) (.cons (.var 0) .nil)) [1, 0]) .nil))) .nil)) (.blt .repr (.cons (.lst (.cons (.var 5) (.cons (.var 5) .nil))) .nil))) (.cons (.ret (.k (.bl false))) .nil) .nil) (.cons (.ret (.cmp .eq f_law_single_right_v2_c3 (.lst .nil))) .nil)))))))) }
def f_law_pair_right_v2_c0 : IE :=
  (.comp false (.nm 5) [5] (.rng1 (.blt .len (.cons (.var 0) .nil))) .nil (.bin .add (.idx (.var 0) (.var 5)) (.idx (.var 1) (.var 5))))
def f_law_pair_right_v2_c1 : IE :=
  (.comp false (.nm 5) [5] (.rng1 (.blt .len (.cons (.var 0) .nil))) .nil (.bin .sub (.idx (.var 0) (.var 5)) (.idx (.var 0) (.bin .sub (.bin .sub (.blt .len (.cons (.var 0) .nil)) (.k (.int 1))) (.var 5)))))
def f_law_pair_right_v2 : Fn := { name := "_law_pair_right", ps := ["one", "two", "times"], N := ["one", "two", "times", "due", "found", "n"], keep := false, body :=
  (.cons (.set 3 (.blt .tuple (.cons f_law_pair_right_v2_c0 .nil))) (.cons (.set 4 (.lst (.cons (.call 87 (.cons (.var 0) (.cons (.var 1) .nil)) []) (.cons (.callk 87 .nil ["second", "first"] (.cons (.var 1) (.cons (.var 0) .nil)) [1, 0]) (.cons (.call 87 (.cons (.var 1) (.cons (.var 0) .nil)) []) .nil))))) (.cons (.iff (.cmp .ne (.blt .repr (.cons (.var 4) .nil)) (.blt .repr (.cons (.bin .mul (.lst (.cons (.var 3) .nil)) (.k (.int 3))) .nil))) (.cons (.ret (.k (.bl false))) .nil) .nil) (.cons (.iff (.cmp .ne (.call 87 (.cons (.call 86 (.cons (.var 0) (.cons (.var 2) .nil)) []) (.cons (.call 86 (.cons (.var 1) (.cons (.var 2) .nil)) []) .nil)) []) (.call 86 (.cons (.var 3) (.cons (.var 2) .nil)) [])) (.cons (.ret (.k (.bl false))) .nil) .nil) (.cons (.iff (.cmp .ne (.call 87 (.cons (.var 0) (.cons (.call 84 (.cons (.var 0) .nil) []) .nil)) []) (.blt .tuple (.cons f_law_pair_right_v2_c1 .nil))) (.cons (.ret (.k (.bl false))) .nil) .nil) (.cons (.ret (.and (.cmp .eq (.call 84 (.cons (.var 3) .nil) []) (.call 87 (.cons (.call 84 (.cons (.var 1) .nil) []) (.cons (.call 84 (.cons (.var 0) .nil) []) .nil)) [])) (.call 76 (.cons (.var 3) .nil) []))) .nil)))))) }
def f_law_v8_b0 : ISs :=
  (.cons (.unp [3, 4] (.call 14 (.cons (.var 1) .nil) [])) (.cons (.set 5 (.idx (.lst (.cons (.k (.int 0)) (.cons (.k (.int 1)) (.cons (.bin .sub (.k (.int 0)) (.k (.int 1))) (.cons (.bin .sub (.call 11 (.cons (.var 1) (.cons (.k (.int 1000)) .nil)) []) (.k (.int 500))) (.cons (.bin .pow (.k (.int 10)) (.k (.int 30))) (.cons (.bin .sub (.k (.int 0)) (.bin .pow (.k (.int 10)) (.k (.int 60)))) .nil))))))) (.call 11 (.cons (.var 1) (.cons (.k (.int 6)) .nil)) []))) (.cons (.set 6 (.idx (.lst (.cons (.k (.int 0)) (.cons (.k (.int 1)) (.cons (.k (.int 2)) (.cons (.call 11 (.cons (.var 1) (.cons (.k (.int 100)) .nil)) []) (.cons (.bin .pow (.k (.int 10)) (.k (.int 25))) (.cons (.k (.int 7)) .nil))))))) (.call 11 (.cons (.var 1) (.cons (.k (.int 6)) .nil)) []))) (.cons (.set 7 (.blt .repr (.cons (.lst (.cons (.var 3) (.cons (.var 4) .nil))) .nil))) (.cons (.iff (.or (.not (.call 88 (.cons (.var 3) (.cons (.var 5) (.cons (.var 6) .nil))) [])) (.not (.call 88 (.cons (.var 4) (.cons (.var 5) (.cons (.var 6) .nil))) []))) (.cons (.ret (.k (.bl false))) .nil) .nil) (.cons (.iff (.or (.not (.call 89 (.cons (.var 3) (.cons (.var 4) (.cons (.var 6) .nil))) [])) (.cmp .ne (.blt .repr (.cons (.lst (.cons (.var 3) (.cons (.var 4) .nil))) .nil)) (.var 7))) (.cons (.ret (.k (.bl false))) .nil) .nil) .nil))))))
def f_law_v8 : Fn := { name := "law", ps := ["script"], N := ["script", "m", "n", "one", "two", "more", "times", "kept"], keep := false, body :=
  (.cons (.set 1 (.call 12 (.cons (.var 0) .nil) [])) (.cons (.for_ (.nm 2) (.rng1 (.k (.int 8))) f_law_v8_b0) (.cons (.ret (.k (.bl true))) .nil))) }
def f_law_position_v2 : Fn := { name := "_law_position", ps := ["thing_here", "by_name"], N := ["thing_here", "by_name", "error", "found", "e"], keep := false, body :=
  (.cons (.set 2 (.k .non)) (.cons (.set 3 (.k .non)) (.cons (.tri (.cons (.set 3 (.ite (.var 1) (.callk 75 .nil ["value"] (.cons (.var 0) .nil) [0]) (.call 75 (.cons (.var 0) .nil) []))) .nil) 0 (some 4) (.cons (.set 2 (.var 4)) .nil)) (.cons (.iff (.cmp .is (.var 2) (.k .non)) (.cons (.ret (.ite (.cmp .is (.var 3) (.k .non)) (.lst .nil) (.lst (.cons (.var 3) (.cons (.k (.str "returned")) .nil))))) .nil) .nil) (.cons (.ret (.lst (.cons (.fld (.var 2) "position") .nil))) .nil))))) }
def f_law_checked_v3_b0 : ISs :=
  (.cons (.iff (.cmp .ne (.blt .repr (.cons (.call 91 (.cons (.var 0) (.cons (.var 3) .nil)) []) .nil)) (.blt .repr (.cons (.var 1) .nil))) (.cons (.ret (.k (.bl false))) .nil) .nil) .nil)
def f_law_checked_v3 : Fn := { name := "_law_checked", ps := ["thing_here"], N := ["thing_here", "due", "kept", "by_name"], keep := false, body :=
  (.cons (.par 1 2 (.call 22 (.cons (.var 0) .nil) []) (.blt .repr (.cons (.var 0) .nil))) (.cons (.for_ (.nm 3) (.val (.tup (.cons (.k (.bl false)) (.cons (.k (.bl true)) .nil)))) f_law_checked_v3_b0) (.cons (.iff (.cmp .ne (.blt .repr (.cons (.lst (.cons (.call 76 (.cons (.var 0) .nil) []) (.cons (.callk 76 .nil ["value"] (.cons (.var 0) .nil) [0]) .nil))) .nil)) (.blt .repr (.cons (.bin .mul (.lst (.cons (.cmp .eq (.var 1) (.lst .nil)) .nil)) (.k (.int 2))) .nil))) (.cons (.ret (.k (.bl false))) .nil) .nil) (.cons (.set 1 (.bin .mul (.lst (.cons (.call 21 (.cons (.var 0) .nil) []) .nil)) (.k (.int 2)))) (.cons (.ret (.and (.cmp .eq (.blt .repr (.cons (.lst (.cons (.call 0 (.cons (.var 0) .nil) []) (.cons (.callk 0 .nil ["value"] (.cons (.var 0) .nil) [0]) .nil))) .nil)) (.blt .repr (.cons (.var 1) .nil))) (.cmp .eq (.blt .repr (.cons (.var 0) .nil)) (.var 2)))) .nil))))) }
def f_law_nested_checked_v3_b0 : ISs :=
  (.cons (.set 1 (.call 20 (.cons (.var 0) .nil) [])) (.cons (.iff (.cmp .ne (.lst (.cons (.call 0 (.cons (.var 1) .nil) []) (.cons (.call 76 (.cons (.var 1) .nil) []) (.cons (.call 76 (.cons (.tup (.cons (.var 1) .nil)) .nil) []) (.cons (.call 76 (.cons (.tup (.cons (.k (.int 3)) (.cons (.var 1) .nil))) .nil) []) .nil))))) (.bin .mul (.lst (.cons (.k (.bl false)) .nil)) (.k (.int 4)))) (.cons (.ret (.k (.bl false))) .nil) .nil) (.cons (.iff (.cmp .ne (.lst (.cons (.call 91 (.cons (.tup (.cons (.var 1) .nil)) (.cons (.k (.bl false)) .nil)) []) (.cons (.call 91 (.cons (.tup (.cons (.k (.int 3)) (.cons (.var 1) .nil))) (.cons (.k (.bl false)) .nil)) []) .nil))) (.lst (.cons (.lst (.cons (.k (.int 0)) .nil)) (.cons (.lst (.cons (.k (.int 1)) .nil)) .nil)))) (.cons (.ret (.k (.bl false))) .nil) .nil) .nil)))
def f_law_nested_checked_v3 : Fn := { name := "_law_nested_checked", ps := [], N := ["way", "far"], keep := false, body :=
  (.cons (.for_ (.nm 0) (.rng1 (.k (.int 2))) f_law_nested_checked_v3_b0) (.cons (.ret (.and (.cmp .eq (.call 91 (.cons (.call 20 (.cons (.k (.int 0)) .nil) []) (.cons (.k (.bl false)) .nil)) []) (.lst (.cons (.k (.int 0)) .nil))) (.cmp .eq (.call 91 (.cons (.call 20 (.cons (.k (.int 1)) .nil) []) (.cons (.k (.bl false)) .nil)) []) (.lst (.cons (.k .non) .nil))))) .nil)) }
def f_law_v9_c0 : IE :=
  (.comp false (.nm 7) [7] (.val (.var 3)) .nil (.bin .mul (.var 7) (.bin .pow (.k (.int 10)) (.k (.int 40)))))
def f_law_v9_b1 : ISs :=
  (.cons (.iff (.not (.call 92 (.cons (.var 6) .nil) [])) (.cons (.ret (.k (.bl false))) .nil) .nil) .nil)
def f_law_v9_b2 : ISs :=
  (.cons (.set 3 (.call 13 (.cons (.var 1) (.cons (.bin .add (.k (.int 1)) (.call 11 (.cons (.var 1) (.cons (.k (.int 6)) .nil)) [])) (.cons (.call 11 (.cons (.var 1) (.cons (.k (.int 30)) .nil)) []) .nil))) [])) (.cons (.set 3 (.ite (.cmp .gt (.call 11 (.cons (.var 1) (.cons (.k (.int 5)) .nil)) []) (.k (.int 0))) (.var 3) (.blt .tuple (.cons f_law_v9_c0 .nil)))) (.cons (.set 4 (.call 19 (.cons (.var 1) (.cons (.var 3) .nil)) [])) (.cons (.set 5 (.lst (.cons (.var 3) (.cons (.var 4) (.cons (.call 19 (.cons (.var 1) (.cons (.var 4) .nil)) []) (.cons (.call 18 (.cons (.var 1) (.cons (.var 3) .nil)) []) (.cons (.bin .add (.var 3) (.sl (.var 3) (.so (.neg (.k (.int 1)))) .no)) (.cons (.bin .mul (.var 3) (.k (.int 2))) (.cons (.rev (.var 3)) .nil))))))))) (.cons (.for_ (.nm 6) (.val (.bin .add (.var 5) (.lst (.cons (.sl (.var 3) .no (.so (.k (.int 1)))) (.cons (.tup .nil) (.cons (.blt .list (.cons (.var 3) .nil)) (.cons (.idx (.var 3) (.k (.int 0))) (.cons (.blt .str (.cons (.var 3) .nil)) .nil)))))))) f_law_v9_b1) .nil)))))
def f_law_v9 : Fn := { name := "law", ps := ["script"], N := ["script", "m", "n", "part", "changed", "some", "thing_here", "item"], keep := false, body :=
  (.cons (.set 1 (.call 12 (.cons (.var 0) .nil) [])) (.cons (.for_ (.nm 2) (.rng1 (.k (.int 10))) f_law_v9_b2) (.cons (.ret (.and (.call 93 .nil []) (.cmp .eq (.glob "MAX_SIZE" (.int 6)) (.k (.int 6))))) .nil))) }
def fields : Nat → List Str
  | 0 => ["position"]
  | 1 => ["value"]
  | 2 => ["sizes"]
  | 3 => ["row"]
  | 4 => ["value"]
  | 5 => ["value"]
  | 6 => ["value"]
  | _ => []
end MI
namespace MI
open PySem L2
theorem take_all {α : Type} (h : List α) : h.take h.length = h := List.take_length
theorem run_eq (P : Prg) (k j B : Nat) (vs : List MV) (h : Sto) : callI P (k + 1) j B vs h = MI.run P (callI P k) j B vs h := rfl
/-- the turn of a for -/
def forF (c : Cn) (tg : TG) (b : ISs) : Item → MI.Env → Sto → RS := fun x e h => match give tg x h e with
  | some e' => evB c b e' h
  | none => none
theorem evS_for (c : Cn) (tg : TG) (it : IT) (b : ISs) (e : MI.Env) (h : Sto) : evS c (.for_ tg it b) e h = (match evI c it e h with
    | .ok (its, h) => loop (forF c tg b) its e h
    | .exc k fs h => some (.ex k fs e, h)
    | .bad => none) := by rw [evS]; try rfl
/-- what every law's program has -/
class Bas (P : Prg) : Prop where
  fuel : P.fuel = 100000
  rp : P.rp = rpOf
  fields : P.fields = fields
  sub : P.sub = fun a b => a == b
/-- def j is F -/
class Fi (P : Prg) (j : Nat) (F : outParam Fn) : Prop where
  h : P.fns j = some F
/-- error class c is there -/
class Nx (P : Prg) (c : Nat) : Prop where
  h : P.nx c = true
/-- the context of a def's body, its calls k deep -/
def cn (P : Prg) (k B : Nat) : Cn := ⟨callI P k, 100000, B, rpOf, fields, P.nx, fun a b => a == b⟩
theorem cn_C (P : Prg) (k B : Nat) : (cn P k B).C = callI P k := rfl
theorem cn_B (P : Prg) (k B : Nat) : (cn P k B).B = B := rfl
theorem cn_rp (P : Prg) (k B : Nat) : (cn P k B).rp = rpOf := rfl
theorem cn_f (P : Prg) (k B : Nat) : (cn P k B).fields = fields := rfl
theorem cn_nx (P : Prg) (k B : Nat) : (cn P k B).nx = P.nx := rfl
theorem cn_sub (P : Prg) (k B a b : Nat) : (cn P k B).sub a b = (a == b) := rfl
theorem cn_fuel (P : Prg) (k B : Nat) : (cn P k B).fuel = 100000 := rfl
variable {P : Prg} [Bas P]
open Lean.Parser.Tactic in
local macro_rules | `(tactic| dsimp! [$ts,*]) => `(tactic| simp only [evB, evS_for, evE_comp, evT, evEs, evC, evO, evI, evE.eq_1, evE.eq_2, evE.eq_3, evE.eq_4, evE.eq_5, evE.eq_6, evE.eq_7, evE.eq_8, evE.eq_9, evE.eq_10, evE.eq_11, evE.eq_12, evE.eq_13, evE.eq_14, evE.eq_15, evE.eq_16, evE.eq_17, evE.eq_18, evE.eq_19, evE.eq_20, evE.eq_21, evE.eq_22, evE.eq_23, evE.eq_25, evE.eq_26, evE.eq_27, evE.eq_28, evE.eq_29, evE.eq_30, evS.eq_1, evS.eq_2, evS.eq_3, evS.eq_4, evS.eq_5, evS.eq_6, evS.eq_7, evS.eq_8, evS.eq_11, evS.eq_12, evS.eq_13, evS.eq_14, evS.eq_15, cn_C, cn_B, cn_rp, cn_f, cn_nx, cn_sub, cn_fuel, MI.start, List.map_cons, List.map_nil, List.length_cons, List.length_nil, List.replicate, List.cons_append, List.nil_append, List.append_nil, List.singleton_append, List.getElem?_cons_zero, List.getElem?_cons_succ, List.set_cons_zero, List.set_cons_succ, seq1_ok, seqL_ok, okP, Bool.false_eq_true, if_false, if_true, Bool.not_true, Bool.not_false, Nat.reduceSub, MI.close, take_all, $ts,*])
/-- one def, not kept -/
theorem run_fn {k j B : Nat} {vs : List MV} {h : Sto} {F : Fn} (hf : P.fns j = some F) (hk : F.keep = false) (hl : vs.length = F.ps.length) : callI P (k + 1) j B vs h = (match evB (cn P k h.length) F.body (MI.start F.N vs) h with
    | some (.rt v, h') => MI.close false h.length v h'
    | some (.nx _, h') => MI.close false h.length (.pv .non) h'
    | some (.ex c fs _, h') => .exc c fs (h'.take h.length)
    | _ => .bad) := by
  rw [run_eq]
  simp only [MI.run, hf, hl, if_true, hk, Bool.false_eq_true, if_false, Bas.fuel, Bas.rp, Bas.fields, Bas.sub]
  rfl
theorem c_int [Fi P 0 f_is_integer] (k B : Nat) (i : Int) (h : Sto) : callI P (k + 1) 0 B [.pv (.int i)] h = .ok (.pv (.bl true), h) := by
  rw [run_fn (F := f_is_integer) Fi.h rfl rfl]
  simp [f_is_integer, evB, evS, evE, MI.start, isTy, snap, okP, okB, truth, MI.close]
theorem c_fac [Fi P 0 f_is_integer] [Fi P 4 f_check_factor] (k B : Nat) (i : Int) (h : Sto) (hi : 0 ≤ i) : callI P (k + 2) 4 B [.pv (.int i)] h = .ok (.pv .non, h) := by
  rw [run_fn (F := f_check_factor) Fi.h rfl rfl]
  have e : ¬ i < 0 := by omega
  dsimp! [f_check_factor, c_int, truth, oCmp, ints2, e, decide_false]
theorem loop_ind {f : Item → MI.Env → Sto → RS} : ∀ (xs : List Item) (I : Nat → MI.Env → Sto → Prop) (n : Nat) (e : MI.Env) (h : Sto), (∀ i x e h, xs[i]? = some x → I (n + i) e h → ∃ e' h', (f x e h = some (.nx e', h') ∨ f x e h = some (.ct e', h')) ∧ I (n + i + 1) e' h') → I n e h →
    ∃ e' h', loop f xs e h = some (.nx e', h') ∧ I (n + xs.length) e' h'
  | [], I, n, e, h, _, i0 => ⟨e, h, rfl, i0⟩
  | x :: xs, I, n, e, h, st, i0 => by
    obtain ⟨e1, h1, q, i1⟩ := st 0 x e h rfl i0
    obtain ⟨e2, h2, q2, i2⟩ := loop_ind xs I (n + 1) e1 h1 (fun i y e h hy hi => by
      have := st (i + 1) y e h (by simpa using hy) (by rw [show n + (i + 1) = n + 1 + i by omega]; exact hi)
      rw [show n + (i + 1) + 1 = n + 1 + i + 1 by omega] at this
      exact this) i1
    refine ⟨e2, h2, ?_, by rw [List.length_cons, show n + (xs.length + 1) = n + 1 + xs.length by omega]; exact i2⟩
    rcases q with q | q <;> simp only [loop, q] <;> exact q2
def Dec (xs : List Int) : Prop := ∀ i a b, xs[i]? = some a → xs[i + 1]? = some b → b ≤ a
def tupI (xs : List Int) : PV := .tup (xs.map .int)
theorem enum_at {xs : List Int} {i : Nat} {x : Item} (e : (enumFrom 0 ((xs.map PV.int).map MV.pv))[i]? = some x) : ∃ a, xs[i]? = some a ∧ x = .many [.pv (.int (i : Int)), .pv (.int a)] := by
  obtain ⟨v, h1, h2⟩ := enum_get e
  rw [List.map_map, List.getElem?_map] at h1
  cases q : xs[i]? with
  | none => rw [q] at h1; cases h1
  | some a => rw [q] at h1; cases h1; exact ⟨a, rfl, by rw [h2, Nat.zero_add]; try rfl⟩
theorem ixN_nat {n i : Nat} (h : i < n) : MI.ixN n (i : Int) = some i := by
  unfold MI.ixN
  rw [if_pos (by omega), if_pos (by omega)]; simp
theorem idx_tup {xs : List Int} {i : Nat} {a : Int} (h : Sto) (e : xs[i]? = some a) : oIdx (.pv (tupI xs)) (.pv (.int (i : Int))) h = .ok (.pv (.int a), h) := by
  have hl := (List.getElem?_eq_some_iff.mp e).1
  simp only [oIdx, tupI, List.length_map, ixN_nat hl, List.getElem?_map, e, Option.map_some, okP]
theorem step_part [Fi P 0 f_is_integer] (k B : Nat) (xs : List Int) (hd : Dec xs) (i : Nat) (a : Int) (o1 o2 : Option MV) (h : Sto) (ha : xs[i]? = some a) : ∃ e', forF (cn P (k + 1) B) (.tp [1, 2]) f_check_partition_b0 (.many [.pv (.int (i : Int)), .pv (.int a)]) [some (.pv (tupI xs)), o1, o2] h = some (.nx e', h) ∧ ∃ o1 o2, e' = [some (.pv (tupI xs)), o1, o2] := by
  refine ⟨[some (.pv (tupI xs)), some (.pv (.int (i : Int))), some (.pv (.int a))], ?_, _, _, rfl⟩
  have hp : decide ((0 : Int) < ((i : Nat) : Int)) = decide (0 < i) := by simp
  cases i with
  | zero => dsimp! [forF, give, setAll, f_check_partition_b0, c_int, truth, oCmp, ints2, hp, Nat.lt_irrefl, decide_false]
  | succ i =>
    have hl := (List.getElem?_eq_some_iff.mp ha).1
    have hb : xs[i]? = some xs[i] := List.getElem?_eq_getElem (by omega)
    have hle := hd i _ a hb ha
    have hle' : ¬ xs[i] < a := by omega
    have hi : ((i + 1 : Nat) : Int) - 1 = (i : Int) := by omega
    have hp : (0 : Int) < ((i + 1 : Nat) : Int) := by omega
    dsimp! [forF, give, setAll, f_check_partition_b0, c_int, truth, oCmp, ints2, oBin, snap, hi, hp, decide_true, idx_tup _ hb, hle', decide_false]
theorem c_part [Fi P 0 f_is_integer] [Fi P 1 f_check_partition] (k B : Nat) (xs : List Int) (h : Sto) (h1 : 1 ≤ xs.length) (h6 : xs.length ≤ 6) (hd : Dec xs) : callI P (k + 2) 1 B [.pv (tupI xs)] h = .ok (.pv .non, h) := by
  rw [run_fn (F := f_check_partition) Fi.h rfl rfl]
  have e1 : (1 : Int) ≤ (xs.length : Int) := by omega
  have e2 : (xs.length : Int) ≤ 6 := by omega
  obtain ⟨e', h', q, ⟨o1, o2, rfl⟩, rfl⟩ := loop_ind (f := forF (cn P (k + 1) h.length) (.tp [1, 2]) f_check_partition_b0)
    (enumFrom 0 ((xs.map PV.int).map MV.pv)) (fun i e h' => (∃ o1 o2, e = ([some (MV.pv (tupI xs)), o1, o2] : MI.Env)) ∧ h' = h) 0 [some (MV.pv (tupI xs)), none, none] h (by
      rintro i x e h' hx ⟨⟨o1, o2, rfl⟩, rfl⟩
      obtain ⟨a, ha, rfl⟩ := enum_at hx
      obtain ⟨e', q, r⟩ := step_part (P := P) k h'.length xs hd i a o1 o2 h' ha
      exact ⟨e', h', .inl q, r, rfl⟩) ⟨⟨_, _, rfl⟩, rfl⟩
  simp only [tupI] at q
  dsimp! [f_check_partition, tupI, isTy, snap, truth, oBlt, seqv, List.length_map, oCmp, ints2, e1, e2, decide_true, itemsOf, q]
theorem c_isp [Fi P 0 f_is_integer] [Fi P 1 f_check_partition] [Fi P 2 f_is_partition] (k B : Nat) (xs : List Int) (h : Sto) (h1 : 1 ≤ xs.length) (h6 : xs.length ≤ 6) (hd : Dec xs) : callI P (k + 3) 2 B [.pv (tupI xs)] h = .ok (.pv (.bl true), h) := by
  rw [run_fn (F := f_is_partition) Fi.h rfl rfl]
  dsimp! [f_is_partition, c_part k _ xs h h1 h6 hd]

theorem turns_one {α : Type} {f : Item → Sto → R (Option MV × Sto)} {mk : α → Item} {g : α → MV} {h : Sto} : ∀ (l : List α), (∀ a ∈ l, f (mk a) h = .ok (some (g a), h)) → turns f (l.map mk) h = .ok (l.map g, h)
  | [], _ => rfl
  | a :: l, q => by
    simp only [List.map_cons, turns, q a List.mem_cons_self, turns_one l fun b hb => q b (List.mem_cons_of_mem _ hb)]
theorem pures_ints {α : Type} (φ : α → Int) : ∀ l : List α, pures (l.map fun a => MV.pv (.int (φ a))) = some (l.map fun a => PV.int (φ a))
  | [] => rfl
  | a :: l => by simp only [List.map_cons, pures, pures_ints φ l]
theorem size_le {n : Nat} (h : n ≤ 1000) : n ≤ sizeLim := by unfold sizeLim; omega
/-- [φ(x) for x in ..] of ints -/
theorem comp_ints {α : Type} {c : Cn} {tg : TG} {own : List Nat} {it : IT} {el : IE} {e : MI.Env} {h : Sto} {l : List α} {mk : α → Item} {φ : α → Int} (hi : evI c it e h = .ok (l.map mk, h)) (hl : l.length ≤ 1000) (hf : ∀ a ∈ l, compF c tg own .nil el e (mk a) h = .ok (some (.pv (.int (φ a))), h)) :
    evE c (.comp false tg own it .nil el) e h = .ok (.pv (.lst (l.map fun a => .int (φ a))), h) := by
  rw [evE_comp, hi]
  simp only [turns_one (g := fun a => .pv (.int (φ a))) l hf, seqL_ok, oLst, List.length_map, size_le hl, if_true, Bool.false_eq_true, if_false, pures_ints, okP]
theorem ones (xs : List Int) : ((xs.map PV.int).map MV.pv).map Item.one = xs.map fun a => Item.one (.pv (.int a)) := by simp [List.map_map, Function.comp_def]
theorem c_neg [Fi P 0 f_is_integer] [Fi P 1 f_check_partition] [Fi P 5 f_negate] (k B : Nat) (xs : List Int) (h : Sto) (h1 : 1 ≤ xs.length) (h6 : xs.length ≤ 6) (hd : Dec xs) : callI P (k + 3) 5 B [.pv (tupI xs)] h = .ok (.pv (tupI (xs.reverse.map fun a => -a)), h) := by
  rw [run_fn (F := f_negate) Fi.h rfl rfl]
  have e1 : evE (cn P (k + 2) h.length) f_negate_c0 [some (.pv (tupI xs)), none] h = .ok (.pv (.lst (xs.reverse.map fun a => .int (-a))), h) := by
    refine comp_ints (l := xs.reverse) (mk := fun a => .one (.pv (.int a))) ?_ (by simp; omega) ?_
    · dsimp! [oRev, snap, tupI, itemsOf, ← List.map_reverse, ones]
    · intro a _
      dsimp! [compF, give, MI.wipe]
  dsimp! [f_negate, c_part _ _ xs _ h1 h6 hd, e1, oBlt, seqp, seqv, pures_map]
  simp only [tupI, List.map_map, Function.comp_def]
theorem c_shift [Fi P 0 f_is_integer] [Fi P 1 f_check_partition] [Fi P 6 f_shift] (k B : Nat) (xs : List Int) (y : Int) (h : Sto) (h1 : 1 ≤ xs.length) (h6 : xs.length ≤ 6) (hd : Dec xs) : callI P (k + 3) 6 B [.pv (tupI xs), .pv (.int y)] h = .ok (.pv (tupI (xs.map fun a => a + y)), h) := by
  rw [run_fn (F := f_shift) Fi.h rfl rfl]
  have e1 : evE (cn P (k + 2) h.length) f_shift_c0 [some (.pv (tupI xs)), some (.pv (.int y)), none] h = .ok (.pv (.lst (xs.map fun a => .int (a + y))), h) := by
    refine comp_ints (l := xs) (mk := fun a => .one (.pv (.int a))) ?_ (by omega) ?_
    · dsimp! [tupI, itemsOf, ones]
    · intro a _
      dsimp! [compF, give, MI.wipe, oBin, snap]
  dsimp! [f_shift, c_part _ _ xs _ h1 h6 hd, c_int, truth, e1, oBlt, seqp, seqv, pures_map]
  simp only [tupI, List.map_map, Function.comp_def]
theorem c_scale [Fi P 0 f_is_integer] [Fi P 1 f_check_partition] [Fi P 4 f_check_factor] [Fi P 7 f_scale_partition] (k B : Nat) (xs : List Int) (y : Int) (h : Sto) (h1 : 1 ≤ xs.length) (h6 : xs.length ≤ 6) (hd : Dec xs) (hy : 0 ≤ y) (hb : ∀ a ∈ xs, a.natAbs.log2 + y.natAbs.log2 < 1000000) : callI P (k + 3) 7 B [.pv (tupI xs), .pv (.int y)] h = .ok (.pv (tupI (xs.map fun a => a * y)), h) := by
  rw [run_fn (F := f_scale_partition) Fi.h rfl rfl]
  have e1 : evE (cn P (k + 2) h.length) f_scale_partition_c0 [some (.pv (tupI xs)), some (.pv (.int y)), none] h = .ok (.pv (.lst (xs.map fun a => .int (a * y))), h) := by
    refine comp_ints (l := xs) (mk := fun a => .one (.pv (.int a))) ?_ (by omega) ?_
    · dsimp! [tupI, itemsOf, ones]
    · intro a ha
      dsimp! [compF, give, MI.wipe, oBin, snap, hb a ha]
  dsimp! [f_scale_partition, c_part _ _ xs _ h1 h6 hd, c_fac _ _ y _ hy, truth, e1, oBlt, seqp, seqv, pures_map]
  simp only [tupI, List.map_map, Function.comp_def]
theorem zip_ints : ∀ xs ys : List Int, zipI ((xs.map PV.int).map MV.pv) ((ys.map PV.int).map MV.pv) = (xs.zip ys).map fun p => Item.many [.pv (.int p.1), .pv (.int p.2)]
  | [], _ => by simp [zipI]
  | _ :: _, [] => by simp [zipI]
  | x :: xs, y :: ys => by simpa [zipI] using zip_ints xs ys
theorem blt_len (rp : PV → Str) (xs : List Int) (h : Sto) : oBlt rp .len [.pv (tupI xs)] h = .ok (.pv (.int (xs.length : Int)), h) := by simp [oBlt, seqv, tupI, okP]
theorem blt_tup (rp : PV → Str) (xs : List PV) (h : Sto) : oBlt rp .tuple [.pv (.lst xs)] h = .ok (.pv (.tup xs), h) := by simp [oBlt, seqp, seqv, pures_map, okP]
theorem ne_int (a b : Int) (h : Sto) : oCmp .ne (.pv (.int a)) (.pv (.int b)) h = .ok (.pv (.bl (!(a == b))), h) := by simp [oCmp, snap, eqOf, MI.plain, pvEq, okB, okP]
theorem isT_tup (xs : List Int) : isTupV (.pv (tupI xs)) = true := rfl
theorem items_tup (xs : List Int) (h : Sto) : itemsOf (.pv (tupI xs)) h = some ((xs.map PV.int).map MV.pv) := rfl
def addL (xs ys : List Int) : List Int := (xs.zip ys).map fun p => p.1 + p.2
theorem ne_intE (a b : Int) (h : Sto) : oCmp .ne (.pv (.int a)) (.pv (.int b)) h = .ok (.pv (.bl (!(a == b))), h) := by simp [oCmp, snap, eqOf, MI.plain, pvEq, okB, okP]
/-- tuples of one size, all in order -/
theorem c_eqsz [Fi P 0 f_is_integer] [Fi P 1 f_check_partition] [Fi P 3 f_check_equal_sizes] (k B : Nat) (ls : List (List Int)) (h : Sto) (n : Nat) (hn : 1 ≤ n) (hn6 : n ≤ 6) (h0 : 1 ≤ ls.length) (hl2 : ls.length ≤ 10) (hl : ∀ xs ∈ ls, xs.length = n) (hd : ∀ xs ∈ ls, Dec xs) :
    callI P (k + 3) 3 B [.pv (.tup (ls.map tupI))] h = .ok (.pv .non, h) := by
  rw [run_fn (F := f_check_equal_sizes) Fi.h rfl rfl]
  obtain ⟨e', h', q, ⟨o1, rfl⟩, rfl⟩ := loop_ind (f := forF (cn P (k + 2) h.length) (.nm 1) f_check_equal_sizes_b0)
    (((ls.map tupI).map MV.pv).map Item.one) (fun i e h' => (∃ o1, e = ([some (MV.pv (.tup (ls.map tupI))), o1, none] : MI.Env)) ∧ h' = h) 0 [some (MV.pv (.tup (ls.map tupI))), none, none] h (by
      rintro i x e h' hx ⟨⟨o1, rfl⟩, rfl⟩
      rw [List.map_map, List.map_map, List.getElem?_map] at hx
      cases q : ls[i]? with
      | none => rw [q] at hx; cases hx
      | some xs =>
        rw [q] at hx
        cases hx
        have hm := List.mem_of_getElem? q
        refine ⟨[some (MV.pv (.tup (ls.map tupI))), some (.pv (tupI xs)), none], h', .inl ?_, ⟨_, rfl⟩, rfl⟩
        dsimp! [forF, give, f_check_equal_sizes_b0, Function.comp_apply, c_part k _ xs h' (by rw [hl xs hm]; exact hn) (by rw [hl xs hm]; exact hn6) (hd xs hm)]) ⟨⟨_, rfl⟩, rfl⟩
  have e1 : evE (cn P (k + 2) h'.length) f_check_equal_sizes_c1 [some (MV.pv (.tup (ls.map tupI))), o1, none] h' = .ok (.pv (.lst (ls.map fun xs => .int (n : Int))), h') := by
    refine comp_ints (l := ls) (mk := fun xs => .one (.pv (tupI xs))) (φ := fun _ => (n : Int)) ?_ (by omega) ?_
    · dsimp! [itemsOf, List.map_map, Function.comp_def]
    · intro xs hm
      dsimp! [compF, give, MI.wipe, blt_len, hl xs hm]
  have ei : ∀ l : List (List Int), toInts (l.map fun _ => PV.int (n : Int)) = some (l.map fun _ => (n : Int)) := by
    intro l
    induction l with
    | nil => rfl
    | cons a l ih => simp only [List.map_cons, toInts, ih]
  obtain ⟨x, xs, hls⟩ : ∃ x xs, ls = x :: xs := by
    cases ls with
    | nil => simp at h0
    | cons x xs => exact ⟨x, xs, rfl⟩
  have em : ∀ l : List (List Int), minI (n : Int) (l.map fun _ => (n : Int)) = n ∧ maxI (n : Int) (l.map fun _ => (n : Int)) = n := by
    intro l
    induction l with
    | nil => exact ⟨rfl, rfl⟩
    | cons a l ih =>
      unfold minI maxI at ih ⊢
      simp only [List.map_cons, List.foldl_cons, Int.lt_irrefl, if_false]
      exact ih
  have emin : oBlt rpOf .min [.pv (.tup (ls.map fun _ => PV.int (n : Int)))] h' = .ok (.pv (.int (n : Int)), h') := by
    rw [hls]
    have ep : seqp (.pv (.tup ((x :: xs).map fun _ => PV.int (n : Int)))) h' = some ((x :: xs).map fun _ => PV.int (n : Int)) := by simp only [seqp, seqv, pures_map]
    simp only [oBlt, ep, ei]
    simp only [List.map_cons, (em xs).1, okP]
  have emax : oBlt rpOf .max [.pv (.tup (ls.map fun _ => PV.int (n : Int)))] h' = .ok (.pv (.int (n : Int)), h') := by
    rw [hls]
    have ep : seqp (.pv (.tup ((x :: xs).map fun _ => PV.int (n : Int)))) h' = some ((x :: xs).map fun _ => PV.int (n : Int)) := by simp only [seqp, seqv, pures_map]
    simp only [oBlt, ep, ei]
    simp only [List.map_cons, (em xs).2, okP]
  generalize hb : f_check_equal_sizes_b0 = b0 at q
  generalize hc : f_check_equal_sizes_c1 = c1 at e1
  dsimp! [f_check_equal_sizes, hb, hc, itemsOf, q, e1, blt_tup, emin, emax, ne_intE, beq_self_eq_true, truth]
theorem c_add [Fi P 0 f_is_integer] [Fi P 1 f_check_partition] [Fi P 3 f_check_equal_sizes] [Fi P 8 f_add_partitions] (k B : Nat) (xs ys : List Int) (h : Sto) (h1 : 1 ≤ xs.length) (h6 : xs.length ≤ 6) (hd : Dec xs) (hl : ys.length = xs.length) (hd2 : Dec ys) : callI P (k + 4) 8 B [.pv (tupI xs), .pv (tupI ys)] h = .ok (.pv (tupI (addL xs ys)), h) := by
  rw [run_fn (F := f_add_partitions) Fi.h rfl rfl]
  have e1 : evE (cn P (k + 3) h.length) f_add_partitions_c0 [some (.pv (tupI xs)), some (.pv (tupI ys)), none, none] h = .ok (.pv (.lst ((xs.zip ys).map fun p => .int (p.1 + p.2))), h) := by
    refine comp_ints (l := xs.zip ys) (mk := fun p => .many [.pv (.int p.1), .pv (.int p.2)]) ?_ (by simp; omega) ?_
    · dsimp! [items_tup, isT_tup, zip_ints]
    · intro a ha
      dsimp! [compF, give, setAll, MI.wipe, oBin, snap]
  have e2 := c_eqsz (P := P) k h.length [xs, ys] h xs.length h1 h6 (by simp) (by simp) (by simp [hl]) (by simp [hd, hd2])
  simp only [List.map_cons, List.map_nil] at e2
  dsimp! [f_add_partitions, e2, truth, e1, blt_tup, pures, size_le (show 2 ≤ 1000 by omega), Nat.reduceAdd]
  simp only [tupI, addL, List.map_map, Function.comp_def]
theorem addE (a b : Int) (h : Sto) : oBin .add (.pv (.int a)) (.pv (.int b)) h = .ok (.pv (.int (a + b)), h) := rfl
theorem subE (a b : Int) (h : Sto) : oBin .sub (.pv (.int a)) (.pv (.int b)) h = .ok (.pv (.int (a - b)), h) := rfl
theorem mulE (a b : Int) (h : Sto) (p : a.natAbs.log2 + b.natAbs.log2 < 1000000) : oBin .mul (.pv (.int a)) (.pv (.int b)) h = .ok (.pv (.int (a * b)), h) := by
  simp only [oBin, snap, p, if_true, okP]
theorem modE (a b : Int) (h : Sto) (p : 0 < b) : oBin .mod (.pv (.int a)) (.pv (.int b)) h = .ok (.pv (.int (a % b)), h) := by
  simp only [oBin, snap, p, if_true, okP]
theorem divE (a b : Int) (h : Sto) (p : 0 < b) (q : b.natAbs.log2 < 9000) : oBin .fdiv (.pv (.int a)) (.pv (.int b)) h = .ok (.pv (.int (a / b)), h) := by
  simp only [oBin, snap, p, q, and_self, if_true, okP]
/-- not longer than p bits -/
def Bd (p : Nat) (i : Int) : Prop := i.natAbs < 2 ^ p
theorem Bd.lg {p : Nat} {i : Int} (h : Bd p i) : i.natAbs.log2 ≤ p := by
  by_cases z : i.natAbs = 0
  · rw [z]; simp
  · exact Nat.le_of_lt ((Nat.log2_lt z).mpr h)
theorem Bd.mul {p q : Nat} {i j : Int} (h : Bd p i) (k : Bd q j) : Bd (p + q) (i * j) := by
  unfold Bd at *
  rw [Int.natAbs_mul, Nat.pow_add]
  exact Nat.mul_lt_mul'' h k
theorem Bd.two {p q : Nat} {i j : Int} (h : Bd p i) (k : Bd q j) (z : p + q < 1000000) : i.natAbs.log2 + j.natAbs.log2 < 1000000 := by
  have := h.lg
  have := k.lg
  omega
theorem Bd.up {p q : Nat} {i : Int} (h : Bd p i) (z : p ≤ q) : Bd q i := Nat.lt_of_lt_of_le h (Nat.pow_le_pow_right (by decide) z)
theorem bd40 {i : Int} (h : 0 ≤ i) (h2 : i < 1099511627776) : Bd 40 i := by unfold Bd; omega
theorem mod_pos' {a b : Int} (h : 0 < b) : 0 ≤ a % b ∧ a % b < b := ⟨Int.emod_nonneg a (by omega), Int.emod_lt_of_pos a h⟩
def mix (c n : Int) : Int := (c * (1 + 2 * n) * 48271 % 2147483647 + 7919 * n * n + 104729 * n) * 69621 % 2147483629 / 7
theorem mix_b (c n : Int) : 0 ≤ mix c n ∧ mix c n < 306783376 := by
  have := mod_pos' (a := (c * (1 + 2 * n) * 48271 % 2147483647 + 7919 * n * n + 104729 * n) * 69621) (b := 2147483629) (by omega)
  unfold mix
  omega
theorem Bd.add {p : Nat} {i j : Int} (h : Bd p i) (k : Bd p j) : Bd (p + 1) (i + j) := by
  unfold Bd at *
  rw [Nat.pow_succ]; omega
theorem c_mix [Fi P 9 f_law_mixed] (k B : Nat) (c n : Int) (h : Sto) (hc : 0 ≤ c) (hc2 : c < 1099511627776) (hn : 0 ≤ n) (hn2 : n < 1048576) : callI P (k + 1) 9 B [.pv (.int c), .pv (.int n)] h = .ok (.pv (.int (mix c n)), h) := by
  rw [run_fn (F := f_law_mixed) Fi.h rfl rfl]
  have b2 : Bd 40 (2 : Int) := bd40 (by omega) (by omega)
  have bn : Bd 40 n := bd40 hn (by omega)
  have bt : Bd 40 (1 + 2 * n) := bd40 (by omega) (by omega)
  have bc := bd40 hc hc2
  have b4 : Bd 40 (48271 : Int) := bd40 (by omega) (by omega)
  have b7 : Bd 40 (7919 : Int) := bd40 (by omega) (by omega)
  have b1 : Bd 40 (104729 : Int) := bd40 (by omega) (by omega)
  have b6 : Bd 40 (69621 : Int) := bd40 (by omega) (by omega)
  have m := mod_pos' (a := c * (1 + 2 * n) * 48271) (b := 2147483647) (by omega)
  have bm : Bd 40 (c * (1 + 2 * n) * 48271 % 2147483647) := bd40 m.1 (by omega)
  have s := ((bm.up (show 40 ≤ 120 by omega)).add ((b7.mul bn).mul bn)).add ((b1.mul bn).up (show 40 + 40 ≤ 121 by omega))
  have p1 := b2.two bn (by omega)
  have p2 := bc.two bt (by omega)
  have p3 := (bc.mul bt).two b4 (by omega)
  have p4 := b7.two bn (by omega)
  have p5 := (b7.mul bn).two bn (by omega)
  have p6 := b1.two bn (by omega)
  have p7 := s.two b6 (by omega)
  dsimp! [f_law_mixed, addE, mulE _ _ _ p1, mulE _ _ _ p2, mulE _ _ _ p3, mulE _ _ _ p4, mulE _ _ _ p5, mulE _ _ _ p6, modE _ (2147483647 : Int) _ (by omega), mulE _ _ _ p7, modE _ (2147483629 : Int) _ (by omega), divE _ (7 : Int) _ (by omega) (by decide)]
  rfl
/-- what the law draws from: its cells, its great numbers, its spot; ext: what else stands in the store -/
def stS (sc cells great : List Int) (s : Int) (ext : Sto) : Sto := .lock (sc.map .int) :: .lst [] :: .dct [(.inr "cells", .pv (.lst (cells.map .int))), (.inr "great", .loc 3), (.inr "spot", .pv (.int s))] :: .lst (great.map fun a => .pv (.int a)) :: ext
structure Good0 (cells great : List Int) (s : Int) : Prop where
  len : cells.length = 64
  cl : ∀ (i : Nat) (a : Int), cells[i]? = some a → 0 ≤ a ∧ a < 2147483647
  gr : ∀ (i : Nat) (a : Int), great[i]? = some a → 0 ≤ a
  s0 : 0 ≤ s
  s1 : s < 1000000
theorem idx_spot (sc cells great : List Int) (s : Int) (ext : Sto) : oIdx (.loc 2) (.pv (.str "spot")) (stS sc cells great s ext) = .ok (.pv (.int s), stS sc cells great s ext) := rfl
theorem idx_great (sc cells great : List Int) (s : Int) (ext : Sto) : oIdx (.loc 2) (.pv (.str "great")) (stS sc cells great s ext) = .ok (.loc 3, stS sc cells great s ext) := rfl
theorem idx_cells (sc cells great : List Int) (s : Int) (ext : Sto) : oIdx (.loc 2) (.pv (.str "cells")) (stS sc cells great s ext) = .ok (.pv (.lst (cells.map .int)), stS sc cells great s ext) := rfl
theorem set_spot (B : Nat) (sc cells great : List Int) (s t : Int) (ext : Sto) : oSet B (.loc 2) (.pv (.str "spot")) (.pv (.int t)) (stS sc cells great s ext) = some (stS sc cells great t ext) := rfl
theorem snap_great (sc cells great : List Int) (s : Int) (ext : Sto) : snap (.loc 3) (stS sc cells great s ext) = some (.lst (great.map .int)) := by
  have := pures_ints (fun a : Int => a) great
  simp only [snap, stS, List.getElem?_cons_succ, List.getElem?_cons_zero, this]
theorem ne_nil (sc cells great : List Int) (s : Int) (ext : Sto) : oCmp .ne (.loc 3) (.pv (.lst [])) (stS sc cells great s ext) = .ok (.pv (.bl (!great.isEmpty)), stS sc cells great s ext) := by
  have pl : ∀ l : List Int, MI.plains 59 (l.map .int) = true := by
    intro l
    induction l with
    | nil => rfl
    | cons a l ih => simp only [List.map_cons, MI.plains, MI.plain, ih, Bool.and_self]
  have e1 : MI.plain 60 (.lst (great.map .int)) = true := by simp only [MI.plain]; exact pl great
  have e2 : pvEq (.lst (great.map .int)) (.lst []) = great.isEmpty := by
    cases great <;> simp [pvEq, pvEqs]
  simp only [oCmp, snap_great, show snap (.pv (.lst [])) (stS sc cells great s ext) = some (.lst []) from rfl, eqOf, e1, show MI.plain 60 (.lst []) = true from rfl, and_self, if_true, e2, Option.map_some, okB, okP]
theorem len_great (sc cells great : List Int) (s : Int) (ext : Sto) : oBlt rpOf .len [.loc 3] (stS sc cells great s ext) = .ok (.pv (.int (great.length : Int)), stS sc cells great s ext) := by
  simp [oBlt, seqv, stS, okP]
theorem idx_gr (sc cells great : List Int) (s : Int) (ext : Sto) {i : Nat} {a : Int} (e : great[i]? = some a) : oIdx (.loc 3) (.pv (.int (i : Int))) (stS sc cells great s ext) = .ok (.pv (.int a), stS sc cells great s ext) := by
  have hl := (List.getElem?_eq_some_iff.mp e).1
  have : (great.map fun a => MV.pv (.int a))[i]? = some (.pv (.int a)) := by rw [List.getElem?_map, e]; try rfl
  simp only [oIdx, stS, List.getElem?_cons_succ, List.getElem?_cons_zero, List.length_map, ixN_nat hl, this]
theorem set_gr (B : Nat) (sc cells great : List Int) (s t : Int) (ext : Sto) {i : Nat} (hl : i < great.length) : oSet B (.loc 3) (.pv (.int (i : Int))) (.pv (.int t)) (stS sc cells great s ext) = some (stS sc cells (great.set i t) s ext) := by
  simp only [oSet, may, if_true, stS, List.getElem?_cons_succ, List.getElem?_cons_zero, List.length_map, ixN_nat hl, List.set_cons_succ, List.set_cons_zero, List.map_set]
theorem idx_cell (xs : List Int) (h : Sto) {i : Nat} {a : Int} (e : xs[i]? = some a) : oIdx (.pv (.lst (xs.map .int))) (.pv (.int (i : Int))) h = .ok (.pv (.int a), h) := by
  have hl := (List.getElem?_eq_some_iff.mp e).1
  simp only [oIdx, List.length_map, ixN_nat hl, List.getElem?_map, e, Option.map_some, okP]
theorem emod_nat {a b : Int} (ha : 0 ≤ a) (hb : 0 < b) : ∃ i : Nat, a % b = (i : Int) ∧ (i : Int) < b := ⟨(a % b).toNat, by have := mod_pos' (a := a) hb; omega, by have := mod_pos' (a := a) hb; omega⟩
theorem take_st (sc cells great great' : List Int) (s t : Int) (ext : Sto) : (stS sc cells great' t ext).take (stS sc cells great s ext).length = stS sc cells great' t ext := by
  rw [show (stS sc cells great s ext).length = (stS sc cells great' t ext).length from by simp [stS]]
  exact List.take_length
def drawIf : ISs := (.cons (.set 3 (.bin .mod (.var 2) (.blt .len (.cons (.idx (.var 0) (.k (.str "great"))) .nil)))) (.cons (.set 4 (.idx (.idx (.var 0) (.k (.str "great"))) (.var 3))) (.cons (.iff (.cmp .gt (.var 4) (.k (.int 0))) (.cons (.sub (.idx (.var 0) (.k (.str "great"))) (.var 3) (.bin .fdiv (.var 4) (.var 1))) (.cons (.ret (.bin .mod (.var 4) (.var 1))) .nil)) .nil) .nil)))
def drawRet : ISs := (.cons (.ret (.bin .mod (.call 9 (.cons (.call 9 (.cons (.bin .add (.idx (.idx (.var 0) (.k (.str "cells"))) (.bin .mod (.var 2) (.k (.int 64)))) (.bin .mul (.k (.int 31)) (.bin .fdiv (.var 2) (.k (.int 64))))) (.cons (.var 2) .nil)) []) (.cons (.bin .add (.var 2) (.k (.int 7))) .nil)) []) (.var 1))) .nil)
theorem draw_body : f_law_draw.body = (.cons (.set 2 (.idx (.var 0) (.k (.str "spot")))) (.cons (.sub (.var 0) (.k (.str "spot")) (.bin .add (.var 2) (.k (.int 1)))) (.cons (.iff (.cmp .ne (.idx (.var 0) (.k (.str "great"))) (.lst .nil)) drawIf .nil) drawRet))) := rfl
theorem c_draw [Fi P 9 f_law_mixed] [Fi P 11 f_law_draw] (k B : Nat) (sc cells great : List Int) (s top : Int) (ext : Sto) (g : Good0 cells great s) (ht : 1 ≤ top) (ht2 : top ≤ 1000) : ∃ r great', 0 ≤ r ∧ r < top ∧ great'.length = great.length ∧ (∀ (i : Nat) (a : Int), great'[i]? = some a → 0 ≤ a) ∧
    callI P (k + 2) 11 B [.loc 2, .pv (.int top)] (stS sc cells great s ext) = .ok (.pv (.int r), stS sc cells great' (s + 1) ext) := by
  have lt : top.natAbs.log2 < 9000 := by
    have := (bd40 (i := top) (by omega) (by omega)).lg
    omega
  -- what is drawn from the cells
  have rest : ∃ r, 0 ≤ r ∧ r < top ∧ ∀ e2 : MI.Env, True ∧ evB (cn P (k + 1) (stS sc cells great s ext).length) drawRet ([some (.loc 2), some (.pv (.int top)), some (.pv (.int s))] ++ e2) (stS sc cells great (s + 1) ext) = some (.rt (.pv (.int r)), stS sc cells great (s + 1) ext) := by
    obtain ⟨i, hi, hi2⟩ := emod_nat (a := s) (b := 64) g.s0 (by omega)
    have hc : cells[i]? = some (cells[i]'(by rw [g.len]; omega)) := List.getElem?_eq_getElem _
    have hcb := g.cl i _ hc
    have p1 : (31 : Int).natAbs.log2 + (s / 64).natAbs.log2 < 1000000 := (bd40 (i := 31) (by omega) (by omega)).two (bd40 (i := s / 64) (by have := g.s0; omega) (by have := g.s1; omega)) (by omega)
    have q1 := c_mix (P := P) k (stS sc cells great s ext).length (cells[i]'(by rw [g.len]; omega) + 31 * (s / 64)) s (stS sc cells great (s + 1) ext) (by have := g.s0; omega) (by have := g.s1; omega) g.s0 (by have := g.s1; omega)
    have mb := mix_b (cells[i]'(by rw [g.len]; omega) + 31 * (s / 64)) s
    have q2 := c_mix (P := P) k (stS sc cells great s ext).length (mix (cells[i]'(by rw [g.len]; omega) + 31 * (s / 64)) s) (s + 7) (stS sc cells great (s + 1) ext) mb.1 (by omega) (by have := g.s0; omega) (by have := g.s1; omega)
    have r := mod_pos' (a := mix (mix (cells[i]'(by rw [g.len]; omega) + 31 * (s / 64)) s) (s + 7)) (b := top) (by omega)
    refine ⟨_, r.1, r.2, fun e2 => ⟨trivial, ?_⟩⟩
    dsimp! [drawRet, idx_cells, modE s 64 _ (by omega), hi, idx_cell _ _ hc, divE s 64 _ (by omega) (by decide), mulE _ _ _ p1, addE, q1, q2, modE _ top _ (by omega)]
  obtain ⟨r0, ra, rb, rest⟩ := rest
  rw [run_fn (F := f_law_draw) Fi.h rfl rfl]
  cases hg : great with
  | nil =>
    rw [hg] at rest
    refine ⟨r0, [], ra, rb, rfl, by simp, ?_⟩
    have st : ∀ tl : ISs, evB (cn P (k + 1) (stS sc cells [] s ext).length) (.cons (.set 2 (.idx (.var 0) (.k (.str "spot")))) (.cons (.sub (.var 0) (.k (.str "spot")) (.bin .add (.var 2) (.k (.int 1)))) (.cons (.iff (.cmp .ne (.idx (.var 0) (.k (.str "great"))) (.lst .nil)) drawIf .nil) tl)))
        [some (.loc 2), some (.pv (.int top)), none, none, none] (stS sc cells [] s ext) = evB (cn P (k + 1) (stS sc cells [] s ext).length) tl [some (.loc 2), some (.pv (.int top)), some (.pv (.int s)), none, none] (stS sc cells [] (s + 1) ext) := fun tl => by
      dsimp! [idx_spot, addE, set_spot, idx_great, oLst, pures, ne_nil, show (0 : Nat) ≤ sizeLim from by decide, truth, List.isEmpty_nil]
    show (match evB (cn P (k + 1) (stS sc cells [] s ext).length) f_law_draw.body [some (.loc 2), some (.pv (.int top)), none, none, none] (stS sc cells [] s ext) with
      | some (.rt v, h') => MI.close false (stS sc cells [] s ext).length v h'
      | some (.nx _, h') => MI.close false (stS sc cells [] s ext).length (.pv .non) h'
      | some (.ex c fs _, h') => .exc c fs (h'.take (stS sc cells [] s ext).length)
      | _ => .bad) = _
    rw [draw_body, st]
    have := (rest [none, none]).2
    simp only [List.cons_append, List.nil_append] at this
    rw [this]
    simp only [MI.close, Bool.false_eq_true, if_false, take_st]
  | cons g0 gs =>
    rw [← hg]
    have hne : great.isEmpty = false := by rw [hg]; try rfl
    have hlen : (0 : Int) < (great.length : Int) := by rw [hg]; simp
    obtain ⟨i, hi, hi2⟩ := emod_nat (a := s) (b := (great.length : Int)) g.s0 hlen
    have hil : i < great.length := by omega
    have hc : great[i]? = some great[i] := List.getElem?_eq_getElem hil
    have hc0 := g.gr i _ hc
    have first : ∀ (tl : ISs), evB (cn P (k + 1) (stS sc cells great s ext).length) (.cons (.set 2 (.idx (.var 0) (.k (.str "spot")))) (.cons (.sub (.var 0) (.k (.str "spot")) (.bin .add (.var 2) (.k (.int 1)))) (.cons (.iff (.cmp .ne (.idx (.var 0) (.k (.str "great"))) (.lst .nil)) drawIf .nil) tl)))
        [some (.loc 2), some (.pv (.int top)), none, none, none] (stS sc cells great s ext) = (match evB (cn P (k + 1) (stS sc cells great s ext).length) drawIf [some (.loc 2), some (.pv (.int top)), some (.pv (.int s)), none, none] (stS sc cells great (s + 1) ext) with
          | some (.nx e1, h1) => evB (cn P (k + 1) (stS sc cells great s ext).length) tl e1 h1
          | r => r) := fun tl => by
      generalize hd : drawIf = dd
      dsimp! [idx_spot, addE, set_spot, idx_great, oLst, pures, ne_nil, show (0 : Nat) ≤ sizeLim from by decide, truth, hne]
      try rfl
    have goal : ∀ (great' : List Int) (r : Int), evB (cn P (k + 1) (stS sc cells great s ext).length) f_law_draw.body [some (.loc 2), some (.pv (.int top)), none, none, none] (stS sc cells great s ext) = some (.rt (.pv (.int r)), stS sc cells great' (s + 1) ext) →
        (match evB (cn P (k + 1) (stS sc cells great s ext).length) f_law_draw.body (MI.start f_law_draw.N [.loc 2, .pv (.int top)]) (stS sc cells great s ext) with
      | some (.rt v, h') => MI.close false (stS sc cells great s ext).length v h'
      | some (.nx _, h') => MI.close false (stS sc cells great s ext).length (.pv .non) h'
      | some (.ex c fs _, h') => .exc c fs (h'.take (stS sc cells great s ext).length)
      | _ => .bad) = .ok (.pv (.int r), stS sc cells great' (s + 1) ext) := fun great' r e => by
      rw [show MI.start f_law_draw.N [MV.loc 2, MV.pv (.int top)] = ([some (.loc 2), some (.pv (.int top)), none, none, none] : MI.Env) from rfl, e]
      simp only [MI.close, Bool.false_eq_true, if_false, take_st]
    by_cases hpos : 0 < great[i]
    · have r := mod_pos' (a := great[i]) (b := top) (by omega)
      refine ⟨great[i] % top, great.set i (great[i] / top), r.1, r.2, List.length_set, ?_, goal _ _ ?_⟩
      · intro j a ej
        rcases get_set ej with ⟨_, ej⟩ | ⟨_, _, rfl⟩
        · exact g.gr j a ej
        · exact Int.ediv_nonneg hc0 (by omega)
      · rw [draw_body, first]
        dsimp! [drawIf, idx_great, len_great, modE s (great.length : Int) _ hlen, hi, idx_gr _ _ _ _ _ hc, oCmp, ints2, hpos, decide_true, truth, divE great[i] top _ (by omega) lt, set_gr _ _ _ _ _ _ _ hil, modE great[i] top _ (by omega)]
    · refine ⟨r0, great, ra, rb, rfl, g.gr, goal _ _ ?_⟩
      rw [draw_body, first]
      have hd : evB (cn P (k + 1) (stS sc cells great s ext).length) drawIf [some (.loc 2), some (.pv (.int top)), some (.pv (.int s)), none, none] (stS sc cells great (s + 1) ext) = some (.nx [some (.loc 2), some (.pv (.int top)), some (.pv (.int s)), some (.pv (.int (i : Int))), some (.pv (.int great[i]))], stS sc cells great (s + 1) ext) := by
        dsimp! [drawIf, idx_great, len_great, modE s (great.length : Int) _ hlen, hi, idx_gr _ _ _ _ _ hc, oCmp, ints2, hpos, decide_false, truth]
      rw [hd]
      exact (rest _).2

/-- 64 cells within their bounds -/
def Cells (l : List Int) : Prop := l.length = 64 ∧ ∀ (i : Nat) (a : Int), l[i]? = some a → 0 ≤ a ∧ a < 2147483647
def lockL (sc l : List Int) : Sto := [.lock (sc.map .int), .lst (l.map fun a => .pv (.int a))]
theorem idx_l (sc l : List Int) {i : Nat} {a : Int} (e : l[i]? = some a) : oIdx (.loc 1) (.pv (.int (i : Int))) (lockL sc l) = .ok (.pv (.int a), lockL sc l) := by
  have hl := (List.getElem?_eq_some_iff.mp e).1
  have : (l.map fun a => MV.pv (.int a))[i]? = some (.pv (.int a)) := by rw [List.getElem?_map, e]; try rfl
  simp only [oIdx, lockL, List.getElem?_cons_succ, List.getElem?_cons_zero, List.length_map, ixN_nat hl, this]
theorem set_l (B : Nat) (sc l : List Int) (t : Int) {i : Nat} (hl : i < l.length) : oSet B (.loc 1) (.pv (.int (i : Int))) (.pv (.int t)) (lockL sc l) = some (lockL sc (l.set i t)) := by
  simp only [oSet, may, if_true, lockL, List.getElem?_cons_succ, List.getElem?_cons_zero, List.length_map, ixN_nat hl, List.set_cons_succ, List.set_cons_zero, List.map_set]
theorem Cells.set {l : List Int} (c : Cells l) {i : Nat} {t : Int} (h : 0 ≤ t ∧ t < 2147483647) : Cells (l.set i t) := by
  refine ⟨by rw [List.length_set]; exact c.1, fun j a e => ?_⟩
  rcases get_set e with ⟨_, e⟩ | ⟨_, _, rfl⟩
  · exact c.2 j a e
  · exact h
theorem Cells.get {l : List Int} (c : Cells l) {i : Nat} (hi : i < 64) : ∃ a, l[i]? = some a ∧ 0 ≤ a ∧ a < 2147483647 := by
  have h : l[i]? = some (l[i]'(by rw [c.1]; exact hi)) := List.getElem?_eq_getElem _
  exact ⟨_, h, c.2 i _ h⟩
theorem turns_one' : ∀ (l : List Int) (h : Sto) (f : Item → Sto → R (Option MV × Sto)) (φ : Int → Int), (∀ a ∈ l, f (.one (.pv (.int a))) h = .ok (some (.pv (.int (φ a))), h)) → turns f (l.map fun a => .one (.pv (.int a))) h = .ok (l.map fun a => .pv (.int (φ a)), h) := fun l h f φ q => turns_one (mk := fun a => Item.one (.pv (.int a))) (g := fun a => .pv (.int (φ a))) l q
theorem range_items (lo : Int) (n : Nat) : rangeI lo n = (List.range n).map fun (k : Nat) => Item.one (.pv (.int (lo + (k : Int)))) := rfl
theorem c_folded [Fi P 10 f_law_folded] (k B : Nat) (sc : List Int) : ∃ cells, Cells cells ∧ callI P (k + 1) 10 B [.loc 0] [.lock (sc.map .int)] = .ok (.pv (.lst (cells.map .int)), [.lock (sc.map .int)]) := by
  rw [run_fn (F := f_law_folded) Fi.h rfl rfl]
  have e1 : evE (cn P k 1) f_law_folded_c0 [some (.loc 0), none, none, none] [.lock (sc.map .int)] = .ok (.loc 1, lockL sc ((List.range 64).map fun (j : Nat) => 17 + (0 + (j : Int)))) := by
    rw [f_law_folded_c0, evE_comp]
    have ht := turns_one (f := compF (cn P k 1) (.nm 2) [2] .nil (.bin .add (.k (.int 17)) (.var 2)) [some (.loc 0), none, none, none]) (mk := fun (j : Nat) => Item.one (.pv (.int (0 + (j : Int))))) (g := fun (j : Nat) => MV.pv (.int (17 + (0 + (j : Int))))) (h := [.lock (sc.map .int)]) (List.range 64) (fun j _ => by dsimp! [compF, give, MI.wipe, addE])
    have hi : evI (cn P k 1) (.rng1 (.k (.int 64))) [some (.loc 0), none, none, none] [.lock (sc.map .int)] = .ok ((List.range 64).map fun (j : Nat) => Item.one (.pv (.int (0 + (j : Int)))), [.lock (sc.map .int)]) := by
      dsimp! [show small 64 = true from by decide, range_items]
      rfl
    simp only [hi, ht, seqL_ok, oLst, if_true, List.length_map, List.length_range, size_le (show 64 ≤ 1000 by omega)]
    simp only [lockL, List.map_map, Function.comp_def]; try rfl
  have c0 : Cells ((List.range 64).map fun (j : Nat) => 17 + (0 + (j : Int))) := by
    refine ⟨by simp, fun i a e => ?_⟩
    rw [List.getElem?_map] at e
    cases q : (List.range 64)[i]? with
    | none => rw [q] at e; cases e
    | some j =>
      rw [q] at e
      obtain ⟨h1, h2⟩ := List.getElem?_eq_some_iff.mp q
      simp only [List.length_range, List.getElem_range] at h1 h2
      have e := Option.some.inj e
      dsimp only at e
      omega
  -- the script is folded in
  obtain ⟨e', h', q, ⟨o1, o2, rfl⟩, l2, c2, rfl⟩ := loop_ind (f := forF (cn P k 1) (.tp [2, 3]) f_law_folded_b1) (enumFrom 0 ((sc.map PV.int).map MV.pv)) (fun i e h' => (∃ o1 o2, e = ([some (MV.loc 0), some (MV.loc 1), o1, o2] : MI.Env)) ∧ ∃ l, Cells l ∧ h' = lockL sc l) 0
    [some (.loc 0), some (.loc 1), none, none] (lockL sc ((List.range 64).map fun (j : Nat) => 17 + (0 + (j : Int)))) (by
      rintro i x e h' hx ⟨⟨o1, o2, rfl⟩, l, c, rfl⟩
      obtain ⟨a, ha, rfl⟩ := enum_at hx
      obtain ⟨j, hj, hj2⟩ := emod_nat (a := (i : Int)) (b := 64) (by omega) (by omega)
      obtain ⟨v, hv, hb⟩ := c.get (i := j) (by omega)
      have p : v.natAbs.log2 + (48271 : Int).natAbs.log2 < 1000000 := (bd40 (i := v) hb.1 (by omega)).two (bd40 (i := 48271) (by omega) (by omega)) (by omega)
      refine ⟨[some (.loc 0), some (.loc 1), some (.pv (.int (i : Int))), some (.pv (.int a))], lockL sc (l.set j ((v * 48271 + a) % 2147483647)), .inl ?_, ⟨_, _, rfl⟩, _, c.set (mod_pos' (by omega)), rfl⟩
      dsimp! [forF, give, setAll, f_law_folded_b1, modE (i : Int) 64 _ (by omega), hj, idx_l _ _ hv, mulE _ _ _ p, addE, modE _ (2147483647 : Int) _ (by omega), set_l _ _ _ _ (show j < l.length by rw [c.1]; omega)]) ⟨⟨_, _, rfl⟩, _, c0, rfl⟩
  -- .. and along
  obtain ⟨e', h', q2, ⟨o1, o2, rfl⟩, l3, c3, rfl⟩ := loop_ind (f := forF (cn P k 1) (.nm 2) f_law_folded_b2) (rangeI 1 63) (fun i e h' => (∃ o1 o2, e = ([some (MV.loc 0), some (MV.loc 1), o1, o2] : MI.Env)) ∧ ∃ l, Cells l ∧ h' = lockL sc l) 0
    [some (.loc 0), some (.loc 1), o1, o2] (lockL sc l2) (by
      rintro i x e h' hx ⟨⟨o1, o2, rfl⟩, l, c, rfl⟩
      rw [range_items, List.getElem?_map] at hx
      have hi : i < 63 := by
        by_cases hi : i < 63
        · exact hi
        · rw [List.getElem?_eq_none (by simp; omega)] at hx; cases hx
      rw [List.getElem?_range hi] at hx
      cases hx
      obtain ⟨v, hv, hb⟩ := c.get (i := i + 1) (by omega)
      obtain ⟨u, hu, hb2⟩ := c.get (i := i) (by omega)
      have p : u.natAbs.log2 + (16807 : Int).natAbs.log2 < 1000000 := (bd40 (i := u) hb2.1 (by omega)).two (bd40 (i := 16807) (by omega) (by omega)) (by omega)
      have e1 : (1 : Int) + ((i : Nat) : Int) = ((i + 1 : Nat) : Int) := by omega
      have e2 : (((i + 1 : Nat) : Int)) - 1 = ((i : Nat) : Int) := by omega
      refine ⟨[some (.loc 0), some (.loc 1), some (.pv (.int ((i + 1 : Nat) : Int))), o2], lockL sc (l.set (i + 1) ((v + u * 16807) % 2147483647)), .inl ?_, ⟨_, _, rfl⟩, _, c.set (mod_pos' (by omega)), rfl⟩
      dsimp only
      rw [e1]
      dsimp! [forF, give, f_law_folded_b2, subE, e2, idx_l _ _ hv, idx_l _ _ hu, mulE _ _ _ p, addE, modE _ (2147483647 : Int) _ (by omega), set_l _ _ _ _ (show i + 1 < l.length by rw [c.1]; omega)]) ⟨⟨_, _, rfl⟩, _, c2, rfl⟩
  refine ⟨l3, c3, ?_⟩
  have hi : itemsOf (.loc 0) (lockL sc ((List.range 64).map fun (j : Nat) => 17 + (0 + (j : Int)))) = some ((sc.map PV.int).map MV.pv) := rfl
  have hp := pures_ints (fun a : Int => a) l3
  have hs : snap (.loc 1) (lockL sc l3) = some (.lst (l3.map .int)) := by
    simp only [snap, lockL, List.getElem?_cons_succ, List.getElem?_cons_zero, hp]
  generalize hc0 : f_law_folded_c0 = cc at e1
  generalize hb1 : f_law_folded_b1 = b1 at q
  generalize hb2 : f_law_folded_b2 = b2 at q2
  simp only [List.length_cons, List.length_nil]
  dsimp! [f_law_folded, hc0, hb1, hb2, e1, hi, q, q2, show small 1 = true from by decide, show small 64 = true from by decide, and_self, show ((64 : Int) - 1).toNat = 63 from rfl, hs, show ¬ (1 < 0 + 1) from by omega]
  rfl

theorem powE (a b : Int) (h : Sto) (p : 0 ≤ b ∧ b ≤ 1000 ∧ a.natAbs ≤ 1000) : oBin .pow (.pv (.int a)) (.pv (.int b)) h = .ok (.pv (.int (a ^ b.toNat)), h) := by
  simp only [oBin, snap, p, and_self, if_true, okP]
theorem geE (a b : Int) (h : Sto) : oCmp .ge (.pv (.int a)) (.pv (.int b)) h = .ok (.pv (.bl (decide (b ≤ a))), h) := rfl
theorem run_keep {k j B : Nat} {vs : List MV} {h : Sto} {F : Fn} (hf : P.fns j = some F) (hk : F.keep = true) (hl : vs.length = F.ps.length) : callI P (k + 1) j B vs h = (match evB (cn P k B) F.body (MI.start F.N vs) h with
    | some (.rt v, h') => MI.close true h.length v h'
    | some (.nx _, h') => MI.close true h.length (.pv .non) h'
    | some (.ex c fs _, h') => .exc c fs h'
    | _ => .bad) := by
  rw [run_eq]
  simp only [MI.run, hf, hl, if_true, hk, Bas.fuel, Bas.rp, Bas.fields, Bas.sub]
  rfl
def big (c : Int) : Int := if 10 ^ 18 ≤ c then c else 0
theorem big0 (c : Int) : 0 ≤ big c := by
  unfold big
  split
  · have : (0 : Int) ≤ 10 ^ 18 := by decide
    omega
  · omega
theorem c_begun [Fi P 10 f_law_folded] [Fi P 12 f_law_begun] (k : Nat) (sc : List Int) (hl : sc.length ≤ 63) : ∃ cells great, Good0 cells great 0 ∧ callI P (k + 2) 12 1 [.loc 0] [.lock (sc.map .int)] = .ok (.loc 2, stS sc cells great 0 []) := by
  obtain ⟨cells, c, ec⟩ := c_folded (P := P) k 1 sc
  refine ⟨cells, sc.map big, ⟨c.1, c.2, fun i a e => ?_, by omega, by omega⟩, ?_⟩
  · rw [List.getElem?_map] at e
    cases q : sc[i]? with
    | none => rw [q] at e; cases e
    | some j => rw [q] at e; have e := Option.some.inj e; rw [← e]; exact big0 j
  rw [run_keep (F := f_law_begun) Fi.h rfl rfl]
  let st : Sto := [.lock (sc.map .int), .lst [], .dct [(.inr "cells", .pv (.lst (cells.map .int))), (.inr "great", .loc 1), (.inr "spot", .pv (.int 0))]]
  have e1 : evE (cn P (k + 1) 1) f_law_begun_c0 [some (.loc 0), some (.loc 2), none] st = .ok (.loc 3, st ++ [.lst ((sc.map big).map fun a => .pv (.int a))]) := by
    rw [f_law_begun_c0, evE_comp]
    have ht := turns_one' sc st (compF (cn P (k + 1) 1) (.nm 2) [2] .nil (.ite (.cmp .ge (.var 2) (.bin .pow (.k (.int 10)) (.k (.int 18)))) (.var 2) (.k (.int 0))) [some (.loc 0), some (.loc 2), none]) big (fun a _ => by
      unfold big
      by_cases h : (10 : Int) ^ 18 ≤ a
      · dsimp! [compF, give, MI.wipe, powE 10 18 _ (by decide), geE, truth, show (18 : Int).toNat = 18 from rfl, h, decide_true]
      · dsimp! [compF, give, MI.wipe, powE 10 18 _ (by decide), geE, truth, show (18 : Int).toNat = 18 from rfl, h, decide_false])
    have hi : evI (cn P (k + 1) 1) (.val (.var 0)) [some (.loc 0), some (.loc 2), none] st = .ok (sc.map fun a => Item.one (.pv (.int a)), st) := by
      dsimp! [show itemsOf (.loc 0) st = some ((sc.map PV.int).map MV.pv) from rfl, ones]
    simp only [hi, ht, seqL_ok, oLst, if_true, List.length_map, size_le (show sc.length ≤ 1000 by omega), List.map_map, Function.comp_def]
    rfl
  generalize hc0 : f_law_begun_c0 = cc at e1
  have e2 : evB (cn P (k + 1) 1) f_law_begun.body [some (.loc 0), none, none] [.lock (sc.map .int)] = some (.rt (.loc 2), stS sc cells (sc.map big) 0 []) := by
    have eA : evE (cn P (k + 1) 1) (.newd ["cells", "great", "spot"] (.cons (.call 10 (.cons (.var 0) .nil) []) (.cons (.newl .nil) (.cons (.k (.int 0)) .nil)))) [some (.loc 0), none, none] [.lock (sc.map .int)] = .ok (.loc 2, st) := by
      dsimp! [ec, oLst, show (0 : Nat) ≤ sizeLim from by decide]
      rfl
    simp only [f_law_begun, hc0, evB, evS.eq_1, evS.eq_4, evS.eq_5, eA, List.set_cons_succ, List.set_cons_zero, e1]
    rfl
  rw [show MI.start f_law_begun.N [MV.loc 0] = ([some (.loc 0), none, none] : MI.Env) from rfl, e2]
  rfl

theorem c_dr [Fi P 9 f_law_mixed] [Fi P 11 f_law_draw] (k B : Nat) (sc : List Int) {cells great : List Int} {s : Int} (top : Int) (ext : Sto) (g : Good0 cells great s) (hs : s + 1 < 1000000) (ht : 1 ≤ top) (ht2 : top ≤ 1000) : ∃ r great', 0 ≤ r ∧ r < top ∧ Good0 cells great' (s + 1) ∧
    callI P (k + 2) 11 B [.loc 2, .pv (.int top)] (stS sc cells great s ext) = .ok (.pv (.int r), stS sc cells great' (s + 1) ext) := by
  obtain ⟨r, g', a, b, c, d, e⟩ := c_draw (P := P) k B sc cells great s top ext g ht ht2
  exact ⟨r, g', a, b, ⟨g.len, g.cl, d, by have := g.s0; omega, hs⟩, e⟩
theorem len_st (sc cells great : List Int) (s : Int) (ext : Sto) : (stS sc cells great s ext).length = ext.length + 4 := by simp [stS]
theorem st_app (sc cells great : List Int) (s : Int) (ext : Sto) (o : MO) : stS sc cells great s ext ++ [o] = stS sc cells great s (ext ++ [o]) := rfl
theorem get_x (sc cells great : List Int) (s : Int) (ext : Sto) (o : MO) : (stS sc cells great s (ext ++ [o]))[ext.length + 4]? = some o := by
  simp [stS]
theorem set_x (sc cells great : List Int) (s : Int) (ext : Sto) (o o' : MO) : (stS sc cells great s (ext ++ [o])).set (ext.length + 4) o' = stS sc cells great s (ext ++ [o']) := by
  simp [stS, List.set_append_right]
theorem app_x (B : Nat) (sc cells great : List Int) (s : Int) (ext : Sto) (xs : List MV) (v : PV) (hl : xs.length ≤ 1000) : oApp B (.loc (ext.length + 4)) (.pv v) (stS sc cells great s (ext ++ [.lst xs])) = .ok (.pv .non, stS sc cells great s (ext ++ [.lst (xs ++ [.pv v])])) := by
  have : xs.length < sizeLim := by unfold sizeLim; omega
  simp only [oApp, may, if_true, get_x, this, set_x, okP]
theorem open_x (sc cells great : List Int) (s : Int) (ext : Sto) (xs : List MV) : isOpenL (.loc (ext.length + 4)) (stS sc cells great s (ext ++ [.lst xs])) = true := by
  simp only [isOpenL, get_x]
theorem last_x (sc cells great : List Int) (s : Int) (ext : Sto) (xs : List Int) {a : Int} (e : xs[xs.length - 1]? = some a) : oIdx (.loc (ext.length + 4)) (.pv (.int (-1))) (stS sc cells great s (ext ++ [.lst (xs.map fun a => .pv (.int a))])) = .ok (.pv (.int a), stS sc cells great s (ext ++ [.lst (xs.map fun a => .pv (.int a))])) := by
  have hl := (List.getElem?_eq_some_iff.mp e).1
  have hx : MI.ixN xs.length (-1) = some (xs.length - 1) := by
    unfold MI.ixN
    rw [if_neg (by omega), if_pos (by omega)]
    congr 1
    omega
  have : (xs.map fun a => MV.pv (.int a))[xs.length - 1]? = some (.pv (.int a)) := by rw [List.getElem?_map, e]; try rfl
  simp only [oIdx, get_x, List.length_map, hx, this]
theorem tup_x (sc cells great : List Int) (s : Int) (ext : Sto) (xs : List Int) : oBlt rpOf .tuple [.loc (ext.length + 4)] (stS sc cells great s (ext ++ [.lst (xs.map fun a => .pv (.int a))])) = .ok (.pv (tupI xs), stS sc cells great s (ext ++ [.lst (xs.map fun a => .pv (.int a))])) := by
  have := pures_ints (fun a : Int => a) xs
  simp only [oBlt, seqp, seqv, get_x, this, okP, tupI]
theorem take_x (sc cells great great' : List Int) (s t : Int) (ext : Sto) (o : MO) : (stS sc cells great' t (ext ++ [o])).take (stS sc cells great s ext).length = stS sc cells great' t ext := by
  rw [len_st, ← st_app, List.take_append_of_le_length (by rw [len_st]; omega), ← len_st sc cells great' t ext, List.take_length]
theorem minE (rp : PV → Str) (a b : Int) (h : Sto) : oBlt rp .min [.pv (.int a), .pv (.int b)] h = .ok (.pv (.int (if b < a then b else a)), h) := rfl
/-- an item of a short list of ints -/
theorem pick (l : List Int) (h : Sto) {r : Int} (h0 : 0 ≤ r) (h1 : r < l.length) : ∃ v, v ∈ l ∧ oIdx (.pv (.lst (l.map .int))) (.pv (.int r)) h = .ok (.pv (.int v), h) := by
  obtain ⟨n, rfl⟩ : ∃ n : Nat, r = (n : Int) := ⟨r.toNat, by omega⟩
  have e : l[n]? = some (l[n]'(by omega)) := List.getElem?_eq_getElem _
  exact ⟨_, List.getElem_mem (by omega), idx_cell l h e⟩
structure PartI (L : Nat) (many most : Int) (sc cells : List Int) (s : Int) (ext : Sto) (i : Nat) (e : MI.Env) (h : Sto) : Prop where
  ex : ∃ (left : Int) (great xs : List Int) (o1 o2 : Option MV), e = ([some (.loc 2), some (.pv (.int many)), some (.pv (.int most)), some (.loc L), some (.pv (.int left)), o1, o2] : MI.Env) ∧ h = stS sc cells great (s + 1 + 3 * (i : Int)) (ext ++ [.lst (xs.map fun a => .pv (.int a))]) ∧
    Good0 cells great (s + 1 + 3 * (i : Int)) ∧ 0 ≤ left ∧ left ≤ most ∧ xs.length = i + 1 ∧ Dec xs ∧ ∀ a ∈ xs, -2 - most + left ≤ a ∧ a ≤ 6
theorem dec_snoc {xs : List Int} {a b : Int} (h : Dec xs) (e : xs[xs.length - 1]? = some a) (hb : b ≤ a) : Dec (xs ++ [b]) := by
  intro i x y hx hy
  have hl := (List.getElem?_eq_some_iff.mp e).1
  by_cases hi : i + 1 < xs.length
  · rw [List.getElem?_append_left (by omega)] at hx hy
    exact h i x y hx hy
  · have hi2 : i + 1 = xs.length := by
      have := (List.getElem?_eq_some_iff.mp hy).1
      simp at this
      omega
    rw [List.getElem?_append_left (by omega)] at hx
    rw [hi2, List.getElem?_append_right (by omega)] at hy
    simp at hy
    have : i = xs.length - 1 := by omega
    rw [this, e] at hx
    cases hx
    omega
theorem small_nat {m : Nat} (h : m ≤ 1000) : small (m : Int) = true := by
  have e : (2 : Int) ^ 62 = 4611686018427387904 := by decide
  unfold small
  rw [e]
  simp only [Bool.and_eq_true, decide_eq_true_eq]
  omega
theorem rng1_ok {c : Cn} {a : IE} {e : MI.Env} {h h' : Sto} {m : Nat} (ha : evE c a e h = .ok (.pv (.int (m : Int)), h')) (hs : small (m : Int) = true) : evI c (.rng1 a) e h = .ok (rangeI 0 m, h') := by
  rw [evI, ha, seq1_ok]
  dsimp only
  rw [if_pos hs, Int.toNat_natCast]
theorem part_step [Fi P 9 f_law_mixed] [Fi P 11 f_law_draw] (k : Nat) (sc : List Int) {cells : List Int} {s : Int} (many most : Int) (ext : Sto) (hs : s + 20 < 1000000) (hm2 : many ≤ 6) (m : Nat) (hm' : many - 1 = (m : Int)) (i : Nat) (x : Item) (e : MI.Env) (h : Sto) (hx : (rangeI 0 m)[i]? = some x) (p : PartI (ext.length + 4) many most sc cells s ext (0 + i) e h) :
    ∃ e' h', (forF (cn P (k + 2) (ext.length + 4)) (.nm 5) f_law_part_b0 x e h = some (.nx e', h') ∨ forF (cn P (k + 2) (ext.length + 4)) (.nm 5) f_law_part_b0 x e h = some (.ct e', h')) ∧ PartI (ext.length + 4) many most sc cells s ext (0 + i + 1) e' h' := by
  obtain ⟨left, g2, xs, o1, o2, rfl, rfl, gg2, l0, l1, hx2, hd, hb⟩ := p
  have hi : i < m := by
    by_cases hi : i < m
    · exact hi
    · rw [range_items, List.getElem?_eq_none (by simp; omega)] at hx; cases hx
  rw [range_items, List.getElem?_map, List.getElem?_range hi] at hx
  cases hx
  rw [Nat.zero_add] at gg2 hx2
  obtain ⟨r3, g3, a3, b3, gg3, e3⟩ := c_dr (P := P) k (ext.length + 4) sc 3 (ext ++ [.lst (xs.map fun a => .pv (.int a))]) gg2 (by omega) (by omega) (by omega)
  obtain ⟨r8, g8, a8, b8, gg8, e8⟩ := c_dr (P := P) k (ext.length + 4) sc 8 (ext ++ [.lst (xs.map fun a => .pv (.int a))]) gg3 (by omega) (by omega) (by omega)
  obtain ⟨r4, g4, a4, b4, gg4, e4⟩ := c_dr (P := P) k (ext.length + 4) sc 4 (ext ++ [.lst (xs.map fun a => .pv (.int a))]) gg8 (by omega) (by omega) (by omega)
  obtain ⟨v, hv, ev⟩ := pick [0, 1, r3, r8] (stS sc cells g4 (s + 1 + 3 * (i : Int) + 1 + 1 + 1) (ext ++ [.lst (xs.map fun a => .pv (.int a))])) a4 (by simpa using b4)
  have hv2 : 0 ≤ v := by simp at hv; omega
  have hlast : xs[xs.length - 1]? = some (xs[xs.length - 1]'(by omega)) := List.getElem?_eq_getElem _
  have hlb := hb _ (List.getElem_mem (by omega : xs.length - 1 < xs.length))
  have hdrop : ∃ drop, drop = (if v < left then v else left) ∧ 0 ≤ drop ∧ drop ≤ left := ⟨_, rfl, by split <;> omega, by split <;> omega⟩
  obtain ⟨drop, hdr, d0, d1⟩ := hdrop
  have es : s + 1 + 3 * (i : Int) + 1 + 1 + 1 = s + 1 + 3 * ((i + 1 : Nat) : Int) := by omega
  rw [Nat.zero_add]
  refine ⟨_, _, .inl ?_, left - drop, g4, xs ++ [xs[xs.length - 1] - drop], some (.pv (.int (0 + (i : Int)))), some (.pv (.int drop)), rfl, rfl, ?_, by omega, by omega, by simp; omega, dec_snoc hd hlast (by omega), ?_⟩
  · dsimp only
    have el := last_x sc cells g4 (s + 1 + 3 * (i : Int) + 1 + 1 + 1) ext xs hlast
    have ea := app_x (ext.length + 4) sc cells g4 (s + 1 + 3 * (i : Int) + 1 + 1 + 1) ext (xs.map fun a => .pv (.int a)) (.int (xs[xs.length - 1] - drop)) (by simp; omega)
    dsimp! [forF, give, f_law_part_b0, e3, e8, e4, oLst, pures, size_le (show 4 ≤ 1000 by omega), Nat.reduceAdd, show (.lst [.int 0, .int 1, .int r3, .int r8] : PV) = .lst ([0, 1, r3, r8].map .int) from rfl, ev, minE, ← hdr, subE, open_x, el, ea]
    rw [es]
    simp
  · rw [← es]; exact gg4
  · intro a ha
    rw [List.mem_append] at ha
    rcases ha with ha | ha
    · have := hb a ha; omega
    · simp at ha; omega
set_option maxRecDepth 1000000 in
theorem c_partn [Fi P 9 f_law_mixed] [Fi P 11 f_law_draw] [Fi P 13 f_law_part] (k B : Nat) (sc : List Int) {cells great : List Int} {s : Int} (many most : Int) (ext : Sto) (g : Good0 cells great s) (hs : s + 20 < 1000000) (hm : 1 ≤ many) (hm2 : many ≤ 6) (h0 : 0 ≤ most) : ∃ xs great', (xs.length : Int) = many ∧ Dec xs ∧ (∀ a ∈ xs, -2 - most ≤ a ∧ a ≤ 6) ∧ Good0 cells great' (s + 1 + 3 * (many - 1)) ∧
    callI P (k + 3) 13 B [.loc 2, .pv (.int many), .pv (.int most)] (stS sc cells great s ext) = .ok (.pv (tupI xs), stS sc cells great' (s + 1 + 3 * (many - 1)) ext) := by
  obtain ⟨r, g1, ra, rb, gg, er⟩ := c_dr (P := P) k (ext.length + 4) sc 9 ext g (by omega) (by omega) (by omega)
  obtain ⟨m, hm'⟩ : ∃ m : Nat, many - 1 = (m : Int) := ⟨(many - 1).toNat, by omega⟩
  obtain ⟨e', h', q, ⟨left, g2, xs, o1, o2, rfl, rfl, gg2, l0, l1, hx, hd, hb⟩⟩ := loop_ind (f := forF (cn P (k + 2) (ext.length + 4)) (.nm 5) f_law_part_b0) (rangeI 0 m) (PartI (ext.length + 4) many most sc cells s ext) 0
    [some (.loc 2), some (.pv (.int many)), some (.pv (.int most)), some (.loc (ext.length + 4)), some (.pv (.int most)), none, none] (stS sc cells g1 (s + 1) (ext ++ [.lst [.pv (.int (r - 2))]])) (by
      exact fun i x e h hx p => part_step k sc many most ext hs hm2 m hm' i x e h hx p) ⟨most, g1, [r - 2], none, none, rfl, by simp, by simpa using gg, h0, by omega, rfl, (fun i a b h1 h2 => by cases i <;> simp at h2), fun a ha => by simp at ha; omega⟩
  have hlr : (rangeI 0 m).length = m := by simp [rangeI]
  rw [hlr, Nat.zero_add] at gg2 hx q
  refine ⟨xs, g2, by omega, hd, fun a ha => by have := hb a ha; omega, by rw [hm']; exact gg2, ?_⟩
  generalize hb0 : f_law_part_b0 = b0 at q
  have hsm : small (m : Int) = true := small_nat (by omega)
  have body : evB (cn P (k + 2) (ext.length + 4)) f_law_part.body [some (.loc 2), some (.pv (.int many)), some (.pv (.int most)), none, none, none, none] (stS sc cells great s ext) = some (.rt (.pv (tupI xs)), stS sc cells g2 (s + 1 + 3 * (m : Int)) (ext ++ [.lst (xs.map fun a => .pv (.int a))])) := by
    have s1 : evS (cn P (k + 2) (ext.length + 4)) (.set 3 (.newl (.cons (.bin .sub (.call 11 (.cons (.var 0) (.cons (.k (.int 9)) .nil)) []) (.k (.int 2))) .nil))) [some (.loc 2), some (.pv (.int many)), some (.pv (.int most)), none, none, none, none] (stS sc cells great s ext) =
        some (.nx [some (.loc 2), some (.pv (.int many)), some (.pv (.int most)), some (.loc (ext.length + 4)), none, none, none], stS sc cells g1 (s + 1) (ext ++ [.lst [.pv (.int (r - 2))]])) := by
      dsimp! [er, subE, oLst, size_le (show 1 ≤ 1000 by omega), st_app, len_st, Nat.reduceAdd]
    have s2 : evS (cn P (k + 2) (ext.length + 4)) (.for_ (.nm 5) (.rng1 (.bin .sub (.var 1) (.k (.int 1)))) b0) [some (.loc 2), some (.pv (.int many)), some (.pv (.int most)), some (.loc (ext.length + 4)), some (.pv (.int most)), none, none] (stS sc cells g1 (s + 1) (ext ++ [.lst [.pv (.int (r - 2))]])) = some (.nx [some (.loc 2), some (.pv (.int many)), some (.pv (.int most)), some (.loc (ext.length + 4)), some (.pv (.int left)), o1, o2], stS sc cells g2 (s + 1 + 3 * (m : Int)) (ext ++ [.lst (xs.map fun a => .pv (.int a))])) := by
      rw [evS_for]
      have h1 : evE (cn P (k + 2) (ext.length + 4)) (.bin .sub (.var 1) (.k (.int 1))) [some (.loc 2), some (.pv (.int many)), some (.pv (.int most)), some (.loc (ext.length + 4)), some (.pv (.int most)), none, none] (stS sc cells g1 (s + 1) (ext ++ [.lst [.pv (.int (r - 2))]])) = .ok (.pv (.int (m : Int)), stS sc cells g1 (s + 1) (ext ++ [.lst [.pv (.int (r - 2))]])) := by
        rw [← hm']
        dsimp! [subE]
      rw [rng1_ok h1 hsm]
      exact q
    have s3 : f_law_part.body = .cons (.set 3 (.newl (.cons (.bin .sub (.call 11 (.cons (.var 0) (.cons (.k (.int 9)) .nil)) []) (.k (.int 2))) .nil))) (.cons (.set 4 (.var 2)) (.cons (.for_ (.nm 5) (.rng1 (.bin .sub (.var 1) (.k (.int 1)))) b0) (.cons (.ret (.blt .tuple (.cons (.var 3) .nil))) .nil))) := by rw [← hb0]; try rfl
    rw [s3, evB, s1]
    simp only [evB, evS.eq_1, evE.eq_1, List.getElem?_cons_zero, List.getElem?_cons_succ, List.set_cons_zero, List.set_cons_succ, s2]
    dsimp! [tup_x]
  rw [run_fn (F := f_law_part) Fi.h rfl rfl]
  have ht := take_x sc cells great g2 s (s + 1 + 3 * (m : Int)) ext (.lst (xs.map fun a => .pv (.int a)))
  rw [show MI.start f_law_part.N [MV.loc 2, MV.pv (.int many), MV.pv (.int most)] = ([some (.loc 2), some (.pv (.int many)), some (.pv (.int most)), none, none, none, none] : MI.Env) from rfl]
  rw [len_st] at ht ⊢
  rw [body, hm']
  simp only [MI.close, Bool.false_eq_true, if_false, ht]

theorem comp_ints2 {α : Type} {c : Cn} {tg : TG} {own : List Nat} {it : IT} {el : IE} {e : MI.Env} {h h' : Sto} {l : List α} {mk : α → Item} {φ : α → Int} (hi : evI c it e h = .ok (l.map mk, h')) (hl : l.length ≤ 1000) (hf : ∀ a ∈ l, compF c tg own .nil el e (mk a) h' = .ok (some (.pv (.int (φ a))), h')) :
    evE c (.comp false tg own it .nil el) e h = .ok (.pv (.lst (l.map fun a => .int (φ a))), h') := by
  rw [evE_comp, hi]
  simp only [turns_one (g := fun a => .pv (.int (φ a))) l hf, seqL_ok, oLst, List.length_map, size_le hl, if_true, Bool.false_eq_true, if_false, pures_ints, okP]
theorem big_bd : Bd 140 ((10 : Int) ^ 40 + 3) := by unfold Bd; decide
theorem dec_map {xs : List Int} (h : Dec xs) {t : Int} (ht : 0 ≤ t) : Dec (xs.map fun a => a * t) := by
  intro i a b ha hb
  rw [List.getElem?_map] at ha hb
  cases q : xs[i]? with
  | none => rw [q] at ha; cases ha
  | some x =>
    cases q2 : xs[i + 1]? with
    | none => rw [q2] at hb; cases hb
    | some y =>
      rw [q] at ha; rw [q2] at hb
      have ha := Option.some.inj ha
      have hb := Option.some.inj hb
      have := h i x y q q2
      rw [← ha, ← hb]
      exact Int.mul_le_mul_of_nonneg_right this ht
/-- a pair's parts: sizes, order, bounds -/
structure Parts (xs ys : List Int) : Prop where
  l1 : 1 ≤ xs.length
  l6 : xs.length ≤ 6
  le : ys.length = xs.length
  d1 : Dec xs
  d2 : Dec ys
  b1 : ∀ a ∈ xs, Bd 180 a
  b2 : ∀ a ∈ ys, Bd 40 a
theorem c_pair [Fi P 9 f_law_mixed] [Fi P 11 f_law_draw] [Fi P 13 f_law_part] [Fi P 14 f_law_pair] (k B : Nat) (sc : List Int) {cells great : List Int} {s : Int} (ext : Sto) (g : Good0 cells great s) (hs : s + 60 < 1000000) : ∃ xs ys great' t, Parts xs ys ∧ Good0 cells great' t ∧ t ≤ s + 40 ∧
    callI P (k + 4) 14 B [.loc 2] (stS sc cells great s ext) = .ok (.pv (.tup [tupI xs, tupI ys]), stS sc cells great' t ext) := by
  obtain ⟨r6, g6, a6, b6, gg6, e6⟩ := c_dr (P := P) (k + 1) (ext.length + 4) sc 6 ext g (by omega) (by omega) (by omega)
  obtain ⟨r4, g4, a4, b4, gg4, e4⟩ := c_dr (P := P) (k + 1) (ext.length + 4) sc 4 ext gg6 (by omega) (by omega) (by omega)
  obtain ⟨v, hv, ev⟩ := pick [1, 1, 1, 10 ^ 40 + 3] (stS sc cells g4 (s + 1 + 1) ext) a4 (by simpa using b4)
  have hv0 : 0 ≤ v ∧ Bd 140 v := by
    simp only [List.mem_cons, List.not_mem_nil, or_false] at hv
    rcases hv with rfl | rfl | rfl | rfl <;> first | exact ⟨by decide, big_bd⟩ | exact ⟨by omega, by unfold Bd; decide⟩
  obtain ⟨p, g7, lp, dp, bp, gg7, e7⟩ := c_partn (P := P) k (ext.length + 4) sc (1 + r6) 40 ext gg4 (by omega) (by omega) (by omega) (by omega)
  obtain ⟨y, g8, ly, dy, by_, gg8, e8⟩ := c_partn (P := P) k (ext.length + 4) sc (1 + r6) 40 ext gg7 (by omega) (by omega) (by omega) (by omega)
  have bdp : ∀ a ∈ p, Bd 40 a := fun a ha => by have := bp a ha; unfold Bd; omega
  refine ⟨p.map fun a => a * v, y, g8, _, ⟨by simp; omega, by simp; omega, by simp; omega, dec_map dp hv0.1, dy, fun a ha => ?_, fun a ha => by have := by_ a ha; unfold Bd; omega⟩, gg8, by omega, ?_⟩
  · rw [List.mem_map] at ha
    obtain ⟨b, hb, rfl⟩ := ha
    exact (bdp b hb).mul hv0.2
  have ec : evE (cn P (k + 3) (ext.length + 4)) f_law_pair_c0 [some (.loc 2), some (.pv (.int (1 + r6))), some (.pv (.int v)), none, none] (stS sc cells g4 (s + 1 + 1) ext) = .ok (.pv (.lst (p.map fun a => .int (a * v))), stS sc cells g7 (s + 1 + 1 + 1 + 3 * (1 + r6 - 1)) ext) := by
    refine comp_ints2 (l := p) (mk := fun a => .one (.pv (.int a))) ?_ (by omega) ?_
    · dsimp! [e7, items_tup, ones]
    · intro a ha
      dsimp! [compF, give, MI.wipe, mulE _ _ _ ((bdp a ha).two hv0.2 (by omega))]
  generalize hc : f_law_pair_c0 = cc at ec
  have body : evB (cn P (k + 3) (ext.length + 4)) f_law_pair.body [some (.loc 2), none, none, none, none] (stS sc cells great s ext) = some (.rt (.pv (.tup [tupI (p.map fun a => a * v), tupI y])), stS sc cells g8 (s + 1 + 1 + 1 + 3 * (1 + r6 - 1) + 1 + 3 * (1 + r6 - 1)) ext) := by
    dsimp! [f_law_pair, hc, e6, addE, oLst, pures, size_le (show 4 ≤ 1000 by omega), Nat.reduceAdd, powE 10 40 _ (by decide), show (40 : Int).toNat = 40 from rfl, e4, show (.lst [.int 1, .int 1, .int 1, .int (10 ^ 40 + 3)] : PV) = .lst ([1, 1, 1, 10 ^ 40 + 3].map .int) from rfl, ev, ec, blt_tup, e8, size_le (show 2 ≤ 1000 by omega)]
    simp only [tupI, List.map_map, Function.comp_def]
  rw [run_fn (F := f_law_pair) Fi.h rfl rfl, len_st]
  rw [show MI.start f_law_pair.N [MV.loc 2] = ([some (.loc 2), none, none, none, none] : MI.Env) from rfl, body]
  have ht := take_st sc cells great g8 s (s + 1 + 1 + 1 + 3 * (1 + r6 - 1) + 1 + 3 * (1 + r6 - 1)) ext
  rw [len_st] at ht
  simp only [MI.close, Bool.false_eq_true, if_false, ht]

end MI

namespace MI
open PySem L2
open Lean.Parser.Tactic in
local macro_rules | `(tactic| dsimp! [$ts,*]) => `(tactic| simp only [evB, evS_for, evE_comp, evT, evEs, evC, evO, evI, evE.eq_1, evE.eq_2, evE.eq_3, evE.eq_4, evE.eq_5, evE.eq_6, evE.eq_7, evE.eq_8, evE.eq_9, evE.eq_10, evE.eq_11, evE.eq_12, evE.eq_13, evE.eq_14, evE.eq_15, evE.eq_16, evE.eq_17, evE.eq_18, evE.eq_19, evE.eq_20, evE.eq_21, evE.eq_22, evE.eq_23, evE.eq_25, evE.eq_26, evE.eq_27, evE.eq_28, evE.eq_29, evE.eq_30, evS.eq_1, evS.eq_2, evS.eq_3, evS.eq_4, evS.eq_5, evS.eq_6, evS.eq_7, evS.eq_8, evS.eq_11, evS.eq_12, evS.eq_13, evS.eq_14, evS.eq_15, cn_C, cn_B, cn_rp, cn_f, cn_nx, cn_sub, cn_fuel, MI.start, List.map_cons, List.map_nil, List.length_cons, List.length_nil, List.replicate, List.cons_append, List.nil_append, List.append_nil, List.singleton_append, List.getElem?_cons_zero, List.getElem?_cons_succ, List.set_cons_zero, List.set_cons_succ, seq1_ok, seqL_ok, okP, Bool.false_eq_true, if_false, if_true, Bool.not_true, Bool.not_false, Nat.reduceSub, MI.close, take_all, $ts,*])
variable {P : Prg} [Bas P]
def negL (xs : List Int) : List Int := xs.reverse.map fun a => -a
theorem dec_add {xs : List Int} (h : Dec xs) (t : Int) : Dec (xs.map fun a => a + t) := by
  intro i a b ha hb
  rw [List.getElem?_map] at ha hb
  cases q : xs[i]? with
  | none => rw [q] at ha; cases ha
  | some x =>
    cases q2 : xs[i + 1]? with
    | none => rw [q2] at hb; cases hb
    | some y =>
      rw [q] at ha; rw [q2] at hb
      have ha := Option.some.inj ha
      have hb := Option.some.inj hb
      have := h i x y q q2
      dsimp only at ha hb
      omega
theorem dec_neg {xs : List Int} (h : Dec xs) : Dec (negL xs) := by
  intro i a b ha hb
  unfold negL at ha hb
  rw [List.getElem?_map] at ha hb
  have l1 : i + 1 < xs.length := by
    by_cases z : i + 1 < xs.length
    · exact z
    · rw [List.getElem?_eq_none (by simp; omega)] at hb; cases hb
  rw [List.getElem?_reverse (by omega)] at ha hb
  have e1 : xs.length - 1 - i = (xs.length - 1 - (i + 1)) + 1 := by omega
  cases q : xs[xs.length - 1 - (i + 1)]? with
  | none => rw [q] at hb; cases hb
  | some x =>
    cases q2 : xs[xs.length - 1 - i]? with
    | none => rw [q2] at ha; cases ha
    | some y =>
      rw [q2] at ha; rw [q] at hb
      have ha := Option.some.inj ha
      have hb := Option.some.inj hb
      rw [e1] at q2
      have := h _ x y q q2
      dsimp only at ha hb
      omega
theorem negL_negL (xs : List Int) : negL (negL xs) = xs := by
  unfold negL
  rw [← List.map_reverse, List.reverse_reverse, List.map_map]
  simp [Function.comp_def]
theorem negL_len (xs : List Int) : (negL xs).length = xs.length := by simp [negL]
/-! ### texts -/
theorem rlens_ints (d : Nat) : ∀ xs : List Int, (∀ a ∈ xs, Bd 1000 a) → rlens d (xs.map .int) = some (xs.length * 1924)
  | [], _ => rfl
  | a :: xs, h => by
    have ha := (h a List.mem_cons_self).lg
    have hx : a.natAbs.log2 < 1920 := by omega
    have ih := rlens_ints d xs fun b hb => h b (List.mem_cons_of_mem _ hb)
    simp only [List.map_cons, rlens, rlen, hx, if_true, ih, List.length_cons]
    congr 1
    omega
/-- short tuples of ints that are not too long -/
def Sh (xs : List Int) : Prop := xs.length ≤ 6 ∧ ∀ a ∈ xs, Bd 1000 a
theorem rlen_tup (d : Nat) {xs : List Int} (h : Sh xs) : ∃ n, rlen (d + 1) (tupI xs) = some n ∧ n ≤ 12000 := by
  refine ⟨xs.length * 1924 + 3, ?_, by have := h.1; omega⟩
  simp only [tupI, rlen, rlens_ints d xs h.2, Option.map_some]
theorem rlens_tups (d : Nat) : ∀ ls : List (List Int), (∀ xs ∈ ls, Sh xs) → ∃ n, rlens (d + 1) (ls.map tupI) = some n ∧ n ≤ ls.length * 12002
  | [], _ => ⟨0, rfl, by simp⟩
  | xs :: ls, h => by
    obtain ⟨a, ea, ha⟩ := rlen_tup d (h xs List.mem_cons_self)
    obtain ⟨b, eb, hb⟩ := rlens_tups d ls fun y hy => h y (List.mem_cons_of_mem _ hy)
    refine ⟨a + b + 2, ?_, by simp only [List.length_cons]; omega⟩
    simp only [List.map_cons, rlens, ea, eb]
theorem repr_ok {p : PV} {n : Nat} (h : Sto) (e : rlen 60 p = some n) (hn : n ≤ 16000000) : oBlt rpOf .repr [.pv p] h = .ok (.pv (.str (rpOf p)), h) := by
  simp only [oBlt, snap, e, hn, if_true, okP]
theorem repr_lst (ls : List (List Int)) (h : Sto) (hl : ls.length ≤ 10) (q : ∀ xs ∈ ls, Sh xs) : oBlt rpOf .repr [.pv (.lst (ls.map tupI))] h = .ok (.pv (.str (rpOf (.lst (ls.map tupI)))), h) := by
  obtain ⟨n, e, hn⟩ := rlens_tups 58 ls q
  refine repr_ok (n := n + 3) h ?_ (by omega)
  simp only [rlen, e, Option.map_some]
theorem repr_tup (xs : List Int) (h : Sto) (q : Sh xs) : oBlt rpOf .repr [.pv (tupI xs)] h = .ok (.pv (.str (rpOf (tupI xs))), h) := by
  obtain ⟨n, e, hn⟩ := rlen_tup 59 q
  exact repr_ok h e (by omega)
theorem ne_str (a : Str) (h : Sto) : oCmp .ne (.pv (.str a)) (.pv (.str a)) h = .ok (.pv (.bl false), h) := by
  simp only [oCmp, snap, eqOf, beq_self_eq_true, Option.map_some, Bool.not_true, okB, okP]
theorem flip_map (xs : List Int) : ((List.range xs.length).map fun (n : Nat) => 0 - xs[xs.length - 1 - n]?.getD 0) = negL xs := by
  apply List.ext_getElem?
  intro i
  unfold negL
  rw [List.getElem?_map, List.getElem?_map]
  by_cases hi : i < xs.length
  · rw [List.getElem?_range hi, List.getElem?_reverse hi]
    have e : xs[xs.length - 1 - i]? = some (xs[xs.length - 1 - i]'(by omega)) := List.getElem?_eq_getElem _
    simp [e]
  · rw [List.getElem?_eq_none (by simp; omega), List.getElem?_eq_none (by simp; omega)]; try rfl
/-! ### statement by statement -/
theorem evB_if0 {c : Cn} {t : IE} {a ss : ISs} {e : MI.Env} {h h1 : Sto} {r : RS} (ht : evT c t e h = .ok (false, h1)) (hr : evB c ss e h1 = r) : evB c (.cons (.iff t a .nil) ss) e h = r := by
  rw [evB, evS.eq_8, ht]
  simp only [evB]
  exact hr
theorem evB_ift {c : Cn} {t : IE} {a b ss : ISs} {e : MI.Env} {h h1 : Sto} {r : RS} (ht : evT c t e h = .ok (true, h1)) (hr : (match evB c a e h1 with | some (.nx e1, h2) => evB c ss e1 h2 | r => r) = r) : evB c (.cons (.iff t a b) ss) e h = r := by
  rw [evB, evS.eq_8, ht]
  exact hr
theorem evB_iff {c : Cn} {t : IE} {a b ss : ISs} {e : MI.Env} {h h1 : Sto} {r : RS} (ht : evT c t e h = .ok (false, h1)) (hr : (match evB c b e h1 with | some (.nx e1, h2) => evB c ss e1 h2 | r => r) = r) : evB c (.cons (.iff t a b) ss) e h = r := by
  rw [evB, evS.eq_8, ht]
  exact hr
theorem evB_set {c : Cn} {i : Nat} {a : IE} {ss : ISs} {e : MI.Env} {h h1 : Sto} {v : MV} {r : RS} (ha : evE c a e h = .ok (v, h1)) (hr : evB c ss (e.set i (some v)) h1 = r) : evB c (.cons (.set i a) ss) e h = r := by
  rw [evB, evS.eq_1, ha]
  exact hr
theorem evB_ret {c : Cn} {a : IE} {ss : ISs} {e : MI.Env} {h h1 : Sto} {v : MV} (ha : evE c a e h = .ok (v, h1)) : evB c (.cons (.ret a) ss) e h = some (.rt v, h1) := by
  rw [evB, evS.eq_5, ha]
theorem evB_ex {c : Cn} {a : IE} {ss : ISs} {e : MI.Env} {h h1 : Sto} {v : MV} {r : RS} (ha : evE c a e h = .ok (v, h1)) (hr : evB c ss e h1 = r) : evB c (.cons (.ex a) ss) e h = r := by
  rw [evB, evS.eq_7, ha]
  exact hr
theorem evB_nx {c : Cn} {s : IS} {ss : ISs} {e e1 : MI.Env} {h h1 : Sto} {r : RS} (hs : evS c s e h = some (.nx e1, h1)) (hr : evB c ss e1 h1 = r) : evB c (.cons s ss) e h = r := by
  rw [evB, hs]
  exact hr
/-- a for whose turns all go on -/
theorem evB_for {c : Cn} {tg : TG} {it : IT} {b ss : ISs} {e e1 : MI.Env} {h h1 h2 : Sto} {its : List Item} {r : RS} (hi : evI c it e h = .ok (its, h1)) (hl : loop (forF c tg b) its e h1 = some (.nx e1, h2)) (hr : evB c ss e1 h2 = r) : evB c (.cons (.for_ tg it b) ss) e h = r := by
  rw [evB, evS_for, hi]
  dsimp only
  rw [hl]
  exact hr
theorem run_rt {k j B : Nat} {vs : List MV} {h h1 : Sto} {F : Fn} {v : PV} (hf : P.fns j = some F) (hk : F.keep = false) (hl : vs.length = F.ps.length) (hb : evB (cn P k h.length) F.body (MI.start F.N vs) h = some (.rt (.pv v), h1)) : callI P (k + 1) j B vs h = .ok (.pv v, h1.take h.length) := by
  rw [run_fn hf hk hl, hb]
  rfl
theorem rng_len {c : Cn} {a : IE} {e : MI.Env} {h h' : Sto} {m : Nat} (hm : m ≤ 1000) (ha : evE c a e h = .ok (.pv (.int (m : Int)), h')) : evI c (.rng1 a) e h = .ok ((List.range m).map fun (k : Nat) => Item.one (.pv (.int (0 + (k : Int)))), h') := rng1_ok ha (small_nat hm)
theorem blt_repr {ls : List (List Int)} (h : Sto) (hl : ls.length ≤ 10) (q : ∀ xs ∈ ls, Sh xs) : oBlt rpOf .repr [.pv (.lst (ls.map tupI))] h = .ok (.pv (.str (rpOf (.lst (ls.map tupI)))), h) := repr_lst ls h hl q
theorem oLst_f (vs : List MV) {ps : List PV} (h : Sto) (e : pures vs = some ps) (hl : vs.length ≤ 1000) : oLst false vs h = .ok (.pv (.lst ps), h) := by
  simp only [oLst, size_le hl, if_true, Bool.false_eq_true, if_false, e, okP]
/-- tuple([..]) of ints -/
theorem tup_of {P : Prg} {k B : Nat} {a : IE} {e : MI.Env} {h h1 : Sto} {xs : List Int} (ha : evE (cn P k B) a e h = .ok (.pv (.lst (xs.map .int)), h1)) : evE (cn P k B) (.blt .tuple (.cons a .nil)) e h = .ok (.pv (tupI xs), h1) := by
  dsimp! [ha, blt_tup]
  rfl
theorem evT_cmp {c : Cn} {o : CO} {a b : IE} {e : MI.Env} {h h1 h2 h3 : Sto} {x y v : MV} {t : Bool} (ha : evE c a e h = .ok (x, h1)) (hb : evE c b e h1 = .ok (y, h2)) (hv : oCmp o x y h2 = .ok (v, h3)) (ht : truth v h3 = some t) : evT c (.cmp o a b) e h = .ok (t, h3) := by
  rw [evT, ha, seq1_ok, hb, seq1_ok, hv, seq1_ok, ht]
end MI

namespace MI
open PySem L2
open Lean.Parser.Tactic in
local macro_rules | `(tactic| dsimp! [$ts,*]) => `(tactic| simp only [evB, evS_for, evE_comp, evT, evEs, evC, evO, evI, evE.eq_1, evE.eq_2, evE.eq_3, evE.eq_4, evE.eq_5, evE.eq_6, evE.eq_7, evE.eq_8, evE.eq_9, evE.eq_10, evE.eq_11, evE.eq_12, evE.eq_13, evE.eq_14, evE.eq_15, evE.eq_16, evE.eq_17, evE.eq_18, evE.eq_19, evE.eq_20, evE.eq_21, evE.eq_22, evE.eq_23, evE.eq_25, evE.eq_26, evE.eq_27, evE.eq_28, evE.eq_29, evE.eq_30, evS.eq_1, evS.eq_2, evS.eq_3, evS.eq_4, evS.eq_5, evS.eq_6, evS.eq_7, evS.eq_8, evS.eq_11, evS.eq_12, evS.eq_13, evS.eq_14, evS.eq_15, cn_C, cn_B, cn_rp, cn_f, cn_nx, cn_sub, cn_fuel, MI.start, List.map_cons, List.map_nil, List.length_cons, List.length_nil, List.replicate, List.cons_append, List.nil_append, List.append_nil, List.singleton_append, List.getElem?_cons_zero, List.getElem?_cons_succ, List.set_cons_zero, List.set_cons_succ, seq1_ok, seqL_ok, okP, Bool.false_eq_true, if_false, if_true, Bool.not_true, Bool.not_false, Nat.reduceSub, MI.close, take_all, $ts,*])
variable {P : Prg} [Bas P]
/-- a comprehension whose parts change the store -/
theorem turns_ind {f : Item → Sto → R (Option MV × Sto)} : ∀ (xs : List Item) (I : Nat → Sto → Prop) (V : Nat → MV → Prop) (n : Nat) (h : Sto), (∀ i x h, xs[i]? = some x → I (n + i) h → ∃ v h', f x h = .ok (some v, h') ∧ V (n + i) v ∧ I (n + i + 1) h') → I n h →
    ∃ vs h', turns f xs h = .ok (vs, h') ∧ vs.length = xs.length ∧ (∀ i v, vs[i]? = some v → V (n + i) v) ∧ I (n + xs.length) h'
  | [], I, V, n, h, _, i0 => ⟨[], h, rfl, rfl, fun i v e => by simp at e, i0⟩
  | x :: xs, I, V, n, h, st, i0 => by
    obtain ⟨v, h1, q, pv, i1⟩ := st 0 x h rfl i0
    obtain ⟨vs, h2, q2, l2, p2, i2⟩ := turns_ind xs I V (n + 1) h1 (fun i y h hy hi => by
      have := st (i + 1) y h (by simpa using hy) (by rw [show n + (i + 1) = n + 1 + i by omega]; exact hi)
      rw [show n + (i + 1) = n + 1 + i by omega] at this
      exact this) i1
    refine ⟨v :: vs, h2, ?_, by simp [l2], fun i w e => ?_, by rw [List.length_cons, show n + (xs.length + 1) = n + 1 + xs.length by omega]; exact i2⟩
    · simp only [turns, q, q2]
    · cases i with
      | zero => simp at e; subst e; exact pv
      | succ i => rw [show n + (i + 1) = n + 1 + i by omega]; exact p2 i w (by simpa using e)
theorem compS {c : Cn} {new : Bool} {tg : TG} {own : List Nat} {it : IT} {el : IE} {e : MI.Env} {h h1 h2 : Sto} {its : List Item} {vs : List MV} (hi : evI c it e h = .ok (its, h1)) (ht : turns (compF c tg own .nil el e) its h1 = .ok (vs, h2)) : evE c (.comp new tg own it .nil el) e h = oLst new vs h2 := by
  rw [evE_comp, hi]
  simp only [ht, seqL_ok]
/-- ints as values -/
abbrev iv (a : Int) : MV := .pv (.int a)
theorem rng_at {m i : Nat} {x : Item} (e : (rangeI 0 m)[i]? = some x) : i < m ∧ x = .one (.pv (.int (i : Int))) := by
  rw [range_items, List.getElem?_map] at e
  by_cases hi : i < m
  · rw [List.getElem?_range hi] at e
    cases e
    exact ⟨hi, by simp⟩
  · rw [List.getElem?_eq_none (by simp; omega)] at e; cases e
theorem rng_lenI (m : Nat) : (rangeI 0 m).length = m := by simp [rangeI]
/-! ### the law's weights and pieces -/
theorem c_weights [Fi P 30 f_law_weights] (k B : Nat) (a b c : Int) (h : Sto) : callI P (k + 1) 30 B [iv a, iv b, iv c] h = .ok (.pv (tupI [a - b, b - c, c]), h) := by
  have := run_rt (P := P) (j := 30) (k := k) (B := B) (vs := [iv a, iv b, iv c]) (h := h) (h1 := h) (v := tupI [a - b, b - c, c]) (F := f_law_weights) Fi.h rfl rfl (by
    dsimp! [f_law_weights, iv, subE, pures, size_le (show 3 ≤ 1000 by omega), Nat.reduceAdd]
    rfl)
  rw [List.take_length] at this
  exact this
structure PieceOk (many : Int) (p : PV) : Prop where
  ex : ∃ a b c d e : Int, p = tupI [a, b, c, d, e] ∧ 0 ≤ a ∧ a < 3 ∧ 0 ≤ b ∧ b < 3 ∧ 0 ≤ c ∧ c < 3 ∧ 0 ≤ d ∧ d ≤ many ∧ 0 ≤ e ∧ e ≤ many
theorem c_piece [Fi P 9 f_law_mixed] [Fi P 11 f_law_draw] [Fi P 31 f_law_piece] (k B : Nat) (sc : List Int) {cells great : List Int} {s : Int} (many : Int) (ext : Sto) (g : Good0 cells great s) (hs : s + 10 < 1000000) (h1 : 1 ≤ many) (h6 : many ≤ 6) :
    ∃ p great', PieceOk many p ∧ Good0 cells great' (s + 5) ∧ callI P (k + 3) 31 B [.loc 2, iv many] (stS sc cells great s ext) = .ok (.pv p, stS sc cells great' (s + 5) ext) := by
  obtain ⟨r1, g1, a1, b1, gg1, e1⟩ := c_dr (P := P) k (ext.length + 4) sc 3 ext g (by omega) (by omega) (by omega)
  obtain ⟨r2, g2, a2, b2, gg2, e2⟩ := c_dr (P := P) k (ext.length + 4) sc 2 ext gg1 (by omega) (by omega) (by omega)
  obtain ⟨r3, g3, a3, b3, gg3, e3⟩ := c_dr (P := P) k (ext.length + 4) sc 3 ext gg2 (by omega) (by omega) (by omega)
  obtain ⟨r4, g4, a4, b4, gg4, e4⟩ := c_dr (P := P) k (ext.length + 4) sc (many + 1) ext gg3 (by omega) (by omega) (by omega)
  obtain ⟨r5, g5, a5, b5, gg5, e5⟩ := c_dr (P := P) k (ext.length + 4) sc (many + 1) ext gg4 (by omega) (by omega) (by omega)
  have es : s + 1 + 1 + 1 + 1 + 1 = s + 5 := by omega
  have hm := mod_pos' (a := r1 + 1 + r2) (b := 3) (by omega)
  refine ⟨tupI [r3, r1, (r1 + 1 + r2) % 3, r4, r5], g5, ⟨_, _, _, _, _, rfl, a3, b3, a1, b1, hm.1, hm.2, a4, by omega, a5, by omega⟩, by rw [← es]; exact gg5, ?_⟩
  have body : evB (cn P (k + 2) (stS sc cells great s ext).length) f_law_piece.body [some (.loc 2), some (iv many), none, none] (stS sc cells great s ext) = some (.rt (.pv (tupI [r3, r1, (r1 + 1 + r2) % 3, r4, r5])), stS sc cells g5 (s + 5) ext) := by
    rw [len_st]
    unfold f_law_piece
    refine evB_set (v := iv r1) (h1 := stS sc cells g1 (s + 1) ext) (by dsimp! [e1]) ?_
    dsimp only [List.set_cons_succ, List.set_cons_zero]
    refine evB_set (v := iv ((r1 + 1 + r2) % 3)) (h1 := stS sc cells g2 (s + 1 + 1) ext) (by dsimp! [iv, addE, e2, modE _ (3 : Int) _ (by omega)]) ?_
    dsimp only [List.set_cons_succ, List.set_cons_zero]
    refine evB_ret ?_
    dsimp! [iv, e3, addE, e4, e5, pures, size_le (show 5 ≤ 1000 by omega), Nat.reduceAdd, es]
    rfl
  have := run_rt (P := P) (j := 31) (k := k + 2) (B := B) (vs := [.loc 2, iv many]) (h := stS sc cells great s ext) (F := f_law_piece) Fi.h rfl rfl body
  rw [take_st] at this
  exact this
theorem minE3 (rp : PV → Str) (a b c : Int) (h : Sto) : oBlt rp .min [.pv (.int a), .pv (.int b), .pv (.int c)] h = .ok (.pv (.int (minI a [b, c])), h) := rfl
theorem eqE (a b : Int) (h : Sto) : oCmp .eq (.pv (.int a)) (.pv (.int b)) h = .ok (.pv (.bl (a == b)), h) := by simp [oCmp, snap, eqOf, MI.plain, pvEq, okB, okP]
/-- an item of three ints -/
theorem pick3 (x y z : Int) (h : Sto) {r : Int} (h0 : 0 ≤ r) (h1 : r < 3) : ∃ v, (v = x ∨ v = y ∨ v = z) ∧ oIdx (.pv (tupI [x, y, z])) (.pv (.int r)) h = .ok (.pv (.int v), h) := by
  obtain ⟨n, rfl⟩ : ∃ n : Nat, r = (n : Int) := ⟨r.toNat, by omega⟩
  have hn : n < 3 := by omega
  have e : [x, y, z][n]? = some ([x, y, z][n]'(by simpa using hn)) := List.getElem?_eq_getElem _
  refine ⟨_, ?_, idx_tup h e⟩
  match n, hn with
  | 0, _ => exact .inl rfl
  | 1, _ => exact .inr (.inl rfl)
  | 2, _ => exact .inr (.inr rfl)
theorem c_piece_at [Fi P 32 f_law_piece_at] (k B : Nat) (p : PV) (many w1 w2 w3 : Int) (h : Sto) (hp : PieceOk many p) (h6 : many ≤ 6) (q1 : 0 ≤ w1 ∧ w1 ≤ 6) (q2 : 0 ≤ w2 ∧ w2 ≤ 6) (q3 : 0 ≤ w3 ∧ w3 ≤ 6) :
    ∃ v : Int, -6 ≤ v ∧ v ≤ 6 ∧ callI P (k + 1) 32 B [.pv p, .pv (tupI [w1, w2, w3])] h = .ok (iv v, h) := by
  obtain ⟨a, b, c, d, e, rfl, ha, ha', hb, hb', hc, hc', hd, hd', he, he'⟩ := hp
  obtain ⟨vb, ob, eb⟩ := pick3 w1 w2 w3 h hb hb'
  obtain ⟨vc, oc, ec⟩ := pick3 w1 w2 w3 h hc hc'
  have fin : ∀ v : Int, evB (cn P k h.length) f_law_piece_at.body [some (.pv (tupI [a, b, c, d, e])), some (.pv (tupI [w1, w2, w3])), none, none, none, none, none] h = some (.rt (iv v), h) → callI P (k + 1) 32 B [.pv (tupI [a, b, c, d, e]), .pv (tupI [w1, w2, w3])] h = .ok (iv v, h) := fun v q => by
    have := run_rt (P := P) (j := 32) (k := k) (B := B) (vs := [.pv (tupI [a, b, c, d, e]), .pv (tupI [w1, w2, w3])]) (h := h) (F := f_law_piece_at) Fi.h rfl rfl q
    rw [List.take_length] at this
    exact this
  have s1 : ∀ {ss : ISs} {r : RS}, evB (cn P k h.length) ss [some (.pv (tupI [a, b, c, d, e])), some (.pv (tupI [w1, w2, w3])), some (iv a), some (iv b), some (iv c), some (iv d), some (iv e)] h = r →
      evB (cn P k h.length) (.cons (.unp [2, 3, 4, 5, 6] (.var 0)) ss) [some (.pv (tupI [a, b, c, d, e])), some (.pv (tupI [w1, w2, w3])), none, none, none, none, none] h = r := fun {ss r} q =>
    evB_nx (e1 := [some (.pv (tupI [a, b, c, d, e])), some (.pv (tupI [w1, w2, w3])), some (iv a), some (iv b), some (iv c), some (iv d), some (iv e)]) (h1 := h) (by dsimp! [give, tupI, setAll, iv]) q
  by_cases z0 : a = 0
  · subst z0
    refine ⟨vb, by omega, by omega, fin vb ?_⟩
    unfold f_law_piece_at
    refine s1 (evB_ift (h1 := h) (by dsimp! [iv, eqE, truth, beq_self_eq_true]) ?_)
    rw [evB_ret (v := iv vb) (h1 := h) (by dsimp! [iv, eb])]
  · by_cases z1 : a = 1
    · subst z1
      refine ⟨if d < vb then d else vb, by split <;> omega, by split <;> omega, fin _ ?_⟩
      unfold f_law_piece_at
      refine s1 (evB_if0 (h1 := h) (by dsimp! [iv, eqE, truth, show ((1 : Int) == 0) = false from rfl]) (evB_ift (h1 := h) (by dsimp! [iv, eqE, truth, beq_self_eq_true]) ?_))
      rw [evB_ret (v := iv (if d < vb then d else vb)) (h1 := h) (by dsimp! [iv, eb, minE])]
    · have n0 : (a == 0) = false := by simpa using z0
      have n1 : (a == 1) = false := by simpa using z1
      have hm := minI_spec [vb - d, e - vc] 0
      have m1 : minI 0 [vb - d, e - vc] = 0 ∨ minI 0 [vb - d, e - vc] = vb - d ∨ minI 0 [vb - d, e - vc] = e - vc := by simpa using hm.1
      refine ⟨minI 0 [vb - d, e - vc], by omega, by omega, fin _ ?_⟩
      unfold f_law_piece_at
      refine s1 (evB_if0 (h1 := h) (by dsimp! [iv, eqE, truth, n0]) (evB_if0 (h1 := h) (by dsimp! [iv, eqE, truth, n1]) ?_))
      exact evB_ret (by dsimp! [iv, eb, ec, subE, minE3])
end MI

namespace MI
open PySem L2
open Lean.Parser.Tactic in
local macro_rules | `(tactic| dsimp! [$ts,*]) => `(tactic| simp only [evB, evS_for, evE_comp, evT, evEs, evC, evO, evI, evE.eq_1, evE.eq_2, evE.eq_3, evE.eq_4, evE.eq_5, evE.eq_6, evE.eq_7, evE.eq_8, evE.eq_9, evE.eq_10, evE.eq_11, evE.eq_12, evE.eq_13, evE.eq_14, evE.eq_15, evE.eq_16, evE.eq_17, evE.eq_18, evE.eq_19, evE.eq_20, evE.eq_21, evE.eq_22, evE.eq_23, evE.eq_25, evE.eq_26, evE.eq_27, evE.eq_28, evE.eq_29, evE.eq_30, evS.eq_1, evS.eq_2, evS.eq_3, evS.eq_4, evS.eq_5, evS.eq_6, evS.eq_7, evS.eq_8, evS.eq_11, evS.eq_12, evS.eq_13, evS.eq_14, evS.eq_15, cn_C, cn_B, cn_rp, cn_f, cn_nx, cn_sub, cn_fuel, MI.start, List.map_cons, List.map_nil, List.length_cons, List.length_nil, List.replicate, List.cons_append, List.nil_append, List.append_nil, List.singleton_append, List.getElem?_cons_zero, List.getElem?_cons_succ, List.set_cons_zero, List.set_cons_succ, seq1_ok, seqL_ok, okP, Bool.false_eq_true, if_false, if_true, Bool.not_true, Bool.not_false, Nat.reduceSub, MI.close, take_all, $ts,*])
variable {P : Prg} [Bas P]
theorem ints_of {Q : Int → Prop} : ∀ {vs : List MV}, (∀ (i : Nat) (v : MV), vs[i]? = some v → ∃ a, v = iv a ∧ Q a) → ∃ l : List Int, vs = l.map iv ∧ ∀ a ∈ l, Q a
  | [], _ => ⟨[], rfl, by simp⟩
  | v :: vs, h => by
    obtain ⟨a, rfl, qa⟩ := h 0 v rfl
    obtain ⟨l, rfl, ql⟩ := ints_of (vs := vs) fun i w e => h (i + 1) w (by simpa using e)
    refine ⟨a :: l, rfl, fun b hb => ?_⟩
    rcases List.mem_cons.mp hb with rfl | hb
    · exact qa
    · exact ql b hb
theorem toInts_ints : ∀ l : List Int, toInts (l.map PV.int) = some l
  | [] => rfl
  | a :: l => by simp only [List.map_cons, toInts, toInts_ints l]
theorem pures_iv (l : List Int) : pures (l.map iv) = some (l.map PV.int) := pures_ints (fun a => a) l
theorem sum_lst (rp : PV → Str) (l : List Int) (h : Sto) : oBlt rp .sum [.pv (.lst (l.map PV.int))] h = .ok (iv l.sum, h) := by
  simp only [oBlt, seqp, seqv, pures_map, toInts_ints, okP]
theorem sum_tup (rp : PV → Str) (l : List Int) (h : Sto) : oBlt rp .sum [.pv (tupI l)] h = .ok (iv l.sum, h) := by
  simp only [oBlt, seqp, seqv, tupI, pures_map, toInts_ints, okP]
theorem sum_bd (b : Int) : ∀ l : List Int, (∀ a ∈ l, -b ≤ a ∧ a ≤ b) → -(b * l.length) ≤ l.sum ∧ l.sum ≤ b * l.length
  | [], _ => by simp
  | a :: l, h => by
    have h1 := h a List.mem_cons_self
    have h2 := sum_bd b l fun x hx => h x (List.mem_cons_of_mem _ hx)
    have e : b * ((a :: l).length : Int) = b * (l.length : Int) + b := by
      rw [List.length_cons]
      push_cast
      rw [Int.mul_add, Int.mul_one]
    rw [e, List.sum_cons]
    omega
theorem oLst_iv (l : List Int) (h : Sto) (hl : l.length ≤ 1000) : oLst false (l.map iv) h = .ok (.pv (.lst (l.map PV.int)), h) := oLst_f _ h (pures_iv l) (by simpa using hl)
/-! ### the last object of a store -/
theorem get_last (H : Sto) (o : MO) : (H ++ [o])[H.length]? = some o := by simp
theorem set_last (H : Sto) (o o' : MO) : (H ++ [o]).set H.length o' = H ++ [o'] := by simp [List.set_append_right]
theorem get_mid (H gs : Sto) (o : MO) : (H ++ o :: gs)[H.length]? = some o := by simp
theorem set_mid (H gs : Sto) (o o' : MO) : (H ++ o :: gs).set H.length o' = H ++ o' :: gs := by simp [List.set_append_right]
theorem app_mid (B : Nat) (H gs : Sto) (xs : List MV) (v : PV) (hl : xs.length ≤ 1000) : oApp B (.loc H.length) (.pv v) (H ++ .lst xs :: gs) = .ok (.pv .non, H ++ .lst (xs ++ [.pv v]) :: gs) := by
  have : xs.length < sizeLim := by unfold sizeLim; omega
  simp only [oApp, may, if_true, get_mid, this, set_mid, okP]
theorem open_mid (H gs : Sto) (xs : List MV) : isOpenL (.loc H.length) (H ++ .lst xs :: gs) = true := by simp only [isOpenL, get_mid]
theorem frzL_pv (f : MV → Sto → Option (PV × Sto)) (hf : ∀ p h, f (.pv p) h = some (p, h)) : ∀ (ps : List PV) (h : Sto), frzL f (ps.map MV.pv) h = some (ps, h)
  | [], _ => rfl
  | p :: ps, h => by simp only [List.map_cons, frzL, hf, frzL_pv f hf ps h]
theorem frzV_pv (d : Nat) (p : PV) (h : Sto) : frzV d (.pv p) h = some (p, h) := by cases d <;> rfl
theorem frz_mid (H gs : Sto) (ps : List PV) : oFrz (.loc H.length) (H ++ .lst (ps.map MV.pv) :: gs) = .ok (.pv (.lst ps), H ++ .lock ps :: gs) := by
  have n : isLock (.loc H.length) (H ++ .lst (ps.map MV.pv) :: gs) = false := by simp only [isLock, get_mid]
  have v : frzV 4 (.loc H.length) (H ++ .lst (ps.map MV.pv) :: gs) = some (.lst ps, H ++ .lock ps :: gs) := by
    rw [frzV]
    simp only [get_mid, frzL_pv (frzV 3) (frzV_pv 3) ps, set_mid]
  simp only [oFrz, n, Bool.false_eq_true, if_false, v, okP]
theorem frz_pv (p : PV) (h : Sto) : oFrz (.pv p) h = .ok (.pv p, h) := by
  simp only [oFrz, isLock, Bool.false_eq_true, if_false, frzV_pv, okP]
/-! ### triangles -/
structure Gr (n : Nat) (g : List (List Int)) : Prop where
  len : g.length = n + 1
  row : ∀ r l, g[r]? = some l → l.length = r + 1
  top : g[0]? = some [0]
def GrB (b : Int) (g : List (List Int)) : Prop := ∀ l ∈ g, ∀ a ∈ l, -b ≤ a ∧ a ≤ b
def tupII (g : List (List Int)) : PV := .tup (g.map tupI)
def PairOk (many : Int) (q : PV) : Prop := ∃ (p : PV) (t : Int), q = .tup [p, .int t] ∧ PieceOk many p ∧ 0 ≤ t ∧ t < 4
/-- the sum over the pieces at a vertex -/
theorem c_spot [Fi P 32 f_law_piece_at] (k : Nat) (many : Int) (ps : List PV) (h : Sto) (e : MI.Env) (B : Nat) (w1 w2 w3 : Int) (e1 : e[1]? = some (some (.pv (.lst ps)))) (e6 : e[6]? = some (some (.pv (tupI [w1, w2, w3])))) (e8 : 10 ≤ e.length) (hp : ∀ q ∈ ps, PairOk many q) (hl : ps.length ≤ 6) (h6 : many ≤ 6)
    (q1 : 0 ≤ w1 ∧ w1 ≤ 6) (q2 : 0 ≤ w2 ∧ w2 ≤ 6) (q3 : 0 ≤ w3 ∧ w3 ≤ 6) : ∃ v : Int, -108 ≤ v ∧ v ≤ 108 ∧ evE (cn P (k + 1) B) (.blt .sum (.cons f_law_grid_of_v2_c0 .nil)) e h = .ok (iv v, h) := by
  obtain ⟨vs, h', ht, lv, pv, rfl⟩ := turns_ind (f := compF (cn P (k + 1) B) (.tp [8, 9]) [8, 9] .nil (.bin .mul (.var 9) (.call 32 (.cons (.var 8) (.cons (.var 6) .nil)) [])) e) ((ps.map MV.pv).map Item.one) (fun _ h' => h' = h) (fun _ v => ∃ a, v = iv a ∧ -18 ≤ a ∧ a ≤ 18) 0 h (by
    rintro i x h' hx rfl
    rw [List.map_map, List.getElem?_map] at hx
    cases q : ps[i]? with
    | none => rw [q] at hx; cases hx
    | some y =>
      rw [q] at hx
      cases hx
      obtain ⟨p, t, rfl, pk, t0, t4⟩ := hp y (List.mem_of_getElem? q)
      obtain ⟨v, v0, v6, ev⟩ := c_piece_at (P := P) k B p many w1 w2 w3 h' pk h6 q1 q2 q3
      have hb : -18 ≤ t * v ∧ t * v ≤ 18 := by
        have t5 : t = 0 ∨ t = 1 ∨ t = 2 ∨ t = 3 := by omega
        rcases t5 with rfl | rfl | rfl | rfl <;> omega
      refine ⟨iv (t * v), h', ?_, ⟨_, rfl, hb⟩, rfl⟩
      have bt : Bd 40 t := by unfold Bd; omega
      have bv : Bd 40 v := by unfold Bd; omega
      have g8 : ((MI.wipe e [8, 9]).set 8 (some (.pv p)))[8]? = some (some (.pv p)) := by
        rw [List.getElem?_set_self]
        simp only [MI.wipe, List.length_set]; omega
      simp only [Function.comp_apply, compF, give, List.map_cons, List.map_nil, setAll]
      have w9 : (((MI.wipe e [8, 9]).set 8 (some (.pv p))).set 9 (some (.pv (.int t))))[9]? = some (some (.pv (.int t))) := by
        rw [List.getElem?_set_self]
        simp only [MI.wipe, List.length_set]; omega
      have w8 : (((MI.wipe e [8, 9]).set 8 (some (.pv p))).set 9 (some (.pv (.int t))))[8]? = some (some (.pv p)) := by
        rw [List.getElem?_set_ne (by decide)]; exact g8
      have w6 : (((MI.wipe e [8, 9]).set 8 (some (.pv p))).set 9 (some (.pv (.int t))))[6]? = some (some (.pv (tupI [w1, w2, w3]))) := by
        rw [List.getElem?_set_ne (by decide), List.getElem?_set_ne (by decide)]
        simp only [MI.wipe]
        rw [List.getElem?_set_ne (by decide), List.getElem?_set_ne (by decide)]; exact e6
      dsimp! [w9, w8, w6, ev, mulE _ _ _ (bt.two bv (by omega))]) rfl
  obtain ⟨l, rfl, hb⟩ := ints_of fun i v e => pv i v e
  have hl' : l.length = ps.length := by simpa using lv
  have hs := sum_bd 18 l hb
  have hi : evI (cn P (k + 1) B) (.val (.var 1)) e h' = .ok ((ps.map MV.pv).map Item.one, h') := by dsimp! [e1, itemsOf]
  have hc : evE (cn P (k + 1) B) f_law_grid_of_v2_c0 e h' = .ok (.pv (.lst (l.map PV.int)), h') := (compS hi ht).trans (oLst_iv l h' (by omega))
  refine ⟨l.sum, by omega, by omega, ?_⟩
  dsimp! [hc, sum_lst]
end MI

namespace MI
open PySem L2
open Lean.Parser.Tactic in
local macro_rules | `(tactic| dsimp! [$ts,*]) => `(tactic| simp only [evB, evS_for, evE_comp, evT, evEs, evC, evO, evI, evE.eq_1, evE.eq_2, evE.eq_3, evE.eq_4, evE.eq_5, evE.eq_6, evE.eq_7, evE.eq_8, evE.eq_9, evE.eq_10, evE.eq_11, evE.eq_12, evE.eq_13, evE.eq_14, evE.eq_15, evE.eq_16, evE.eq_17, evE.eq_18, evE.eq_19, evE.eq_20, evE.eq_21, evE.eq_22, evE.eq_23, evE.eq_25, evE.eq_26, evE.eq_27, evE.eq_28, evE.eq_29, evE.eq_30, evS.eq_1, evS.eq_2, evS.eq_3, evS.eq_4, evS.eq_5, evS.eq_6, evS.eq_7, evS.eq_8, evS.eq_11, evS.eq_12, evS.eq_13, evS.eq_14, evS.eq_15, cn_C, cn_B, cn_rp, cn_f, cn_nx, cn_sub, cn_fuel, MI.start, List.map_cons, List.map_nil, List.length_cons, List.length_nil, List.replicate, List.cons_append, List.nil_append, List.append_nil, List.singleton_append, List.getElem?_cons_zero, List.getElem?_cons_succ, List.set_cons_zero, List.set_cons_succ, seq1_ok, seqL_ok, okP, Bool.false_eq_true, if_false, if_true, Bool.not_true, Bool.not_false, Nat.reduceSub, MI.close, take_all, $ts,*])
variable {P : Prg} [Bas P]
theorem rngI {c : Cn} {a : IE} {e : MI.Env} {h h' : Sto} {x : Int} (m : Nat) (hx : x = (m : Int)) (hm : m ≤ 1000) (ha : evE c a e h = .ok (.pv (.int x), h')) : evI c (.rng1 a) e h = .ok (rangeI 0 m, h') := by
  subst hx
  exact rng1_ok ha (small_nat hm)
/-- one line of a drawn triangle -/
theorem c_line [Fi P 30 f_law_weights] [Fi P 32 f_law_piece_at] (k B : Nat) (m r F : Nat) (ps : List PV) (H : Sto) (hr : r ≤ m) (h6 : m ≤ 6) (hp : ∀ q ∈ ps, PairOk (m : Int) q) (hl : ps.length ≤ 6) (o5 o6 o7 o8 o9 o10 : Option MV) :
    ∃ (l : List Int) (o5' o6' : Option MV), l.length = r + 1 ∧ (∀ a ∈ l, -108 ≤ a ∧ a ≤ 108) ∧
    loop (forF (cn P (k + 1) B) (.nm 5) f_law_grid_of_v2_b1) (rangeI 0 (r + 1)) [some (iv m), some (.pv (.lst ps)), some (.loc F), some (iv r), some (.loc H.length), o5, o6, o7, o8, o9, o10] (H ++ [.lst []]) =
      some (.nx [some (iv m), some (.pv (.lst ps)), some (.loc F), some (iv r), some (.loc H.length), o5', o6', o7, o8, o9, o10], H ++ [.lst (l.map iv)]) := by
  obtain ⟨e', h', q, o5', o6', l, rfl, rfl, hl2, hb⟩ := loop_ind (f := forF (cn P (k + 1) B) (.nm 5) f_law_grid_of_v2_b1) (rangeI 0 (r + 1)) (fun i e h => ∃ (o5 o6 : Option MV) (l : List Int), e = ([some (iv m), some (.pv (.lst ps)), some (.loc F), some (iv r), some (.loc H.length), o5, o6, o7, o8, o9, o10] : MI.Env) ∧ h = H ++ [.lst (l.map iv)] ∧ l.length = i ∧ ∀ a ∈ l, -108 ≤ a ∧ a ≤ 108) 0
    [some (iv m), some (.pv (.lst ps)), some (.loc F), some (iv r), some (.loc H.length), o5, o6, o7, o8, o9, o10] (H ++ [.lst []]) (by
      rintro i x e h hx ⟨o5, o6, l, rfl, rfl, hl2, hb⟩
      obtain ⟨hi, rfl⟩ := rng_at hx
      obtain ⟨v, v1, v2, ev⟩ := c_spot (P := P) k m ps (H ++ [.lst (l.map iv)]) [some (iv m), some (.pv (.lst ps)), some (.loc F), some (iv r), some (.loc H.length), some (iv i), some (.pv (tupI [(m : Int) - r, (r : Int) - i, i])), o7, o8, o9, o10] B ((m : Int) - r) ((r : Int) - i) i rfl rfl (by simp) hp hl (by omega) (by omega) (by omega) (by omega)
      refine ⟨[some (iv m), some (.pv (.lst ps)), some (.loc F), some (iv r), some (.loc H.length), some (iv i), some (.pv (tupI [(m : Int) - r, (r : Int) - i, i])), o7, o8, o9, o10], H ++ [.lst ((l ++ [v]).map iv)], .inl ?_, _, _, l ++ [v], rfl, rfl, by simp; omega, fun a ha => ?_⟩
      · unfold forF
        dsimp only [give, List.set_cons_succ, List.set_cons_zero]
        unfold f_law_grid_of_v2_b1
        refine evB_set (v := .pv (tupI [(m : Int) - r, (r : Int) - i, i])) (h1 := H ++ [.lst (l.map iv)]) ?_ ?_
        · have := c_weights (P := P) k B m r i (H ++ [.lst (l.map iv)])
          dsimp! [this]
        · dsimp only [List.set_cons_succ, List.set_cons_zero]
          have op := open_mid H [] (l.map iv)
          have ap := app_mid B H [] (l.map iv) (.int v) (by simp; omega)
          refine evB_ex (v := .pv .non) (h1 := H ++ [.lst ((l ++ [v]).map iv)]) ?_ ?_
          · rw [evE.eq_25]
            simp only [evE.eq_1, List.getElem?_cons_succ, List.getElem?_cons_zero, seq1_ok]
            rw [if_pos op, ev, seq1_ok]
            rw [List.map_append]
            exact ap
          · simp only [evB]
      · rcases List.mem_append.mp ha with ha | ha
        · exact hb a ha
        · simp at ha; omega) ⟨o5, o6, [], rfl, rfl, rfl, by simp⟩
  rw [rng_lenI, Nat.zero_add] at hl2
  exact ⟨l, o5', o6', hl2, hb, q⟩
theorem pures_map_of {α : Type} : ∀ (R : List α) (φ : α → PV), pures (R.map fun x => MV.pv (φ x)) = some (R.map φ)
  | [], _ => rfl
  | x :: R, φ => by simp only [List.map_cons, pures, pures_map_of R φ]
def lsts (R : List (List Int)) : List PV := R.map fun l => .lst (l.map .int)
theorem c_grid_of [Fi P 30 f_law_weights] [Fi P 32 f_law_piece_at] [Fi P 48 f_law_grid_of_v2] (k B : Nat) (m : Nat) (ps : List PV) (h0 : Sto) (h6 : m ≤ 6) (hp : ∀ q ∈ ps, PairOk (m : Int) q) (hl : ps.length ≤ 6) :
    ∃ g, Gr m g ∧ GrB 216 g ∧ callI P (k + 2) 48 B [iv m, .pv (.lst ps)] h0 = .ok (.pv (tupII g), h0) := by
  obtain ⟨e', h', q, o3, o4, o5, o6, R, gs, rfl, rfl, hR, hrow, hb⟩ := loop_ind (f := forF (cn P (k + 1) h0.length) (.nm 3) f_law_grid_of_v2_b2) (rangeI 0 (m + 1))
    (fun i e h => ∃ (o3 o4 o5 o6 : Option MV) (R : List (List Int)) (gs : Sto), e = ([some (iv m), some (.pv (.lst ps)), some (.loc h0.length), o3, o4, o5, o6, none, none, none, none] : MI.Env) ∧ h = h0 ++ .lst ((lsts R).map MV.pv) :: gs ∧ R.length = i ∧ (∀ (r : Nat) (l : List Int), R[r]? = some l → l.length = r + 1) ∧ ∀ l ∈ R, ∀ a ∈ l, -108 ≤ a ∧ a ≤ 108) 0
    [some (iv m), some (.pv (.lst ps)), some (.loc h0.length), none, none, none, none, none, none, none, none] (h0 ++ [.lst []]) (by
      rintro i x e h hx ⟨o3, o4, o5, o6, R, gs, rfl, rfl, hR, hrow, hb⟩
      obtain ⟨hi, rfl⟩ := rng_at hx
      let H1 : Sto := h0 ++ .lst ((lsts R).map MV.pv) :: gs
      obtain ⟨l, o5', o6', ll, lb, lq⟩ := c_line (P := P) k h0.length m i h0.length ps H1 (by omega) h6 hp hl o5 o6 none none none none
      refine ⟨[some (iv m), some (.pv (.lst ps)), some (.loc h0.length), some (iv i), some (.loc H1.length), o5', o6', none, none, none, none], h0 ++ .lst ((lsts (R ++ [l])).map MV.pv) :: (gs ++ [.lock (l.map .int)]), .inl ?_, some (iv i), some (.loc H1.length), o5', o6', R ++ [l], gs ++ [.lock (l.map .int)], rfl, rfl, by simp; omega, fun r y e => ?_, fun y hy a ha => ?_⟩
      · unfold forF
        dsimp only [give, List.set_cons_succ, List.set_cons_zero]
        unfold f_law_grid_of_v2_b2
        refine evB_set (v := .loc H1.length) (h1 := H1 ++ [.lst []]) (by dsimp! [oLst, size_le (show 0 ≤ 1000 by omega)]; try rfl) ?_
        dsimp only [List.set_cons_succ, List.set_cons_zero]
        refine evB_for (rngI (i + 1) (x := (i : Int) + 1) (by omega) (by omega) (by dsimp! [iv, addE])) lq ?_
        have fz := frz_mid H1 [] (l.map PV.int)
        have e1 : H1 ++ [.lock (l.map PV.int)] = h0 ++ .lst ((lsts R).map MV.pv) :: (gs ++ [.lock (l.map .int)]) := by simp [H1]
        have e2 : H1 ++ [.lst (l.map iv)] = h0 ++ .lst ((lsts R).map MV.pv) :: (gs ++ [.lst (l.map iv)]) := by simp [H1]
        have op := open_mid h0 (gs ++ [.lst (l.map iv)]) ((lsts R).map MV.pv)
        have ap := app_mid h0.length h0 (gs ++ [.lock (l.map PV.int)]) ((lsts R).map MV.pv) (.lst (l.map PV.int)) (by simp [lsts]; omega)
        rw [e1, show (l.map PV.int).map MV.pv = l.map iv by simp [Function.comp_def]] at fz
        refine evB_ex (v := .pv .non) (h1 := h0 ++ .lst ((lsts (R ++ [l])).map MV.pv) :: (gs ++ [.lock (l.map .int)])) ?_ ?_
        · rw [evE.eq_25]
          simp only [evE.eq_1, evE.eq_30, List.getElem?_cons_succ, List.getElem?_cons_zero, seq1_ok]
          rw [e2, if_pos op, ← e2, fz, seq1_ok]
          rw [show (lsts (R ++ [l])).map MV.pv = (lsts R).map MV.pv ++ [.pv (.lst (l.map PV.int))] by simp [lsts]]
          exact ap
        · simp only [evB]
      · by_cases z : r < R.length
        · rw [List.getElem?_append_left z] at e
          exact hrow r y e
        · have := (List.getElem?_eq_some_iff.mp e).1
          have z2 : r = R.length := by simp at this; omega
          subst z2
          simp at e
          subst e
          omega
      · rcases List.mem_append.mp hy with hy | hy
        · exact hb y hy a ha
        · simp at hy; subst hy; exact lb a ha) ⟨none, none, none, none, [], [], rfl, rfl, rfl, by simp, by simp⟩
  rw [rng_lenI, Nat.zero_add] at hR
  obtain ⟨a0, R', rfl⟩ : ∃ a0 R', R = [a0] :: R' := by
    cases R with
    | nil => simp at hR
    | cons l R' =>
      have := hrow 0 l rfl
      match l, this with
      | [a], _ => exact ⟨a, R', rfl⟩
  let R : List (List Int) := [a0] :: R'
  have hR : R.length = m + 1 := hR
  have a0b : -108 ≤ a0 ∧ a0 ≤ 108 := hb [a0] (by simp) a0 (by simp)
  refine ⟨R.map fun l => l.map fun a => a - a0, ⟨by simpa using hR, fun r l e => ?_, by simp [R]⟩, fun l hl a ha => ?_, ?_⟩
  · rw [List.getElem?_map] at e
    cases q : R[r]? with
    | none => rw [q] at e; cases e
    | some y =>
      rw [q] at e
      cases e
      rw [List.length_map]
      exact hrow r y q
  · rw [List.mem_map] at hl
    obtain ⟨y, hy, rfl⟩ := hl
    rw [List.mem_map] at ha
    obtain ⟨b, hb', rfl⟩ := ha
    have := hb y hy b hb'
    omega
  · have c4 : ∀ e : MI.Env, e[2]? = some (some (.loc h0.length)) → e[7]? = some (some (iv a0)) → e.length = 11 → evE (cn P (k + 1) h0.length) f_law_grid_of_v2_c4 e (h0 ++ .lst ((lsts R).map MV.pv) :: gs) = .ok (.pv (.lst (R.map fun l => tupI (l.map fun a => a - a0))), h0 ++ .lock (lsts R) :: gs) := fun e e2 e7 el => by
      have fz := frz_mid h0 gs (lsts R)
      have hi : evI (cn P (k + 1) h0.length) (.val (.frz (.var 2))) e (h0 ++ .lst ((lsts R).map MV.pv) :: gs) = .ok (R.map fun l => Item.one (.pv (.lst (l.map .int))), h0 ++ .lock (lsts R) :: gs) := by
        dsimp! [e2, fz, itemsOf]
        simp only [lsts, List.map_map, Function.comp_def]
      have ht := turns_one (f := compF (cn P (k + 1) h0.length) (.nm 4) [4] .nil (.blt .tuple (.cons f_law_grid_of_v2_c3 .nil)) e) (mk := fun (l : List Int) => Item.one (.pv (.lst (l.map .int)))) (g := fun l => .pv (tupI (l.map fun a => a - a0))) (h := h0 ++ .lock (lsts R) :: gs) R (fun l hl => by
        have ll : l.length ≤ 7 := by
          obtain ⟨i, hi'⟩ := List.mem_iff_getElem?.mp hl
          have := hrow i l hi'
          have := (List.getElem?_eq_some_iff.mp hi').1
          omega
        have c3 : evE (cn P (k + 1) h0.length) f_law_grid_of_v2_c3 ((MI.wipe e [4]).set 4 (some (.pv (.lst (l.map .int))))) (h0 ++ .lock (lsts R) :: gs) = .ok (.pv (.lst ((l.map fun a => a - a0).map .int)), h0 ++ .lock (lsts R) :: gs) := by
          have w4 : ((MI.wipe e [4]).set 4 (some (.pv (.lst (l.map .int)))))[4]? = some (some (.pv (.lst (l.map .int)))) := by
            rw [List.getElem?_set_self]
            simp only [MI.wipe, List.length_set]; omega
          rw [List.map_map]
          refine comp_ints (l := l) (mk := fun a => .one (.pv (.int a))) (φ := fun a => a - a0) ?_ (by omega) fun a ha => ?_
          · dsimp! [w4, frz_pv, itemsOf, ones]
          · have x10 : ((MI.wipe ((MI.wipe e [4]).set 4 (some (.pv (.lst (l.map .int))))) [10]).set 10 (some (.pv (.int a))))[10]? = some (some (.pv (.int a))) := by
              rw [List.getElem?_set_self]
              simp only [MI.wipe, List.length_set]; omega
            have x7 : ((MI.wipe ((MI.wipe e [4]).set 4 (some (.pv (.lst (l.map .int))))) [10]).set 10 (some (.pv (.int a))))[7]? = some (some (.pv (.int a0))) := by
              simp only [MI.wipe]
              rw [List.getElem?_set_ne (by decide), List.getElem?_set_ne (by decide), List.getElem?_set_ne (by decide), List.getElem?_set_ne (by decide)]
              exact e7
            dsimp! [compF, give, x10, x7, subE]
        simp only [compF, give]
        generalize hc3 : f_law_grid_of_v2_c3 = cc at c3
        dsimp! [tup_of c3])
      refine (compS hi ht).trans (oLst_f _ _ ?_ (by simp; omega))
      exact pures_map_of R _
    have body : evB (cn P (k + 1) h0.length) f_law_grid_of_v2.body [some (iv m), some (.pv (.lst ps)), none, none, none, none, none, none, none, none, none] h0 = some (.rt (.pv (tupII (R.map fun l => l.map fun a => a - a0))), h0 ++ .lock (lsts R) :: gs) := by
      unfold f_law_grid_of_v2
      refine evB_set (v := .loc h0.length) (h1 := h0 ++ [.lst []]) (by dsimp! [oLst, size_le (show 0 ≤ 1000 by omega)]) ?_
      dsimp only [List.set_cons_succ, List.set_cons_zero]
      refine evB_for (rngI (m + 1) (x := (m : Int) + 1) (by omega) (by omega) (by dsimp! [iv, addE])) q ?_
      refine evB_set (v := iv a0) (h1 := h0 ++ .lst ((lsts R).map MV.pv) :: gs) ?_ ?_
      · have i1 : oIdx (.loc h0.length) (.pv (.int 0)) (h0 ++ .lst ((lsts ([a0] :: R')).map MV.pv) :: gs) = .ok (.pv (.lst [.int a0]), h0 ++ .lst ((lsts ([a0] :: R')).map MV.pv) :: gs) := by
          simp only [oIdx, get_mid]
          rw [show MI.ixN ((lsts ([a0] :: R')).map MV.pv).length 0 = some 0 from ixN_nat (i := 0) (by simp [lsts])]
          rfl
        dsimp! [i1]
        rfl
      · dsimp only [List.set_cons_succ, List.set_cons_zero]
        refine evB_ret ?_
        have := c4 [some (iv m), some (.pv (.lst ps)), some (.loc h0.length), o3, o4, o5, o6, some (iv a0), none, none, none] rfl rfl rfl
        generalize hc4 : f_law_grid_of_v2_c4 = cc at this
        dsimp! [this, blt_tup]
        simp only [tupII, List.map_map, Function.comp_def]
    have := run_rt (P := P) (j := 48) (k := k + 1) (B := B) (vs := [iv m, .pv (.lst ps)]) (h := h0) (F := f_law_grid_of_v2) Fi.h rfl rfl body
    rw [List.take_left] at this
    exact this
end MI

namespace MI
open PySem L2
open Lean.Parser.Tactic in
local macro_rules | `(tactic| dsimp! [$ts,*]) => `(tactic| simp only [evB, evS_for, evE_comp, evT, evEs, evC, evO, evI, evE.eq_1, evE.eq_2, evE.eq_3, evE.eq_4, evE.eq_5, evE.eq_6, evE.eq_7, evE.eq_8, evE.eq_9, evE.eq_10, evE.eq_11, evE.eq_12, evE.eq_13, evE.eq_14, evE.eq_15, evE.eq_16, evE.eq_17, evE.eq_18, evE.eq_19, evE.eq_20, evE.eq_21, evE.eq_22, evE.eq_23, evE.eq_25, evE.eq_26, evE.eq_27, evE.eq_28, evE.eq_29, evE.eq_30, evS.eq_1, evS.eq_2, evS.eq_3, evS.eq_4, evS.eq_5, evS.eq_6, evS.eq_7, evS.eq_8, evS.eq_11, evS.eq_12, evS.eq_13, evS.eq_14, evS.eq_15, cn_C, cn_B, cn_rp, cn_f, cn_nx, cn_sub, cn_fuel, MI.start, List.map_cons, List.map_nil, List.length_cons, List.length_nil, List.replicate, List.cons_append, List.nil_append, List.append_nil, List.singleton_append, List.getElem?_cons_zero, List.getElem?_cons_succ, List.set_cons_zero, List.set_cons_succ, seq1_ok, seqL_ok, okP, Bool.false_eq_true, if_false, if_true, Bool.not_true, Bool.not_false, Nat.reduceSub, MI.close, take_all, $ts,*])
variable {P : Prg} [Bas P]
theorem pvs_of {Q : PV → Prop} : ∀ {vs : List MV}, (∀ (i : Nat) (v : MV), vs[i]? = some v → ∃ a, v = .pv a ∧ Q a) → ∃ l : List PV, vs = l.map .pv ∧ ∀ a ∈ l, Q a
  | [], _ => ⟨[], rfl, by simp⟩
  | v :: vs, h => by
    obtain ⟨a, rfl, qa⟩ := h 0 v rfl
    obtain ⟨l, rfl, ql⟩ := pvs_of (vs := vs) fun i w e => h (i + 1) w (by simpa using e)
    refine ⟨a :: l, rfl, fun b hb => ?_⟩
    rcases List.mem_cons.mp hb with rfl | hb
    · exact qa
    · exact ql b hb
theorem c_bowed [Fi P 9 f_law_mixed] [Fi P 11 f_law_draw] [Fi P 31 f_law_piece] [Fi P 30 f_law_weights] [Fi P 32 f_law_piece_at] [Fi P 48 f_law_grid_of_v2] [Fi P 49 f_law_bowed_v2] (k B : Nat) (sc : List Int) {cells great : List Int} {s : Int} (m : Nat) (ext : Sto) (g : Good0 cells great s) (hs : s + 60 < 1000000) (h1 : 1 ≤ m) (h6 : m ≤ 6) :
    ∃ gr great' t, Gr m gr ∧ GrB 216 gr ∧ Good0 cells great' t ∧ t ≤ s + 40 ∧ callI P (k + 4) 49 B [.loc 2, iv m] (stS sc cells great s ext) = .ok (.pv (tupII gr), stS sc cells great' t ext) := by
  obtain ⟨r, g1, ra, rb, gg1, er⟩ := c_dr (P := P) (k + 1) (ext.length + 4) sc 6 ext g (by omega) (by omega) (by omega)
  obtain ⟨n, hn⟩ : ∃ n : Nat, 1 + r = (n : Int) := ⟨(1 + r).toNat, by omega⟩
  obtain ⟨vs, h', ht, lv, pv, g2, t, rfl, gg2, ht2⟩ := turns_ind (f := compF (cn P (k + 3) (ext.length + 4)) (.nm 3) [3] .nil (.tup (.cons (.call 31 (.cons (.var 0) (.cons (.var 1) .nil)) []) (.cons (.call 11 (.cons (.var 0) (.cons (.k (.int 4)) .nil)) []) .nil))) [some (.loc 2), some (iv m), none, none]) (rangeI 0 n)
    (fun i h => ∃ (great : List Int) (t : Int), h = stS sc cells great t ext ∧ Good0 cells great t ∧ t ≤ s + 1 + 6 * (i : Int)) (fun _ v => ∃ q, v = .pv q ∧ PairOk (m : Int) q) 0 (stS sc cells g1 (s + 1) ext) (by
      rintro i x h hx ⟨g2, t, rfl, gg2, ht⟩
      obtain ⟨hi, rfl⟩ := rng_at hx
      obtain ⟨p, g3, pk, gg3, e3⟩ := c_piece (P := P) k (ext.length + 4) sc (m : Int) ext gg2 (by omega) (by omega) (by omega)
      obtain ⟨r4, g4, a4, b4, gg4, e4⟩ := c_dr (P := P) (k + 1) (ext.length + 4) sc 4 ext gg3 (by omega) (by omega) (by omega)
      refine ⟨.pv (.tup [p, .int r4]), stS sc cells g4 (t + 5 + 1) ext, ?_, ⟨_, rfl, p, r4, rfl, pk, a4, b4⟩, g4, t + 5 + 1, rfl, gg4, by omega⟩
      dsimp! [compF, give, MI.wipe, e3, e4, pures, size_le (show 2 ≤ 1000 by omega), Nat.reduceAdd]) ⟨g1, s + 1, rfl, gg1, by omega⟩
  rw [rng_lenI] at lv ht2
  obtain ⟨ps, rfl, hps⟩ := pvs_of fun i v e => pv i v e
  have hl : ps.length = n := by simpa using lv
  obtain ⟨gr, gg, gb, eg⟩ := c_grid_of (P := P) (k + 1) (ext.length + 4) m ps (stS sc cells g2 t ext) h6 hps (by omega)
  refine ⟨gr, g2, t, gg, gb, gg2, by omega, ?_⟩
  have hc : evE (cn P (k + 3) (ext.length + 4)) f_law_bowed_v2_c0 [some (.loc 2), some (iv m), none, none] (stS sc cells great s ext) = .ok (.pv (.lst ps), stS sc cells g2 t ext) := by
    refine (compS (rngI n (x := 1 + r) hn (by omega) (by dsimp! [er, addE])) ht).trans (oLst_f _ _ (pures_map ps) (by simp; omega))
  have body : evB (cn P (k + 3) (stS sc cells great s ext).length) f_law_bowed_v2.body [some (.loc 2), some (iv m), none, none] (stS sc cells great s ext) = some (.rt (.pv (tupII gr)), stS sc cells g2 t ext) := by
    rw [len_st]
    unfold f_law_bowed_v2
    refine evB_set hc ?_
    dsimp only [List.set_cons_succ, List.set_cons_zero]
    exact evB_ret (by dsimp! [eg])
  have := run_rt (P := P) (j := 49) (k := k + 3) (B := B) (vs := [.loc 2, iv m]) (h := stS sc cells great s ext) (F := f_law_bowed_v2) Fi.h rfl rfl body
  rw [take_st] at this
  exact this
/-! ### lists of lists that change -/
def rowO (l : List Int) : MO := .lst (l.map iv)
def FG (H : Sto) (g : List (List Int)) : Sto := H ++ g.map rowO ++ [MO.lst ((List.range g.length).map fun i => MV.loc (H.length + i))]
theorem fg_top (H : Sto) (g : List (List Int)) : (FG H g)[H.length + g.length]? = some (MO.lst ((List.range g.length).map fun i => MV.loc (H.length + i))) := by
  unfold FG
  rw [List.getElem?_append_right (by simp)]
  simp
theorem fg_row (H : Sto) (g : List (List Int)) {r : Nat} {l : List Int} (e : g[r]? = some l) : (FG H g)[H.length + r]? = some (rowO l) := by
  have hr := (List.getElem?_eq_some_iff.mp e).1
  unfold FG
  rw [List.getElem?_append_left (by simp; omega), List.getElem?_append_right (by omega)]
  simp [e]
theorem fg_ix (H : Sto) (g : List (List Int)) {r : Nat} (hr : r < g.length) : oIdx (.loc (H.length + g.length)) (.pv (.int (r : Int))) (FG H g) = .ok (.loc (H.length + r), FG H g) := by
  have e : ((List.range g.length).map fun i => MV.loc (H.length + i))[r]? = some (.loc (H.length + r)) := by
    rw [List.getElem?_map, List.getElem?_range hr]; try rfl
  simp only [oIdx, fg_top, List.length_map, List.length_range, ixN_nat hr, e]
theorem fg_at (H : Sto) (g : List (List Int)) {r n : Nat} {l : List Int} {a : Int} (e : g[r]? = some l) (e2 : l[n]? = some a) : oIdx (.loc (H.length + r)) (.pv (.int (n : Int))) (FG H g) = .ok (iv a, FG H g) := by
  have hn := (List.getElem?_eq_some_iff.mp e2).1
  have e3 : (l.map iv)[n]? = some (iv a) := by rw [List.getElem?_map, e2]; try rfl
  simp only [oIdx, fg_row H g e, rowO, List.length_map, ixN_nat hn, e3]
theorem fg_set (B : Nat) (H : Sto) (g : List (List Int)) {r n : Nat} {l : List Int} (v : Int) (e : g[r]? = some l) (hn : n < l.length) : oSet B (.loc (H.length + r)) (.pv (.int (n : Int))) (iv v) (FG H g) = some (FG H (g.set r (l.set n v))) := by
  have hr := (List.getElem?_eq_some_iff.mp e).1
  have e3 : (FG H g).set (H.length + r) (.lst ((l.map iv).set n (iv v))) = FG H (g.set r (l.set n v)) := by
    unfold FG
    rw [List.set_append_left _ _ (by simp; omega), List.set_append_right _ _ (by omega)]
    simp only [Nat.add_sub_cancel_left, List.length_set, List.map_set, rowO, List.map_set]
  simp only [oSet, may, if_true, fg_row H g e, rowO, List.length_map, ixN_nat hn, e3]
theorem range_cons (n : Nat) : List.range (n + 1) = 0 :: (List.range n).map (· + 1) := List.range_succ_eq_map
theorem frz_rows : ∀ (g : List (List Int)) (A tl : Sto), frzL (frzV 3) ((List.range g.length).map fun i => .loc (A.length + i)) (A ++ g.map rowO ++ tl) = some (lsts g, A ++ (g.map fun (l : List Int) => MO.lock (l.map PV.int)) ++ tl)
  | [], A, tl => by simp [frzL, lsts]
  | l :: g, A, tl => by
    have v : frzV 3 (.loc A.length) (A ++ rowO l :: (g.map rowO ++ tl)) = some (.lst (l.map .int), A ++ .lock (l.map .int) :: (g.map rowO ++ tl)) := by
      have := frzL_pv (frzV 2) (frzV_pv 2) (l.map PV.int) (A ++ rowO l :: (g.map rowO ++ tl))
      rw [show (l.map PV.int).map MV.pv = l.map iv by simp [Function.comp_def]] at this
      have g1 : (A ++ rowO l :: (g.map rowO ++ tl))[A.length]? = some (.lst (l.map iv)) := get_mid _ _ _
      rw [frzV]
      simp only [g1, this, set_mid]
    have ih := frz_rows g (A ++ [.lock (l.map .int)]) tl
    have ix : ((List.range g.length).map (· + 1)).map (fun i => MV.loc (A.length + i)) = (List.range g.length).map fun i => .loc ((A ++ [MO.lock (l.map PV.int)]).length + i) := by
      rw [List.map_map]
      apply List.map_congr_left
      intro i _
      simp only [Function.comp_apply, List.length_append, List.length_cons, List.length_nil]
      congr 1
      omega
    rw [List.length_cons, range_cons, List.map_cons, ix, List.map_cons, List.append_assoc, List.cons_append, Nat.add_zero]
    simp only [frzL, v]
    rw [show A ++ MO.lock (l.map .int) :: (g.map rowO ++ tl) = A ++ [.lock (l.map .int)] ++ g.map rowO ++ tl by simp, ih]
    simp [lsts]
theorem frz_fg (H : Sto) (g : List (List Int)) : oFrz (.loc (H.length + g.length)) (FG H g) = .ok (.pv (.lst (lsts g)), H ++ (g.map fun (l : List Int) => MO.lock (l.map PV.int)) ++ [.lock (lsts g)]) := by
  have n : isLock (.loc (H.length + g.length)) (FG H g) = false := by simp only [isLock, fg_top]
  have fr := frz_rows g H [MO.lst ((List.range g.length).map fun i => MV.loc (H.length + i))]
  have top : (H ++ (g.map fun (l : List Int) => MO.lock (l.map PV.int)) ++ [MO.lst ((List.range g.length).map fun i => MV.loc (H.length + i))])[H.length + g.length]? = some (MO.lst ((List.range g.length).map fun i => MV.loc (H.length + i))) := by
    rw [List.getElem?_append_right (by simp)]
    simp
  have st : (H ++ (g.map fun (l : List Int) => MO.lock (l.map PV.int)) ++ [MO.lst ((List.range g.length).map fun i => MV.loc (H.length + i))]).set (H.length + g.length) (.lock (lsts g)) = H ++ (g.map fun (l : List Int) => MO.lock (l.map PV.int)) ++ [.lock (lsts g)] := by
    rw [List.set_append_right _ _ (by simp)]
    simp
  have v : frzV 4 (.loc (H.length + g.length)) (FG H g) = some (.lst (lsts g), H ++ (g.map fun (l : List Int) => MO.lock (l.map PV.int)) ++ [.lock (lsts g)]) := by
    rw [frzV]
    simp only [fg_top]
    rw [show FG H g = H ++ g.map rowO ++ [MO.lst ((List.range g.length).map fun i => MV.loc (H.length + i))] from rfl, fr]
    simp only [top, st]
  simp only [oFrz, n, Bool.false_eq_true, if_false, v, okP]
end MI

namespace MI
open PySem L2
open Lean.Parser.Tactic in
local macro_rules | `(tactic| dsimp! [$ts,*]) => `(tactic| simp only [evB, evS_for, evE_comp, evT, evEs, evC, evO, evI, evE.eq_1, evE.eq_2, evE.eq_3, evE.eq_4, evE.eq_5, evE.eq_6, evE.eq_7, evE.eq_8, evE.eq_9, evE.eq_10, evE.eq_11, evE.eq_12, evE.eq_13, evE.eq_14, evE.eq_15, evE.eq_16, evE.eq_17, evE.eq_18, evE.eq_19, evE.eq_20, evE.eq_21, evE.eq_22, evE.eq_23, evE.eq_25, evE.eq_26, evE.eq_27, evE.eq_28, evE.eq_29, evE.eq_30, evS.eq_1, evS.eq_2, evS.eq_3, evS.eq_4, evS.eq_5, evS.eq_6, evS.eq_7, evS.eq_8, evS.eq_11, evS.eq_12, evS.eq_13, evS.eq_14, evS.eq_15, cn_C, cn_B, cn_rp, cn_f, cn_nx, cn_sub, cn_fuel, MI.start, List.map_cons, List.map_nil, List.length_cons, List.length_nil, List.replicate, List.cons_append, List.nil_append, List.append_nil, List.singleton_append, List.getElem?_cons_zero, List.getElem?_cons_succ, List.set_cons_zero, List.set_cons_succ, seq1_ok, seqL_ok, okP, Bool.false_eq_true, if_false, if_true, Bool.not_true, Bool.not_false, Nat.reduceSub, MI.close, take_all, $ts,*])
variable {P : Prg} [Bas P]
theorem evB_if_nx {c : Cn} {t : IE} {a b ss : ISs} {e e2 : MI.Env} {h h1 h2 : Sto} {r : RS} (ht : evT c t e h = .ok (true, h1)) (ha : evB c a e h1 = some (.nx e2, h2)) (hr : evB c ss e2 h2 = r) : evB c (.cons (.iff t a b) ss) e h = r := by
  rw [evB, evS.eq_8, ht]
  dsimp only
  rw [ha]
  exact hr
theorem locs_of (L : Nat) : ∀ {vs : List MV} (n : Nat), (∀ (i : Nat) (v : MV), vs[i]? = some v → v = .loc (L + (n + i))) → vs = (List.range vs.length).map fun i => .loc (L + (n + i))
  | [], _, _ => rfl
  | v :: vs, n, h => by
    have h0 := h 0 v rfl
    have ih := locs_of L (vs := vs) (n + 1) fun i w e => by
      have := h (i + 1) w (by simpa using e)
      rw [show n + 1 + i = n + (i + 1) by omega]; exact this
    rw [List.length_cons, range_cons, List.map_cons, List.map_map, h0]
    congr 1
    refine ih.trans (List.map_congr_left fun i _ => ?_)
    simp only [Function.comp_apply]
    congr 2
    omega
theorem turns_rows {f : Item → Sto → R (Option MV × Sto)} (its : List Item) (J : Nat → Sto → Prop) (Q : Nat → List Int → Prop) (L : Nat) (H0 : Sto) (hJ : ∀ i H, J i H → H.length = L)
    (step : ∀ (i : Nat) (x : Item) (H : Sto) (R : List (List Int)), its[i]? = some x → J i H → R.length = i → ∃ l H', Q i l ∧ J (i + 1) H' ∧ f x (H ++ R.map rowO) = .ok (some (.loc (L + i)), H' ++ (R ++ [l]).map rowO)) (h0 : J 0 H0) :
    ∃ (R : List (List Int)) (H' : Sto), turns f its H0 = .ok ((List.range its.length).map (fun i => .loc (L + i)), H' ++ R.map rowO) ∧ J its.length H' ∧ R.length = its.length ∧ ∀ (i : Nat) (l : List Int), R[i]? = some l → Q i l := by
  obtain ⟨vs, h', ht, lv, pv, R, H', rfl, j, hR, hq⟩ := turns_ind (f := f) its (fun i h => ∃ (R : List (List Int)) (H : Sto), h = H ++ R.map rowO ∧ J i H ∧ R.length = i ∧ ∀ (i : Nat) (l : List Int), R[i]? = some l → Q i l) (fun i v => v = .loc (L + i)) 0 H0 (by
    rintro i x h hx ⟨R, H, rfl, j, hR, hq⟩
    rw [Nat.zero_add] at j hR ⊢
    obtain ⟨l, H', ql, j', ef⟩ := step i x H R hx j hR
    refine ⟨_, _, ef, rfl, R ++ [l], H', rfl, j', by simp [hR], fun r y e => ?_⟩
    by_cases z : r < R.length
    · rw [List.getElem?_append_left z] at e
      exact hq r y e
    · have := (List.getElem?_eq_some_iff.mp e).1
      have z2 : r = R.length := by simp at this; omega
      subst z2
      simp at e
      subst e
      rw [hR]; exact ql) ⟨[], H0, by simp, h0, rfl, by simp⟩
  rw [Nat.zero_add] at j hR
  refine ⟨R, H', ?_, j, hR, hq⟩
  have e := locs_of L (vs := vs) 0 fun i v e => by rw [pv i v e]
  rw [ht, e, lv]
  simp only [Nat.zero_add]
/-- the whole comprehension -/
theorem comp_rows {c : Cn} {tg : TG} {own : List Nat} {it : IT} {el : IE} {e : MI.Env} {h H' : Sto} {h1 : Sto} {its : List Item} {R : List (List Int)} {L : Nat} (hi : evI c it e h = .ok (its, h1)) (ht : turns (compF c tg own .nil el e) its h1 = .ok ((List.range its.length).map (fun i => .loc (L + i)), H' ++ R.map rowO)) (hR : R.length = its.length) (hL : H'.length = L) (hz : its.length ≤ 1000) :
    evE c (.comp true tg own it .nil el) e h = .ok (.loc (H'.length + R.length), FG H' R) := by
  rw [compS hi ht]
  subst hL
  simp only [oLst, List.length_map, List.length_range, size_le hz, if_true, FG, hR, List.length_append]
theorem mkl_row (rp : PV → Str) (l : List Int) (h : Sto) : mkOf (oBlt rp .list [.pv (tupI l)] h) = .ok (.loc h.length, h ++ [rowO l]) := by
  have e : oBlt rp .list [.pv (tupI l)] h = .ok (.pv (.lst (l.map .int)), h) := by simp only [oBlt, seqp, seqv, tupI, pures_map, okP]
  rw [e]
  simp only [mkOf, rowO, List.map_map, Function.comp_def]
theorem fg_st (sc cells great : List Int) (s : Int) (E : Sto) (g : List (List Int)) : FG (stS sc cells great s E) g = stS sc cells great s (E ++ (g.map rowO ++ [MO.lst ((List.range g.length).map fun i => MV.loc ((stS sc cells great s E).length + i))])) := by
  simp [FG, stS]
/-- a drawn triangle as it stands in the law's hands -/
structure GS (m : Nat) (b : Int) (sc cells : List Int) (t0 : Int) (ext : Sto) (F : Nat) (h : Sto) : Prop where
  ex : ∃ (great : List Int) (t : Int) (E : Sto) (g : List (List Int)), h = FG (stS sc cells great t E) g ∧ F = (stS sc cells great t E).length + g.length ∧ Gr m g ∧ GrB b g ∧ Good0 cells great t ∧ t ≤ t0 ∧ ∃ E', E = ext ++ E'
theorem gr_row {m : Nat} {g : List (List Int)} (hg : Gr m g) {r : Nat} (h : r ≤ m) : ∃ l, g[r]? = some l ∧ l.length = r + 1 := by
  have e : g[r]? = some (g[r]'(by rw [hg.len]; omega)) := List.getElem?_eq_getElem _
  exact ⟨_, e, hg.row r _ e⟩
theorem gr_set {m : Nat} {g : List (List Int)} (hg : Gr m g) {r n : Nat} {l : List Int} (v : Int) (e : g[r]? = some l) (hr : 1 ≤ r) : Gr m (g.set r (l.set n v)) := by
  refine ⟨by rw [List.length_set]; exact hg.len, fun i y ey => ?_, ?_⟩
  · rw [List.getElem?_set] at ey
    split at ey
    · rename_i z
      subst z
      split at ey
      · cases ey; rw [List.length_set]; exact hg.row r l e
      · cases ey
    · exact hg.row i y ey
  · rw [List.getElem?_set_ne (by omega)]; exact hg.top
theorem grb_set {b b' : Int} {g : List (List Int)} (hg : GrB b g) {r n : Nat} {l : List Int} {v : Int} (e : g[r]? = some l) (h : b ≤ b') (hv : -b' ≤ v ∧ v ≤ b') : GrB b' (g.set r (l.set n v)) := by
  intro y hy a ha
  rcases List.mem_or_eq_of_mem_set hy with hy | rfl
  · have := hg y hy a ha; omega
  · rcases List.mem_or_eq_of_mem_set ha with ha | rfl
    · have := hg l (List.mem_of_getElem? e) a ha; omega
    · exact hv
def way2 : ISs := (.cons (.set 4 (.bin .add (.k (.int 1)) (.call 11 (.cons (.var 0) (.cons (.var 1) .nil)) []))) (.cons (.set 5 (.call 11 (.cons (.var 0) (.cons (.bin .add (.var 4) (.k (.int 1))) .nil)) [])) (.cons (.sub (.idx (.var 3) (.var 4)) (.var 5) (.bin .add (.idx (.idx (.var 3) (.var 4)) (.var 5)) (.idx (.lst (.cons (.k (.int 1)) (.cons (.bin .sub (.k (.int 0)) (.k (.int 1))) (.cons (.k (.int 5)) (.cons (.bin .sub (.k (.int 0)) (.k (.int 9))) .nil))))) (.call 11 (.cons (.var 0) (.cons (.k (.int 4)) .nil)) [])))) .nil)))
theorem c_way2 [Fi P 9 f_law_mixed] [Fi P 11 f_law_draw] (k B : Nat) (m F : Nat) (b : Int) (sc cells : List Int) (t0 : Int) (ext h : Sto) (h1 : 1 ≤ m) (h6 : m ≤ 6) (ht : t0 + 10 < 1000000) (st : GS m b sc cells t0 ext F h) (w : Int) (o4 o5 o6 o7 : Option MV) :
    ∃ o4' o5' h', evB (cn P (k + 2) B) way2 [some (.loc 2), some (iv m), some (iv w), some (.loc F), o4, o5, o6, o7] h = some (.nx [some (.loc 2), some (iv m), some (iv w), some (.loc F), o4', o5', o6, o7], h') ∧ GS m (b + 9) sc cells (t0 + 3) ext F h' := by
  obtain ⟨great, t, E, g, rfl, rfl, hg, hb, gg, htt, hE⟩ := st
  let X := E ++ (g.map rowO ++ [MO.lst ((List.range g.length).map fun i => MV.loc ((stS sc cells great t E).length + i))])
  obtain ⟨r, g1, ra, rb, gg1, e1⟩ := c_dr (P := P) k B sc (m : Int) X gg (by omega) (by omega) (by omega)
  obtain ⟨n, g2, na, nb, gg2, e2⟩ := c_dr (P := P) k B sc (1 + r + 1) X gg1 (by omega) (by omega) (by omega)
  obtain ⟨d, g3, da, db, gg3, e3⟩ := c_dr (P := P) k B sc 4 X gg2 (by omega) (by omega) (by omega)
  obtain ⟨r', hr'⟩ : ∃ r' : Nat, 1 + r = (r' : Int) := ⟨(1 + r).toNat, by omega⟩
  obtain ⟨n', rfl⟩ : ∃ n' : Nat, n = (n' : Int) := ⟨n.toNat, by omega⟩
  obtain ⟨l, el, ll⟩ := gr_row hg (r := r') (by omega)
  have ea : l[n']? = some (l[n']'(by omega)) := List.getElem?_eq_getElem _
  have L : ∀ gr tt, (stS sc cells gr tt E).length = (stS sc cells great t E).length := fun gr tt => by simp [stS]
  have X' : ∀ gr tt, stS sc cells gr tt X = FG (stS sc cells gr tt E) g := fun gr tt => by
    rw [fg_st, L gr tt]
  rw [X'] at e1 e2 e3
  rw [X'] at e1 e2 e3
  have i3 : oIdx (.loc ((stS sc cells great t E).length + g.length)) (.pv (.int (r' : Int))) (FG (stS sc cells g2 (t + 1 + 1) E) g) = .ok (.loc ((stS sc cells great t E).length + r'), FG (stS sc cells g2 (t + 1 + 1) E) g) := by
    have := fg_ix (stS sc cells g2 (t + 1 + 1) E) g (r := r') (by rw [hg.len]; omega)
    rw [L] at this; exact this
  have i4 : oIdx (.loc ((stS sc cells great t E).length + g.length)) (.pv (.int (r' : Int))) (FG (stS sc cells g3 (t + 1 + 1 + 1) E) g) = .ok (.loc ((stS sc cells great t E).length + r'), FG (stS sc cells g3 (t + 1 + 1 + 1) E) g) := by
    have := fg_ix (stS sc cells g3 (t + 1 + 1 + 1) E) g (r := r') (by rw [hg.len]; omega)
    rw [L] at this; exact this
  have a3 : oIdx (.loc ((stS sc cells great t E).length + r')) (.pv (.int (n' : Int))) (FG (stS sc cells g2 (t + 1 + 1) E) g) = .ok (iv l[n'], FG (stS sc cells g2 (t + 1 + 1) E) g) := by
    have := fg_at (stS sc cells g2 (t + 1 + 1) E) g el ea
    rw [L] at this; exact this
  obtain ⟨v, hv, ep⟩ := pick [1, 0 - 1, 5, 0 - 9] (FG (stS sc cells g3 (t + 1 + 1 + 1) E) g) da (by simpa using db)
  have s3 : oSet B (.loc ((stS sc cells great t E).length + r')) (.pv (.int (n' : Int))) (iv (l[n'] + v)) (FG (stS sc cells g3 (t + 1 + 1 + 1) E) g) = some (FG (stS sc cells g3 (t + 1 + 1 + 1) E) (g.set r' (l.set n' (l[n'] + v)))) := by
    have := fg_set B (stS sc cells g3 (t + 1 + 1 + 1) E) g (r := r') (n := n') (l[n'] + v) el (by omega)
    rw [L] at this; exact this
  have lb := hb l (List.mem_of_getElem? el) _ (List.getElem_mem (by omega : n' < l.length))
  have vb : -9 ≤ v ∧ v ≤ 9 := by
    simp only [List.mem_cons, List.not_mem_nil, or_false] at hv
    rcases hv with rfl | rfl | rfl | rfl <;> omega
  refine ⟨some (iv r'), some (iv n'), FG (stS sc cells g3 (t + 1 + 1 + 1) E) (g.set r' (l.set n' (l[n'] + v))), ?_, ⟨g3, t + 1 + 1 + 1, E, _, rfl, by rw [L g3 (t + 1 + 1 + 1), List.length_set], gr_set hg _ el (by omega), grb_set hb el (by omega) (by omega), gg3, by omega, hE⟩⟩
  unfold way2
  refine evB_set (v := iv r') (h1 := FG (stS sc cells g1 (t + 1) E) g) (by dsimp! [iv, e1, addE, hr']) ?_
  dsimp only [List.set_cons_succ, List.set_cons_zero]
  refine evB_set (v := iv n') (h1 := FG (stS sc cells g2 (t + 1 + 1) E) g) ?_ ?_
  · have e2' := e2
    rw [hr'] at e2'
    dsimp! [iv, addE, e2']
  · dsimp only [List.set_cons_succ, List.set_cons_zero]
    refine evB_nx (e1 := [some (.loc 2), some (iv m), some (iv w), some (.loc ((stS sc cells great t E).length + g.length)), some (iv r'), some (iv n'), o6, o7]) (h1 := FG (stS sc cells g3 (t + 1 + 1 + 1) E) (g.set r' (l.set n' (l[n'] + v)))) ?_ (by simp only [evB])
    have ol := oLst_f [.pv (.int 1), .pv (.int (0 - 1)), .pv (.int 5), .pv (.int (0 - 9))] (FG (stS sc cells g2 (t + 1 + 1) E) g) (show pures [.pv (.int 1), .pv (.int (0 - 1)), .pv (.int 5), .pv (.int (0 - 9))] = some ([1, 0 - 1, 5, 0 - 9].map .int) from rfl) (by simp)
    dsimp only [iv] at a3 s3 ⊢
    dsimp! [i3, a3, subE, ol, e3]
    simp only [List.map_cons, List.map_nil] at ep
    dsimp! [ep, addE, i4, s3, cn_B]
end MI

namespace MI
open PySem L2
open Lean.Parser.Tactic in
local macro_rules | `(tactic| dsimp! [$ts,*]) => `(tactic| simp only [evB, evS_for, evE_comp, evT, evEs, evC, evO, evI, evE.eq_1, evE.eq_2, evE.eq_3, evE.eq_4, evE.eq_5, evE.eq_6, evE.eq_7, evE.eq_8, evE.eq_9, evE.eq_10, evE.eq_11, evE.eq_12, evE.eq_13, evE.eq_14, evE.eq_15, evE.eq_16, evE.eq_17, evE.eq_18, evE.eq_19, evE.eq_20, evE.eq_21, evE.eq_22, evE.eq_23, evE.eq_25, evE.eq_26, evE.eq_27, evE.eq_28, evE.eq_29, evE.eq_30, evS.eq_1, evS.eq_2, evS.eq_3, evS.eq_4, evS.eq_5, evS.eq_6, evS.eq_7, evS.eq_8, evS.eq_11, evS.eq_12, evS.eq_13, evS.eq_14, evS.eq_15, cn_C, cn_B, cn_rp, cn_f, cn_nx, cn_sub, cn_fuel, MI.start, List.map_cons, List.map_nil, List.length_cons, List.length_nil, List.replicate, List.cons_append, List.nil_append, List.append_nil, List.singleton_append, List.getElem?_cons_zero, List.getElem?_cons_succ, List.set_cons_zero, List.set_cons_succ, seq1_ok, seqL_ok, okP, Bool.false_eq_true, if_false, if_true, Bool.not_true, Bool.not_false, Nat.reduceSub, MI.close, take_all, $ts,*])
variable {P : Prg} [Bas P]
theorem compF_nil {c : Cn} {tg : TG} {own : List Nat} {el : IE} {e e' : MI.Env} {x : Item} {h h' : Sto} {v : MV} (hg : give tg x h (MI.wipe e own) = some e') (he : evE c el e' h = .ok (v, h')) : compF c tg own .nil el e x h = .ok (some v, h') := by
  simp only [compF, hg, evC, he]
theorem oLst_new (vs : List MV) (h : Sto) (hl : vs.length ≤ 1000) : oLst true vs h = .ok (.loc h.length, h ++ [.lst vs]) := by
  simp only [oLst, size_le hl, if_true]
theorem c_rowdraw [Fi P 9 f_law_mixed] [Fi P 11 f_law_draw] (k B : Nat) (sc : List Int) {cells great : List Int} {t : Int} (r : Nat) (X : Sto) (g : Good0 cells great t) (hr : r ≤ 6) (ht : t + 10 < 1000000) (e : MI.Env) (e0 : e[0]? = some (some (.loc 2))) (e4 : e[4]? = some (some (iv r))) (el : e.length = 8) :
    ∃ (l great' : List Int) (t' : Int), l.length = r + 1 ∧ (∀ a ∈ l, -9 ≤ a ∧ a ≤ 9) ∧ Good0 cells great' t' ∧ t' ≤ t + 7 ∧ evE (cn P (k + 2) B) f_law_grid_v2_c1 e (stS sc cells great t X) = .ok (.loc (stS sc cells great t X).length, stS sc cells great' t' X ++ [rowO l]) := by
  obtain ⟨vs, h', hq, lv, pv, g2, t2, rfl, gg2, ht2⟩ := turns_ind (f := compF (cn P (k + 2) B) (.nm 5) [5] .nil (.bin .sub (.call 11 (.cons (.var 0) (.cons (.k (.int 19)) .nil)) []) (.k (.int 9))) e) (rangeI 0 (r + 1)) (fun i h => ∃ (great : List Int) (t' : Int), h = stS sc cells great t' X ∧ Good0 cells great t' ∧ t' ≤ t + (i : Int)) (fun _ v => ∃ a, v = iv a ∧ -9 ≤ a ∧ a ≤ 9) 0 (stS sc cells great t X) (by
    rintro i x h hx ⟨g2, t2, rfl, gg2, ht2⟩
    obtain ⟨hi, rfl⟩ := rng_at hx
    obtain ⟨d, g3, da, db, gg3, e3⟩ := c_dr (P := P) k B sc 19 X gg2 (by omega) (by omega) (by omega)
    have w0 : ((MI.wipe e [5]).set 5 (some (.pv (.int (i : Int)))))[0]? = some (some (.loc 2)) := by
      simp only [MI.wipe]
      rw [List.getElem?_set_ne (by decide), List.getElem?_set_ne (by decide)]
      exact e0
    refine ⟨iv (d - 9), stS sc cells g3 (t2 + 1) X, ?_, ⟨_, rfl, by omega, by omega⟩, g3, t2 + 1, rfl, gg3, by omega⟩
    dsimp! [compF, give, w0, e3, subE]) ⟨great, t, rfl, g, by omega⟩
  rw [rng_lenI] at lv ht2
  obtain ⟨l, rfl, hb⟩ := ints_of fun i v e => pv i v e
  refine ⟨l, g2, t2, by simpa using lv, hb, gg2, by omega, ?_⟩
  refine (compS (rngI (r + 1) (x := (r : Int) + 1) (by omega) (by omega) (by dsimp! [e4, addE])) hq).trans ?_
  rw [oLst_new _ _ (by simp only [List.length_map] at lv ⊢; omega), len_st, len_st]
  rfl
def way3 : ISs := (.cons (.set 3 f_law_grid_v2_c2) (.cons (.sub (.idx (.var 3) (.k (.int 0))) (.k (.int 0)) (.k (.int 0))) .nil))
theorem gr_of {m : Nat} {R : List (List Int)} (hR : R.length = m + 1) (hq : ∀ (i : Nat) (l : List Int), R[i]? = some l → l.length = i + 1) : Gr m (R.set 0 [0]) := by
  refine ⟨by rw [List.length_set]; exact hR, fun i l e => ?_, ?_⟩
  · rw [List.getElem?_set] at e
    split at e
    · rename_i z
      subst z
      split at e
      · cases e; try rfl
      · cases e
    · exact hq i l e
  · rw [List.getElem?_set]
    rw [if_pos rfl, if_pos (by omega)]
theorem c_way3_step [Fi P 9 f_law_mixed] [Fi P 11 f_law_draw] (k B : Nat) (sc cells : List Int) (X : Sto) (t0 : Int) (ht : t0 + 60 < 1000000) (o0 o1 o2 o3 o4 o5 o6 o7 : Option MV) (h0 : o0 = some (.loc 2)) (i : Nat) (hi : i ≤ 6) (great : List Int) (t : Int) (gg : Good0 cells great t) (htt : t ≤ t0 + 7 * (i : Int)) (R : List (List Int)) (hR : R.length = i) :
    ∃ l H', (l.length = i + 1 ∧ ∀ a ∈ l, -9 ≤ a ∧ a ≤ 9) ∧ (∃ (great : List Int) (t' : Int), H' = stS sc cells great t' X ∧ Good0 cells great t' ∧ t' ≤ t0 + 7 * ((i + 1 : Nat) : Int)) ∧
      compF (cn P (k + 2) B) (.nm 4) [4] .nil f_law_grid_v2_c1 [o0, o1, o2, o3, o4, o5, o6, o7] (.one (iv i)) (stS sc cells great t X ++ R.map rowO) = .ok (some (.loc (X.length + 4 + i)), H' ++ (R ++ [l]).map rowO) := by
  subst h0
  obtain ⟨l, g3, t3, ll, lb, gg3, ht3, e3⟩ := c_rowdraw (P := P) k B sc i (X ++ R.map rowO) gg (by omega) (by omega) [some (.loc 2), o1, o2, o3, some (iv i), o5, o6, o7] rfl rfl rfl
  have e4 : (stS sc cells great t (X ++ R.map rowO)).length = X.length + 4 + i := by rw [len_st, List.length_append, List.length_map, hR]; omega
  have e5 : stS sc cells great t X ++ R.map rowO = stS sc cells great t (X ++ R.map rowO) := rfl
  have e6 : stS sc cells g3 t3 (X ++ R.map rowO) ++ [rowO l] = stS sc cells g3 t3 X ++ (R ++ [l]).map rowO := by simp [stS]
  rw [e4, e6] at e3
  refine ⟨l, stS sc cells g3 t3 X, ⟨ll, lb⟩, ⟨g3, t3, rfl, gg3, by omega⟩, ?_⟩
  rw [e5]
  exact compF_nil (e' := [some (.loc 2), o1, o2, o3, some (iv i), o5, o6, o7]) rfl e3
theorem c_way3 [Fi P 9 f_law_mixed] [Fi P 11 f_law_draw] (k B : Nat) (m F : Nat) (b : Int) (sc cells : List Int) (t0 : Int) (ext h : Sto) (h1 : 1 ≤ m) (h6 : m ≤ 6) (hb9 : 9 ≤ b) (ht : t0 + 70 < 1000000) (st : GS m b sc cells t0 ext F h) (w : Int) (o4 o5 o6 o7 : Option MV) :
    ∃ F' h', evB (cn P (k + 2) B) way3 [some (.loc 2), some (iv m), some (iv w), some (.loc F), o4, o5, o6, o7] h = some (.nx [some (.loc 2), some (iv m), some (iv w), some (.loc F'), o4, o5, o6, o7], h') ∧ GS m b sc cells (t0 + 50) ext F' h' := by
  obtain ⟨great, t, E, g, rfl, rfl, hg, hb, gg, htt, E', hE⟩ := st
  obtain ⟨X, hX⟩ : ∃ X : Sto, X = E ++ (g.map rowO ++ [MO.lst ((List.range g.length).map fun i => MV.loc ((stS sc cells great t E).length + i))]) := ⟨_, rfl⟩
  obtain ⟨R, H', hq, ⟨g2, t2, rfl, gg2, ht2⟩, hR, hrow⟩ := turns_rows (f := compF (cn P (k + 2) B) (.nm 4) [4] .nil f_law_grid_v2_c1 [some (.loc 2), some (iv m), some (iv w), some (.loc ((stS sc cells great t E).length + g.length)), o4, o5, o6, o7]) (rangeI 0 (m + 1))
    (fun i H => ∃ (great : List Int) (t' : Int), H = stS sc cells great t' X ∧ Good0 cells great t' ∧ t' ≤ t + 7 * (i : Int)) (fun i l => l.length = i + 1 ∧ ∀ a ∈ l, -9 ≤ a ∧ a ≤ 9) (X.length + 4) (stS sc cells great t X) (by rintro i H ⟨_, _, rfl, _⟩; exact len_st _ _ _ _ _) (by
      rintro i x H R hx ⟨g2, t2, rfl, gg2, ht2⟩ hR
      obtain ⟨hi, rfl⟩ := rng_at hx
      exact c_way3_step (P := P) k B sc cells X t (by omega) (some (.loc 2)) (some (iv m)) (some (iv w)) (some (.loc ((stS sc cells great t E).length + g.length))) o4 o5 o6 o7 rfl i (by omega) g2 t2 gg2 ht2 R hR) ⟨great, t, rfl, gg, by omega⟩
  rw [rng_lenI] at hR ht2
  have hR : R.length = m + 1 := hR
  have hc : evE (cn P (k + 2) B) f_law_grid_v2_c2 [some (.loc 2), some (iv m), some (iv w), some (.loc ((stS sc cells great t E).length + g.length)), o4, o5, o6, o7] (FG (stS sc cells great t E) g) = .ok (.loc ((stS sc cells g2 t2 X).length + R.length), FG (stS sc cells g2 t2 X) R) := by
    rw [fg_st, ← hX]
    exact comp_rows (rngI (m + 1) (x := (m : Int) + 1) (by omega) (by omega) (by dsimp! [addE])) hq (by rw [rng_lenI]; exact hR) (len_st _ _ _ _ _) (by rw [rng_lenI]; omega)
  obtain ⟨l0, el0, ll0⟩ : ∃ l, R[0]? = some l ∧ l.length = 1 := by
    have e : R[0]? = some (R[0]'(by omega)) := List.getElem?_eq_getElem _
    exact ⟨_, e, (hrow 0 _ e).1⟩
  have i0 := fg_ix (stS sc cells g2 t2 X) R (r := 0) (by omega)
  have s0 := fg_set B (stS sc cells g2 t2 X) R (r := 0) (n := 0) (0 : Int) el0 (by omega)
  have l00 : l0.set 0 (0 : Int) = [0] := by
    match l0, ll0 with
    | [a], _ => rfl
  rw [l00] at s0
  refine ⟨(stS sc cells g2 t2 X).length + R.length, FG (stS sc cells g2 t2 X) (R.set 0 [0]), ?_, ⟨g2, t2, X, R.set 0 [0], rfl, by rw [List.length_set], gr_of hR fun i l e => (hrow i l e).1, fun l hl a ha => ?_, gg2, by omega, _, (by rw [hX, hE, List.append_assoc])⟩⟩
  · unfold way3
    refine evB_set hc ?_
    dsimp only [List.set_cons_succ, List.set_cons_zero]
    refine evB_nx (e1 := [some (.loc 2), some (iv m), some (iv w), some (.loc ((stS sc cells g2 t2 X).length + R.length)), o4, o5, o6, o7]) (h1 := FG (stS sc cells g2 t2 X) (R.set 0 [0])) ?_ (by simp only [evB])
    dsimp only [iv] at s0
    have i0' : oIdx (.loc ((stS sc cells g2 t2 X).length + R.length)) (.pv (.int 0)) (FG (stS sc cells g2 t2 X) R) = .ok (.loc ((stS sc cells g2 t2 X).length + 0), FG (stS sc cells g2 t2 X) R) := i0
    have s0' : oSet B (.loc ((stS sc cells g2 t2 X).length + 0)) (.pv (.int 0)) (.pv (.int 0)) (FG (stS sc cells g2 t2 X) R) = some (FG (stS sc cells g2 t2 X) (R.set 0 [0])) := s0
    dsimp! [i0', s0']
  · rcases List.mem_or_eq_of_mem_set hl with hl | rfl
    · obtain ⟨i, hi⟩ := List.mem_iff_getElem?.mp hl
      have := (hrow i l hi).2 a ha
      omega
    · simp at ha; omega
theorem fz_items (g : List (List Int)) (h : Sto) : itemsOf (.pv (.lst (lsts g))) h = some (g.map fun l => .pv (.lst (l.map .int))) := by
  simp only [itemsOf, lsts, List.map_map, Function.comp_def]
theorem row_len {m : Nat} {g : List (List Int)} (hg : Gr m g) {l : List Int} (hl : l ∈ g) : l.length ≤ m + 1 := by
  obtain ⟨i, hi⟩ := List.mem_iff_getElem?.mp hl
  have := hg.row i l hi
  have := (List.getElem?_eq_some_iff.mp hi).1
  have := hg.len
  omega
theorem c_scale20 (k B : Nat) (m F : Nat) (b : Int) (sc cells : List Int) (t0 : Int) (ext h : Sto) (h6 : m ≤ 6) (hb1 : b ≤ 1000) (st : GS m b sc cells t0 ext F h) (o2 o4 o5 : Option MV) (o6 o7 : Option MV) (o0 o1 : Option MV) :
    ∃ F' h', evE (cn P (k + 1) B) f_law_grid_v2_c4 [o0, o1, o2, some (.loc F), o4, o5, o6, o7] h = .ok (.loc F', h') ∧ GS m (b * 10 ^ 20) sc cells t0 ext F' h' := by
  obtain ⟨great, t, E, g, rfl, rfl, hg, hb, gg, htt, E', hE⟩ := st
  have fz := frz_fg (stS sc cells great t E) g
  let X := E ++ (g.map (fun (l : List Int) => MO.lock (l.map PV.int)) ++ [MO.lock (lsts g)])
  have eX : stS sc cells great t E ++ g.map (fun (l : List Int) => MO.lock (l.map PV.int)) ++ [MO.lock (lsts g)] = stS sc cells great t X := by simp [stS, X]
  rw [eX] at fz
  obtain ⟨R, H', hq, rfl, hR, hrow⟩ := turns_rows (f := compF (cn P (k + 1) B) (.nm 6) [6] .nil f_law_grid_v2_c3 [o0, o1, o2, some (.loc ((stS sc cells great t E).length + g.length)), o4, o5, o6, o7]) ((g.map fun l => MV.pv (.lst (l.map .int))).map Item.one)
    (fun i H => H = stS sc cells great t X) (fun i l => ∃ y, g[i]? = some y ∧ l = y.map fun a => a * 10 ^ 20) (X.length + 4) (stS sc cells great t X) (by rintro i H rfl; exact len_st _ _ _ _ _) (by
      rintro i x H R hx rfl hR
      rw [List.map_map, List.getElem?_map] at hx
      cases q : g[i]? with
      | none => rw [q] at hx; cases hx
      | some l =>
        rw [q] at hx
        cases hx
        have hm := List.mem_of_getElem? q
        have hlen := row_len hg hm
        refine ⟨l.map fun a => a * 10 ^ 20, stS sc cells great t X, ⟨l, rfl, rfl⟩, rfl, ?_⟩
        have ht := turns_one' l (stS sc cells great t X ++ R.map rowO) (compF (cn P (k + 1) B) (.nm 7) [7] .nil (.bin .mul (.var 7) (.bin .pow (.k (.int 10)) (.k (.int 20)))) [o0, o1, o2, some (.loc ((stS sc cells great t E).length + g.length)), o4, o5, some (.pv (.lst (l.map .int))), o7]) (fun a => a * 10 ^ 20) fun a ha => by
          have hab := hb l hm a ha
          have b1 : Bd 40 a := by unfold Bd; omega
          have b2 : Bd 100 ((10 : Int) ^ 20) := by unfold Bd; decide
          dsimp! [compF, give, MI.wipe, powE 10 20 _ (by decide), show (20 : Int).toNat = 20 from rfl, mulE _ _ _ (b1.two b2 (by omega))]
        have c3 : evE (cn P (k + 1) B) f_law_grid_v2_c3 [o0, o1, o2, some (.loc ((stS sc cells great t E).length + g.length)), o4, o5, some (.pv (.lst (l.map .int))), o7] (stS sc cells great t X ++ R.map rowO) = .ok (.loc (X.length + 4 + i), stS sc cells great t X ++ (R ++ [l.map fun a => a * 10 ^ 20]).map rowO) := by
          refine (compS (by dsimp! [itemsOf, ones]) ht).trans ?_
          rw [oLst_new _ _ (by simp; omega)]
          simp [stS, rowO, hR]
          try omega
        exact compF_nil (e' := [o0, o1, o2, some (.loc ((stS sc cells great t E).length + g.length)), o4, o5, some (.pv (.lst (l.map .int))), o7]) rfl c3) rfl
  have hR : R.length = m + 1 := by rw [hR]; simpa using hg.len
  have hc : evE (cn P (k + 1) B) f_law_grid_v2_c4 [o0, o1, o2, some (.loc ((stS sc cells great t E).length + g.length)), o4, o5, o6, o7] (FG (stS sc cells great t E) g) = .ok (.loc ((stS sc cells great t X).length + R.length), FG (stS sc cells great t X) R) := by
    refine comp_rows ?_ hq (by rw [hR]; simpa using hg.len.symm) (len_st _ _ _ _ _) (by simp [hg.len]; omega)
    dsimp! [fz, fz_items]
  refine ⟨_, _, hc, great, t, X, R, rfl, rfl, ⟨hR, fun r l e => ?_, ?_⟩, fun l hl a ha => ?_, gg, htt, _, (by show E ++ _ = _; rw [hE, List.append_assoc])⟩
  · obtain ⟨y, ey, rfl⟩ := hrow r l e
    rw [List.length_map]; exact hg.row r y ey
  · have e : R[0]? = some (R[0]'(by omega)) := List.getElem?_eq_getElem _
    obtain ⟨y, ey, e2⟩ := hrow 0 _ e
    rw [hg.top] at ey
    cases ey
    rw [e, e2]
    rfl
  · obtain ⟨i, hi⟩ := List.mem_iff_getElem?.mp hl
    obtain ⟨y, ey, rfl⟩ := hrow i l hi
    rw [List.mem_map] at ha
    obtain ⟨x, hx, rfl⟩ := ha
    have := hb y (List.mem_of_getElem? ey) x hx
    have p : (10 : Int) ^ 20 = 100000000000000000000 := by decide
    rw [p]
    omega
theorem c_c5 (k B : Nat) (m F : Nat) (b : Int) (sc cells : List Int) (t0 : Int) (ext h : Sto) (h6 : m ≤ 6) (st : GS m b sc cells t0 ext F h) (o0 o1 o2 o4 o5 o6 o7 : Option MV) :
    ∃ (g : List (List Int)) (great : List Int) (t : Int) (E : Sto), Gr m g ∧ GrB b g ∧ Good0 cells great t ∧ t ≤ t0 ∧ (∃ E', E = ext ++ E') ∧ evE (cn P (k + 1) B) (.blt .tuple (.cons f_law_grid_v2_c5 .nil)) [o0, o1, o2, some (.loc F), o4, o5, o6, o7] h = .ok (.pv (tupII g), stS sc cells great t E) := by
  obtain ⟨great, t, E, g, rfl, rfl, hg, hb, gg, htt, E', hE⟩ := st
  have fz := frz_fg (stS sc cells great t E) g
  have eX : stS sc cells great t E ++ g.map (fun (l : List Int) => MO.lock (l.map PV.int)) ++ [MO.lock (lsts g)] = stS sc cells great t (E ++ (g.map (fun (l : List Int) => MO.lock (l.map PV.int)) ++ [MO.lock (lsts g)])) := by simp [stS]
  rw [eX] at fz
  have ht := turns_one (f := compF (cn P (k + 1) B) (.nm 6) [6] .nil (.blt .tuple (.cons (.var 6) .nil)) [o0, o1, o2, some (.loc ((stS sc cells great t E).length + g.length)), o4, o5, o6, o7]) (mk := fun (l : List Int) => Item.one (.pv (.lst (l.map .int)))) (g := fun l => .pv (tupI l)) (h := stS sc cells great t (E ++ (g.map (fun (l : List Int) => MO.lock (l.map PV.int)) ++ [MO.lock (lsts g)]))) g (fun l hl => by
    dsimp! [compF, give, MI.wipe, blt_tup]
    rfl)
  refine ⟨g, great, t, E ++ (g.map (fun (l : List Int) => MO.lock (l.map PV.int)) ++ [MO.lock (lsts g)]), hg, hb, gg, htt, ⟨_, by rw [hE, List.append_assoc]⟩, ?_⟩
  have hc : evE (cn P (k + 1) B) f_law_grid_v2_c5 [o0, o1, o2, some (.loc ((stS sc cells great t E).length + g.length)), o4, o5, o6, o7] (FG (stS sc cells great t E) g) = .ok (.pv (.lst (g.map tupI)), stS sc cells great t (E ++ (g.map (fun (l : List Int) => MO.lock (l.map PV.int)) ++ [MO.lock (lsts g)]))) := by
    refine (compS ?_ ht).trans (oLst_f _ _ (pures_map_of g tupI) (by simp [hg.len]; omega))
    dsimp! [fz, fz_items]
    rw [List.map_map]
    rfl
  generalize hcc : f_law_grid_v2_c5 = cc at hc
  dsimp! [hc, blt_tup]
  rfl
end MI

namespace MI
open PySem L2
open Lean.Parser.Tactic in
local macro_rules | `(tactic| dsimp! [$ts,*]) => `(tactic| simp only [evB, evS_for, evE_comp, evT, evEs, evC, evO, evI, evE.eq_1, evE.eq_2, evE.eq_3, evE.eq_4, evE.eq_5, evE.eq_6, evE.eq_7, evE.eq_8, evE.eq_9, evE.eq_10, evE.eq_11, evE.eq_12, evE.eq_13, evE.eq_14, evE.eq_15, evE.eq_16, evE.eq_17, evE.eq_18, evE.eq_19, evE.eq_20, evE.eq_21, evE.eq_22, evE.eq_23, evE.eq_25, evE.eq_26, evE.eq_27, evE.eq_28, evE.eq_29, evE.eq_30, evS.eq_1, evS.eq_2, evS.eq_3, evS.eq_4, evS.eq_5, evS.eq_6, evS.eq_7, evS.eq_8, evS.eq_11, evS.eq_12, evS.eq_13, evS.eq_14, evS.eq_15, cn_C, cn_B, cn_rp, cn_f, cn_nx, cn_sub, cn_fuel, MI.start, List.map_cons, List.map_nil, List.length_cons, List.length_nil, List.replicate, List.cons_append, List.nil_append, List.append_nil, List.singleton_append, List.getElem?_cons_zero, List.getElem?_cons_succ, List.set_cons_zero, List.set_cons_succ, seq1_ok, seqL_ok, okP, Bool.false_eq_true, if_false, if_true, Bool.not_true, Bool.not_false, Nat.reduceSub, MI.close, take_all, $ts,*])
variable {P : Prg} [Bas P]
theorem c_c0 [Fi P 9 f_law_mixed] [Fi P 11 f_law_draw] [Fi P 31 f_law_piece] [Fi P 30 f_law_weights] [Fi P 32 f_law_piece_at] [Fi P 48 f_law_grid_of_v2] [Fi P 49 f_law_bowed_v2] (k B : Nat) (sc : List Int) {cells great : List Int} {s : Int} (m : Nat) (ext : Sto) (g : Good0 cells great s) (hs : s + 60 < 1000000) (h1 : 1 ≤ m) (h6 : m ≤ 6) (o2 o3 o4 o5 o6 o7 : Option MV) :
    ∃ F h', GS m 216 sc cells (s + 40) ext F h' ∧ evE (cn P (k + 4) B) f_law_grid_v2_c0 [some (.loc 2), some (iv m), o2, o3, o4, o5, o6, o7] (stS sc cells great s ext) = .ok (.loc F, h') := by
  obtain ⟨gr, g2, t, hg, hb, gg, ht, e1⟩ := c_bowed (P := P) k B sc m ext g hs h1 h6
  obtain ⟨R, H', hq, rfl, hR, hrow⟩ := turns_rows (f := compF (cn P (k + 4) B) (.nm 6) [6] .nil (.mkl (.var 6)) [some (.loc 2), some (iv m), o2, o3, o4, o5, o6, o7]) (gr.map fun l => Item.one (.pv (tupI l))) (fun i H => H = stS sc cells g2 t ext) (fun i l => gr[i]? = some l) (ext.length + 4) (stS sc cells g2 t ext) (by rintro i H rfl; exact len_st _ _ _ _ _) (by
    rintro i x H R hx rfl hR
    rw [List.getElem?_map] at hx
    cases q : gr[i]? with
    | none => rw [q] at hx; cases hx
    | some l =>
      rw [q] at hx
      cases hx
      refine ⟨l, stS sc cells g2 t ext, rfl, rfl, ?_⟩
      refine compF_nil (e' := [some (.loc 2), some (iv m), o2, o3, o4, o5, some (.pv (tupI l)), o7]) rfl ?_
      have e2 : (stS sc cells g2 t ext ++ R.map rowO).length = ext.length + 4 + i := by rw [List.length_append, len_st, List.length_map, hR]
      have e3 : (stS sc cells g2 t ext ++ R.map rowO) ++ [rowO l] = stS sc cells g2 t ext ++ (R ++ [l]).map rowO := by simp
      rw [evE.eq_28, evE.eq_1]
      simp only [List.getElem?_cons_succ, List.getElem?_cons_zero, seq1_ok, cn_rp]
      rw [mkl_row, e2, e3]) rfl
  have hR : R.length = gr.length := by simpa using hR
  have eR : R = gr := List.ext_getElem? fun i => by
    cases q : R[i]? with
    | none => rw [List.getElem?_eq_none_iff] at q; exact (List.getElem?_eq_none (by omega)).symm
    | some l => exact (hrow i l q).symm
  subst eR
  refine ⟨_, _, ⟨g2, t, ext, R, rfl, rfl, hg, hb, gg, by omega, [], by simp⟩, ?_⟩
  refine comp_rows ?_ hq (by simp) (len_st _ _ _ _ _) (by simp [hg.len]; omega)
  dsimp! [e1, tupII, itemsOf]
  simp only [List.map_map, Function.comp_def]
theorem c_grid [Fi P 9 f_law_mixed] [Fi P 11 f_law_draw] [Fi P 31 f_law_piece] [Fi P 30 f_law_weights] [Fi P 32 f_law_piece_at] [Fi P 48 f_law_grid_of_v2] [Fi P 49 f_law_bowed_v2] [Fi P 50 f_law_grid_v2] (k B : Nat) (sc : List Int) {cells great : List Int} {s : Int} (m : Nat) (ext : Sto) (g : Good0 cells great s) (hs : s + 200 < 1000000) (h1 : 1 ≤ m) (h6 : m ≤ 6) :
    ∃ gr great' t, Gr m gr ∧ GrB (225 * 10 ^ 20) gr ∧ Good0 cells great' t ∧ t ≤ s + 120 ∧ callI P (k + 5) 50 B [.loc 2, iv m] (stS sc cells great s ext) = .ok (.pv (tupII gr), stS sc cells great' t ext) := by
  obtain ⟨w, g1, wa, wb, gg1, e1⟩ := c_dr (P := P) (k + 2) (ext.length + 4) sc 4 ext g (by omega) (by omega) (by omega)
  obtain ⟨F0, h0, st0, ec0⟩ := c_c0 (P := P) k (ext.length + 4) sc m ext gg1 (by omega) h1 h6 (some (iv w)) none none none none none
  have up : ∀ {b b' : Int} {t0 t1 : Int} {F : Nat} {h : Sto}, b ≤ b' → t0 ≤ t1 → GS m b sc cells t0 ext F h → GS m b' sc cells t1 ext F h := fun hb ht ⟨gr, t, E, g, e1, e2, hg, hb', gg, h, hE⟩ => ⟨gr, t, E, g, e1, e2, hg, fun l hl a ha => by have := hb' l hl a ha; omega, gg, by omega, hE⟩
  -- the ways
  obtain ⟨F1, h1', o4, o5, st1, eb1⟩ : ∃ F1 h1' o4 o5, GS m 225 sc cells (s + 60) ext F1 h1' ∧ ∀ {ss : ISs} {r : RS}, evB (cn P (k + 4) (ext.length + 4)) ss [some (.loc 2), some (iv m), some (iv w), some (.loc F1), o4, o5, none, none] h1' = r →
      evB (cn P (k + 4) (ext.length + 4)) (.cons (.iff (.cmp .eq (.var 2) (.k (.int 2))) way2 .nil) ss) [some (.loc 2), some (iv m), some (iv w), some (.loc F0), none, none, none, none] h0 = r := by
    by_cases z : w = 2
    · subst z
      obtain ⟨o4, o5, h', eb, st⟩ := c_way2 (P := P) (k + 2) (ext.length + 4) m F0 216 sc cells (s + 1 + 40) ext h0 h1 h6 (by omega) st0 2 none none none none
      refine ⟨F0, h', o4, o5, up (by omega) (by omega) st, fun {ss r} q => evB_if_nx (h1 := h0) ?_ eb q⟩
      dsimp! [iv, eqE, truth, beq_self_eq_true]
    · refine ⟨F0, h0, none, none, up (by omega) (by omega) st0, fun {ss r} q => evB_if0 (h1 := h0) ?_ q⟩
      have z' : (w == 2) = false := by simpa using z
      dsimp! [iv, eqE, truth, z']
  obtain ⟨F2, h2', st2, eb2⟩ : ∃ F2 h2', GS m 225 sc cells (s + 110) ext F2 h2' ∧ ∀ {ss : ISs} {r : RS}, evB (cn P (k + 4) (ext.length + 4)) ss [some (.loc 2), some (iv m), some (iv w), some (.loc F2), o4, o5, none, none] h2' = r →
      evB (cn P (k + 4) (ext.length + 4)) (.cons (.iff (.cmp .eq (.var 2) (.k (.int 3))) way3 .nil) ss) [some (.loc 2), some (iv m), some (iv w), some (.loc F1), o4, o5, none, none] h1' = r := by
    by_cases z : w = 3
    · subst z
      obtain ⟨F', h', eb, st⟩ := c_way3 (P := P) (k + 2) (ext.length + 4) m F1 225 sc cells (s + 60) ext h1' h1 h6 (by omega) (by omega) st1 3 o4 o5 none none
      refine ⟨F', h', up (by omega) (by omega) st, fun {ss r} q => evB_if_nx (h1 := h1') ?_ eb q⟩
      dsimp! [iv, eqE, truth, beq_self_eq_true]
    · refine ⟨F1, h1', up (by omega) (by omega) st1, fun {ss r} q => evB_if0 (h1 := h1') ?_ q⟩
      have z' : (w == 3) = false := by simpa using z
      dsimp! [iv, eqE, truth, z']
  -- scaled or not
  obtain ⟨F3, h3', st3, eb3⟩ : ∃ F3 h3', GS m (225 * 10 ^ 20) sc cells (s + 111) ext F3 h3' ∧ ∀ {ss : ISs} {r : RS}, evB (cn P (k + 4) (ext.length + 4)) ss [some (.loc 2), some (iv m), some (iv w), some (.loc F3), o4, o5, none, none] h3' = r →
      evB (cn P (k + 4) (ext.length + 4)) (.cons (.iff (.cmp .eq (.call 11 (.cons (.var 0) (.cons (.k (.int 12)) .nil)) []) (.k (.int 0))) (.cons (.set 3 f_law_grid_v2_c4) .nil) .nil) ss) [some (.loc 2), some (iv m), some (iv w), some (.loc F2), o4, o5, none, none] h2' = r := by
    obtain ⟨great, t, E, gr, rfl, eF, hg, hb, gg, htt, hE⟩ := st2
    obtain ⟨X, hX⟩ : ∃ X : Sto, X = E ++ (gr.map rowO ++ [MO.lst ((List.range gr.length).map fun i => MV.loc ((stS sc cells great t E).length + i))]) := ⟨_, rfl⟩
    obtain ⟨d, g4, da, db, gg4, e4⟩ := c_dr (P := P) (k + 2) (ext.length + 4) sc 12 X gg (by omega) (by omega) (by omega)
    have L : (stS sc cells g4 (t + 1) E).length = (stS sc cells great t E).length := by simp [stS]
    have X' : FG (stS sc cells great t E) gr = stS sc cells great t X := by rw [fg_st, hX]
    have X2 : stS sc cells g4 (t + 1) X = FG (stS sc cells g4 (t + 1) E) gr := by rw [fg_st, hX, L]
    rw [X2, ← X'] at e4
    have st4 : GS m 225 sc cells (s + 111) ext F2 (FG (stS sc cells g4 (t + 1) E) gr) := ⟨g4, t + 1, E, gr, rfl, by rw [L]; exact eF, hg, hb, gg4, by omega, hE⟩
    by_cases z : d = 0
    · subst z
      obtain ⟨F', h', ec, st⟩ := c_scale20 (P := P) (k + 3) (ext.length + 4) m F2 225 sc cells (s + 111) ext _ h6 (by omega) st4 (some (iv w)) o4 o5 none none (some (.loc 2)) (some (iv m))
      refine ⟨F', h', st, fun {ss r} q => evB_if_nx (h1 := FG (stS sc cells g4 (t + 1) E) gr) (e2 := [some (.loc 2), some (iv m), some (iv w), some (.loc F'), o4, o5, none, none]) (h2 := h') ?_ (evB_set ec ?_) q⟩
      · dsimp! [e4, eqE, truth, beq_self_eq_true]
      · simp only [evB, List.set_cons_succ, List.set_cons_zero]
    · have p : (10 : Int) ^ 20 = 100000000000000000000 := by decide
      refine ⟨F2, _, up (by rw [p]; omega) (by omega) st4, fun {ss r} q => evB_if0 (h1 := FG (stS sc cells g4 (t + 1) E) gr) ?_ q⟩
      have z' : (d == 0) = false := by simpa using z
      dsimp! [e4, eqE, truth, z']
  obtain ⟨gr, g5, t5, E5, hg, hb, gg5, ht5, ⟨E', rfl⟩, ec5⟩ := c_c5 (P := P) (k + 3) (ext.length + 4) m F3 _ sc cells (s + 111) ext h3' h6 st3 (some (.loc 2)) (some (iv m)) (some (iv w)) o4 o5 none none
  refine ⟨gr, g5, t5, hg, hb, gg5, by omega, ?_⟩
  have body : evB (cn P (k + 4) (stS sc cells great s ext).length) f_law_grid_v2.body [some (.loc 2), some (iv m), none, none, none, none, none, none] (stS sc cells great s ext) = some (.rt (.pv (tupII gr)), stS sc cells g5 t5 (ext ++ E')) := by
    rw [len_st]
    unfold f_law_grid_v2
    refine evB_set (v := iv w) (h1 := stS sc cells g1 (s + 1) ext) (by dsimp! [e1]) ?_
    dsimp only [List.set_cons_succ, List.set_cons_zero]
    refine evB_set ec0 ?_
    dsimp only [List.set_cons_succ, List.set_cons_zero]
    refine eb1 (eb2 (eb3 ?_))
    exact evB_ret ec5
  have := run_rt (P := P) (j := 50) (k := k + 4) (B := B) (vs := [.loc 2, iv m]) (h := stS sc cells great s ext) (F := f_law_grid_v2) Fi.h rfl rfl body
  have tk : (stS sc cells g5 t5 (ext ++ E')).take (stS sc cells great s ext).length = stS sc cells g5 t5 ext := by
    rw [← take_st sc cells great g5 s t5 ext]
    simp [stS]
  rw [tk] at this
  exact this
end MI

namespace MI
open PySem L2
open Lean.Parser.Tactic in
local macro_rules | `(tactic| dsimp! [$ts,*]) => `(tactic| simp only [evB, evS_for, evE_comp, evT, evEs, evC, evO, evI, evE.eq_1, evE.eq_2, evE.eq_3, evE.eq_4, evE.eq_5, evE.eq_6, evE.eq_7, evE.eq_8, evE.eq_9, evE.eq_10, evE.eq_11, evE.eq_12, evE.eq_13, evE.eq_14, evE.eq_15, evE.eq_16, evE.eq_17, evE.eq_18, evE.eq_19, evE.eq_20, evE.eq_21, evE.eq_22, evE.eq_23, evE.eq_25, evE.eq_26, evE.eq_27, evE.eq_28, evE.eq_29, evE.eq_30, evS.eq_1, evS.eq_2, evS.eq_3, evS.eq_4, evS.eq_5, evS.eq_6, evS.eq_7, evS.eq_8, evS.eq_11, evS.eq_12, evS.eq_13, evS.eq_14, evS.eq_15, cn_C, cn_B, cn_rp, cn_f, cn_nx, cn_sub, cn_fuel, MI.start, List.map_cons, List.map_nil, List.length_cons, List.length_nil, List.replicate, List.cons_append, List.nil_append, List.append_nil, List.singleton_append, List.getElem?_cons_zero, List.getElem?_cons_succ, List.set_cons_zero, List.set_cons_succ, seq1_ok, seqL_ok, okP, Bool.false_eq_true, if_false, if_true, Bool.not_true, Bool.not_false, Nat.reduceSub, MI.close, take_all, $ts,*])
variable {P : Prg} [Bas P]
theorem run_rt' {k j B : Nat} {vs : List MV} {h : Sto} {F : Fn} {v : PV} (hf : P.fns j = some F) (hk : F.keep = false) (hl : vs.length = F.ps.length) (hb : evB (cn P k h.length) F.body (MI.start F.N vs) h = some (.rt (.pv v), h)) : callI P (k + 1) j B vs h = .ok (.pv v, h) := by
  have := run_rt (B := B) hf hk hl hb
  rw [List.take_length] at this
  exact this
theorem run_nx' {k j B : Nat} {vs : List MV} {h : Sto} {F : Fn} {e : MI.Env} (hf : P.fns j = some F) (hk : F.keep = false) (hl : vs.length = F.ps.length) (hb : evB (cn P k h.length) F.body (MI.start F.N vs) h = some (.nx e, h)) : callI P (k + 1) j B vs h = .ok (.pv .non, h) := by
  rw [run_fn hf hk hl, hb]
  dsimp! [MI.close]
theorem toBools_true {α : Type} : ∀ l : List α, toBools (l.map fun _ => PV.bl true) = some (l.map fun _ => true)
  | [] => rfl
  | a :: l => by simp only [List.map_cons, toBools, toBools_true l]
theorem all_true {α : Type} (rp : PV → Str) (l : List α) (h : Sto) : oBlt rp .all [.pv (.lst (l.map fun _ => .bl true))] h = .ok (.pv (.bl true), h) := by
  have e : (l.map fun _ => true).all id = true := by simp
  simp only [oBlt, seqpL, seqp, seqv, pures_map, toBools_true, e, okP]
theorem c_itup [Fi P 0 f_is_integer] [Fi P 27 f_is_integer_tuple] (k B : Nat) (l : List Int) (n : Int) (h : Sto) (hn : (l.length : Int) = n) (h7 : l.length ≤ 1000) : callI P (k + 2) 27 B [.pv (tupI l), iv n] h = .ok (.pv (.bl true), h) := by
  have ht := turns_one (f := compF (cn P (k + 1) h.length) (.nm 2) [2] .nil (.call 0 (.cons (.var 2) .nil) []) [some (.pv (tupI l)), some (iv n), none]) (mk := fun (a : Int) => Item.one (.pv (.int a))) (g := fun _ => .pv (.bl true)) (h := h) l (fun a _ => by dsimp! [compF, give, MI.wipe, c_int])
  have hc : evE (cn P (k + 1) h.length) f_is_integer_tuple_c0 [some (.pv (tupI l)), some (iv n), none] h = .ok (.pv (.lst (l.map fun _ => .bl true)), h) := by
    refine (compS (by dsimp! [items_tup, ones]) ht).trans (oLst_f _ _ (pures_map_of l _) (by simpa using h7))
  refine run_rt' (F := f_is_integer_tuple) Fi.h rfl rfl ?_
  show evB (cn P (k + 1) h.length) f_is_integer_tuple.body [some (.pv (tupI l)), some (iv n), none] h = _
  unfold f_is_integer_tuple
  have isT : ∀ h, isTy .tuple (.pv (tupI l)) h = .ok (.pv (.bl true), h) := fun _ => rfl
  refine evB_if0 (h1 := h) ?_ (evB_ret ?_)
  · dsimp! [isT, truth, blt_len, iv, ne_intE, hn, beq_self_eq_true]
  · generalize hcc : f_is_integer_tuple_c0 = cc at hc
    dsimp! [hc, all_true]
theorem idx_tupP {xs : List PV} {i : Nat} {a : PV} (h : Sto) (e : xs[i]? = some a) : oIdx (.pv (.tup xs)) (.pv (.int (i : Int))) h = .ok (.pv a, h) := by
  have hl := (List.getElem?_eq_some_iff.mp e).1
  simp only [oIdx, ixN_nat hl, e, okP]
theorem idx_row {g : List (List Int)} {i : Nat} {l : List Int} (h : Sto) (e : g[i]? = some l) : oIdx (.pv (tupII g)) (.pv (.int (i : Int))) h = .ok (.pv (tupI l), h) :=
  idx_tupP h (by rw [List.getElem?_map, e]; try rfl)
theorem ixN_last {n : Nat} (h : 0 < n) : MI.ixN n (-1) = some (n - 1) := by
  unfold MI.ixN
  rw [if_neg (by omega), if_pos (by omega)]
  congr 1
  omega
theorem idx_rowL {g : List (List Int)} {l : List Int} (h : Sto) (e : g[g.length - 1]? = some l) : oIdx (.pv (tupII g)) (.pv (.int (-1))) h = .ok (.pv (tupI l), h) := by
  have hl := (List.getElem?_eq_some_iff.mp e).1
  have e2 : (g.map tupI)[g.length - 1]? = some (tupI l) := by rw [List.getElem?_map, e]; try rfl
  simp only [oIdx, tupII, List.length_map, ixN_last (show 0 < g.length by omega), e2, okP]
theorem idx_last {l : List Int} {a : Int} (h : Sto) (e : l[l.length - 1]? = some a) : oIdx (.pv (tupI l)) (.pv (.int (-1))) h = .ok (iv a, h) := by
  have hl := (List.getElem?_eq_some_iff.mp e).1
  have e2 : (l.map PV.int)[l.length - 1]? = some (.int a) := by rw [List.getElem?_map, e]; try rfl
  simp only [oIdx, tupI, List.length_map, ixN_last (show 0 < l.length by omega), e2, okP]
theorem enum_rows {g : List (List Int)} {i : Nat} {x : Item} (e : (enumFrom 0 ((g.map tupI).map MV.pv))[i]? = some x) : ∃ l, g[i]? = some l ∧ x = .many [.pv (.int (i : Int)), .pv (tupI l)] := by
  obtain ⟨v, h1, h2⟩ := enum_get e
  rw [List.map_map, List.getElem?_map] at h1
  cases q : g[i]? with
  | none => rw [q] at h1; cases h1
  | some a => rw [q] at h1; cases h1; exact ⟨a, rfl, by rw [h2, Nat.zero_add]; try rfl⟩
theorem len_rows (rp : PV → Str) (g : List (List Int)) (h : Sto) : oBlt rp .len [.pv (tupII g)] h = .ok (iv g.length, h) := by simp [oBlt, seqv, tupII, okP, iv]
theorem addE' (a b : Int) (h : Sto) : oBin .add (iv a) (iv b) h = .ok (iv (a + b), h) := rfl
theorem subE' (a b : Int) (h : Sto) : oBin .sub (iv a) (iv b) h = .ok (iv (a - b), h) := rfl
theorem c_chk [Fi P 0 f_is_integer] [Fi P 27 f_is_integer_tuple] [Fi P 28 f_check_array] (k B m : Nat) (g : List (List Int)) (h : Sto) (hg : Gr m g) (h1 : 1 ≤ m) (h6 : m ≤ 6) : callI P (k + 3) 28 B [.pv (tupII g)] h = .ok (.pv .non, h) := by
  obtain ⟨e', h', q, ⟨o1, o2, rfl⟩, rfl⟩ := loop_ind (f := forF (cn P (k + 2) h.length) (.tp [1, 2]) f_check_array_b0) (enumFrom 0 ((g.map tupI).map MV.pv)) (fun i e h' => (∃ o1 o2, e = ([some (.pv (tupII g)), o1, o2] : MI.Env)) ∧ h' = h) 0 [some (.pv (tupII g)), none, none] h (by
    rintro i x e h' hx ⟨⟨o1, o2, rfl⟩, rfl⟩
    obtain ⟨l, el, rfl⟩ := enum_rows hx
    have ll := hg.row i l el
    have it := c_itup (P := P) k h'.length l ((i : Int) + 1) h' (by omega) (by have := row_len hg (List.mem_of_getElem? el); omega)
    refine ⟨[some (.pv (tupII g)), some (iv i), some (.pv (tupI l))], h', .inl ?_, ⟨_, _, rfl⟩, rfl⟩
    unfold forF
    dsimp only [give, setAll, List.set_cons_succ, List.set_cons_zero]
    unfold f_check_array_b0
    refine evB_if0 (h1 := h') (by dsimp! [iv, addE, it, truth]) (evB_if0 (h1 := h') ?_ (by simp only [evB]))
    by_cases z : i = 0
    · subst z
      rw [hg.top] at el
      cases el
      have i0 : oIdx (.pv (tupI [0])) (.pv (.int 0)) h' = .ok (.pv (.int 0), h') := rfl
      dsimp! [iv, eqE, i0, ne_intE, truth, Int.natCast_zero, beq_self_eq_true]
    · have z' : ((i : Int) == 0) = false := by simpa using z
      dsimp! [iv, eqE, z', truth]) ⟨⟨_, _, rfl⟩, rfl⟩
  refine run_nx' (F := f_check_array) (e := [some (.pv (tupII g)), o1, o2]) Fi.h rfl rfl ?_
  have isT : ∀ h, isTy .tuple (.pv (tupII g)) h = .ok (.pv (.bl true), h) := fun _ => rfl
  have hl := hg.len
  have l1 : (2 : Int) ≤ (g.length : Int) := by omega
  have l2 : (g.length : Int) ≤ 6 + 1 := by omega
  unfold f_check_array
  refine evB_if0 (h1 := h') ?_ (evB_for (its := enumFrom 0 ((g.map tupI).map MV.pv)) (h1 := h') ?_ q (by simp only [evB]))
  · dsimp! [isT, truth, len_rows, iv, addE, oCmp, ints2, l1, l2, decide_true]
  · dsimp! [tupII, itemsOf]
/-- the differences of neighbours -/
def diffs (l : List Int) : List Int := (List.range (l.length - 1)).map fun i => l[i + 1]?.getD 0 - l[i]?.getD 0
theorem c_diffT [Fi P 43 f_differences] (k B : Nat) (l : List Int) (h : Sto) (h1 : 1 ≤ l.length) (h7 : l.length ≤ 1000) : callI P (k + 1) 43 B [.pv (tupI l)] h = .ok (.pv (tupI (diffs l)), h) := by
  have hc : evE (cn P k h.length) f_differences_c0 [some (.pv (tupI l)), none] h = .ok (.pv (.lst ((diffs l).map .int)), h) := by
    unfold diffs
    rw [List.map_map]
    refine comp_ints (l := List.range (l.length - 1)) (mk := fun (n : Nat) => .one (.pv (.int (0 + (n : Int))))) (φ := fun (i : Nat) => l[i + 1]?.getD 0 - l[i]?.getD 0) ?_ (by simp; omega) fun n hn => ?_
    · exact rngI (l.length - 1) (x := (l.length : Int) - 1) (by omega) (by omega) (by dsimp! [blt_len, subE])
    · have hn : n < l.length - 1 := by simpa using hn
      have e1 : l[n + 1]? = some (l[n + 1]'(by omega)) := List.getElem?_eq_getElem _
      have e2 : l[n]? = some (l[n]'(by omega)) := List.getElem?_eq_getElem _
      have i1 := idx_tup h e1
      have i2 := idx_tup h e2
      have en : (n : Int) + 1 = ((n + 1 : Nat) : Int) := by omega
      dsimp! [compF, give, MI.wipe, addE, en, i1, Int.zero_add, i2, subE, e1, e2, Option.getD_some]
  refine run_rt' (F := f_differences) Fi.h rfl rfl ?_
  exact evB_ret (tup_of hc)
theorem idx_lstI {xs : List Int} {i : Nat} {a : Int} (h : Sto) (e : xs[i]? = some a) : oIdx (.pv (.lst (xs.map .int))) (.pv (.int (i : Int))) h = .ok (.pv (.int a), h) := idx_cell xs h e
theorem len_lstI (rp : PV → Str) (xs : List Int) (h : Sto) : oBlt rp .len [.pv (.lst (xs.map .int))] h = .ok (.pv (.int (xs.length : Int)), h) := by simp [oBlt, seqv, okP]
theorem c_diffL [Fi P 43 f_differences] (k B : Nat) (l : List Int) (h : Sto) (h1 : 1 ≤ l.length) (h7 : l.length ≤ 1000) : callI P (k + 1) 43 B [.pv (.lst (l.map .int))] h = .ok (.pv (tupI (diffs l)), h) := by
  have hc : evE (cn P k h.length) f_differences_c0 [some (.pv (.lst (l.map .int))), none] h = .ok (.pv (.lst ((diffs l).map .int)), h) := by
    unfold diffs
    rw [List.map_map]
    refine comp_ints (l := List.range (l.length - 1)) (mk := fun (n : Nat) => .one (.pv (.int (0 + (n : Int))))) (φ := fun (i : Nat) => l[i + 1]?.getD 0 - l[i]?.getD 0) ?_ (by simp; omega) fun n hn => ?_
    · exact rngI (l.length - 1) (x := (l.length : Int) - 1) (by omega) (by omega) (by dsimp! [len_lstI, subE])
    · have hn : n < l.length - 1 := by simpa using hn
      have e1 : l[n + 1]? = some (l[n + 1]'(by omega)) := List.getElem?_eq_getElem _
      have e2 : l[n]? = some (l[n]'(by omega)) := List.getElem?_eq_getElem _
      have i1 := idx_lstI h e1
      have i2 := idx_lstI h e2
      have en : (n : Int) + 1 = ((n + 1 : Nat) : Int) := by omega
      dsimp! [compF, give, MI.wipe, addE, en, i1, Int.zero_add, i2, subE, e1, e2, Option.getD_some]
  refine run_rt' (F := f_differences) Fi.h rfl rfl ?_
  exact evB_ret (tup_of hc)
end MI

namespace MI
open PySem L2
open Lean.Parser.Tactic in
local macro_rules | `(tactic| dsimp! [$ts,*]) => `(tactic| simp only [evB, evS_for, evE_comp, evT, evEs, evC, evO, evI, evE.eq_1, evE.eq_2, evE.eq_3, evE.eq_4, evE.eq_5, evE.eq_6, evE.eq_7, evE.eq_8, evE.eq_9, evE.eq_10, evE.eq_11, evE.eq_12, evE.eq_13, evE.eq_14, evE.eq_15, evE.eq_16, evE.eq_17, evE.eq_18, evE.eq_19, evE.eq_20, evE.eq_21, evE.eq_22, evE.eq_23, evE.eq_25, evE.eq_26, evE.eq_27, evE.eq_28, evE.eq_29, evE.eq_30, evS.eq_1, evS.eq_2, evS.eq_3, evS.eq_4, evS.eq_5, evS.eq_6, evS.eq_7, evS.eq_8, evS.eq_11, evS.eq_12, evS.eq_13, evS.eq_14, evS.eq_15, cn_C, cn_B, cn_rp, cn_f, cn_nx, cn_sub, cn_fuel, MI.start, List.map_cons, List.map_nil, List.length_cons, List.length_nil, List.replicate, List.cons_append, List.nil_append, List.append_nil, List.singleton_append, List.getElem?_cons_zero, List.getElem?_cons_succ, List.set_cons_zero, List.set_cons_succ, seq1_ok, seqL_ok, okP, Bool.false_eq_true, if_false, if_true, Bool.not_true, Bool.not_false, Nat.reduceSub, MI.close, take_all, $ts,*])
variable {P : Prg} [Bas P]
theorem c_size [Fi P 0 f_is_integer] [Fi P 27 f_is_integer_tuple] [Fi P 28 f_check_array] [Fi P 42 f_size_of] (k B m : Nat) (g : List (List Int)) (h : Sto) (hg : Gr m g) (h1 : 1 ≤ m) (h6 : m ≤ 6) : callI P (k + 4) 42 B [.pv (tupII g)] h = .ok (iv m, h) := by
  have ck := c_chk (P := P) k h.length m g h hg h1 h6
  have e : (g.length : Int) - 1 = m := by have := hg.len; omega
  refine run_rt' (F := f_size_of) Fi.h rfl rfl ?_
  show evB (cn P (k + 3) h.length) f_size_of.body [some (.pv (tupII g))] h = _
  unfold f_size_of
  exact evB_ex (v := .pv .non) (h1 := h) (by dsimp! [ck]) (evB_ret (by dsimp! [len_rows, iv, subE, e]))
/-- the first and the last of every row -/
def firsts (g : List (List Int)) : List Int := g.map fun l => l[0]?.getD 0
def lasts (g : List (List Int)) : List Int := g.map fun l => l[l.length - 1]?.getD 0
def bottom (g : List (List Int)) : List Int := g[g.length - 1]?.getD []
def bords (g : List (List Int)) : PV := .tup [tupI (diffs (firsts g)), tupI (diffs (bottom g)), tupI (diffs (lasts g))]
theorem gr_ne {m : Nat} {g : List (List Int)} (hg : Gr m g) {l : List Int} (hl : l ∈ g) : 1 ≤ l.length := by
  obtain ⟨i, hi⟩ := List.mem_iff_getElem?.mp hl
  have := hg.row i l hi
  omega
theorem c_borders [Fi P 0 f_is_integer] [Fi P 27 f_is_integer_tuple] [Fi P 28 f_check_array] [Fi P 43 f_differences] [Fi P 44 f_borders] (k B m : Nat) (g : List (List Int)) (h : Sto) (hg : Gr m g) (h1 : 1 ≤ m) (h6 : m ≤ 6) : callI P (k + 4) 44 B [.pv (tupII g)] h = .ok (.pv (bords g), h) := by
  have ck := c_chk (P := P) k h.length m g h hg h1 h6
  have hl := hg.len
  obtain ⟨lb, elb, llb⟩ := gr_row hg (r := m) (by omega)
  have eb : g[g.length - 1]? = some lb := by rw [hl]; exact elb
  have bt : bottom g = lb := by simp [bottom, eb]
  have d1 := c_diffL (P := P) (k + 2) h.length (firsts g) h (by simp [firsts]; omega) (by simp [firsts]; omega)
  have d2 := c_diffT (P := P) (k + 2) h.length lb h (by omega) (by omega)
  have d3 := c_diffL (P := P) (k + 2) h.length (lasts g) h (by simp [lasts]; omega) (by simp [lasts]; omega)
  have items : ∀ h, itemsOf (.pv (tupII g)) h = some ((g.map tupI).map MV.pv) := fun _ => rfl
  have hc0 : evE (cn P (k + 3) h.length) f_borders_c0 [some (.pv (tupII g)), none, none, none, none] h = .ok (.pv (.lst ((firsts g).map .int)), h) := by
    unfold firsts
    rw [List.map_map]
    refine comp_ints (l := g) (mk := fun (l : List Int) => .one (.pv (tupI l))) (φ := fun (l : List Int) => l[0]?.getD 0) ?_ (by omega) fun l hl => ?_
    · dsimp! [items, List.map_map]
      rfl
    · have hne := gr_ne hg hl
      have e : l[0]? = some (l[0]'(by omega)) := List.getElem?_eq_getElem _
      have i0 : oIdx (.pv (tupI l)) (.pv (.int 0)) h = .ok (.pv (.int (l[0]'(by omega))), h) := idx_tup (i := 0) h e
      dsimp! [compF, give, MI.wipe, i0, e, Option.getD_some]
  have hc1 : evE (cn P (k + 3) h.length) f_borders_c1 [some (.pv (tupII g)), some (.pv (tupI (diffs (firsts g)))), some (.pv (tupI (diffs (bottom g)))), none, none] h = .ok (.pv (.lst ((lasts g).map .int)), h) := by
    unfold lasts
    rw [List.map_map]
    refine comp_ints (l := g) (mk := fun (l : List Int) => .one (.pv (tupI l))) (φ := fun (l : List Int) => l[l.length - 1]?.getD 0) ?_ (by omega) fun l hl => ?_
    · dsimp! [items, List.map_map]
      rfl
    · have hne := gr_ne hg hl
      have e : l[l.length - 1]? = some (l[l.length - 1]'(by omega)) := List.getElem?_eq_getElem _
      have i0 := idx_last h e
      have en : (-(1 : Int)) = -1 := rfl
      dsimp! [compF, give, MI.wipe, en, i0, iv, e, Option.getD_some]
  refine run_rt' (F := f_borders) Fi.h rfl rfl ?_
  show evB (cn P (k + 3) h.length) f_borders.body [some (.pv (tupII g)), none, none, none, none] h = _
  unfold f_borders
  refine evB_ex (v := .pv .non) (h1 := h) (by dsimp! [ck]) ?_
  refine evB_set (v := .pv (tupI (diffs (firsts g)))) (h1 := h) ?_ ?_
  · generalize hcc : f_borders_c0 = cc at hc0
    dsimp! [hc0, d1]
  dsimp only [List.set_cons_succ, List.set_cons_zero]
  refine evB_set (v := .pv (tupI (diffs (bottom g)))) (h1 := h) ?_ ?_
  · have i1 := idx_rowL h eb
    have en : (-(1 : Int)) = -1 := rfl
    rw [bt]
    dsimp! [en, i1, d2]
  dsimp only [List.set_cons_succ, List.set_cons_zero]
  refine evB_set (v := .pv (tupI (diffs (lasts g)))) (h1 := h) ?_ ?_
  · generalize hcc : f_borders_c1 = cc at hc1
    dsimp! [hc1, d3]
  dsimp only [List.set_cons_succ, List.set_cons_zero]
  exact evB_ret (by dsimp! [pures, size_le (show 3 ≤ 1000 by omega), Nat.reduceAdd]; try rfl)
theorem c_isv [Fi P 0 f_is_integer] [Fi P 27 f_is_integer_tuple] [Fi P 45 f_is_vertex] (k B : Nat) (r n m : Nat) (h : Sto) (h1 : n ≤ r) (h2 : r ≤ m) : callI P (k + 3) 45 B [.pv (tupI [(r : Int), (n : Int)]), iv m] h = .ok (.pv (.bl true), h) := by
  have it := c_itup (P := P) k h.length [(r : Int), (n : Int)] 2 h rfl (by simp)
  refine run_rt' (F := f_is_vertex) Fi.h rfl rfl ?_
  show evB (cn P (k + 2) h.length) f_is_vertex.body [some (.pv (tupI [(r : Int), (n : Int)])), some (iv m), none, none] h = _
  unfold f_is_vertex
  have z0 : (0 : Int) ≤ (n : Int) := by omega
  have z1 : (n : Int) ≤ (r : Int) := by omega
  have z2 : (r : Int) ≤ (m : Int) := by omega
  dsimp only [iv] at it
  refine evB_if0 (h1 := h) (by dsimp! [it, truth]) ?_
  refine evB_nx (e1 := [some (.pv (tupI [(r : Int), (n : Int)])), some (iv m), some (iv r), some (iv n)]) (h1 := h) (by dsimp! [give, tupI, setAll]) ?_
  exact evB_ret (by dsimp! [iv, oCmp, ints2, z0, z1, z2, decide_true])
theorem c_entry [Fi P 0 f_is_integer] [Fi P 27 f_is_integer_tuple] [Fi P 28 f_check_array] [Fi P 45 f_is_vertex] [Fi P 46 f_entry] (k B m : Nat) (g : List (List Int)) (h : Sto) (hg : Gr m g) (h1 : 1 ≤ m) (h6 : m ≤ 6) {r n : Nat} {l : List Int} {a : Int} (el : g[r]? = some l) (ea : l[n]? = some a) :
    callI P (k + 4) 46 B [.pv (tupII g), .pv (tupI [(r : Int), (n : Int)])] h = .ok (iv a, h) := by
  have ck := c_chk (P := P) k h.length m g h hg h1 h6
  have hr := (List.getElem?_eq_some_iff.mp el).1
  have hn := (List.getElem?_eq_some_iff.mp ea).1
  have ll := hg.row r l el
  have hl := hg.len
  have iv' := c_isv (P := P) k h.length r n m h (by omega) (by omega)
  have e : (g.length : Int) - 1 = m := by omega
  have i1 := idx_row h el
  have i2 := idx_tup h ea
  refine run_rt' (F := f_entry) Fi.h rfl rfl ?_
  show evB (cn P (k + 3) h.length) f_entry.body [some (.pv (tupII g)), some (.pv (tupI [(r : Int), (n : Int)])), none, none] h = _
  unfold f_entry
  refine evB_ex (v := .pv .non) (h1 := h) (by dsimp! [ck]) ?_
  dsimp only [iv] at iv'
  refine evB_if0 (h1 := h) (by dsimp! [len_rows, iv, subE, e, iv', truth]) ?_
  refine evB_nx (e1 := [some (.pv (tupII g)), some (.pv (tupI [(r : Int), (n : Int)])), some (iv r), some (iv n)]) (h1 := h) (by dsimp! [give, tupI, setAll]) ?_
  exact evB_ret (by dsimp! [iv, i1, i2])
theorem c_flat [Fi P 0 f_is_integer] [Fi P 27 f_is_integer_tuple] [Fi P 28 f_check_array] [Fi P 43 f_differences] [Fi P 47 f_flat_differences] (k B m : Nat) (g : List (List Int)) (h : Sto) (hg : Gr m g) (h1 : 1 ≤ m) (h6 : m ≤ 6) {r : Nat} {l : List Int} (el : g[r]? = some l) : callI P (k + 4) 47 B [.pv (tupII g), iv r] h = .ok (.pv (tupI (diffs l)), h) := by
  have ck := c_chk (P := P) k h.length m g h hg h1 h6
  have hr := (List.getElem?_eq_some_iff.mp el).1
  have ll := hg.row r l el
  have hl := hg.len
  have i1 := idx_row h el
  have d := c_diffT (P := P) (k + 2) h.length l h (by omega) (by omega)
  have z0 : (0 : Int) ≤ (r : Int) := by omega
  have z1 : (r : Int) < (g.length : Int) := by omega
  refine run_rt' (F := f_flat_differences) Fi.h rfl rfl ?_
  show evB (cn P (k + 3) h.length) f_flat_differences.body [some (.pv (tupII g)), some (iv r)] h = _
  unfold f_flat_differences
  refine evB_ex (v := .pv .non) (h1 := h) (by dsimp! [ck]) ?_
  refine evB_if0 (h1 := h) (by dsimp! [iv, c_int, truth, len_rows, oCmp, ints2, z0, z1, decide_true]) ?_
  exact evB_ret (by dsimp! [iv, i1, d])
/-- a while that ends by its test -/
theorem wloop_ind {t : MI.Env → Sto → R (Bool × Sto)} {f : MI.Env → Sto → RS} (I : Nat → MI.Env → Sto → Prop) (T : Nat) (go : ∀ i e h, i < T → I i e h → t e h = .ok (true, h) ∧ ∃ e' h', f e h = some (.nx e', h') ∧ I (i + 1) e' h') (stop : ∀ e h, I T e h → t e h = .ok (false, h)) :
    ∀ (n i : Nat) (e : MI.Env) (h : Sto) (fuel : Nat), i + n = T → n < fuel → I i e h → ∃ e' h', wloop t f fuel e h = some (.nx e', h') ∧ I T e' h'
  | 0, i, e, h, 0, _, hf, _ => absurd hf (by omega)
  | 0, i, e, h, fuel + 1, hi, _, q => by
    have : i = T := by omega
    subst this
    refine ⟨e, h, ?_, q⟩
    simp only [wloop, stop e h q]
  | n + 1, i, e, h, 0, _, hf, _ => absurd hf (by omega)
  | n + 1, i, e, h, fuel + 1, hi, hf, q => by
    obtain ⟨et, e1, h1, ef, q1⟩ := go i e h (by omega) q
    obtain ⟨e2, h2, ew, q2⟩ := wloop_ind I T go stop n (i + 1) e1 h1 fuel (by omega) (by omega) q1
    refine ⟨e2, h2, ?_, q2⟩
    simp only [wloop, et, ef, ew]
end MI

namespace MI
open PySem L2
open Lean.Parser.Tactic in
local macro_rules | `(tactic| dsimp! [$ts,*]) => `(tactic| simp only [evB, evS_for, evE_comp, evT, evEs, evC, evO, evI, evE.eq_1, evE.eq_2, evE.eq_3, evE.eq_4, evE.eq_5, evE.eq_6, evE.eq_7, evE.eq_8, evE.eq_9, evE.eq_10, evE.eq_11, evE.eq_12, evE.eq_13, evE.eq_14, evE.eq_15, evE.eq_16, evE.eq_17, evE.eq_18, evE.eq_19, evE.eq_20, evE.eq_21, evE.eq_22, evE.eq_23, evE.eq_25, evE.eq_26, evE.eq_27, evE.eq_28, evE.eq_29, evE.eq_30, evS.eq_1, evS.eq_2, evS.eq_3, evS.eq_4, evS.eq_5, evS.eq_6, evS.eq_7, evS.eq_8, evS.eq_11, evS.eq_12, evS.eq_13, evS.eq_14, evS.eq_15, cn_C, cn_B, cn_rp, cn_f, cn_nx, cn_sub, cn_fuel, MI.start, List.map_cons, List.map_nil, List.length_cons, List.length_nil, List.replicate, List.cons_append, List.nil_append, List.append_nil, List.singleton_append, List.getElem?_cons_zero, List.getElem?_cons_succ, List.set_cons_zero, List.set_cons_succ, seq1_ok, seqL_ok, okP, Bool.false_eq_true, if_false, if_true, Bool.not_true, Bool.not_false, Nat.reduceSub, MI.close, take_all, $ts,*])
variable {P : Prg} [Bas P]
theorem evB_whl {c : Cn} {t : IE} {b ss : ISs} {e e1 : MI.Env} {h h1 : Sto} {r : RS} (hw : wloop (fun e h => evT c t e h) (fun e h => evB c b e h) c.fuel e h = some (.nx e1, h1)) (hr : evB c ss e1 h1 = r) : evB c (.cons (.whl t b) ss) e h = r := by
  rw [evB, evS.eq_10, hw]
  exact hr
def steps (val : Nat → Int) (T : Nat) : List Int := (List.range T).map fun i => val (i + 1) - val i
theorem steps_succ (val : Nat → Int) (T : Nat) : steps val (T + 1) = steps val T ++ [val (T + 1) - val T] := by
  simp [steps, List.range_succ]
theorem tup_last (rp : PV → Str) (H : Sto) (l : List Int) : oBlt rp .tuple [.loc H.length] (H ++ [.lst (l.map iv)]) = .ok (.pv (tupI l), H ++ [.lst (l.map iv)]) := by
  simp only [oBlt, seqp, seqv, get_last, pures_iv, okP, tupI]
theorem cmpLe (a b : Int) (h : Sto) : oCmp .le (.pv (.int a)) (.pv (.int b)) h = .ok (.pv (.bl (decide (a ≤ b))), h) := rfl
theorem cmpLt (a b : Int) (h : Sto) : oCmp .lt (.pv (.int a)) (.pv (.int b)) h = .ok (.pv (.bl (decide (a < b))), h) := rfl
theorem c_walk [Fi P 51 f_law_walk] (k B m : Nat) (g : List (List Int)) (h : Sto) (hg : Gr m g) (h6 : m ≤ 6) (d a : Nat) (pr pn : Nat → Nat) (T : Nat) (val : Nat → Int) (hpr : ∀ i, pr (i + 1) = pr i + d) (hpn : ∀ i, pn (i + 1) = pn i + a) (hT : T ≤ 6)
    (hv : ∀ i, i ≤ T → ∃ l, g[pr i]? = some l ∧ l[pn i]? = some (val i)) (hs : m < pr (T + 1) ∨ pr (T + 1) < pn (T + 1)) :
    callI P (k + 1) 51 B [.pv (tupII g), .pv (tupI [(pr 0 : Int), (pn 0 : Int)]), iv d, iv a] h = .ok (.pv (tupI (steps val T)), h) := by
  have hl := hg.len
  have tst : ∀ (i : Nat) (H : Sto), evT (cn P k h.length) (.and (.cmp2 .le .lt (.k (.int 0)) (.bin .add (.var 5) (.var 2)) (.blt .len (.cons (.var 0) .nil))) (.cmp2 .le .le (.k (.int 0)) (.bin .add (.var 6) (.var 3)) (.bin .add (.var 5) (.var 2))))
      [some (.pv (tupII g)), some (.pv (tupI [(pr 0 : Int), (pn 0 : Int)])), some (iv d), some (iv a), some (.loc h.length), some (iv (pr i)), some (iv (pn i))] H = .ok (decide (pr (i + 1) ≤ m) && decide (pn (i + 1) ≤ pr (i + 1)), H) := fun i H => by
    have e1 : (pr i : Int) + (d : Int) = ((pr (i + 1) : Nat) : Int) := by rw [hpr]; omega
    have e2 : (pn i : Int) + (a : Int) = ((pn (i + 1) : Nat) : Int) := by rw [hpn]; omega
    have z1 : decide ((0 : Int) ≤ ((pr (i + 1) : Nat) : Int)) = true := decide_eq_true (by omega)
    have z2 : decide ((0 : Int) ≤ ((pn (i + 1) : Nat) : Int)) = true := decide_eq_true (by omega)
    have z3 : decide (((pr (i + 1) : Nat) : Int) < (g.length : Int)) = decide (pr (i + 1) ≤ m) := decide_eq_decide.mpr (by omega)
    have z4 : decide (((pn (i + 1) : Nat) : Int) ≤ ((pr (i + 1) : Nat) : Int)) = decide (pn (i + 1) ≤ pr (i + 1)) := decide_eq_decide.mpr (by omega)
    dsimp! [iv, addE, e1, e2, cmpLe, cmpLt, len_rows, z1, z2, z3, z4, truth]
    cases decide (pr (i + 1) ≤ m) <;> rfl
  obtain ⟨e', h', q, rfl, rfl⟩ := wloop_ind (t := fun e h' => evT (cn P k h.length) (.and (.cmp2 .le .lt (.k (.int 0)) (.bin .add (.var 5) (.var 2)) (.blt .len (.cons (.var 0) .nil))) (.cmp2 .le .le (.k (.int 0)) (.bin .add (.var 6) (.var 3)) (.bin .add (.var 5) (.var 2)))) e h') (f := fun e h' => evB (cn P k h.length) f_law_walk_b0 e h')
    (fun i e h' => e = ([some (.pv (tupII g)), some (.pv (tupI [(pr 0 : Int), (pn 0 : Int)])), some (iv d), some (iv a), some (.loc h.length), some (iv (pr i)), some (iv (pn i))] : MI.Env) ∧ h' = h ++ [.lst ((steps val i).map iv)]) T (by
      rintro i e h' hi ⟨rfl, rfl⟩
      obtain ⟨l1, el1, ea1⟩ := hv (i + 1) (by omega)
      obtain ⟨l0, el0, ea0⟩ := hv i (by omega)
      have r1 := (List.getElem?_eq_some_iff.mp el1).1
      have n1 := (List.getElem?_eq_some_iff.mp ea1).1
      have ll := hg.row _ _ el1
      refine ⟨?_, [some (.pv (tupII g)), some (.pv (tupI [(pr 0 : Int), (pn 0 : Int)])), some (iv d), some (iv a), some (.loc h.length), some (iv (pr (i + 1))), some (iv (pn (i + 1)))], h ++ [.lst ((steps val (i + 1)).map iv)], ?_, rfl, rfl⟩
      · rw [tst, decide_eq_true (show pr (i + 1) ≤ m by omega), decide_eq_true (show pn (i + 1) ≤ pr (i + 1) by omega)]
        rfl
      · have e1 : (pr i : Int) + (d : Int) = ((pr (i + 1) : Nat) : Int) := by rw [hpr]; omega
        have e2 : (pn i : Int) + (a : Int) = ((pn (i + 1) : Nat) : Int) := by rw [hpn]; omega
        have i1 := idx_row (h ++ [.lst ((steps val i).map iv)]) el1
        have i2 := idx_tup (h ++ [.lst ((steps val i).map iv)]) ea1
        have i3 := idx_row (h ++ [.lst ((steps val i).map iv)]) el0
        have i4 := idx_tup (h ++ [.lst ((steps val i).map iv)]) ea0
        have op := open_mid h [] ((steps val i).map iv)
        have ap := app_mid h.length h [] ((steps val i).map iv) (.int (val (i + 1) - val i)) (by simp [steps]; omega)
        rw [show (steps val i).map iv ++ [.pv (.int (val (i + 1) - val i))] = (steps val (i + 1)).map iv by rw [steps_succ]; simp] at ap
        unfold f_law_walk_b0
        refine evB_ex (v := .pv .non) (h1 := h ++ [.lst ((steps val (i + 1)).map iv)]) ?_ ?_
        · rw [evE.eq_25]
          simp only [evE.eq_1, List.getElem?_cons_succ, List.getElem?_cons_zero, seq1_ok]
          rw [if_pos op]
          have ee : evE (cn P k h.length) (.bin .sub (.idx (.idx (.var 0) (.bin .add (.var 5) (.var 2))) (.bin .add (.var 6) (.var 3))) (.idx (.idx (.var 0) (.var 5)) (.var 6))) [some (.pv (tupII g)), some (.pv (tupI [(pr 0 : Int), (pn 0 : Int)])), some (iv d), some (iv a), some (.loc h.length), some (iv (pr i)), some (iv (pn i))] (h ++ [.lst ((steps val i).map iv)]) = .ok (iv (val (i + 1) - val i), h ++ [.lst ((steps val i).map iv)]) := by
            dsimp! [iv, addE, e1, e2, i1, i2, i3, i4, subE]
          rw [ee, seq1_ok]
          exact ap
        · refine evB_nx (e1 := [some (.pv (tupII g)), some (.pv (tupI [(pr 0 : Int), (pn 0 : Int)])), some (iv d), some (iv a), some (.loc h.length), some (iv (pr (i + 1))), some (iv (pn (i + 1)))]) (h1 := h ++ [.lst ((steps val (i + 1)).map iv)]) ?_ (by simp only [evB])
          dsimp! [iv, addE, e1, e2]) (by
      rintro e h' ⟨rfl, rfl⟩
      rw [tst]
      rcases hs with hs | hs
      · rw [decide_eq_false (show ¬ pr (T + 1) ≤ m by omega)]; try rfl
      · rw [decide_eq_false (show ¬ pn (T + 1) ≤ pr (T + 1) by omega), Bool.and_false]) T 0
    [some (.pv (tupII g)), some (.pv (tupI [(pr 0 : Int), (pn 0 : Int)])), some (iv d), some (iv a), some (.loc h.length), some (iv (pr 0)), some (iv (pn 0))] (h ++ [.lst []]) 100000 (by omega) (by omega) ⟨rfl, rfl⟩
  have body : evB (cn P k h.length) f_law_walk.body [some (.pv (tupII g)), some (.pv (tupI [(pr 0 : Int), (pn 0 : Int)])), some (iv d), some (iv a), none, none, none] h = some (.rt (.pv (tupI (steps val T))), h ++ [.lst ((steps val T).map iv)]) := by
    unfold f_law_walk
    refine evB_set (v := .loc h.length) (h1 := h ++ [.lst []]) (by dsimp! [oLst, size_le (show 0 ≤ 1000 by omega)]) ?_
    dsimp only [List.set_cons_succ, List.set_cons_zero]
    refine evB_nx (e1 := [some (.pv (tupII g)), some (.pv (tupI [(pr 0 : Int), (pn 0 : Int)])), some (iv d), some (iv a), some (.loc h.length), some (iv (pr 0)), some (iv (pn 0))]) (h1 := h ++ [.lst []]) (by dsimp! [give, tupI, setAll]) ?_
    exact evB_whl q (evB_ret (by dsimp! [tup_last]))
  have := run_rt (P := P) (j := 51) (k := k) (B := B) (vs := [.pv (tupII g), .pv (tupI [(pr 0 : Int), (pn 0 : Int)]), iv d, iv a]) (h := h) (F := f_law_walk) Fi.h rfl rfl body
  rw [List.take_left] at this
  exact this
end MI

/-! LibM: comprehensions of several clauses, evaluated -/
namespace MI
open PySem
theorem iterN_app {f : Item → Sto → Option Sto} {d : Nat} {h0 : Sto} {g : Item → List MV} : ∀ (its : List Item), (∀ x ∈ its, ∀ acc : List MV, acc.length + (g x).length ≤ sizeLim → f x (h0.set d (.lst acc)) = some (h0.set d (.lst (acc ++ g x)))) →
    ∀ acc : List MV, acc.length + (its.flatMap g).length ≤ sizeLim → iterN f its (h0.set d (.lst acc)) = some (h0.set d (.lst (acc ++ its.flatMap g)))
  | [], _, acc, _ => by simp [iterN]
  | x :: xs, hf, acc, hz => by
    rw [List.flatMap_cons, List.length_append] at hz
    rw [iterN, hf x List.mem_cons_self acc (by omega)]
    show iterN f xs _ = _
    rw [iterN_app xs (fun y hy => hf y (List.mem_cons_of_mem _ hy)) (acc ++ g x) (by rw [List.length_append]; omega), List.flatMap_cons, List.append_assoc]
theorem evD_el_app {c : Cn} {a : IE} {d : Nat} {e : Env} {h0 : Sto} {acc : List MV} {v : MV} (hd : d < h0.length) (he : evE c a e (h0.set d (.lst acc)) = .ok (v, h0.set d (.lst acc))) (hm : may c.B d v = true) (hz : acc.length < sizeLim) :
    evD c (.el a) d e (h0.set d (.lst acc)) = some (h0.set d (.lst (acc ++ [v]))) := by
  rw [evD_el, he]
  have hg : (h0.set d (MO.lst acc))[d]? = some (.lst acc) := by rw [List.getElem?_set_self hd]
  simp only [oApp, hm, if_true, hg, hz, okP, List.set_set]
theorem frzL_m {d : Nat} : ∀ (ps : List PV) (h : Sto), frzL (frzV d) (ps.map .pv) h = some (ps, h)
  | [], h => rfl
  | p :: ps, h => by
    have e : frzV d (.pv p) h = some (p, h) := by cases d <;> rfl
    rw [List.map_cons, frzL, e]
    show (match frzL (frzV d) (ps.map .pv) h with | some (ps, h2) => some (p :: ps, h2) | none => none) = _
    rw [frzL_m ps h]
theorem oFrz_m {d : Nat} {h0 : Sto} {ps : List PV} (hd : d < h0.length) : oFrz (.loc d) (h0.set d (.lst (ps.map .pv))) = okP (.lst ps) (h0.set d (.lock ps)) := by
  have hg : (h0.set d (MO.lst (ps.map .pv)))[d]? = some (.lst (ps.map .pv)) := by rw [List.getElem?_set_self hd]
  unfold oFrz
  rw [if_neg (by simp [isLock, hg])]
  have e : frzV 4 (.loc d) (h0.set d (.lst (ps.map .pv))) = some (.lst ps, h0.set d (.lock ps)) := by
    rw [frzV]
    simp only [hg, frzL_m, List.set_set]
  rw [e]
/-- the whole comprehension, of pure values -/
theorem lcn_app {c : Cn} {own : List Nat} {tg : TG} {it : IT} {cs : IEs} {r : ICl} {e : Env} {h h1 : Sto} {its : List Item} {new : Bool} {g : Item → List MV} (hi : evI c it e h = .ok (its, h1))
    (hf : ∀ x ∈ its, ∀ acc : List MV, acc.length + (g x).length ≤ sizeLim → compD c tg own cs r h1.length e x ((h1 ++ [MO.lst []]).set h1.length (.lst acc)) = some ((h1 ++ [MO.lst []]).set h1.length (.lst (acc ++ g x)))) (hz : (its.flatMap g).length ≤ sizeLim) :
    evE c (.lcn true own tg it cs r) e h = .ok (.loc h1.length, (h1 ++ [MO.lst []]).set h1.length (.lst (its.flatMap g))) ∧
    (∀ ps, its.flatMap g = ps.map .pv → evE c (.lcn false own tg it cs r) e h = okP (.lst ps) ((h1 ++ [MO.lst []]).set h1.length (.lock ps))) := by
  have h0 : (h1 ++ [MO.lst []]).set h1.length (.lst []) = h1 ++ [MO.lst []] := by simp
  have k := iterN_app its hf [] (by simpa using hz)
  rw [h0, List.nil_append] at k
  constructor
  · rw [evE_lcn, hi]
    simp only [k, if_true]
  · intro ps hp
    rw [evE_lcn, hi]
    simp only [k, Bool.false_eq_true, if_false, hp]
    exact oFrz_m (by simp)
end MI

namespace MI
open PySem L2
open Lean.Parser.Tactic in
local macro_rules | `(tactic| dsimp! [$ts,*]) => `(tactic| simp only [evB, evS_for, evE_comp, evT, evEs, evC, evO, evI, evE.eq_1, evE.eq_2, evE.eq_3, evE.eq_4, evE.eq_5, evE.eq_6, evE.eq_7, evE.eq_8, evE.eq_9, evE.eq_10, evE.eq_11, evE.eq_12, evE.eq_13, evE.eq_14, evE.eq_15, evE.eq_16, evE.eq_17, evE.eq_18, evE.eq_19, evE.eq_20, evE.eq_21, evE.eq_22, evE.eq_23, evE.eq_25, evE.eq_26, evE.eq_27, evE.eq_28, evE.eq_29, evE.eq_30, evS.eq_1, evS.eq_2, evS.eq_3, evS.eq_4, evS.eq_5, evS.eq_6, evS.eq_7, evS.eq_8, evS.eq_11, evS.eq_12, evS.eq_13, evS.eq_14, evS.eq_15, cn_C, cn_B, cn_rp, cn_f, cn_nx, cn_sub, cn_fuel, MI.start, List.map_cons, List.map_nil, List.length_cons, List.length_nil, List.replicate, List.cons_append, List.nil_append, List.append_nil, List.singleton_append, List.getElem?_cons_zero, List.getElem?_cons_succ, List.set_cons_zero, List.set_cons_succ, seq1_ok, seqL_ok, okP, Bool.false_eq_true, if_false, if_true, Bool.not_true, Bool.not_false, Nat.reduceSub, MI.close, take_all, $ts,*])
variable {P : Prg} [Bas P]
/-! ### tuples and lists over a list -/
def tm {α : Type} (l : List α) (φ : α → PV) : PV := .tup (l.map φ)
def lm {α : Type} (l : List α) (φ : α → PV) : PV := .lst (l.map φ)
section
variable {α : Type} {l : List α} {φ ψ : α → PV} {c : Cn} {tg : TG} {own : List Nat} {it : IT} {el : IE} {e e' : MI.Env} {h h1 h2 : Sto} {a b : IE} {k B : Nat}
theorem ev_var (i : Nat) {v : MV} (hv : e[i]? = some (some v)) : evE c (.var i) e h = .ok (v, h) := by rw [evE, hv]
theorem ev_k (v : PV) : evE c (.k v) e h = .ok (.pv v, h) := by rw [evE]; try rfl
theorem ev_glob (x : Str) (v : PV) : evE c (.glob x v) e h = .ok (.pv v, h) := by rw [evE]; try rfl
theorem evB_nil : evB c .nil e h = some (.nx e, h) := by rw [evB]
theorem ev_call {f : Nat} {es : IEs} {ds : List PV} {vs : List MV} {r : RE} (hs : evEs c es e h = .ok (vs, h1)) (hc : c.C f c.B (vs ++ ds.map .pv) h1 = r) : evE c (.call f es ds) e h = r := by
  rw [evE, hs]; exact hc
theorem ev_blt {f : BF} {es : IEs} {vs : List MV} {r : RE} (hs : evEs c es e h = .ok (vs, h1)) (hc : oBlt c.rp f vs h1 = r) : evE c (.blt f es) e h = r := by
  rw [evE, hs]; exact hc
theorem es1 {v : MV} (ha : evE c a e h = .ok (v, h1)) : evEs c (.cons a .nil) e h = .ok ([v], h1) := by
  simp only [evEs, ha, seq1_ok, seqL_ok]
theorem es2 {v w : MV} (ha : evE c a e h = .ok (v, h1)) (hb : evE c b e h1 = .ok (w, h2)) : evEs c (.cons a (.cons b .nil)) e h = .ok ([v, w], h2) := by
  simp only [evEs, ha, hb, seq1_ok, seqL_ok]
theorem ev_bin {o : BO} {x y : MV} {r : RE} (ha : evE c a e h = .ok (x, h1)) (hb : evE c b e h1 = .ok (y, h2)) (hr : oBin o x y h2 = r) : evE c (.bin o a b) e h = r := by
  rw [evE, ha, seq1_ok, hb, seq1_ok, hr]
theorem ev_cmp {o : CO} {x y : MV} {r : RE} (ha : evE c a e h = .ok (x, h1)) (hb : evE c b e h1 = .ok (y, h2)) (hr : oCmp o x y h2 = r) : evE c (.cmp o a b) e h = r := by
  rw [evE, ha, seq1_ok, hb, seq1_ok, hr]
theorem ev_tuple {xs : List PV} (ha : evE c a e h = .ok (.pv (.lst xs), h1)) : evE c (.blt .tuple (.cons a .nil)) e h = .ok (.pv (.tup xs), h1) :=
  ev_blt (es1 ha) (blt_tup _ _ _)
theorem ev_idx {x y : MV} {r : RE} (ha : evE c a e h = .ok (x, h1)) (hb : evE c b e h1 = .ok (y, h2)) (hr : oIdx x y h2 = r) : evE c (.idx a b) e h = r := by
  rw [evE, ha, seq1_ok, hb, seq1_ok, hr]
theorem ev_tup {es : IEs} {ps : List PV} (hs : evEs c es e h = .ok (ps.map .pv, h1)) (hl : ps.length ≤ 1000) : evE c (.tup es) e h = .ok (.pv (.tup ps), h1) := by
  rw [evE, hs, seqL_ok, pures_map]
  simp only [List.length_map, size_le hl, if_true, okP]
theorem ev_lst {es : IEs} {ps : List PV} (hs : evEs c es e h = .ok (ps.map .pv, h1)) (hl : ps.length ≤ 1000) : evE c (.lst es) e h = .ok (.pv (.lst ps), h1) := by
  rw [evE, hs, seqL_ok]
  exact oLst_f _ _ (pures_map ps) (by simpa using hl)
/-- a comprehension without a test -/
theorem comp_pv {mk : α → Item} (hi : evI c it e h = .ok (l.map mk, h1)) (hl : l.length ≤ 1000) (hf : ∀ x ∈ l, compF c tg own .nil el e (mk x) h1 = .ok (some (.pv (φ x)), h1)) : evE c (.comp false tg own it .nil el) e h = .ok (.pv (lm l φ), h1) :=
  (compS hi (turns_one l hf)).trans (oLst_f _ _ (pures_map_of l φ) (by simpa using hl))
theorem it_val {xs : List PV} (ha : evE c a e h = .ok (.pv (.tup xs), h1)) : evI c (.val a) e h = .ok (xs.map fun x => .one (.pv x), h1) := by
  simp only [evI, ha, seq1_ok, itemsOf, List.map_map]; try rfl
theorem it_valL {xs : List PV} (ha : evE c a e h = .ok (.pv (.lst xs), h1)) : evI c (.val a) e h = .ok (xs.map fun x => .one (.pv x), h1) := by
  simp only [evI, ha, seq1_ok, itemsOf, List.map_map]; try rfl
theorem it_tm (ha : evE c a e h = .ok (.pv (tm l φ), h1)) : evI c (.val a) e h = .ok (l.map fun x => .one (.pv (φ x)), h1) := by
  rw [it_val ha, List.map_map]; try rfl
theorem it_lm (ha : evE c a e h = .ok (.pv (lm l φ), h1)) : evI c (.val a) e h = .ok (l.map fun x => .one (.pv (φ x)), h1) := by
  rw [it_valL ha, List.map_map]; try rfl
theorem it_rng {x : Int} (m : Nat) (hx : x = (m : Int)) (hm : m ≤ 1000) (ha : evE c a e h = .ok (iv x, h1)) : evI c (.rng1 a) e h = .ok ((List.range m).map fun (i : Nat) => .one (iv i), h1) := by
  rw [rngI m hx hm ha]
  simp only [rangeI, Int.zero_add]
theorem enum_map (φ : α → PV) : ∀ (n : Nat) (l : List α), enumFrom n ((l.map φ).map .pv) = (l.zipIdx n).map fun x => .many [iv x.2, .pv (φ x.1)]
  | n, [] => rfl
  | n, a :: l => by
    simp only [List.map_cons, enumFrom, enum_map φ (n + 1) l, List.zipIdx_cons]
theorem enum_rng (φ : Nat → PV) (n : Nat) : enumFrom 0 (((List.range n).map φ).map .pv) = (List.range n).map fun (i : Nat) => .many [iv i, .pv (φ i)] := by
  rw [enum_map]
  apply List.ext_getElem?
  intro i
  simp only [List.getElem?_map, List.getElem?_zipIdx]
  by_cases hi : i < n
  · rw [List.getElem?_range hi]; simp
  · rw [List.getElem?_eq_none (by simpa using hi)]; try rfl
theorem it_enumR {φ : Nat → PV} {n : Nat} (ha : evE c a e h = .ok (.pv (tm (List.range n) φ), h1)) : evI c (.enum a) e h = .ok ((List.range n).map fun (i : Nat) => .many [iv i, .pv (φ i)], h1) := by
  simp only [evI, ha, seq1_ok, itemsOf, tm, enum_rng]
theorem zip_map : ∀ (l : List α) (φ ψ : α → PV), zipI ((l.map φ).map .pv) ((l.map ψ).map .pv) = l.map fun x => .many [.pv (φ x), .pv (ψ x)]
  | [], _, _ => rfl
  | a :: l, φ, ψ => by simp only [List.map_cons, zipI, zip_map l φ ψ]
theorem it_zip (ha : evE c a e h = .ok (.pv (tm l φ), h1)) (hb : evE c b e h1 = .ok (.pv (tm l ψ), h2)) : evI c (.zip a b) e h = .ok (l.map fun x => .many [.pv (φ x), .pv (ψ x)], h2) := by
  simp only [evI, ha, hb, seq1_ok, tm, isTupV, if_true, itemsOf, zip_map]
theorem tm_idx {φ : Nat → PV} {n i : Nat} (h : Sto) (hi : i < n) : oIdx (.pv (tm (List.range n) φ)) (iv i) h = .ok (.pv (φ i), h) :=
  idx_tupP h (by rw [List.getElem?_map, List.getElem?_range hi]; try rfl)
theorem tm_idxI {φ : Nat → PV} {n : Nat} {x : Int} (h : Sto) (i : Nat) (hx : x = i) (hi : i < n) : oIdx (.pv (tm (List.range n) φ)) (.pv (.int x)) h = .ok (.pv (φ i), h) := by rw [hx]; exact tm_idx h hi
theorem lm_idxI {φ : Nat → PV} {n : Nat} {x : Int} (h : Sto) (i : Nat) (hx : x = i) (hi : i < n) : oIdx (.pv (lm (List.range n) φ)) (.pv (.int x)) h = .ok (.pv (φ i), h) := by
  rw [hx]
  have e : ((List.range n).map φ)[i]? = some (φ i) := by rw [List.getElem?_map, List.getElem?_range hi]; try rfl
  have hl := (List.getElem?_eq_some_iff.mp e).1
  simp only [oIdx, lm, ixN_nat hl, e, okP]
theorem tm_last {φ : Nat → PV} {n : Nat} (h : Sto) (hn : 1 ≤ n) : oIdx (.pv (tm (List.range n) φ)) (.pv (.int (-1))) h = .ok (.pv (φ (n - 1)), h) := by
  have e : ((List.range n).map φ)[n - 1]? = some (φ (n - 1)) := by rw [List.getElem?_map, List.getElem?_range (by omega)]; try rfl
  simp only [oIdx, tm, List.length_map, List.length_range, ixN_last hn, e, okP]
theorem tm_len (rp : PV → Str) (h : Sto) : oBlt rp .len [.pv (tm l φ)] h = .ok (iv l.length, h) := by simp [oBlt, seqv, tm, okP]
theorem tm_congr (h : ∀ x ∈ l, φ x = ψ x) : tm l φ = tm l ψ := by
  unfold tm; rw [List.map_congr_left h]
theorem tm_rev {φ : Nat → PV} {n : Nat} (h : Sto) : oRev (.pv (tm (List.range n) φ)) h = .ok (.pv (tm (List.range n) fun i => φ (n - 1 - i)), h) := by
  have e : ((List.range n).map φ).reverse = (List.range n).map fun i => φ (n - 1 - i) := by
    apply List.ext_getElem?
    intro i
    by_cases hi : i < n
    · rw [List.getElem?_reverse (by simpa using hi), List.getElem?_map, List.getElem?_map, List.length_map, List.length_range, List.getElem?_range hi, List.getElem?_range (by omega)]; try rfl
    · rw [List.getElem?_eq_none (by simpa using hi), List.getElem?_eq_none (by simpa using hi)]
  simp only [oRev, snap, tm, e, okP]
theorem toInts_mp (f : α → Int) : ∀ l : List α, toInts (l.map fun x => PV.int (f x)) = some (l.map f)
  | [] => rfl
  | a :: l => by simp only [List.map_cons, toInts, toInts_mp f l]
theorem toBools_mp (f : α → Bool) : ∀ l : List α, toBools (l.map fun x => PV.bl (f x)) = some (l.map f)
  | [] => rfl
  | a :: l => by simp only [List.map_cons, toBools, toBools_mp f l]
theorem sum_lm (rp : PV → Str) (f : α → Int) (h : Sto) : oBlt rp .sum [.pv (lm l fun x => .int (f x))] h = .ok (iv (l.map f).sum, h) := by
  simp only [oBlt, lm, seqp, seqv, pures_map, toInts_mp, okP]
theorem all_lm (rp : PV → Str) (f : α → Bool) (h : Sto) : oBlt rp .all [.pv (lm l fun x => .bl (f x))] h = .ok (.pv (.bl (l.all f)), h) := by
  simp only [oBlt, lm, seqpL, seqp, seqv, pures_map, toBools_mp, okP, List.all_map]; try rfl
end
/-! ### equal data -/
mutual
theorem pvEq_refl : ∀ (d : Nat) (x : PV), plain d x = true → pvEq x x = true
  | _, .non, _ => rfl
  | _, .bl _, _ => by simp [pvEq]
  | _, .int _, _ => by simp [pvEq]
  | _, .str _, _ => by simp [pvEq]
  | 0, .tup _, h => by simp [MI.plain] at h
  | d + 1, .tup xs, h => by simp only [pvEq]; exact pvEqs_refl d xs (by simpa [MI.plain] using h)
  | 0, .lst _, h => by simp [MI.plain] at h
  | d + 1, .lst xs, h => by simp only [pvEq]; exact pvEqs_refl d xs (by simpa [MI.plain] using h)
  | _, .dic _ _, h => by simp [MI.plain] at h
  | _, .exc _ _, h => by simp [MI.plain] at h
theorem pvEqs_refl : ∀ (d : Nat) (x : List PV), plains d x = true → pvEqs x x = true
  | _, [], _ => rfl
  | d, x :: xs, h => by
    simp only [MI.plains, Bool.and_eq_true] at h
    simp only [pvEqs, pvEq_refl d x h.1, pvEqs_refl d xs h.2, Bool.and_self]
end
theorem plains_map {α : Type} {d : Nat} {φ : α → PV} : ∀ {l : List α}, (∀ x ∈ l, plain d (φ x) = true) → plains d (l.map φ) = true
  | [], _ => rfl
  | a :: l, h => by
    simp only [List.map_cons, MI.plains, h a List.mem_cons_self, plains_map fun x hx => h x (List.mem_cons_of_mem _ hx), Bool.and_self]
theorem plain_tm {α : Type} {d : Nat} {φ : α → PV} {l : List α} (h : ∀ x ∈ l, plain d (φ x) = true) : plain (d + 1) (tm l φ) = true := by
  simp only [tm, MI.plain, plains_map h]
theorem plain_int (d : Nat) (i : Int) : plain d (.int i) = true := by cases d <;> rfl
theorem eqOf_refl {x : PV} (h : plain 60 x = true) : eqOf x x = some true := by
  cases x <;> simp [eqOf, h, pvEq_refl 60 _ h]
theorem ne_self {x : PV} (h : Sto) (hx : plain 60 x = true) : oCmp .ne (.pv x) (.pv x) h = .ok (.pv (.bl false), h) := by
  simp only [oCmp, snap, eqOf_refl hx, Option.map_some, Bool.not_true, okB, okP]
theorem eq_self {x : PV} (h : Sto) (hx : plain 60 x = true) : oCmp .eq (.pv x) (.pv x) h = .ok (.pv (.bl true), h) := by
  simp only [oCmp, snap, eqOf_refl hx, okB, okP]
/-! ### grids -/
def trow (f : Nat → Nat → Int) (r : Nat) : PV := tm (List.range (r + 1)) fun n => .int (f r n)
def tgrid (m : Nat) (f : Nat → Nat → Int) : PV := tm (List.range (m + 1)) (trow f)
def gmk (m : Nat) (f : Nat → Nat → Int) : List (List Int) := (List.range (m + 1)).map fun r => (List.range (r + 1)).map (f r)
def at2 (g : List (List Int)) (r n : Nat) : Int := (g[r]?.getD [])[n]?.getD 0
theorem tgrid_gmk (m : Nat) (f : Nat → Nat → Int) : tupII (gmk m f) = tgrid m f := by
  simp only [tupII, gmk, tgrid, tm, List.map_map]
  congr 1
  apply List.map_congr_left
  intro r _
  simp only [Function.comp, trow, tm, tupI, List.map_map]
  rfl
theorem gmk_row {m r : Nat} (f : Nat → Nat → Int) (hr : r ≤ m) : (gmk m f)[r]? = some ((List.range (r + 1)).map (f r)) := by
  unfold gmk; rw [List.getElem?_map, List.getElem?_range (by omega)]; try rfl
theorem gr_gmk {m : Nat} {f : Nat → Nat → Int} (h0 : f 0 0 = 0) : Gr m (gmk m f) := by
  refine ⟨by simp [gmk], fun r l e => ?_, ?_⟩
  · by_cases hr : r ≤ m
    · rw [gmk_row f hr] at e; cases e; simp
    · rw [List.getElem?_eq_none (by simp [gmk]; omega)] at e; cases e
  · rw [gmk_row f (Nat.zero_le m)]
    simp [List.range_succ, h0]
theorem gr_at2 {m : Nat} {g : List (List Int)} (hg : Gr m g) : tupII g = tgrid m (at2 g) := by
  rw [← tgrid_gmk]
  congr 1
  apply List.ext_getElem?
  intro r
  by_cases hr : r ≤ m
  · obtain ⟨l, e, hl⟩ := gr_row hg hr
    rw [gmk_row _ hr, e]
    congr 1
    apply List.ext_getElem?
    intro n
    rw [List.getElem?_map]
    by_cases hn : n < r + 1
    · rw [List.getElem?_range hn]
      simp [at2, e, List.getElem?_eq_getElem (show n < l.length by omega)]
    · rw [List.getElem?_eq_none (by omega), List.getElem?_eq_none (by simpa using hn)]; try rfl
  · rw [List.getElem?_eq_none (by have := hg.len; omega), List.getElem?_eq_none (by simp [gmk]; omega)]
theorem gr_at00 {m : Nat} {g : List (List Int)} (hg : Gr m g) : at2 g 0 0 = 0 := by
  simp [at2, hg.top]
theorem grb_at2 {b : Int} {g : List (List Int)} (hb : GrB b g) (h0 : 0 ≤ b) (r n : Nat) : -b ≤ at2 g r n ∧ at2 g r n ≤ b := by
  unfold at2
  cases e : g[r]? with
  | none => simp; omega
  | some l =>
    rw [Option.getD_some]
    cases e2 : l[n]? with
    | none => simp; omega
    | some a => exact hb l (List.mem_of_getElem? e) a (List.mem_of_getElem? e2)
theorem tgrid_congr {m : Nat} {f g : Nat → Nat → Int} (h : ∀ r n, n ≤ r → r ≤ m → f r n = g r n) : tgrid m f = tgrid m g :=
  tm_congr fun r hr => tm_congr fun n hn => by
    have hr : r < m + 1 := by simpa using hr
    have hn : n < r + 1 := by simpa using hn
    rw [h r n (by omega) (by omega)]
theorem plain_grid (d m : Nat) (f : Nat → Nat → Int) : plain (d + 2) (tgrid m f) = true :=
  plain_tm fun r _ => plain_tm fun n _ => plain_int _ _
theorem g_idx {m r : Nat} {f : Nat → Nat → Int} {x : Int} (h : Sto) (hx : x = (r : Int)) (hr : r ≤ m) : oIdx (.pv (tgrid m f)) (.pv (.int x)) h = .ok (.pv (trow f r), h) := tm_idxI h r hx (by omega)
theorem r_idx {r n : Nat} {f : Nat → Nat → Int} {x : Int} (h : Sto) (hx : x = (n : Int)) (hn : n ≤ r) : oIdx (.pv (trow f r)) (.pv (.int x)) h = .ok (iv (f r n), h) := tm_idxI h n hx (by omega)
theorem g_chk [Fi P 0 f_is_integer] [Fi P 27 f_is_integer_tuple] [Fi P 28 f_check_array] (k B m : Nat) (f : Nat → Nat → Int) (h : Sto) (h0 : f 0 0 = 0) (h1 : 1 ≤ m) (h6 : m ≤ 6) : callI P (k + 3) 28 B [.pv (tgrid m f)] h = .ok (.pv .non, h) := by
  rw [← tgrid_gmk]; exact c_chk k B m _ h (gr_gmk h0) h1 h6
theorem g_len (rp : PV → Str) (m : Nat) (f : Nat → Nat → Int) (h : Sto) : oBlt rp .len [.pv (tgrid m f)] h = .ok (iv ((m : Int) + 1), h) := by
  rw [tgrid, tm_len]; simp [iv]
end MI

namespace MI
open PySem L2
open Lean.Parser.Tactic in
local macro_rules | `(tactic| dsimp! [$ts,*]) => `(tactic| simp only [evB, evS_for, evE_comp, evT, evEs, evC, evO, evI, evE.eq_1, evE.eq_2, evE.eq_3, evE.eq_4, evE.eq_5, evE.eq_6, evE.eq_7, evE.eq_8, evE.eq_9, evE.eq_10, evE.eq_11, evE.eq_12, evE.eq_13, evE.eq_14, evE.eq_15, evE.eq_16, evE.eq_17, evE.eq_18, evE.eq_19, evE.eq_20, evE.eq_21, evE.eq_22, evE.eq_23, evE.eq_25, evE.eq_26, evE.eq_27, evE.eq_28, evE.eq_29, evE.eq_30, evS.eq_1, evS.eq_2, evS.eq_3, evS.eq_4, evS.eq_5, evS.eq_6, evS.eq_7, evS.eq_8, evS.eq_11, evS.eq_12, evS.eq_13, evS.eq_14, evS.eq_15, cn_C, cn_B, cn_rp, cn_f, cn_nx, cn_sub, cn_fuel, MI.start, List.map_cons, List.map_nil, List.length_cons, List.length_nil, List.replicate, List.cons_append, List.nil_append, List.append_nil, List.singleton_append, List.getElem?_cons_zero, List.getElem?_cons_succ, List.set_cons_zero, List.set_cons_succ, seq1_ok, seqL_ok, okP, Bool.false_eq_true, if_false, if_true, Bool.not_true, Bool.not_false, Nat.reduceSub, MI.close, take_all, $ts,*])
variable {P : Prg} [Bas P]
section
variable {c : Cn} {e e1 : MI.Env} {h h1 h2 h3 h4 : Sto} {a b d f : IE} {o o2 o3 : CO} {t : Bool}
theorem T_not (ha : evT c a e h = .ok (t, h1)) : evT c (.not a) e h = .ok (!t, h1) := by rw [evT, ha]
theorem T_not0 (ha : evT c a e h = .ok (true, h1)) : evT c (.not a) e h = .ok (false, h1) := by rw [evT, ha]; try rfl
theorem T_not1 (ha : evT c a e h = .ok (false, h1)) : evT c (.not a) e h = .ok (true, h1) := by rw [evT, ha]; try rfl
theorem T_or0 {r : R (Bool × Sto)} (ha : evT c a e h = .ok (false, h1)) (hb : evT c b e h1 = r) : evT c (.or a b) e h = r := by rw [evT, ha]; exact hb
theorem T_or1 (ha : evT c a e h = .ok (true, h1)) : evT c (.or a b) e h = .ok (true, h1) := by rw [evT, ha]
theorem T_and1 {r : R (Bool × Sto)} (ha : evT c a e h = .ok (true, h1)) (hb : evT c b e h1 = r) : evT c (.and a b) e h = r := by rw [evT, ha]; exact hb
theorem T_and0 (ha : evT c a e h = .ok (false, h1)) : evT c (.and a b) e h = .ok (false, h1) := by rw [evT, ha]
theorem T_cmp (ha : evE c (.cmp o a b) e h = .ok (.pv (.bl t), h1)) : evT c (.cmp o a b) e h = .ok (t, h1) := by
  rw [evE] at ha; rw [evT, ha]; try rfl
theorem T_cmp2 (ha : evE c (.cmp2 o o2 a b d) e h = .ok (.pv (.bl t), h1)) : evT c (.cmp2 o o2 a b d) e h = .ok (t, h1) := by
  rw [evE] at ha; rw [evT, ha]; try rfl
theorem T_call {j : Nat} {es : IEs} {ds : List PV} (ha : evE c (.call j es ds) e h = .ok (.pv (.bl t), h1)) : evT c (.call j es ds) e h = .ok (t, h1) := by
  rw [evE] at ha; rw [evT, ha]; try rfl
theorem T_isI {y : TyN} (ha : evE c (.isI y a) e h = .ok (.pv (.bl t), h1)) : evT c (.isI y a) e h = .ok (t, h1) := by
  rw [evE] at ha; rw [evT, ha]; try rfl
theorem ev_cmp3 {x y z w : MV} {t1 t2 t3 : Bool} (ha : evE c a e h = .ok (x, h1)) (hb : evE c b e h1 = .ok (y, h2)) (hd : evE c d e h2 = .ok (z, h3)) (hf : evE c f e h3 = .ok (w, h3)) (q1 : oCmp o x y h2 = .ok (.pv (.bl t1), h2)) (q2 : oCmp o2 y z h3 = .ok (.pv (.bl t2), h3)) (q3 : oCmp o3 z w h3 = .ok (.pv (.bl t3), h3)) (s : h2 = h3) :
    evE c (.cmp3 o o2 o3 a b d f) e h = .ok (.pv (.bl (t1 && (t2 && t3))), h3) := by
  subst s
  rw [evE, ha, seq1_ok, hb, seq1_ok, q1, seq1_ok]
  cases t1
  · rfl
  · dsimp only
    rw [hd, seq1_ok, q2, seq1_ok]
    cases t2
    · rfl
    · dsimp only
      rw [hf, seq1_ok, q3]
      rfl
theorem ev_cmp2 {x y z : MV} {t1 t2 : Bool} (ha : evE c a e h = .ok (x, h1)) (hb : evE c b e h1 = .ok (y, h2)) (hd : evE c d e h2 = .ok (z, h2)) (q1 : oCmp o x y h2 = .ok (.pv (.bl t1), h2)) (q2 : oCmp o2 y z h2 = .ok (.pv (.bl t2), h2)) :
    evE c (.cmp2 o o2 a b d) e h = .ok (.pv (.bl (t1 && t2)), h2) := by
  rw [evE, ha, seq1_ok, hb, seq1_ok, q1, seq1_ok]
  cases t1
  · rfl
  · dsimp only
    rw [hd, seq1_ok, q2]
    rfl
theorem leI (x y : Int) (h : Sto) : oCmp .le (iv x) (iv y) h = .ok (.pv (.bl (decide (x ≤ y))), h) := rfl
theorem ltI (x y : Int) (h : Sto) : oCmp .lt (iv x) (iv y) h = .ok (.pv (.bl (decide (x < y))), h) := rfl
theorem gtI (x y : Int) (h : Sto) : oCmp .gt (iv x) (iv y) h = .ok (.pv (.bl (decide (y < x))), h) := rfl
theorem geI (x y : Int) (h : Sto) : oCmp .ge (iv x) (iv y) h = .ok (.pv (.bl (decide (y ≤ x))), h) := rfl
theorem eqS (x y : Str) (h : Sto) : oCmp .eq (.pv (.str x)) (.pv (.str y)) h = .ok (.pv (.bl (x == y)), h) := by simp only [oCmp, snap, eqOf, okB, okP]
theorem eqI (x y : Int) (h : Sto) : oCmp .eq (iv x) (iv y) h = .ok (.pv (.bl (x == y)), h) := eqE x y h
theorem neI (x y : Int) (h : Sto) : oCmp .ne (iv x) (iv y) h = .ok (.pv (.bl (!(x == y))), h) := ne_intE x y h
end
/-! ### rhombuses -/
inductive Dir where | flat | left | right
  deriving DecidableEq
def Dir.s : Dir → Str
  | .flat => "flat" | .left => "left" | .right => "right"
abbrev Rho := Dir × Nat × Nat
def rhoP (x : Rho) : PV := .tup [.str x.1.s, .int x.2.1, .int x.2.2]
def isRho (m : Nat) : Rho → Bool
  | (.flat, r, n) => decide (n ≤ r) && decide (r + 2 ≤ m)
  | (.left, r, n) => decide (1 ≤ n) && (decide (n ≤ r) && decide (r + 1 ≤ m))
  | (.right, r, n) => decide (n < r) && decide (r + 1 ≤ m)
def rhoEnds : Rho → (Nat × Nat) × (Nat × Nat)
  | (.flat, r, n) => ((r + 1, n), (r + 1, n + 1))
  | (.left, r, n) => ((r, n), (r + 1, n))
  | (.right, r, n) => ((r, n), (r + 1, n + 1))
def rhoTips : Rho → (Nat × Nat) × (Nat × Nat)
  | (.flat, r, n) => ((r, n), (r + 2, n + 1))
  | (.left, r, n) => ((r, n - 1), (r + 1, n + 1))
  | (.right, r, n) => ((r, n + 1), (r + 1, n))
def vP (v : Nat × Nat) : PV := tupI [(v.1 : Int), (v.2 : Int)]
def vvP (v : (Nat × Nat) × (Nat × Nat)) : PV := .tup [vP v.1, vP v.2]
def slk (f : Nat → Nat → Int) (x : Rho) : Int := f (rhoEnds x).1.1 (rhoEnds x).1.2 + f (rhoEnds x).2.1 (rhoEnds x).2.2 - (f (rhoTips x).1.1 (rhoTips x).1.2 + f (rhoTips x).2.1 (rhoTips x).2.2)
theorem c_isrho [Fi P 0 f_is_integer] [Fi P 58 f_is_rhombus] (k B m : Nat) (x : Rho) (h : Sto) : callI P (k + 2) 58 B [.pv (rhoP x), iv m] h = .ok (.pv (.bl (isRho m x)), h) := by
  obtain ⟨d, r, n⟩ := x
  refine run_rt' (F := f_is_rhombus) Fi.h rfl rfl ?_
  show evB (cn P (k + 1) h.length) f_is_rhombus.body [some (.pv (rhoP (d, r, n))), some (iv m), none, none, none] h = _
  have isT : ∀ h, isTy .tuple (.pv (rhoP (d, r, n))) h = .ok (.pv (.bl true), h) := fun _ => rfl
  have isS : ∀ h, isTy .str (.pv (.str d.s)) h = .ok (.pv (.bl true), h) := fun _ => rfl
  have len : ∀ h, oBlt rpOf .len [.pv (rhoP (d, r, n))] h = .ok (.pv (.int 3), h) := fun _ => rfl
  unfold f_is_rhombus
  refine evB_if0 (h1 := h) (by dsimp! [isT, len, truth, ne_intE]; try rfl) ?_
  refine evB_nx (e1 := [some (.pv (rhoP (d, r, n))), some (iv m), some (.pv (.str d.s)), some (iv r), some (iv n)]) (h1 := h) (by dsimp! [give, rhoP, setAll]) ?_
  refine evB_if0 (h1 := h) (by dsimp! [isS, c_int, truth]) ?_
  have sub : ∀ j : Int, evE (cn P (k + 1) h.length) (.bin .sub (.var 1) (.k (.int j))) [some (.pv (rhoP (d, r, n))), some (iv m), some (.pv (.str d.s)), some (iv r), some (iv n)] h = .ok (iv ((m : Int) - j), h) := fun j => by dsimp! [iv, subE]
  have v4 : evE (cn P (k + 1) h.length) (.var 4) [some (.pv (rhoP (d, r, n))), some (iv m), some (.pv (.str d.s)), some (iv r), some (iv n)] h = .ok (iv n, h) := ev_var 4 rfl
  have v3 : evE (cn P (k + 1) h.length) (.var 3) [some (.pv (rhoP (d, r, n))), some (iv m), some (.pv (.str d.s)), some (iv r), some (iv n)] h = .ok (iv r, h) := ev_var 3 rfl
  have kk : ∀ j : Int, evE (cn P (k + 1) h.length) (.k (.int j)) [some (.pv (rhoP (d, r, n))), some (iv m), some (.pv (.str d.s)), some (iv r), some (iv n)] h = .ok (iv j, h) := fun j => by dsimp! [iv]
  have v2 : ∀ s : Str, evT (cn P (k + 1) h.length) (.cmp .eq (.var 2) (.k (.str s))) [some (.pv (rhoP (d, r, n))), some (iv m), some (.pv (.str d.s)), some (iv r), some (iv n)] h = .ok (d.s == s, h) := fun s => T_cmp (ev_cmp (ev_var 2 rfl) (show evE _ _ _ _ = .ok (.pv (.str s), h) by dsimp! [iv]) (eqS _ _ _))
  cases d
  · refine (evB_ift (h1 := h) (v2 "flat") ?_)
    rw [evB_ret (ev_cmp3 (h2 := h) (kk 0) v4 v3 (sub 2) (leI _ _ _) (leI _ _ _) (leI _ _ _) rfl)]
    simp only [isRho]
    congr 5
    rw [Bool.eq_iff_iff]; simp; omega
  · refine evB_if0 (h1 := h) (v2 "flat") (evB_ift (h1 := h) (v2 "left") ?_)
    rw [evB_ret (ev_cmp3 (h2 := h) (kk 1) v4 v3 (sub 1) (leI _ _ _) (leI _ _ _) (leI _ _ _) rfl)]
    simp only [isRho]
    congr 5
    rw [Bool.eq_iff_iff]; simp; omega
  · refine evB_if0 (h1 := h) (v2 "flat") (evB_if0 (h1 := h) (v2 "left") (evB_ift (h1 := h) (v2 "right") ?_))
    rw [evB_ret (ev_cmp3 (h2 := h) (kk 0) v4 v3 (sub 1) (leI _ _ _) (ltI _ _ _) (leI _ _ _) rfl)]
    simp only [isRho]
    congr 5
    rw [Bool.eq_iff_iff]; simp; omega
/-! ### comprehensions of several clauses -/
theorem iterN_map {α : Type} {f : Item → Sto → Option Sto} {d : Nat} {h0 : Sto} {mk : α → Item} {G : α → List PV} : ∀ (l : List α), (∀ x ∈ l, ∀ acc : List PV, acc.length + (G x).length ≤ sizeLim → f (mk x) (h0.set d (.lst (acc.map .pv))) = some (h0.set d (.lst ((acc ++ G x).map .pv)))) →
    ∀ acc : List PV, acc.length + (l.flatMap G).length ≤ sizeLim → iterN f (l.map mk) (h0.set d (.lst (acc.map .pv))) = some (h0.set d (.lst ((acc ++ l.flatMap G).map .pv)))
  | [], _, acc, _ => by simp [iterN]
  | x :: xs, hf, acc, hz => by
    rw [List.flatMap_cons, List.length_append] at hz
    rw [List.map_cons, iterN, hf x List.mem_cons_self acc (by omega)]
    show iterN f (xs.map mk) _ = _
    rw [iterN_map xs (fun y hy => hf y (List.mem_cons_of_mem _ hy)) (acc ++ G x) (by rw [List.length_append]; omega), List.flatMap_cons, List.append_assoc]
theorem evD_el1 {c : Cn} {a : IE} {d : Nat} {e : MI.Env} {h0 : Sto} {acc : List PV} {v : PV} (hd : d < h0.length) (he : evE c a e (h0.set d (.lst (acc.map .pv))) = .ok (.pv v, h0.set d (.lst (acc.map .pv)))) (hz : acc.length < sizeLim) :
    evD c (.el a) d e (h0.set d (.lst (acc.map .pv))) = some (h0.set d (.lst ((acc ++ [v]).map .pv))) := by
  rw [evD_el_app hd he rfl (by simpa using hz)]
  simp
theorem lcn_pv {α : Type} {c : Cn} {own : List Nat} {tg : TG} {it : IT} {cs : IEs} {r : ICl} {e : MI.Env} {h h1 : Sto} {l : List α} {mk : α → Item} {G : α → List PV} (hi : evI c it e h = .ok (l.map mk, h1))
    (hf : ∀ x ∈ l, ∀ acc : List PV, acc.length + (G x).length ≤ sizeLim → compD c tg own cs r h1.length e (mk x) ((h1 ++ [MO.lst []]).set h1.length (.lst (acc.map .pv))) = some ((h1 ++ [MO.lst []]).set h1.length (.lst ((acc ++ G x).map .pv)))) (hz : (l.flatMap G).length ≤ sizeLim) :
    evE c (.lcn false own tg it cs r) e h = okP (.lst (l.flatMap G)) (h1 ++ [.lock (l.flatMap G)]) := by
  have h0 : (h1 ++ [MO.lst []]).set h1.length (.lst (([] : List PV).map .pv)) = h1 ++ [MO.lst []] := by simp
  have k := iterN_map l hf [] (by simpa using hz)
  rw [h0, List.nil_append] at k
  rw [evE_lcn, hi]
  simp only [k, Bool.false_eq_true, if_false]
  rw [oFrz_m (by simp)]
  simp
theorem flat_len {α β : Type} (n : Nat) : ∀ (l : List α) (G : α → List β), (∀ x ∈ l, (G x).length ≤ n) → (l.flatMap G).length ≤ l.length * n
  | [], _, _ => by simp
  | a :: l, G, h => by
    rw [List.flatMap_cons, List.length_append, List.length_cons, Nat.succ_mul]
    have := h a List.mem_cons_self
    have := flat_len n l G fun x hx => h x (List.mem_cons_of_mem _ hx)
    omega
def rhoN (m : Nat) (d : Dir) (r n : Nat) : List Rho := if isRho m (d, r, n) = true then [(d, r, n)] else []
def rhoR (m : Nat) (d : Dir) (r : Nat) : List Rho := (List.range (r + 1)).flatMap (rhoN m d r)
def rhoD (m : Nat) (d : Dir) : List Rho := (List.range m).flatMap (rhoR m d)
def rhos (m : Nat) : List Rho := [Dir.flat, Dir.left, Dir.right].flatMap (rhoD m)
theorem rhoN_len (m : Nat) (d : Dir) (r n : Nat) : (rhoN m d r n).length ≤ 1 := by unfold rhoN; split <;> simp
theorem rhoR_len (m : Nat) (d : Dir) (r : Nat) : (rhoR m d r).length ≤ r + 1 := by
  have := flat_len 1 (List.range (r + 1)) (rhoN m d r) fun n _ => rhoN_len m d r n
  rw [List.length_range] at this
  unfold rhoR
  omega
theorem rhoD_len {m : Nat} (h6 : m ≤ 6) (d : Dir) : (rhoD m d).length ≤ 42 := by
  have := flat_len 7 (List.range m) (rhoR m d) fun r hr => by
    have hr : r < m := by simpa using hr
    have := rhoR_len m d r
    omega
  have e : (List.range m).length * 7 ≤ 42 := by simp; omega
  unfold rhoD
  omega
theorem rhos_len {m : Nat} (h6 : m ≤ 6) : (rhos m).length ≤ 126 := by
  have := flat_len 42 [Dir.flat, Dir.left, Dir.right] (rhoD m) fun d _ => rhoD_len h6 d
  exact this
theorem mem_rhos {m : Nat} {x : Rho} (h : x ∈ rhos m) : isRho m x = true := by
  simp only [rhos, rhoD, rhoR, rhoN, List.mem_flatMap] at h
  obtain ⟨d, _, r, _, n, _, h⟩ := h
  split at h
  · rw [List.mem_singleton] at h; rw [h]; assumption
  · cases h
theorem map_flatMap' {α β γ : Type} (f : β → γ) (G : α → List β) : ∀ l : List α, (l.flatMap G).map f = l.flatMap fun x => (G x).map f
  | [] => rfl
  | a :: l => by rw [List.flatMap_cons, List.map_append, map_flatMap' f G l, List.flatMap_cons]
theorem c_rhos [Fi P 0 f_is_integer] [Fi P 57 f_check_size] [Fi P 58 f_is_rhombus] [Fi P 59 f_rhombuses] (k B m : Nat) (h : Sto) (h1 : 1 ≤ m) (h6 : m ≤ 6) : callI P (k + 3) 59 B [iv m] h = .ok (.pv (tm (rhos m) rhoP), h) := by
  have l1 : (1 : Int) ≤ (m : Int) := by omega
  have l2 : (m : Int) ≤ 6 := by omega
  have cs : callI P (k + 2) 57 h.length [iv m] h = .ok (.pv .non, h) := by
    refine run_nx' (F := f_check_size) (e := [some (iv m)]) Fi.h rfl rfl ?_
    show evB (cn P (k + 1) h.length) f_check_size.body [some (iv m)] h = _
    unfold f_check_size
    refine evB_if0 (h1 := h) (by dsimp! [iv, c_int, truth, oCmp, ints2, l1, l2, decide_true]) (by simp only [evB])
  have hc : evE (cn P (k + 2) h.length) f_rhombuses_c0 [some (iv m), none, none, none] h = okP (.lst ((rhos m).map rhoP)) (h ++ [.lock ((rhos m).map rhoP)]) := by
    have ee : (rhos m).map rhoP = [Dir.flat, Dir.left, Dir.right].flatMap fun d => (rhoD m d).map rhoP := map_flatMap' _ _ _
    rw [ee]
    refine lcn_pv (mk := fun d => .one (.pv (.str d.s))) (it_val (xs := [.str Dir.flat.s, .str Dir.left.s, .str Dir.right.s]) (by dsimp! [Dir.s])) (fun d _ acc hz => ?_) ?_
    · unfold compD
      dsimp only [give, MI.wipe, List.set_cons_succ, List.set_cons_zero]
      rw [evC]
      dsimp only
      rw [evD_cons, it_rng m rfl (by omega) (ev_var 0 rfl)]
      dsimp only
      have ee : (rhoD m d).map rhoP = (List.range m).flatMap fun r => (rhoR m d r).map rhoP := map_flatMap' _ _ _
      rw [ee] at hz ⊢
      refine iterN_map (List.range m) (fun r hr acc hz => ?_) acc hz
      have hr : r < m := by simpa using hr
      unfold compD
      dsimp only [give, MI.wipe, List.set_cons_succ, List.set_cons_zero, dvs, List.append_nil, List.singleton_append, List.cons_append, List.nil_append]
      rw [evC]
      dsimp only
      rw [evD_cons, it_rng (x := (r : Int) + 1) (r + 1) (by omega) (by omega) (by dsimp! [iv, addE]; try rfl)]
      dsimp only
      have ee : (rhoR m d r).map rhoP = (List.range (r + 1)).flatMap fun n => (rhoN m d r n).map rhoP := map_flatMap' _ _ _
      rw [ee] at hz ⊢
      refine iterN_map (List.range (r + 1)) (fun n hn acc hz => ?_) acc hz
      unfold compD
      dsimp only [give, MI.wipe, List.set_cons_succ, List.set_cons_zero, dvs, List.append_nil, List.singleton_append, List.cons_append, List.nil_append]
      have tup : ∀ H, evE (cn P (k + 2) h.length) (.tup (.cons (.var 1) (.cons (.var 2) (.cons (.var 3) .nil)))) [some (iv m), some (.pv (.str d.s)), some (iv r), some (iv n)] H = .ok (.pv (rhoP (d, r, n)), H) := fun H => by
        dsimp! [iv, pures, size_le (show 3 ≤ 1000 by omega), Nat.reduceAdd, rhoP]
      have ht : ∀ H, evC (cn P (k + 2) h.length) (.cons (.call 58 (.cons (.tup (.cons (.var 1) (.cons (.var 2) (.cons (.var 3) .nil)))) (.cons (.var 0) .nil)) []) .nil) [some (iv m), some (.pv (.str d.s)), some (iv r), some (iv n)] H = .ok (isRho m (d, r, n), H) := fun H => by
        rw [evC]
        exact T_call (ev_call (es2 (tup H) (ev_var 0 rfl)) (c_isrho k h.length m (d, r, n) H))
      rw [ht]
      have hz2 := hz
      unfold rhoN at hz2 ⊢
      cases hh : isRho m (d, r, n) with
      | true =>
        rw [hh] at hz2
        simp only [if_true, List.map_cons, List.map_nil, List.length_cons, List.length_nil, Nat.zero_add] at hz2 ⊢
        exact evD_el1 (by simp) (tup _) (by omega)
      | false => simp
    · have e2 := ee
      have := rhos_len h6
      rw [← ee, List.length_map]
      exact size_le (by omega)
  have := run_rt (B := B) (vs := [iv m]) (F := f_rhombuses) (P := P) (k := k + 2) (j := 59) (h := h) (h1 := h ++ [.lock ((rhos m).map rhoP)]) (v := tm (rhos m) rhoP) Fi.h rfl rfl (by
    show evB (cn P (k + 2) h.length) f_rhombuses.body [some (iv m), none, none, none] h = _
    unfold f_rhombuses
    exact evB_ex (ev_call (es1 (ev_var 0 rfl)) cs) (evB_ret (ev_tuple hc)))
  rw [this, List.take_append_of_le_length (Nat.le_refl _), List.take_length]
end MI

namespace MI
open PySem L2
open Lean.Parser.Tactic in
local macro_rules | `(tactic| dsimp! [$ts,*]) => `(tactic| simp only [evB, evS_for, evE_comp, evT, evEs, evC, evO, evI, evE.eq_1, evE.eq_2, evE.eq_3, evE.eq_4, evE.eq_5, evE.eq_6, evE.eq_7, evE.eq_8, evE.eq_9, evE.eq_10, evE.eq_11, evE.eq_12, evE.eq_13, evE.eq_14, evE.eq_15, evE.eq_16, evE.eq_17, evE.eq_18, evE.eq_19, evE.eq_20, evE.eq_21, evE.eq_22, evE.eq_23, evE.eq_25, evE.eq_26, evE.eq_27, evE.eq_28, evE.eq_29, evE.eq_30, evS.eq_1, evS.eq_2, evS.eq_3, evS.eq_4, evS.eq_5, evS.eq_6, evS.eq_7, evS.eq_8, evS.eq_11, evS.eq_12, evS.eq_13, evS.eq_14, evS.eq_15, cn_C, cn_B, cn_rp, cn_f, cn_nx, cn_sub, cn_fuel, MI.start, List.map_cons, List.map_nil, List.length_cons, List.length_nil, List.replicate, List.cons_append, List.nil_append, List.append_nil, List.singleton_append, List.getElem?_cons_zero, List.getElem?_cons_succ, List.set_cons_zero, List.set_cons_succ, seq1_ok, seqL_ok, okP, Bool.false_eq_true, if_false, if_true, Bool.not_true, Bool.not_false, Nat.reduceSub, MI.close, take_all, $ts,*])
variable {P : Prg} [Bas P]
theorem isRho_up {m : Nat} (h6 : m ≤ 6) {x : Rho} (hx : isRho m x = true) : isRho 6 x = true := by
  obtain ⟨d, r, n⟩ := x
  cases d <;> simp [isRho] at hx ⊢ <;> omega
theorem c_verts [Fi P 0 f_is_integer] [Fi P 58 f_is_rhombus] [Fi P 60 f_rhombus_vertices] (k B : Nat) (x : Rho) (h : Sto) (hx : isRho 6 x = true) : callI P (k + 3) 60 B [.pv (rhoP x)] h = .ok (.pv (.tup [vvP (rhoEnds x), vvP (rhoTips x)]), h) := by
  have ir := c_isrho (P := P) k h.length 6 x h
  rw [hx] at ir
  obtain ⟨d, r, n⟩ := x
  refine run_rt' (F := f_rhombus_vertices) Fi.h rfl rfl ?_
  show evB (cn P (k + 2) h.length) f_rhombus_vertices.body [some (.pv (rhoP (d, r, n))), none, none, none] h = _
  unfold f_rhombus_vertices
  refine evB_if0 (h1 := h) (T_not0 (T_call (ev_call (es2 (ev_var 0 rfl) (ev_glob _ _)) ir))) ?_
  refine evB_nx (e1 := [some (.pv (rhoP (d, r, n))), some (.pv (.str d.s)), some (iv r), some (iv n)]) (h1 := h) (by dsimp! [give, rhoP, setAll]) ?_
  have v2 : ∀ s : Str, evT (cn P (k + 2) h.length) (.cmp .eq (.var 1) (.k (.str s))) [some (.pv (rhoP (d, r, n))), some (.pv (.str d.s)), some (iv r), some (iv n)] h = .ok (d.s == s, h) := fun s => T_cmp (ev_cmp (ev_var 1 rfl) (show evE _ _ _ _ = .ok (.pv (.str s), h) by dsimp! [iv]) (eqS _ _ _))
  have c1 : ∀ j : Nat, (j : Int) + 1 = ((j + 1 : Nat) : Int) := fun j => by omega
  have c2 : ∀ j : Nat, (j : Int) + 2 = ((j + 2 : Nat) : Int) := fun j => by omega
  cases d
  · refine (evB_ift (h1 := h) (v2 "flat") ?_)
    rw [evB_ret (h1 := h) (v := .pv (.tup [vvP (rhoEnds (.flat, r, n)), vvP (rhoTips (.flat, r, n))])) (by
      dsimp! [iv, pures, addE, size_le (show 2 ≤ 1000 by omega), Nat.reduceAdd, c1, c2]; try rfl)]
  · refine evB_if0 (h1 := h) (v2 "flat") (evB_ift (h1 := h) (v2 "left") ?_)
    have hn : (n : Int) - 1 = ((n - 1 : Nat) : Int) := by simp [isRho] at hx; omega
    rw [evB_ret (h1 := h) (v := .pv (.tup [vvP (rhoEnds (.left, r, n)), vvP (rhoTips (.left, r, n))])) (by
      dsimp! [iv, pures, addE, subE, hn, size_le (show 2 ≤ 1000 by omega), Nat.reduceAdd, c1, c2]; try rfl)]
  · refine evB_if0 (h1 := h) (v2 "flat") (evB_if0 (h1 := h) (v2 "left") ?_)
    rw [evB_ret (h1 := h) (v := .pv (.tup [vvP (rhoEnds (.right, r, n)), vvP (rhoTips (.right, r, n))])) (by
      dsimp! [iv, pures, addE, subE, size_le (show 2 ≤ 1000 by omega), Nat.reduceAdd, c1, c2]; try rfl)]
def inTri (m : Nat) (v : Nat × Nat) : Prop := v.2 ≤ v.1 ∧ v.1 ≤ m
theorem rho_in {m : Nat} {x : Rho} (hx : isRho m x = true) : inTri m (rhoEnds x).1 ∧ inTri m (rhoEnds x).2 ∧ inTri m (rhoTips x).1 ∧ inTri m (rhoTips x).2 := by
  obtain ⟨d, r, n⟩ := x
  cases d <;> simp [isRho] at hx <;> simp [inTri, rhoEnds, rhoTips] <;> omega
theorem c_meas [Fi P 0 f_is_integer] [Fi P 58 f_is_rhombus] [Fi P 60 f_rhombus_vertices] [Fi P 61 f_measure_slack] (k B m : Nat) (f : Nat → Nat → Int) (x : Rho) (h : Sto) (h6 : m ≤ 6) (hx : isRho m x = true) : callI P (k + 4) 61 B [.pv (tgrid m f), .pv (rhoP x)] h = .ok (iv (slk f x), h) := by
  have cv := c_verts (P := P) k h.length x h (isRho_up h6 hx)
  obtain ⟨i1, i2, i3, i4⟩ := rho_in hx
  have two : ∀ (p q : Nat × Nat) (e : MI.Env) (a : IE) (hp : inTri m p) (hq : inTri m q) (ha : evE (cn P (k + 3) h.length) a e h = .ok (.pv (vvP (p, q)), h)) (e0 : e[0]? = some (some (.pv (tgrid m f)))) (hl : 6 ≤ e.length), evE (cn P (k + 3) h.length) (.comp false (.tp [4, 5]) [4, 5] (.val a) .nil (.idx (.idx (.var 0) (.var 4)) (.var 5))) e h = .ok (.pv (lm [p, q] fun v => .int (f v.1 v.2)), h) := by
    intro p q e a hp hq ha e0 hl
    refine comp_pv (mk := fun v => .one (.pv (vP v))) (it_val ha) (by simp) fun v hv => ?_
    have hv : inTri m v := by
      simp only [List.mem_cons, List.not_mem_nil, or_false] at hv
      rcases hv with rfl | rfl <;> assumption
    obtain ⟨a0, a1, a2, a3, a4, a5, er, rfl⟩ : ∃ a0 a1 a2 a3 a4 a5 er, e = a0 :: a1 :: a2 :: a3 :: a4 :: a5 :: er := by
      match e, hl with
      | a0 :: a1 :: a2 :: a3 :: a4 :: a5 :: er, _ => exact ⟨_, _, _, _, _, _, _, rfl⟩
    have e0 : a0 = some (.pv (tgrid m f)) := Option.some.inj e0
    subst e0
    refine compF_nil (e' := some (.pv (tgrid m f)) :: a1 :: a2 :: a3 :: some (iv v.1) :: some (iv v.2) :: er) (by dsimp! [give, vP, tupI, MI.wipe, setAll]) ?_
    exact ev_idx (ev_idx (ev_var 0 rfl) (ev_var 4 rfl) (g_idx (r := v.1) h rfl hv.2)) (ev_var 5 rfl) (r_idx (n := v.2) h rfl hv.1)
  refine run_rt' (F := f_measure_slack) Fi.h rfl rfl ?_
  show evB (cn P (k + 3) h.length) f_measure_slack.body [some (.pv (tgrid m f)), some (.pv (rhoP x)), none, none, none, none] h = _
  have s1 := two (rhoEnds x).1 (rhoEnds x).2 [some (.pv (tgrid m f)), some (.pv (rhoP x)), some (.pv (vvP (rhoEnds x))), some (.pv (vvP (rhoTips x))), none, none] (.var 2) i1 i2 (ev_var 2 rfl) rfl (Nat.le_refl _)
  have s2 := two (rhoTips x).1 (rhoTips x).2 [some (.pv (tgrid m f)), some (.pv (rhoP x)), some (.pv (vvP (rhoEnds x))), some (.pv (vvP (rhoTips x))), none, none] (.var 3) i3 i4 (ev_var 3 rfl) rfl (Nat.le_refl _)
  unfold f_measure_slack
  refine evB_nx (e1 := [some (.pv (tgrid m f)), some (.pv (rhoP x)), some (.pv (vvP (rhoEnds x))), some (.pv (vvP (rhoTips x))), none, none]) (h1 := h) ?_ ?_
  · dsimp! [cv, give, setAll]
  · refine evB_ret (ev_bin (x := iv (f (rhoEnds x).1.1 (rhoEnds x).1.2 + (f (rhoEnds x).2.1 (rhoEnds x).2.2 + 0))) (y := iv (f (rhoTips x).1.1 (rhoTips x).1.2 + (f (rhoTips x).2.1 (rhoTips x).2.2 + 0))) (h1 := h) (h2 := h) ?_ ?_ ?_)
    · exact ev_blt (es1 s1) (sum_lm _ _ _)
    · exact ev_blt (es1 s2) (sum_lm _ _ _)
    · simp only [Int.add_zero]; try rfl
/-- the slacks, as they are listed -/
def slP (f : Nat → Nat → Int) (x : Rho) : PV := .tup [rhoP x, .int (slk f x)]
theorem sl_0 (f : Nat → Nat → Int) (x : Rho) (h : Sto) : oIdx (.pv (slP f x)) (iv 0) h = .ok (.pv (rhoP x), h) := rfl
theorem sl_1 (f : Nat → Nat → Int) (x : Rho) (h : Sto) : oIdx (.pv (slP f x)) (iv 1) h = .ok (iv (slk f x), h) := rfl
section
variable [Fi P 0 f_is_integer] [Fi P 27 f_is_integer_tuple] [Fi P 28 f_check_array] [Fi P 57 f_check_size] [Fi P 58 f_is_rhombus] [Fi P 59 f_rhombuses] [Fi P 60 f_rhombus_vertices] [Fi P 61 f_measure_slack] [Fi P 62 f_slacks]
theorem c_slacks (k B m : Nat) (f : Nat → Nat → Int) (h : Sto) (h0 : f 0 0 = 0) (h1 : 1 ≤ m) (h6 : m ≤ 6) : callI P (k + 5) 62 B [.pv (tgrid m f)] h = .ok (.pv (tm (rhos m) (slP f)), h) := by
  have ck := g_chk (P := P) (k + 1) h.length m f h h0 h1 h6
  have cr := c_rhos (P := P) (k + 1) h.length m h h1 h6
  have len := rhos_len h6
  have hc : evE (cn P (k + 4) h.length) f_slacks_c0 [some (.pv (tgrid m f)), none] h = .ok (.pv (lm (rhos m) (slP f)), h) := by
    refine comp_pv (mk := fun x => .one (.pv (rhoP x))) (it_tm (ev_call (vs := [iv m]) (h1 := h) (es1 ?_) cr)) (by omega) fun x hx => ?_
    · refine ev_bin (ev_blt (es1 (ev_var 0 rfl)) (g_len _ _ _ _)) (ev_k _) ?_
      have e : (m : Int) + 1 - 1 = m := by omega
      dsimp only [iv]
      rw [subE, e]
    · have cm := c_meas (P := P) k h.length m f x h h6 (mem_rhos hx)
      refine compF_nil (e' := [some (.pv (tgrid m f)), some (.pv (rhoP x))]) rfl ?_
      exact ev_tup (ps := [rhoP x, .int (slk f x)]) (es2 (ev_var 1 rfl) (ev_call (es2 (ev_var 0 rfl) (ev_var 1 rfl)) cm)) (by simp)
  refine run_rt' (F := f_slacks) Fi.h rfl rfl ?_
  show evB (cn P (k + 4) h.length) f_slacks.body [some (.pv (tgrid m f)), none] h = _
  unfold f_slacks
  exact evB_ex (ev_call (es1 (ev_var 0 rfl)) ck) (evB_ret (ev_tuple hc))
def conc (m : Nat) (f : Nat → Nat → Int) : Bool := (rhos m).all fun x => decide (0 ≤ slk f x)
theorem c_conc [Fi P 63 f_is_concave] (k B m : Nat) (f : Nat → Nat → Int) (h : Sto) (h0 : f 0 0 = 0) (h1 : 1 ≤ m) (h6 : m ≤ 6) : callI P (k + 6) 63 B [.pv (tgrid m f)] h = .ok (.pv (.bl (conc m f)), h) := by
  have cs := c_slacks (P := P) k h.length m f h h0 h1 h6
  have len := rhos_len h6
  have hc : evE (cn P (k + 5) h.length) f_is_concave_c0 [some (.pv (tgrid m f)), none] h = .ok (.pv (lm (rhos m) fun x => .bl (decide (0 ≤ slk f x))), h) := by
    refine comp_pv (mk := fun x => .one (.pv (slP f x))) (it_tm (ev_call (es1 (ev_var 0 rfl)) cs)) (by omega) fun x hx => ?_
    refine compF_nil (e' := [some (.pv (tgrid m f)), some (.pv (slP f x))]) rfl ?_
    refine ev_cmp (x := iv (slk f x)) (y := iv 0) (h1 := h) (h2 := h) ?_ (by dsimp! [iv]) (geI _ _ _)
    exact ev_idx (ev_var 1 rfl) (ev_k _) rfl
  refine run_rt' (F := f_is_concave) Fi.h rfl rfl ?_
  show evB (cn P (k + 5) h.length) f_is_concave.body [some (.pv (tgrid m f)), none] h = _
  unfold f_is_concave
  exact evB_ret (ev_blt (es1 hc) (all_lm _ _ _))
end
section
variable [Fi P 0 f_is_integer] [Fi P 27 f_is_integer_tuple] [Fi P 28 f_check_array]
def rot (m : Nat) (f : Nat → Nat → Int) : Nat → Nat → Int := fun r n => f (m - n) (r - n) - f m 0
def refl (f : Nat → Nat → Int) : Nat → Nat → Int := fun r n => f r (r - n)
theorem c_rot [Fi P 64 f_rotate] (k B m : Nat) (f : Nat → Nat → Int) (h : Sto) (h0 : f 0 0 = 0) (h1 : 1 ≤ m) (h6 : m ≤ 6) : callI P (k + 4) 64 B [.pv (tgrid m f)] h = .ok (.pv (tgrid m (rot m f)), h) := by
  have ck := g_chk (P := P) k h.length m f h h0 h1 h6
  have ar : (m : Int) + 1 - 1 = m := by omega
  have k1 : ∀ e, evE (cn P (k + 3) h.length) (.k (.int 1)) e h = .ok (iv 1, h) := fun e => by dsimp! [iv]
  have inner : ∀ r, r ≤ m → ∀ o4, evE (cn P (k + 3) h.length) f_rotate_c0 [some (.pv (tgrid m f)), some (iv m), some (iv (f m 0)), some (iv r), o4] h = .ok (.pv (lm (List.range (r + 1)) fun n => .int (rot m f r n)), h) := by
    intro r hr o4
    refine comp_pv (mk := fun (n : Nat) => .one (iv n)) (it_rng (r + 1) (x := (r : Int) + 1) (by omega) (by omega) (ev_bin (ev_var 3 rfl) (k1 _) (addE' _ _ _))) (by simp; omega) fun n hn => ?_
    have hn : n < r + 1 := by simpa using hn
    refine compF_nil (e' := [some (.pv (tgrid m f)), some (iv m), some (iv (f m 0)), some (iv r), some (iv n)]) rfl ?_
    exact ev_bin (ev_idx (ev_idx (ev_var 0 rfl) (ev_bin (ev_var 1 rfl) (ev_var 4 rfl) (subE' _ _ _)) (g_idx (r := m - n) h (by omega) (by omega))) (ev_bin (ev_var 3 rfl) (ev_var 4 rfl) (subE' _ _ _)) (r_idx (n := r - n) h (by omega) (by omega))) (ev_var 2 rfl) (subE' _ _ _)
  have outer : evE (cn P (k + 3) h.length) f_rotate_c1 [some (.pv (tgrid m f)), some (iv m), some (iv (f m 0)), none, none] h = .ok (.pv (lm (List.range (m + 1)) (trow (rot m f))), h) := by
    refine comp_pv (mk := fun (n : Nat) => .one (iv n)) (it_rng (m + 1) (x := (m : Int) + 1) (by omega) (by omega) (ev_bin (ev_var 1 rfl) (k1 _) (addE' _ _ _))) (by simp; omega) fun r hr => ?_
    have hr : r < m + 1 := by simpa using hr
    exact compF_nil (e' := [some (.pv (tgrid m f)), some (iv m), some (iv (f m 0)), some (iv r), none]) rfl (ev_tuple (inner r (by omega) none))
  refine run_rt' (F := f_rotate) Fi.h rfl rfl ?_
  show evB (cn P (k + 3) h.length) f_rotate.body [some (.pv (tgrid m f)), none, none, none, none] h = _
  unfold f_rotate
  refine evB_ex (ev_call (es1 (ev_var 0 rfl)) ck) ?_
  refine evB_set (v := iv m) (h1 := h) ?_ ?_
  · refine ev_bin (ev_blt (es1 (ev_var 0 rfl)) (g_len _ _ _ _)) (k1 _) ?_
    rw [subE', ar]
  dsimp only [List.set_cons_succ, List.set_cons_zero]
  refine evB_set (v := iv (f m 0)) (h1 := h) ?_ ?_
  · exact ev_idx (ev_idx (ev_var 0 rfl) (ev_var 1 rfl) (g_idx (r := m) h rfl (Nat.le_refl _))) (ev_k _) (r_idx (n := 0) h rfl (Nat.zero_le _))
  dsimp only [List.set_cons_succ, List.set_cons_zero]
  exact evB_ret (ev_tuple outer)
theorem c_refl [Fi P 65 f_reflect] (k B m : Nat) (f : Nat → Nat → Int) (h : Sto) (h0 : f 0 0 = 0) (h1 : 1 ≤ m) (h6 : m ≤ 6) : callI P (k + 4) 65 B [.pv (tgrid m f)] h = .ok (.pv (tgrid m (refl f)), h) := by
  have ck := g_chk (P := P) k h.length m f h h0 h1 h6
  have hc : evE (cn P (k + 3) h.length) f_reflect_c0 [some (.pv (tgrid m f)), none] h = .ok (.pv (lm (List.range (m + 1)) (trow (refl f))), h) := by
    refine comp_pv (mk := fun r => .one (.pv (trow f r))) (it_tm (ev_var 0 rfl)) (by simp; omega) fun r hr => ?_
    have hr : r < m + 1 := by simpa using hr
    refine compF_nil (e' := [some (.pv (tgrid m f)), some (.pv (trow f r))]) rfl ?_
    rw [evE, ev_var 1 rfl, seq1_ok]
    have e : trow (refl f) r = tm (List.range (r + 1)) fun n => .int (f r (r + 1 - 1 - n)) := rfl
    rw [e]
    exact tm_rev h
  refine run_rt' (F := f_reflect) Fi.h rfl rfl ?_
  show evB (cn P (k + 3) h.length) f_reflect.body [some (.pv (tgrid m f)), none] h = _
  unfold f_reflect
  exact evB_ex (ev_call (es1 (ev_var 0 rfl)) ck) (evB_ret (ev_tuple hc))
theorem c_scaleA [Fi P 4 f_check_factor] [Fi P 66 f_scale_array] (k B m : Nat) (f : Nat → Nat → Int) (t : Int) (h : Sto) (h0 : f 0 0 = 0) (h1 : 1 ≤ m) (h6 : m ≤ 6) (ht : 0 ≤ t) (hb : ∀ r n, n ≤ r → r ≤ m → (f r n).natAbs.log2 + t.natAbs.log2 < 1000000) : callI P (k + 4) 66 B [.pv (tgrid m f), iv t] h = .ok (.pv (tgrid m fun r n => f r n * t), h) := by
  have ck := g_chk (P := P) k h.length m f h h0 h1 h6
  have cf := c_fac (P := P) (k + 1) h.length t h ht
  have inner : ∀ r, r ≤ m → ∀ o4, evE (cn P (k + 3) h.length) f_scale_array_c0 [some (.pv (tgrid m f)), some (iv t), some (.pv (trow f r)), o4] h = .ok (.pv (lm (List.range (r + 1)) fun n => .int (f r n * t)), h) := by
    intro r hr o4
    refine comp_pv (mk := fun n => .one (iv (f r n))) (it_tm (ev_var 2 rfl)) (by simp; omega) fun n hn => ?_
    have hn : n < r + 1 := by simpa using hn
    refine compF_nil (e' := [some (.pv (tgrid m f)), some (iv t), some (.pv (trow f r)), some (iv (f r n))]) rfl ?_
    exact ev_bin (ev_var 3 rfl) (ev_var 1 rfl) (mulE _ _ _ (hb r n (by omega) hr))
  have outer : evE (cn P (k + 3) h.length) f_scale_array_c1 [some (.pv (tgrid m f)), some (iv t), none, none] h = .ok (.pv (lm (List.range (m + 1)) (trow fun r n => f r n * t)), h) := by
    refine comp_pv (mk := fun r => .one (.pv (trow f r))) (it_tm (ev_var 0 rfl)) (by simp; omega) fun r hr => ?_
    have hr : r < m + 1 := by simpa using hr
    exact compF_nil (e' := [some (.pv (tgrid m f)), some (iv t), some (.pv (trow f r)), none]) rfl (ev_tuple (inner r (by omega) none))
  refine run_rt' (F := f_scale_array) Fi.h rfl rfl ?_
  show evB (cn P (k + 3) h.length) f_scale_array.body [some (.pv (tgrid m f)), some (iv t), none, none] h = _
  unfold f_scale_array
  exact evB_ex (ev_call (es1 (ev_var 0 rfl)) ck) (evB_ex (ev_call (es1 (ev_var 1 rfl)) cf) (evB_ret (ev_tuple outer)))
theorem c_addA [Fi P 67 f_add_arrays] (k B m : Nat) (f g : Nat → Nat → Int) (h : Sto) (h0 : f 0 0 = 0) (g0 : g 0 0 = 0) (h1 : 1 ≤ m) (h6 : m ≤ 6) : callI P (k + 4) 67 B [.pv (tgrid m f), .pv (tgrid m g)] h = .ok (.pv (tgrid m fun r n => f r n + g r n), h) := by
  have ck := g_chk (P := P) k h.length m f h h0 h1 h6
  have ck2 := g_chk (P := P) k h.length m g h g0 h1 h6
  have inner : ∀ r, r ≤ m → evE (cn P (k + 3) h.length) f_add_arrays_c0 [some (.pv (tgrid m f)), some (.pv (tgrid m g)), some (.pv (trow f r)), some (.pv (trow g r)), none, none] h = .ok (.pv (lm (List.range (r + 1)) fun n => .int (f r n + g r n)), h) := by
    intro r hr
    refine comp_pv (mk := fun n => .many [iv (f r n), iv (g r n)]) (it_zip (ev_var 2 rfl) (ev_var 3 rfl)) (by simp; omega) fun n hn => ?_
    refine compF_nil (e' := [some (.pv (tgrid m f)), some (.pv (tgrid m g)), some (.pv (trow f r)), some (.pv (trow g r)), some (iv (f r n)), some (iv (g r n))]) rfl ?_
    exact ev_bin (ev_var 4 rfl) (ev_var 5 rfl) (addE' _ _ _)
  have outer : evE (cn P (k + 3) h.length) f_add_arrays_c1 [some (.pv (tgrid m f)), some (.pv (tgrid m g)), none, none, none, none] h = .ok (.pv (lm (List.range (m + 1)) (trow fun r n => f r n + g r n)), h) := by
    refine comp_pv (mk := fun r => .many [.pv (trow f r), .pv (trow g r)]) (it_zip (ev_var 0 rfl) (ev_var 1 rfl)) (by simp; omega) fun r hr => ?_
    have hr : r < m + 1 := by simpa using hr
    exact compF_nil (e' := [some (.pv (tgrid m f)), some (.pv (tgrid m g)), some (.pv (trow f r)), some (.pv (trow g r)), none, none]) rfl (ev_tuple (inner r (by omega)))
  refine run_rt' (F := f_add_arrays) Fi.h rfl rfl ?_
  show evB (cn P (k + 3) h.length) f_add_arrays.body [some (.pv (tgrid m f)), some (.pv (tgrid m g)), none, none, none, none] h = _
  unfold f_add_arrays
  refine evB_ex (ev_call (es1 (ev_var 0 rfl)) ck) (evB_ex (ev_call (es1 (ev_var 1 rfl)) ck2) ?_)
  refine evB_if0 (h1 := h) (T_cmp (t := false) (ev_cmp (ev_blt (es1 (ev_var 0 rfl)) (g_len _ _ _ _)) (ev_blt (es1 (ev_var 1 rfl)) (g_len _ _ _ _)) ?_)) (evB_ret (ev_tuple outer))
  rw [neI]; simp
/-- the borders -/
def bord (m : Nat) (f : Nat → Nat → Int) : PV := .tup [tm (List.range m) fun i => .int (f (i + 1) 0 - f i 0), tm (List.range m) fun i => .int (f m (i + 1) - f m i), tm (List.range m) fun i => .int (f (i + 1) (i + 1) - f i i)]
theorem diffs_map (n : Nat) (a : Nat → Int) : tupI (diffs ((List.range (n + 1)).map a)) = tm (List.range n) fun i => .int (a (i + 1) - a i) := by
  unfold tupI tm diffs
  simp only [List.length_map, List.length_range, Nat.add_sub_cancel, List.map_map]
  congr 1
  apply List.map_congr_left
  intro i hi
  have hi : i < n := by simpa using hi
  simp only [Function.comp, List.getElem?_map, List.getElem?_range (show i + 1 < n + 1 by omega), List.getElem?_range (show i < n + 1 by omega), Option.map_some, Option.getD_some]
theorem bords_gmk (m : Nat) (f : Nat → Nat → Int) : bords (gmk m f) = bord m f := by
  have e1 : firsts (gmk m f) = (List.range (m + 1)).map fun r => f r 0 := by
    unfold firsts gmk
    rw [List.map_map]
    apply List.map_congr_left
    intro r _
    simp [List.getElem?_range (show 0 < r + 1 by omega)]
  have e2 : bottom (gmk m f) = (List.range (m + 1)).map (f m) := by
    have : (gmk m f).length - 1 = m := by simp [gmk]
    rw [bottom, this, gmk_row f (Nat.le_refl m)]; try rfl
  have e3 : lasts (gmk m f) = (List.range (m + 1)).map fun r => f r r := by
    unfold lasts gmk
    rw [List.map_map]
    apply List.map_congr_left
    intro r _
    simp [List.getElem?_range (show r < r + 1 by omega)]
  rw [bords, e1, e2, e3, diffs_map, diffs_map, diffs_map]; try rfl
theorem c_bord [Fi P 43 f_differences] [Fi P 44 f_borders] (k B m : Nat) (f : Nat → Nat → Int) (h : Sto) (h0 : f 0 0 = 0) (h1 : 1 ≤ m) (h6 : m ≤ 6) : callI P (k + 4) 44 B [.pv (tgrid m f)] h = .ok (.pv (bord m f), h) := by
  rw [← tgrid_gmk, ← bords_gmk]; exact c_borders k B m _ h (gr_gmk h0) h1 h6
end
end MI

namespace MI
open PySem L2
open Lean.Parser.Tactic in
local macro_rules | `(tactic| dsimp! [$ts,*]) => `(tactic| simp only [evB, evS_for, evE_comp, evT, evEs, evC, evO, evI, evE.eq_1, evE.eq_2, evE.eq_3, evE.eq_4, evE.eq_5, evE.eq_6, evE.eq_7, evE.eq_8, evE.eq_9, evE.eq_10, evE.eq_11, evE.eq_12, evE.eq_13, evE.eq_14, evE.eq_15, evE.eq_16, evE.eq_17, evE.eq_18, evE.eq_19, evE.eq_20, evE.eq_21, evE.eq_22, evE.eq_23, evE.eq_25, evE.eq_26, evE.eq_27, evE.eq_28, evE.eq_29, evE.eq_30, evS.eq_1, evS.eq_2, evS.eq_3, evS.eq_4, evS.eq_5, evS.eq_6, evS.eq_7, evS.eq_8, evS.eq_11, evS.eq_12, evS.eq_13, evS.eq_14, evS.eq_15, cn_C, cn_B, cn_rp, cn_f, cn_nx, cn_sub, cn_fuel, MI.start, List.map_cons, List.map_nil, List.length_cons, List.length_nil, List.replicate, List.cons_append, List.nil_append, List.append_nil, List.singleton_append, List.getElem?_cons_zero, List.getElem?_cons_succ, List.set_cons_zero, List.set_cons_succ, seq1_ok, seqL_ok, okP, Bool.false_eq_true, if_false, if_true, Bool.not_true, Bool.not_false, Nat.reduceSub, MI.close, take_all, $ts,*])
variable {P : Prg} [Bas P]
/-! ### loops that append -/
theorem loop_app {α : Type} {f : Item → MI.Env → Sto → RS} {mk : α → Item} {φ : α → PV} {h : Sto} (E : MI.Env → Prop) : ∀ (l : List α) (acc : List PV) (e : MI.Env), E e → acc.length + l.length ≤ 1000 →
    (∀ x ∈ l, ∀ e acc, E e → acc.length < 1000 → ∃ e', f (mk x) e (h ++ [.lst (acc.map .pv)]) = some (.nx e', h ++ [.lst ((acc ++ [φ x]).map .pv)]) ∧ E e') →
    ∃ e', loop f (l.map mk) e (h ++ [.lst (acc.map .pv)]) = some (.nx e', h ++ [.lst ((acc ++ l.map φ).map .pv)]) ∧ E e'
  | [], acc, e, he, _, _ => ⟨e, by simp [loop], he⟩
  | x :: xs, acc, e, he, hz, st => by
    rw [List.length_cons] at hz
    obtain ⟨e1, q1, he1⟩ := st x List.mem_cons_self e acc he (by omega)
    obtain ⟨e2, q2, he2⟩ := loop_app E xs (acc ++ [φ x]) e1 he1 (by rw [List.length_append, List.length_singleton]; omega) fun y hy => st y (List.mem_cons_of_mem _ hy)
    refine ⟨e2, ?_, he2⟩
    simp only [List.map_cons, loop, q1, q2, List.append_assoc, List.singleton_append]
section
variable {c : Cn} {e : MI.Env} {h : Sto} {a o : IE} {acc : List PV} {v : PV}
theorem ev_app (ho : evE c o e (h ++ [.lst (acc.map .pv)]) = .ok (.loc h.length, h ++ [.lst (acc.map .pv)])) (ha : evE c a e (h ++ [.lst (acc.map .pv)]) = .ok (.pv v, h ++ [.lst (acc.map .pv)])) (hz : acc.length < 1000) :
    evE c (.app o a) e (h ++ [.lst (acc.map .pv)]) = .ok (.pv .non, h ++ [.lst ((acc ++ [v]).map .pv)]) := by
  have op : isOpenL (.loc h.length) (h ++ [.lst (acc.map .pv)]) = true := by simp [isOpenL]
  have z : acc.length < sizeLim := by have := size_le (n := acc.length + 1) (by omega); omega
  rw [evE, ho, seq1_ok, op]
  simp only [if_true, ha, seq1_ok, oApp, MI.may]
  simp [z, okP]
theorem tup_loc (rp : PV → Str) : oBlt rp .tuple [.loc h.length] (h ++ [.lst (acc.map .pv)]) = .ok (.pv (.tup acc), h ++ [.lst (acc.map .pv)]) := by
  simp [oBlt, seqp, seqv, pures_map, okP]
theorem ev_newl : evE c (.newl .nil) e h = .ok (.loc h.length, h ++ [.lst (([] : List PV).map .pv)]) := by
  rw [evE]
  simp [evEs, oLst, sizeLim]
theorem ev_callk {f : Nat} {es ks : IEs} {ns : List Str} {perm : List Nat} {vs ws l : List MV} {h1 h2 : Sto} {r : RE} (hs : evEs c es e h = .ok (vs, h1)) (hk : evEs c ks e h1 = .ok (ws, h2)) (hp : permute perm (vs ++ ws) = some l) (hc : c.C f c.B l h2 = r) : evE c (.callk f es ns ks perm) e h = r := by
  rw [evE, hs, seqL_ok, hk, seqL_ok, hp]; exact hc
theorem es0 : evEs c .nil e h = .ok ([], h) := by rw [evEs]
theorem es3 {a b d : IE} {v w u : MV} {h1 h2 h3 : Sto} (ha : evE c a e h = .ok (v, h1)) (hb : evE c b e h1 = .ok (w, h2)) (hd : evE c d e h2 = .ok (u, h3)) : evEs c (.cons a (.cons b (.cons d .nil))) e h = .ok ([v, w, u], h3) := by
  simp only [evEs, ha, hb, hd, seq1_ok, seqL_ok]
theorem es4 {a b d f : IE} {v w u z : MV} {h1 h2 h3 h4 : Sto} (ha : evE c a e h = .ok (v, h1)) (hb : evE c b e h1 = .ok (w, h2)) (hd : evE c d e h2 = .ok (u, h3)) (hf : evE c f e h3 = .ok (z, h4)) : evEs c (.cons a (.cons b (.cons d (.cons f .nil)))) e h = .ok ([v, w, u, z], h4) := by
  simp only [evEs, ha, hb, hd, hf, seq1_ok, seqL_ok]
theorem ev_mulL {xs : List PV} {k : Int} (h : Sto) (h0 : 0 ≤ k) (h1 : k ≤ 100) (hl : xs.length ≤ 100) : oBin .mul (.pv (.lst xs)) (.pv (.int k)) h = .ok (.pv (.lst (List.replicate k.toNat xs).flatten), h) := by
  have z : 0 ≤ k ∧ k ≤ 1000 ∧ xs.length * k.toNat ≤ sizeLim := by
    refine ⟨h0, by omega, ?_⟩
    have : xs.length * k.toNat ≤ 100 * 100 := Nat.mul_le_mul hl (by omega)
    unfold sizeLim; omega
  simp only [oBin, snap, z, if_true, okP, and_self]
end
/-! ### texts -/
def RL (d : Nat) (p : PV) (N : Nat) : Prop := ∃ n, rlen d p = some n ∧ n ≤ N
theorem rl_int (d : Nat) {a : Int} (h : Bd 1000 a) : RL d (.int a) 1922 := by
  have := h.lg
  exact ⟨1922, by simp only [rlen, show a.natAbs.log2 < 1920 by omega, if_true], by omega⟩
theorem rl_s (d N : Nat) : ∀ xs : List PV, (∀ x ∈ xs, RL d x N) → ∃ n, rlens d xs = some n ∧ n ≤ xs.length * (N + 2)
  | [], _ => ⟨0, rfl, by simp⟩
  | x :: xs, h => by
    obtain ⟨a, ea, ha⟩ := h x List.mem_cons_self
    obtain ⟨b, eb, hb⟩ := rl_s d N xs fun y hy => h y (List.mem_cons_of_mem _ hy)
    refine ⟨a + b + 2, by simp only [rlens, ea, eb], ?_⟩
    rw [List.length_cons, Nat.succ_mul]
    omega
theorem rl_tup {d N M : Nat} {xs : List PV} (h : ∀ x ∈ xs, RL d x N) (hM : xs.length * (N + 2) + 3 ≤ M) : RL (d + 1) (.tup xs) M := by
  obtain ⟨n, e, hn⟩ := rl_s d N xs h
  exact ⟨n + 3, by simp only [rlen, e, Option.map_some], by omega⟩
theorem rl_lst {d N M : Nat} {xs : List PV} (h : ∀ x ∈ xs, RL d x N) (hM : xs.length * (N + 2) + 3 ≤ M) : RL (d + 1) (.lst xs) M := by
  obtain ⟨n, e, hn⟩ := rl_s d N xs h
  exact ⟨n + 3, by simp only [rlen, e, Option.map_some], by omega⟩
theorem RL.up {d N M : Nat} {p : PV} (h : RL d p N) (k : N ≤ M) : RL d p M := by
  obtain ⟨n, e, hn⟩ := h
  exact ⟨n, e, by omega⟩
theorem repr_rl {p : PV} {N : Nat} (h : Sto) (e : RL 60 p N) (hn : N ≤ 16000000) : oBlt rpOf .repr [.pv p] h = .ok (.pv (.str (rpOf p)), h) := by
  obtain ⟨n, e, hk⟩ := e
  exact repr_ok h e (by omega)
theorem rl_tm {α : Type} {d N M : Nat} {l : List α} {φ : α → PV} (h : ∀ x ∈ l, RL d (φ x) N) (hM : l.length * (N + 2) + 3 ≤ M) : RL (d + 1) (tm l φ) M := by
  refine rl_tup (fun y hy => ?_) (by rw [List.length_map]; exact hM)
  rw [List.mem_map] at hy
  obtain ⟨x, hx, rfl⟩ := hy
  exact h x hx
/-- entries that are not too long -/
def GB (p : Nat) (f : Nat → Nat → Int) : Prop := ∀ r n, Bd p (f r n)
theorem rl_grid (d : Nat) {m : Nat} {f : Nat → Nat → Int} (h6 : m ≤ 6) (hf : GB 1000 f) : RL (d + 2) (tgrid m f) 200000 := by
  refine rl_tm (N := 20000) (fun r hr => ?_) (by simp; omega)
  have hr : r < m + 1 := by simpa using hr
  exact rl_tm (N := 1922) (fun n _ => rl_int d (hf r n)) (by simp; omega)
theorem Bd.lt {p : Nat} {i : Int} (h : Bd p i) : i.natAbs.log2 ≤ p := h.lg
theorem GB.up {p q : Nat} {f : Nat → Nat → Int} (h : GB p f) (z : p ≤ q) : GB q f := fun r n => (h r n).up z
theorem bd_abs {p : Nat} {i : Int} : Bd p i ↔ -(2 ^ p : Int) < i ∧ i < 2 ^ p := by
  unfold Bd
  have e : ((2 ^ p : Nat) : Int) = (2 : Int) ^ p := by simp
  omega
theorem Bd.addI {p : Nat} {i j : Int} (h : Bd p i) (k : Bd p j) : Bd (p + 1) (i + j) := Bd.add h k
theorem Bd.neg {p : Nat} {i : Int} (h : Bd p i) : Bd p (-i) := by unfold Bd at *; omega
theorem Bd.subI {p : Nat} {i j : Int} (h : Bd p i) (k : Bd p j) : Bd (p + 1) (i - j) := by
  have := Bd.add h k.neg
  rwa [Int.sub_eq_add_neg]
theorem Bd.mulI {p q : Nat} {i j : Int} (h : Bd p i) (k : Bd q j) : Bd (p + q) (i * j) := Bd.mul h k
/-! ### drawn grids, as functions -/
section
variable [Fi P 9 f_law_mixed] [Fi P 11 f_law_draw] [Fi P 31 f_law_piece] [Fi P 30 f_law_weights] [Fi P 32 f_law_piece_at] [Fi P 48 f_law_grid_of_v2] [Fi P 49 f_law_bowed_v2]
theorem bd_grid {b : Int} {gr : List (List Int)} (hb : GrB b gr) (h0 : 0 ≤ b) (h1 : b < 2 ^ 75) : GB 75 (at2 gr) := fun r n => by
  have := grb_at2 hb h0 r n
  have p : (2 : Int) ^ 75 = 37778931862957161709568 := by decide
  rw [p] at h1
  rw [bd_abs, p]
  omega
theorem c_bowF (k B : Nat) (sc : List Int) {cells great : List Int} {s : Int} (m : Nat) (ext : Sto) (g : Good0 cells great s) (hs : s + 60 < 1000000) (h1 : 1 ≤ m) (h6 : m ≤ 6) :
    ∃ f great' t, f 0 0 = 0 ∧ GB 75 f ∧ Good0 cells great' t ∧ t ≤ s + 40 ∧ callI P (k + 4) 49 B [.loc 2, iv m] (stS sc cells great s ext) = .ok (.pv (tgrid m f), stS sc cells great' t ext) := by
  obtain ⟨gr, g', t, a, b, c, d, e⟩ := c_bowed (P := P) k B sc m ext g hs h1 h6
  exact ⟨at2 gr, g', t, gr_at00 a, bd_grid b (by omega) (by decide), c, d, by rw [e, gr_at2 a]⟩
theorem c_gridF [Fi P 50 f_law_grid_v2] (k B : Nat) (sc : List Int) {cells great : List Int} {s : Int} (m : Nat) (ext : Sto) (g : Good0 cells great s) (hs : s + 200 < 1000000) (h1 : 1 ≤ m) (h6 : m ≤ 6) :
    ∃ f great' t, f 0 0 = 0 ∧ GB 75 f ∧ Good0 cells great' t ∧ t ≤ s + 120 ∧ callI P (k + 5) 50 B [.loc 2, iv m] (stS sc cells great s ext) = .ok (.pv (tgrid m f), stS sc cells great' t ext) := by
  obtain ⟨gr, g', t, a, b, c, d, e⟩ := c_grid (P := P) k B sc m ext g hs h1 h6
  have p : (10 : Int) ^ 20 = 100000000000000000000 := by decide
  rw [p] at b
  exact ⟨at2 gr, g', t, gr_at00 a, bd_grid b (by omega) (by decide), c, d, by rw [e, gr_at2 a]⟩
end
end MI

namespace MI
open PySem L2
open Lean.Parser.Tactic in
local macro_rules | `(tactic| dsimp! [$ts,*]) => `(tactic| simp only [evB, evS_for, evE_comp, evT, evEs, evC, evO, evI, evE.eq_1, evE.eq_2, evE.eq_3, evE.eq_4, evE.eq_5, evE.eq_6, evE.eq_7, evE.eq_8, evE.eq_9, evE.eq_10, evE.eq_11, evE.eq_12, evE.eq_13, evE.eq_14, evE.eq_15, evE.eq_16, evE.eq_17, evE.eq_18, evE.eq_19, evE.eq_20, evE.eq_21, evE.eq_22, evE.eq_23, evE.eq_25, evE.eq_26, evE.eq_27, evE.eq_28, evE.eq_29, evE.eq_30, evS.eq_1, evS.eq_2, evS.eq_3, evS.eq_4, evS.eq_5, evS.eq_6, evS.eq_7, evS.eq_8, evS.eq_11, evS.eq_12, evS.eq_13, evS.eq_14, evS.eq_15, cn_C, cn_B, cn_rp, cn_f, cn_nx, cn_sub, cn_fuel, MI.start, List.map_cons, List.map_nil, List.length_cons, List.length_nil, List.replicate, List.cons_append, List.nil_append, List.append_nil, List.singleton_append, List.getElem?_cons_zero, List.getElem?_cons_succ, List.set_cons_zero, List.set_cons_succ, seq1_ok, seqL_ok, okP, Bool.false_eq_true, if_false, if_true, Bool.not_true, Bool.not_false, Nat.reduceSub, MI.close, take_all, $ts,*])
variable {P : Prg} [Bas P]
theorem loop_keep {α : Type} {f : Item → MI.Env → Sto → RS} {mk : α → Item} {h : Sto} (E : MI.Env → Prop) : ∀ (l : List α) (e : MI.Env), E e → (∀ x ∈ l, ∀ e, E e → ∃ e', f (mk x) e h = some (.nx e', h) ∧ E e') → ∃ e', loop f (l.map mk) e h = some (.nx e', h) ∧ E e'
  | [], e, he, _ => ⟨e, by simp [loop], he⟩
  | x :: xs, e, he, st => by
    obtain ⟨e1, q1, he1⟩ := st x List.mem_cons_self e he
    obtain ⟨e2, q2, he2⟩ := loop_keep E xs e1 he1 fun y hy => st y (List.mem_cons_of_mem _ hy)
    refine ⟨e2, ?_, he2⟩
    simp only [List.map_cons, loop, q1, q2]
section
variable {c : Cn} {e : MI.Env} {h h1 : Sto} {tg : TG} {own : List Nat} {it : IT} {cs : IEs} {el : IE}
theorem turns_if {α : Type} {f : Item → Sto → R (Option MV × Sto)} {mk : α → Item} {p : α → Bool} {φ : α → PV} {h : Sto} : ∀ (l : List α), (∀ x ∈ l, f (mk x) h = .ok (if p x = true then some (.pv (φ x)) else none, h)) → turns f (l.map mk) h = .ok ((l.filter p).map fun x => .pv (φ x), h)
  | [], _ => rfl
  | x :: xs, hf => by
    rw [List.map_cons, turns, hf x List.mem_cons_self]
    dsimp only
    rw [turns_if xs fun y hy => hf y (List.mem_cons_of_mem _ hy)]
    cases q : p x with
    | true => rw [List.filter_cons_of_pos q]; try rfl
    | false => rw [List.filter_cons_of_neg (by rw [q]; decide)]; try rfl
/-- a comprehension with a test -/
theorem comp_if {α : Type} {l : List α} {mk : α → Item} {p : α → Bool} {φ : α → PV} (hi : evI c it e h = .ok (l.map mk, h1)) (hl : l.length ≤ 1000)
    (hf : ∀ x ∈ l, ∃ e', give tg (mk x) h1 (MI.wipe e own) = some e' ∧ evC c cs e' h1 = .ok (p x, h1) ∧ (p x = true → evE c el e' h1 = .ok (.pv (φ x), h1))) : evE c (.comp false tg own it cs el) e h = .ok (.pv (lm (l.filter p) φ), h1) := by
  rw [evE_comp, hi]
  dsimp only
  have ht := turns_if (f := compF c tg own cs el e) (mk := mk) (p := p) (φ := φ) (h := h1) l fun x hx => by
    obtain ⟨e', hg, hc, he⟩ := hf x hx
    unfold compF
    rw [hg]
    dsimp only
    rw [hc]
    cases q : p x with
    | true => dsimp only; rw [he q]; try rfl
    | false => rfl
  show seqL (turns (compF c tg own cs el e) (l.map mk) h1) _ = _
  rw [ht, seqL_ok]
  exact oLst_f _ _ (pures_map_of _ φ) (by
    rw [List.length_map]
    have := List.length_filter_le p l
    omega)
theorem evC1 {t : IE} {b : Bool} (ht : evT c t e h = .ok (b, h1)) : evC c (.cons t .nil) e h = .ok (b, h1) := by rw [evC]; exact ht
theorem it_rng2 {a b : IE} {x y : Int} (n : Nat) (hx : -1000 ≤ x ∧ x ≤ 1000) (hy : -1000 ≤ y ∧ y ≤ 1000) (hn : (y - x).toNat = n) (ha : evE c a e h = .ok (iv x, h1)) (hb : evE c b e h1 = .ok (iv y, h1)) : evI c (.rng2 a b) e h = .ok ((List.range n).map fun (i : Nat) => .one (iv (x + i)), h1) := by
  have sm : ∀ z : Int, -1000 ≤ z ∧ z ≤ 1000 → small z = true := fun z hz => by
    unfold small
    have p : (2 : Int) ^ 62 = 4611686018427387904 := by decide
    rw [p]
    simp
    omega
  simp only [evI, ha, hb, seq1_ok, sm x hx, sm y hy, and_self, if_true, hn]
  rfl
theorem lm_idx {φ : Nat → PV} {n i : Nat} (h : Sto) (hi : i < n) : oIdx (.pv (lm (List.range n) φ)) (iv i) h = .ok (.pv (φ i), h) := lm_idxI h i rfl hi
theorem lm_len {α : Type} {l : List α} {φ : α → PV} (rp : PV → Str) (h : Sto) : oBlt rp .len [.pv (lm l φ)] h = .ok (iv l.length, h) := by simp [oBlt, seqv, lm, okP]
theorem plain_lm {α : Type} {d : Nat} {φ : α → PV} {l : List α} (h : ∀ x ∈ l, plain d (φ x) = true) : plain (d + 1) (lm l φ) = true := by
  simp only [lm, MI.plain, plains_map h]
theorem ev_tuL {α : Type} {l : List α} {φ : α → PV} {a : IE} (ha : evE c a e h = .ok (.pv (lm l φ), h1)) : evE c (.blt .tuple (.cons a .nil)) e h = .ok (.pv (tm l φ), h1) := ev_tuple ha
theorem ev_lrng {a : IE} {x : Int} (n : Nat) (hx : x = (n : Int)) (hn : n ≤ 1000) (ha : evE c a e h = .ok (iv x, h1)) : evE c (.ext .lrng (.cons a .nil)) e h = .ok (.pv (lm (List.range n) fun (i : Nat) => .int (i : Int)), h1) := by
  subst hx
  have z : 0 ≤ (n : Int) ∧ (n : Int) ≤ 1000000 := by omega
  rw [evE, es1 ha, seqL_ok]
  simp only [oExt, z, and_self, if_true, Int.toNat_natCast]
  rfl
theorem toInts_mp' {α : Type} (f : α → Int) (l : List α) : toInts (l.map fun x => PV.int (f x)) = some (l.map f) := toInts_mp f l
theorem ev_mind {α : Type} {l : List α} {f : α → Int} {d : Int} {a : IE} (ha : evE c a e h = .ok (.pv (lm l fun x => .int (f x)), h1)) : evE c (.ext (.mind d) (.cons a .nil)) e h = .ok (iv (match l.map f with | [] => d | b :: r => minI b r), h1) := by
  rw [evE, es1 ha, seqL_ok]
  simp only [oExt, lm, seqpL, seqp, seqv, pures_map, toInts_mp]
  cases l.map f <;> rfl
theorem min_lm {α : Type} {l : List α} {f : α → Int} {b : Int} {r : List Int} (rp : PV → Str) (h : Sto) (hl : l.map f = b :: r) : oBlt rp .min [.pv (lm l fun x => .int (f x))] h = .ok (iv (minI b r), h) := by
  simp only [oBlt, lm, seqp, seqv, pures_map, toInts_mp, hl]; try rfl
theorem minI_le (b : Int) (r : List Int) (t : Int) : t ≤ minI b r ↔ t ≤ b ∧ ∀ x ∈ r, t ≤ x := by
  unfold minI
  induction r generalizing b with
  | nil => simp
  | cons a r ih =>
    rw [List.foldl_cons, ih]
    simp only [List.mem_cons, forall_eq_or_imp]
    split <;> constructor <;> rintro ⟨h1, h2⟩ <;> refine ⟨?_, ?_⟩ <;> first | omega | (exact ⟨by omega, h2⟩) | exact h2.2 | exact h2
theorem neB (a b : Bool) (h : Sto) : oCmp .ne (.pv (.bl a)) (.pv (.bl b)) h = .ok (.pv (.bl (!(a == b))), h) := by simp [oCmp, snap, eqOf, MI.plain, pvEq, okB, okP]
end
/-! ### partitions, as the newer text checks them -/
section
variable [Fi P 0 f_is_integer] [Fi P 74 f_check_descending] [Fi P 75 f_check_partition_v2]
theorem c_descT (k B n : Nat) (a : Nat → Int) (h : Sto) (hn : n ≤ 100) (hd : ∀ i, i + 1 < n → a (i + 1) ≤ a i) : callI P (k + 2) 74 B [.pv (tm (List.range n) fun i => .int (a i))] h = .ok (.pv .non, h) := by
  obtain ⟨e', q, o1, o2, rfl⟩ := loop_keep (f := forF (cn P (k + 1) h.length) (.tp [1, 2]) f_check_descending_b0) (mk := fun (i : Nat) => .many [iv i, iv (a i)]) (h := h) (fun e => ∃ o1 o2, e = ([some (.pv (tm (List.range n) fun i => .int (a i))), o1, o2] : MI.Env)) (List.range n) [some (.pv (tm (List.range n) fun i => .int (a i))), none, none] ⟨_, _, rfl⟩ (by
    rintro i hi e ⟨o1, o2, rfl⟩
    have hi : i < n := by simpa using hi
    refine ⟨[some (.pv (tm (List.range n) fun i => .int (a i))), some (iv i), some (iv (a i))], ?_, _, _, rfl⟩
    unfold forF
    dsimp only [give, setAll, List.set_cons_succ, List.set_cons_zero]
    unfold f_check_descending_b0
    refine evB_if0 (h1 := h) (T_not0 (T_call (ev_call (es1 (ev_var 2 rfl)) (c_int k h.length (a i) h)))) ?_
    refine evB_if0 (h1 := h) ?_ evB_nil
    cases i with
    | zero => exact T_and0 (T_cmp (ev_cmp (ev_var 1 rfl) (ev_k _) (gtI 0 0 h)))
    | succ i =>
      have p : decide ((0 : Int) < ((i + 1 : Nat) : Int)) = true := by simp <;> omega
      have q : decide (a i < a (i + 1)) = false := by
        have := hd i hi
        simp <;> omega
      refine T_and1 (h1 := h) (T_cmp (ev_cmp (ev_var 1 rfl) (ev_k _) (by rw [← p]; exact gtI _ _ h))) ?_
      exact T_cmp (ev_cmp (ev_var 2 rfl) (ev_idx (ev_var 0 rfl) (ev_bin (ev_var 1 rfl) (ev_k _) (subE _ 1 h)) (tm_idxI h i (by omega) (by omega))) (by rw [← q]; exact gtI _ _ h)))
  refine run_nx' (F := f_check_descending) (e := [some (.pv (tm (List.range n) fun i => .int (a i))), o1, o2]) Fi.h rfl rfl ?_
  show evB (cn P (k + 1) h.length) f_check_descending.body [some (.pv (tm (List.range n) fun i => .int (a i))), none, none] h = _
  unfold f_check_descending
  exact evB_for (it_enumR (ev_var 0 rfl)) q evB_nil
theorem c_partT (k B n : Nat) (a : Nat → Int) (h : Sto) (h1 : 1 ≤ n) (h6 : n ≤ 6) (hd : ∀ i, i + 1 < n → a (i + 1) ≤ a i) : callI P (k + 3) 75 B [.pv (tm (List.range n) fun i => .int (a i))] h = .ok (.pv .non, h) := by
  have cd := c_descT (P := P) k h.length n a h (by omega) hd
  refine run_nx' (F := f_check_partition_v2) (e := [some (.pv (tm (List.range n) fun i => .int (a i)))]) Fi.h rfl rfl ?_
  show evB (cn P (k + 2) h.length) f_check_partition_v2.body [some (.pv (tm (List.range n) fun i => .int (a i)))] h = _
  have isT : ∀ h, isTy .tuple (.pv (tm (List.range n) fun i => PV.int (a i))) h = .ok (.pv (.bl true), h) := fun _ => rfl
  unfold f_check_partition_v2
  refine evB_if0 (h1 := h) (T_or0 (h1 := h) (T_not0 (T_isI (by rw [evE, ev_var 0 rfl, seq1_ok]; exact isT h))) (T_not0 (T_cmp2 (t := true) ?_))) (evB_ex (ev_call (es1 (ev_var 0 rfl)) cd) evB_nil)
  rw [ev_cmp2 (h1 := h) (h2 := h) (ev_k _) (ev_blt (es1 (ev_var 0 rfl)) (tm_len _ _)) (ev_glob _ _) (leI _ _ _) (leI _ _ _)]
  congr 3
  simp <;> omega
theorem c_ispT [Fi P 76 f_is_partition_v2] (k B n : Nat) (a : Nat → Int) (h : Sto) (h1 : 1 ≤ n) (h6 : n ≤ 6) (hd : ∀ i, i + 1 < n → a (i + 1) ≤ a i) : callI P (k + 4) 76 B [.pv (tm (List.range n) fun i => .int (a i))] h = .ok (.pv (.bl true), h) := by
  have cd := c_partT (P := P) k h.length n a h h1 h6 hd
  refine run_rt' (F := f_is_partition_v2) Fi.h rfl rfl ?_
  show evB (cn P (k + 3) h.length) f_is_partition_v2.body [some (.pv (tm (List.range n) fun i => .int (a i)))] h = _
  unfold f_is_partition_v2
  refine evB_nx (e1 := [some (.pv (tm (List.range n) fun i => .int (a i)))]) (h1 := h) ?_ (evB_ret (ev_k _))
  rw [evS]
  rw [evB_ex (ev_call (es1 (ev_var 0 rfl)) cd) evB_nil]
end
/-- the flat differences of a row -/
def flatP (f : Nat → Nat → Int) (r : Nat) : PV := tm (List.range r) fun i => .int (f r (i + 1) - f r i)
theorem g_flat [Fi P 0 f_is_integer] [Fi P 27 f_is_integer_tuple] [Fi P 28 f_check_array] [Fi P 43 f_differences] [Fi P 47 f_flat_differences] (k B m r : Nat) (f : Nat → Nat → Int) (h : Sto) (h0 : f 0 0 = 0) (h1 : 1 ≤ m) (h6 : m ≤ 6) (hr : r ≤ m) : callI P (k + 4) 47 B [.pv (tgrid m f), iv r] h = .ok (.pv (flatP f r), h) := by
  rw [← tgrid_gmk, c_flat k B m _ h (gr_gmk h0) h1 h6 (gmk_row f hr), diffs_map]; try rfl
end MI

namespace MI
open PySem L2
/-! ### concave arrays -/
theorem mem_rhosI {m : Nat} {x : Rho} (h : isRho m x = true) : x ∈ rhos m := by
  obtain ⟨d, r, n⟩ := x
  have hr : r < m ∧ n < r + 1 := by cases d <;> simp [isRho] at h <;> omega
  simp only [rhos, rhoD, rhoR, rhoN, List.mem_flatMap]
  refine ⟨d, by cases d <;> simp, r, by simpa using hr.1, n, by simpa using hr.2, ?_⟩
  rw [if_pos h]
  exact List.mem_singleton.mpr rfl
theorem conc_slk {m : Nat} {f : Nat → Nat → Int} (h : conc m f = true) {x : Rho} (hx : isRho m x = true) : 0 ≤ slk f x := by
  unfold conc at h
  rw [List.all_eq_true] at h
  simpa using h x (mem_rhosI hx)
theorem conc_not {m : Nat} {f : Nat → Nat → Int} (h : conc m f = false) : ∃ x ∈ rhos m, slk f x < 0 := by
  unfold conc at h
  rw [List.all_eq_false] at h
  obtain ⟨x, hx, q⟩ := h
  exact ⟨x, hx, by simpa using q⟩
theorem conc_of {m : Nat} {f : Nat → Nat → Int} (h : ∀ x, isRho m x = true → 0 ≤ slk f x) : conc m f = true := by
  unfold conc
  rw [List.all_eq_true]
  exact fun x hx => by simpa using h x (mem_rhos hx)
section
variable {m : Nat} {f : Nat → Nat → Int} (h : conc m f = true)
include h
theorem conc_right {r n : Nat} (h1 : n < r) (h2 : r + 1 ≤ m) : f r (n + 1) - f r n ≤ f (r + 1) (n + 1) - f (r + 1) n := by
  have := conc_slk h (x := (.right, r, n)) (by simp [isRho]; omega)
  simp only [slk, rhoEnds, rhoTips] at this
  omega
theorem conc_left {r n : Nat} (h1 : n < r) (h2 : r + 1 ≤ m) : f (r + 1) (n + 2) - f (r + 1) (n + 1) ≤ f r (n + 1) - f r n := by
  have := conc_slk h (x := (.left, r, n + 1)) (by simp [isRho]; omega)
  simp only [slk, rhoEnds, rhoTips, Nat.add_sub_cancel] at this
  have e : n + 1 + 1 = n + 2 := rfl
  rw [e] at this
  omega
theorem conc_flat {r n : Nat} (h1 : n ≤ r) (h2 : r + 2 ≤ m) : f r n + f (r + 2) (n + 1) ≤ f (r + 1) n + f (r + 1) (n + 1) := by
  have := conc_slk h (x := (.flat, r, n)) (by simp [isRho]; omega)
  simp only [slk, rhoEnds, rhoTips] at this
  omega
/-- the flat differences of a row fall -/
theorem conc_row {r i : Nat} (h1 : i + 1 < r) (h2 : r ≤ m) : f r (i + 2) - f r (i + 1) ≤ f r (i + 1) - f r i := by
  obtain ⟨q, rfl⟩ : ∃ q, r = q + 1 := ⟨r - 1, by omega⟩
  have a := conc_right h (r := q) (n := i) (by omega) h2
  have b := conc_left h (r := q) (n := i) (by omega) h2
  omega
/-- down along a column -/
theorem conc_col {r n : Nat} (h1 : n ≤ r) (h2 : r + 2 ≤ m) : f (r + 2) n - f (r + 1) n ≤ f (r + 1) n - f r n := by
  have a := conc_flat h h1 h2
  have b := conc_right h (r := r + 1) (n := n) (by omega) (by omega)
  rw [show r + 1 + 1 = r + 2 from rfl] at b
  omega
/-- down along a slope -/
theorem conc_slope {r n : Nat} (h1 : n ≤ r) (h2 : r + 2 ≤ m) : f (r + 2) (n + 2) - f (r + 1) (n + 1) ≤ f (r + 1) (n + 1) - f r n := by
  have a := conc_flat h h1 h2
  have b := conc_left h (r := r + 1) (n := n) (by omega) (by omega)
  rw [show r + 1 + 1 = r + 2 from rfl] at b
  omega
end
theorem eq_nil {xs : List PV} (h : Sto) (hx : plain 60 (.lst xs) = true) : oCmp .eq (.pv (.lst xs)) (.pv (.lst [])) h = .ok (.pv (.bl xs.isEmpty), h) := by
  have e : pvEq (.lst xs) (.lst []) = xs.isEmpty := by cases xs <;> simp [pvEq, pvEqs]
  simp only [oCmp, snap, eqOf, hx, e, show plain 60 (.lst []) = true from rfl, and_self, if_true, okB, okP]
theorem ne_strE (a b : Str) (h : Sto) : oCmp .ne (.pv (.str a)) (.pv (.str b)) h = .ok (.pv (.bl (!(a == b))), h) := by
  simp only [oCmp, snap, eqOf, Option.map_some, okB, okP]
theorem evB_par {c : Cn} {i j : Nat} {a b : IE} {ss : ISs} {e : MI.Env} {h h1 : Sto} {v w : MV} {r : RS} (hs : evEs c (.cons a (.cons b .nil)) e h = .ok ([v, w], h1)) (hr : evB c ss ((e.set i (some v)).set j (some w)) h1 = r) : evB c (.cons (.par i j a b) ss) e h = r := by
  rw [evB, evS, hs]
  exact hr
theorem es5 {c : Cn} {e : MI.Env} {h : Sto} {a b d f g : IE} {v w u z y : MV} {h1 h2 h3 h4 h5 : Sto} (ha : evE c a e h = .ok (v, h1)) (hb : evE c b e h1 = .ok (w, h2)) (hd : evE c d e h2 = .ok (u, h3)) (hf : evE c f e h3 = .ok (z, h4)) (hg : evE c g e h4 = .ok (y, h5)) : evEs c (.cons a (.cons b (.cons d (.cons f (.cons g .nil))))) e h = .ok ([v, w, u, z, y], h5) := by
  simp only [evEs, ha, hb, hd, hf, hg, seq1_ok, seqL_ok]
theorem lst_idx {xs : List PV} {r : Int} (h : Sto) (h0 : 0 ≤ r) (h1 : r < xs.length) : ∃ v, v ∈ xs ∧ oIdx (.pv (.lst xs)) (.pv (.int r)) h = .ok (.pv v, h) := by
  obtain ⟨n, rfl⟩ : ∃ n : Nat, r = n := ⟨r.toNat, by omega⟩
  have hn : n < xs.length := by omega
  refine ⟨xs[n], List.getElem_mem hn, ?_⟩
  simp only [oIdx, ixN_nat hn, List.getElem?_eq_getElem hn, okP]
theorem blt_list (rp : PV → Str) (xs : List PV) (h : Sto) : oBlt rp .list [.pv (.tup xs)] h = .ok (.pv (.lst xs), h) := by simp [oBlt, seqp, seqv, pures_map, okP]
theorem add_lst (xs ys : List PV) (h : Sto) (hl : xs.length + ys.length ≤ 1000) : oBin .add (.pv (.lst xs)) (.pv (.lst ys)) h = .ok (.pv (.lst (xs ++ ys)), h) := by
  simp only [oBin, snap, size_le hl, if_true, okP]
theorem sl_from1 {c : Cn} {a : IE} {e : MI.Env} {h h1 : Sto} {φ : Nat → PV} {n : Nat} (ha : evE c a e h = .ok (.pv (lm (List.range (n + 1)) φ), h1)) : evE c (.sl a (.so (.k (.int 1))) .no) e h = .ok (.pv (lm (List.range n) fun i => φ (i + 1)), h1) := by
  rw [evE, ha, seq1_ok]
  have e1 : ((List.range (n + 1)).map φ).drop 1 = (List.range n).map fun i => φ (i + 1) := by
    rw [List.range_succ_eq_map]; simp [Function.comp_def]
  have e2 : ((List.range n).map fun i => φ (i + 1)).take n = (List.range n).map fun i => φ (i + 1) := List.take_of_length_le (by simp)
  simp [evO, evE.eq_2, okP, seq1, oSl, optI, snapK, lm, cut, sIx, e1, e2]
end MI

namespace MI
open PySem L2
open Lean.Parser.Tactic in
local macro_rules | `(tactic| dsimp! [$ts,*]) => `(tactic| simp only [evB, evS_for, evE_comp, evT, evEs, evC, evO, evI, evE.eq_1, evE.eq_2, evE.eq_3, evE.eq_4, evE.eq_5, evE.eq_6, evE.eq_7, evE.eq_8, evE.eq_9, evE.eq_10, evE.eq_11, evE.eq_12, evE.eq_13, evE.eq_14, evE.eq_15, evE.eq_16, evE.eq_17, evE.eq_18, evE.eq_19, evE.eq_20, evE.eq_21, evE.eq_22, evE.eq_23, evE.eq_25, evE.eq_26, evE.eq_27, evE.eq_28, evE.eq_29, evE.eq_30, evS.eq_1, evS.eq_2, evS.eq_3, evS.eq_4, evS.eq_5, evS.eq_6, evS.eq_7, evS.eq_8, evS.eq_11, evS.eq_12, evS.eq_13, evS.eq_14, evS.eq_15, cn_C, cn_B, cn_rp, cn_f, cn_nx, cn_sub, cn_fuel, MI.start, List.map_cons, List.map_nil, List.length_cons, List.length_nil, List.replicate, List.cons_append, List.nil_append, List.append_nil, List.singleton_append, List.getElem?_cons_zero, List.getElem?_cons_succ, List.set_cons_zero, List.set_cons_succ, seq1_ok, seqL_ok, okP, Bool.false_eq_true, if_false, if_true, Bool.not_true, Bool.not_false, Nat.reduceSub, MI.close, take_all, $ts,*])
variable {P : Prg} [Bas P]
/-! ### texts -/
def ck (x : Str) : Prop := ∀ c ∈ x.cps.toList, c < 1114112
theorem ck_of (s : String) : ck (Str.ofString s) := by
  rw [Str.ofString_eq_toList]
  intro c hc
  have hc : c ∈ s.toList.map Char.toNat := by simpa using hc
  obtain ⟨d, _, rfl⟩ := List.mem_map.mp hc
  have hv := d.valid
  have e : d.toNat = d.val.toNat := rfl
  rw [e]
  rcases hv with hv | ⟨_, hv⟩ <;> (have := hv; simp only [UInt32.toNat] at *; omega)
theorem ck_app {a b : Str} (ha : ck a) (hb : ck b) : ck (a ++ b) := by
  intro c hc
  have e : (a ++ b).cps = a.cps ++ b.cps := rfl
  rw [e, Array.toList_append, List.mem_append] at hc
  exact hc.elim (ha c) (hb c)
theorem ck_join {sep : Str} (hs : ck sep) : ∀ ts : List Str, (∀ t ∈ ts, ck t) → ck (Str.join sep ts)
  | [], _ => fun c hc => by simp [Str.join, Str.empty] at hc
  | [x], h => h x (by simp)
  | x :: y :: r, h => ck_app (ck_app (h x (by simp)) hs) (ck_join hs (y :: r) fun t ht => h t (List.mem_cons_of_mem _ ht))
theorem ck_tt {ts : List Str} (h : ∀ t ∈ ts, ck t) : ck (tupleText ts) := by
  unfold tupleText
  exact ck_app (ck_app (ck_of "(") (ck_join (ck_of ", ") ts h)) (by split <;> exact ck_of _)
theorem ck_all {x : Str} (h : ck x) : (x.cps.all fun c => decide (c < 1114112)) = true := by
  rw [Array.all_eq_true_iff_forall_mem]
  intro c hc
  exact decide_eq_true (h c (by simpa using hc))
/-! ### data -/
mutual
def wt : PV → Nat
  | .int _ => 12004
  | .str x => 10 * x.length + 4
  | .tup xs => wts xs + 5
  | .lst xs => wts xs + 5
  | _ => 8
def wts : List PV → Nat
  | [] => 0
  | x :: xs => wt x + wts xs
end
mutual
def dp : PV → Nat
  | .tup xs => dps xs + 1
  | .lst xs => dps xs + 1
  | _ => 0
def dps : List PV → Nat
  | [] => 0
  | x :: xs => max (dp x) (dps xs)
end
mutual
/-- ints below 2^b, nothing wider than c, no error, only empty dicts -/
def okd (b c : Nat) : PV → Bool
  | .int i => decide (i.natAbs < 2 ^ b)
  | .str x => x.cps.all fun c => decide (c < 1114112)
  | .tup xs => decide (xs.length ≤ c) && okds b c xs
  | .lst xs => decide (xs.length ≤ c) && okds b c xs
  | .dic ks vs => ks.isEmpty && vs.isEmpty
  | .exc _ _ => false
  | _ => true
def okds (b c : Nat) : List PV → Bool
  | [] => true
  | x :: xs => okd b c x && okds b c xs
end
theorem okds_iff {b c : Nat} : ∀ {xs : List PV}, okds b c xs = true ↔ ∀ x ∈ xs, okd b c x = true
  | [] => by simp [okds]
  | x :: xs => by simp only [okds, Bool.and_eq_true, okds_iff (xs := xs), List.forall_mem_cons]
theorem dps_iff {d : Nat} : ∀ {xs : List PV}, dps xs ≤ d ↔ ∀ x ∈ xs, dp x ≤ d
  | [] => by simp [dps]
  | x :: xs => by
    simp only [dps, List.forall_mem_cons, ← dps_iff (xs := xs)]
    omega
theorem wts_app : ∀ xs ys : List PV, wts (xs ++ ys) = wts xs + wts ys
  | [], ys => by simp [wts]
  | x :: xs, ys => by simp only [List.cons_append, wts, wts_app xs ys]; omega
theorem wts_rev : ∀ xs : List PV, wts xs.reverse = wts xs
  | [] => rfl
  | x :: xs => by simp only [List.reverse_cons, wts_app, wts_rev xs, wts]; omega
theorem wts_td (n : Nat) (xs : List PV) : wts (xs.take n) + wts (xs.drop n) = wts xs := by
  rw [← wts_app, List.take_append_drop]
theorem wt_mem : ∀ {xs : List PV} {x : PV}, x ∈ xs → wt x ≤ wts xs
  | y :: xs, x, h => by
    simp only [wts]
    rcases List.mem_cons.mp h with rfl | h
    · omega
    · have := wt_mem h; omega
mutual
theorem okd_up {b c b' c' : Nat} (hb : b ≤ b') (hc : c ≤ c') : ∀ p : PV, okd b c p = true → okd b' c' p = true
  | .int i, h => by
    simp only [okd, decide_eq_true_eq] at h ⊢
    exact Nat.lt_of_lt_of_le h (Nat.pow_le_pow_right (by decide) hb)
  | .str x, h => h
  | .tup xs, h => by
    simp only [okd, Bool.and_eq_true, decide_eq_true_eq] at h ⊢
    exact ⟨by omega, okds_up hb hc xs h.2⟩
  | .lst xs, h => by
    simp only [okd, Bool.and_eq_true, decide_eq_true_eq] at h ⊢
    exact ⟨by omega, okds_up hb hc xs h.2⟩
  | .dic ks vs, h => h
  | .exc _ _, h => by simp [okd] at h
  | .non, _ => rfl
  | .bl _, _ => rfl
theorem okds_up {b c b' c' : Nat} (hb : b ≤ b') (hc : c ≤ c') : ∀ xs : List PV, okds b c xs = true → okds b' c' xs = true
  | [], _ => rfl
  | x :: xs, h => by
    simp only [okds, Bool.and_eq_true] at h ⊢
    exact ⟨okd_up hb hc x h.1, okds_up hb hc xs h.2⟩
end
mutual
theorem rlen_dat {b c : Nat} (hb : b < 12000) : ∀ (p : PV) (d : Nat), okd b c p = true → dp p ≤ d → ∃ n, rlen d p = some n ∧ n + 2 ≤ wt p
  | .non, d, _, _ => ⟨4, by cases d <;> rfl, by simp [wt]⟩
  | .bl _, d, _, _ => ⟨5, by cases d <;> rfl, by simp [wt]⟩
  | .int i, d, h, _ => by
    simp only [okd, decide_eq_true_eq] at h
    have hl : i.natAbs.log2 ≤ b := Bd.lg h
    have hl2 : i.natAbs.log2 < 12000 := by omega
    by_cases h1 : i.natAbs.log2 < 1920
    · exact ⟨1922, by cases d <;> simp [rlen, h1], by simp [wt]⟩
    · exact ⟨12002, by cases d <;> simp [rlen, h1, hl2], by simp [wt]⟩
  | .str x, d, h, _ => by
    simp only [okd] at h
    exact ⟨10 * x.length + 2, by cases d <;> simp only [rlen, h, if_true], by simp [wt]⟩
  | .dic ks vs, d, h, _ => by
    simp only [okd] at h
    exact ⟨2, by cases d <;> simp only [rlen, h, if_true], by simp [wt]⟩
  | .exc _ _, d, h, _ => by simp [okd] at h
  | .tup xs, d, h, hd => by
    simp only [okd, Bool.and_eq_true] at h
    simp only [dp] at hd
    cases d with
    | zero => omega
    | succ d =>
      obtain ⟨n, e, hn⟩ := rlens_dat hb xs d h.2 (by omega)
      exact ⟨n + 3, by simp only [rlen, e, Option.map_some], by simp only [wt]; omega⟩
  | .lst xs, d, h, hd => by
    simp only [okd, Bool.and_eq_true] at h
    simp only [dp] at hd
    cases d with
    | zero => omega
    | succ d =>
      obtain ⟨n, e, hn⟩ := rlens_dat hb xs d h.2 (by omega)
      exact ⟨n + 3, by simp only [rlen, e, Option.map_some], by simp only [wt]; omega⟩
theorem rlens_dat {b c : Nat} (hb : b < 12000) : ∀ (xs : List PV) (d : Nat), okds b c xs = true → dps xs ≤ d → ∃ n, rlens d xs = some n ∧ n ≤ wts xs
  | [], d, _, _ => ⟨0, rfl, by simp [wts]⟩
  | x :: xs, d, h, hd => by
    simp only [okds, Bool.and_eq_true] at h
    simp only [dps] at hd
    obtain ⟨n, e1, h1⟩ := rlen_dat hb x d h.1 (by omega)
    obtain ⟨m, e2, h2⟩ := rlens_dat hb xs d h.2 (by omega)
    exact ⟨n + m + 2, by simp only [rlens, e1, e2], by simp only [wts]; omega⟩
end
structure Dat (b c d w : Nat) (p : PV) : Prop where
  ok : okd b c p = true
  dp : dp p ≤ d
  wt : wt p ≤ w
theorem Dat.up {b c d w b' c' d' w' : Nat} {p : PV} (h : Dat b c d w p) (h1 : b ≤ b') (h2 : c ≤ c') (h3 : d ≤ d') (h4 : w ≤ w') : Dat b' c' d' w' p :=
  ⟨okd_up h1 h2 p h.ok, Nat.le_trans h.dp h3, Nat.le_trans h.wt h4⟩
theorem Dat.rl {b c d w : Nat} {p : PV} (h : Dat b c d w p) (hb : b < 12000) (hd : d ≤ 60) : RL 60 p w := by
  obtain ⟨n, e, hn⟩ := rlen_dat hb p 60 h.ok (Nat.le_trans h.dp hd)
  exact ⟨n, e, by have := h.wt; omega⟩
theorem Dat.tup {b c d w : Nat} {xs : List PV} (hl : xs.length ≤ c) (h : ∀ x ∈ xs, okd b c x = true ∧ MI.dp x ≤ d) (hw : wts xs + 5 ≤ w) : Dat b c (d + 1) w (.tup xs) :=
  ⟨by simp only [okd, Bool.and_eq_true, decide_eq_true_eq]; exact ⟨hl, okds_iff.mpr fun x hx => (h x hx).1⟩, by simp only [MI.dp]; exact Nat.succ_le_succ (dps_iff.mpr fun x hx => (h x hx).2), by simp only [MI.wt]; exact hw⟩
theorem Dat.lst {b c d w : Nat} {xs : List PV} (hl : xs.length ≤ c) (h : ∀ x ∈ xs, okd b c x = true ∧ MI.dp x ≤ d) (hw : wts xs + 5 ≤ w) : Dat b c (d + 1) w (.lst xs) :=
  ⟨by simp only [okd, Bool.and_eq_true, decide_eq_true_eq]; exact ⟨hl, okds_iff.mpr fun x hx => (h x hx).1⟩, by simp only [MI.dp]; exact Nat.succ_le_succ (dps_iff.mpr fun x hx => (h x hx).2), by simp only [MI.wt]; exact hw⟩
theorem Dat.of_tup {b c d w : Nat} {xs : List PV} (h : Dat b c d w (.tup xs)) : xs.length ≤ c ∧ (∀ x ∈ xs, okd b c x = true ∧ MI.dp x + 1 ≤ d) ∧ wts xs + 5 ≤ w := by
  have h1 := h.ok
  have h2 := h.dp
  have h3 := h.wt
  simp only [okd, Bool.and_eq_true, decide_eq_true_eq] at h1
  simp only [MI.dp] at h2
  simp only [MI.wt] at h3
  refine ⟨h1.1, fun x hx => ⟨okds_iff.mp h1.2 x hx, ?_⟩, h3⟩
  have := dps_iff.mp (Nat.le_refl (dps xs)) x hx
  omega
theorem Dat.int {b c d w : Nat} {i : Int} (h : Bd b i) (hw : 12004 ≤ w) : Dat b c d w (.int i) := ⟨by simp only [okd]; exact decide_eq_true h, by simp [MI.dp], by simpa [MI.wt] using hw⟩
theorem Dat.bl {b c d w : Nat} {i : Bool} (hw : 8 ≤ w) : Dat b c d w (.bl i) := ⟨rfl, by simp [MI.dp], by simpa [MI.wt] using hw⟩
theorem Dat.non {b c d w : Nat} (hw : 8 ≤ w) : Dat b c d w .non := ⟨rfl, by simp [MI.dp], by simpa [MI.wt] using hw⟩
theorem Dat.dic {b c d w : Nat} (hw : 8 ≤ w) : Dat b c d w (.dic [] []) := ⟨rfl, by simp [MI.dp], by simpa [MI.wt] using hw⟩
theorem Dat.str {b c d w : Nat} {x : Str} (h : ck x) (hw : 10 * x.length + 4 ≤ w) : Dat b c d w (.str x) := ⟨by simp only [okd]; exact ck_all h, by simp [MI.dp], by simpa [MI.wt] using hw⟩
/-! ### a thousand sevens -/
def sevT : Str := ⟨(List.replicate 1000 ("7" : Str).cps).foldl (· ++ ·) #[]⟩
theorem fold_rep {c : Nat} : ∀ (n : Nat) (b : List Nat), (List.replicate n #[c]).foldl (· ++ ·) b.toArray = (b ++ List.replicate n c).toArray
  | 0, b => by simp
  | n + 1, b => by
    rw [List.replicate_succ, List.foldl_cons, show b.toArray ++ #[c] = (b ++ [c]).toArray by simp, fold_rep n, List.replicate_succ]
    simp
theorem sev_eq : sevT.cps.toList = List.replicate 1000 55 := by
  have e : ("7" : Str).cps = #[55] := by decide +kernel
  have := fold_rep (c := 55) 1000 []
  unfold sevT
  rw [e, show (#[] : Array Nat) = ([] : List Nat).toArray from rfl, this, List.nil_append]
theorem sev_len : sevT.length = 1000 := by
  show sevT.cps.size = 1000
  rw [← Array.length_toList, sev_eq, List.length_replicate]
theorem sev_dig : isDig sevT = true := by
  unfold isDig
  rw [sev_eq, List.all_eq_true]
  intro c hc
  rw [List.eq_of_mem_replicate hc]
  rfl
theorem dig_le : ∀ (cs : List Nat) (a : Nat), (∀ c ∈ cs, c ≤ 57) → cs.foldl (fun acc c => acc * 10 + (c - 48)) a + 1 ≤ (a + 1) * 10 ^ cs.length
  | [], a, _ => by simp
  | c :: cs, a, h => by
    have hc := h c List.mem_cons_self
    have ih := dig_le cs (a * 10 + (c - 48)) fun d hd => h d (List.mem_cons_of_mem _ hd)
    rw [List.foldl_cons, List.length_cons, Nat.pow_succ]
    refine Nat.le_trans ih ?_
    rw [Nat.mul_comm (10 ^ cs.length) 10, ← Nat.mul_assoc]
    exact Nat.mul_le_mul_right _ (by omega)
theorem sev_bd : Bd 3400 ((digVal sevT : Nat) : Int) := by
  have h := dig_le (List.replicate 1000 55) 0 fun c hc => by rw [List.eq_of_mem_replicate hc]; decide
  unfold Bd digVal
  rw [sev_eq]
  rw [List.length_replicate, Nat.zero_add, Nat.one_mul] at h
  refine Nat.lt_of_lt_of_le (Nat.lt_of_succ_le h) ?_
  decide +kernel
theorem sev_mul (h : Sto) : oBin .mul (.pv (.str "7")) (.pv (.int 1000)) h = .ok (.pv (.str sevT), h) := by
  have l : ("7" : Str).length = 1 := by decide +kernel
  have c : (2 : Int) ≤ 1000 ∧ (1000 : Int) ≤ 1000 ∧ 0 < ("7" : Str).length ∧ ("7" : Str).length ≤ 1000 := by rw [l]; decide
  simp only [oBin, snap]
  rw [if_pos c]
  rfl
theorem sev_int (rp : PV → Str) (h : Sto) : oBlt rp .int [.pv (.str sevT)] h = .ok (.pv (.int ((digVal sevT : Nat) : Int)), h) := by
  have c : isDig sevT = true ∧ 0 < sevT.length ∧ sevT.length ≤ 4300 := ⟨sev_dig, by rw [sev_len]; decide, by rw [sev_len]; decide⟩
  simp only [oBlt]
  rw [if_pos c]
  rfl
/-! ### expressions -/
theorem es_c {c : Cn} {e : MI.Env} {h h1 h2 : Sto} {a : IE} {es : IEs} {v : MV} {vs : List MV} (ha : evE c a e h = .ok (v, h1)) (hb : evEs c es e h1 = .ok (vs, h2)) : evEs c (.cons a es) e h = .ok (v :: vs, h2) := by
  simp only [evEs, ha, hb, seq1_ok, seqL_ok]
def nex : PV → Bool
  | .exc _ _ => false
  | _ => true
theorem okd_nex {b c : Nat} {p : PV} (h : okd b c p = true) : nex p = true := by cases p <;> first | rfl | simp [okd] at h
def isInt : PV → Bool
  | .int _ => true
  | .bl _ => true
  | _ => false
def isBl : PV → Bool
  | .bl _ => true
  | _ => false
def isTup : PV → Bool
  | .tup _ => true
  | _ => false
def whl : PV → Bool
  | .int _ => true
  | _ => false
theorem ty_int {p : PV} (h : Sto) (n : nex p = true) : isTy .int (.pv p) h = .ok (.pv (.bl (isInt p)), h) := by cases p <;> first | rfl | cases n
theorem ty_bl {p : PV} (h : Sto) (n : nex p = true) : isTy .bool (.pv p) h = .ok (.pv (.bl (isBl p)), h) := by cases p <;> first | rfl | cases n
theorem ty_tup {p : PV} (h : Sto) (n : nex p = true) : isTy .tuple (.pv p) h = .ok (.pv (.bl (isTup p)), h) := by cases p <;> first | rfl | cases n
section
variable {c : Cn} {e : MI.Env} {h h1 h2 h3 : Sto} {a lo hi : IE}
theorem ev_isI {t : TyN} {x : MV} {r : RE} (ha : evE c a e h = .ok (x, h1)) (hr : isTy t x h1 = r) : evE c (.isI t a) e h = r := by
  rw [evE, ha, seq1_ok, hr]
theorem T_isI' {t : TyN} {x : MV} {b : Bool} (ha : evE c a e h = .ok (x, h1)) (hr : isTy t x h1 = .ok (.pv (.bl b), h1)) : evT c (.isI t a) e h = .ok (b, h1) := T_isI (ev_isI ha hr)
end
end MI

namespace MI
open PySem L2
open Lean.Parser.Tactic in
local macro_rules | `(tactic| dsimp! [$ts,*]) => `(tactic| simp only [evB, evS_for, evE_comp, evT, evEs, evC, evO, evI, evE.eq_1, evE.eq_2, evE.eq_3, evE.eq_4, evE.eq_5, evE.eq_6, evE.eq_7, evE.eq_8, evE.eq_9, evE.eq_10, evE.eq_11, evE.eq_12, evE.eq_13, evE.eq_14, evE.eq_15, evE.eq_16, evE.eq_17, evE.eq_18, evE.eq_19, evE.eq_20, evE.eq_21, evE.eq_22, evE.eq_23, evE.eq_25, evE.eq_26, evE.eq_27, evE.eq_28, evE.eq_29, evE.eq_30, evS.eq_1, evS.eq_2, evS.eq_3, evS.eq_4, evS.eq_5, evS.eq_6, evS.eq_7, evS.eq_8, evS.eq_11, evS.eq_12, evS.eq_13, evS.eq_14, evS.eq_15, cn_C, cn_B, cn_rp, cn_f, cn_nx, cn_sub, cn_fuel, MI.start, List.map_cons, List.map_nil, List.length_cons, List.length_nil, List.replicate, List.cons_append, List.nil_append, List.append_nil, List.singleton_append, List.getElem?_cons_zero, List.getElem?_cons_succ, List.set_cons_zero, List.set_cons_succ, seq1_ok, seqL_ok, okP, Bool.false_eq_true, if_false, if_true, Bool.not_true, Bool.not_false, Nat.reduceSub, MI.close, take_all, $ts,*])
variable {P : Prg} [Bas P]
/-! ### slices of tuples -/
theorem cut_to {α : Type} {xs : List α} {i : Nat} (hi : i ≤ xs.length) : cut xs none (some (i : Int)) = xs.take i := by
  have e : ¬ ((i : Int) < 0) := by omega
  simp only [cut, sIx, e, if_false, List.drop_zero, Int.toNat_natCast, Nat.sub_zero, Nat.min_eq_left hi]
theorem cut_from {α : Type} {xs : List α} {i : Nat} : cut xs (some (i : Int)) none = xs.drop i := by
  have e : ¬ ((i : Int) < 0) := by omega
  simp only [cut, sIx, e, if_false, Int.toNat_natCast]
  by_cases h : i ≤ xs.length
  · rw [Nat.min_eq_left h, List.take_of_length_le (by simp)]
  · rw [Nat.min_eq_right (by omega), List.drop_eq_nil_of_le (Nat.le_refl _), List.drop_eq_nil_of_le (by omega)]; simp
theorem cut_mid {α : Type} {xs : List α} {i j : Nat} (hi : i ≤ xs.length) : cut xs (some (i : Int)) (some (j : Int)) = (xs.drop i).take (j - i) := by
  have e : ¬ ((i : Int) < 0) := by omega
  have e' : ¬ ((j : Int) < 0) := by omega
  simp only [cut, sIx, e, e', if_false, Int.toNat_natCast, Nat.min_eq_left hi]
  by_cases h : j ≤ xs.length
  · rw [Nat.min_eq_left h]
  · rw [Nat.min_eq_right (by omega), List.take_of_length_le (by simp), List.take_of_length_le (by simp; omega)]
section
variable {c : Cn} {e : MI.Env} {h h1 h2 h3 : Sto} {a b t : IE} {xs ys : List PV}
theorem ev_sl_to {b : IE} {x : Int} (i : Nat) (hx : x = (i : Int)) (hi : i ≤ xs.length) (ha : evE c a e h = .ok (.pv (.tup xs), h1)) (hb : evE c b e h1 = .ok (.pv (.int x), h2)) : evE c (.sl a .no (.so b)) e h = .ok (.pv (.tup (xs.take i)), h2) := by
  subst hx
  rw [evE, ha, seq1_ok]
  simp only [evO, hb, seq1_ok, oSl, optI, snapK, cut_to hi, okP]
theorem ev_sl_from {b : IE} {x : Int} (i : Nat) (hx : x = (i : Int)) (ha : evE c a e h = .ok (.pv (.tup xs), h1)) (hb : evE c b e h1 = .ok (.pv (.int x), h2)) : evE c (.sl a (.so b) .no) e h = .ok (.pv (.tup (xs.drop i)), h2) := by
  subst hx
  rw [evE, ha, seq1_ok]
  simp only [evO, hb, seq1_ok, oSl, optI, snapK, cut_from, okP]
theorem ev_sl_mid {b d : IE} {x y : Int} (i j : Nat) (hx : x = (i : Int)) (hy : y = (j : Int)) (hi : i ≤ xs.length) (ha : evE c a e h = .ok (.pv (.tup xs), h1)) (hb : evE c b e h1 = .ok (.pv (.int x), h2)) (hd : evE c d e h2 = .ok (.pv (.int y), h3)) : evE c (.sl a (.so b) (.so d)) e h = .ok (.pv (.tup ((xs.drop i).take (j - i))), h3) := by
  subst hx hy
  rw [evE, ha, seq1_ok]
  simp only [evO, hb, hd, seq1_ok, oSl, optI, snapK, cut_mid hi, okP]
theorem ev_rev {a : IE} (ha : evE c a e h = .ok (.pv (.tup xs), h1)) : evE c (.rev a) e h = .ok (.pv (.tup xs.reverse), h1) := by
  rw [evE, ha, seq1_ok]
  simp only [oRev, snap, okP]
theorem add_tup (h : Sto) (hl : xs.length + ys.length ≤ 1000) : oBin .add (.pv (.tup xs)) (.pv (.tup ys)) h = .ok (.pv (.tup (xs ++ ys)), h) := by
  simp only [oBin, snap, size_le hl, if_true, okP]
theorem ev_addT {a b : IE} (ha : evE c a e h = .ok (.pv (.tup xs), h1)) (hb : evE c b e h1 = .ok (.pv (.tup ys), h2)) (hl : xs.length + ys.length ≤ 1000) : evE c (.bin .add a b) e h = .ok (.pv (.tup (xs ++ ys)), h2) := ev_bin ha hb (add_tup h2 hl)
theorem ev_mul2 {a : IE} (ha : evE c a e h = .ok (.pv (.tup xs), h1)) (hl : xs.length ≤ 1000) (hn : xs ≠ []) : evE c (.bin .mul a (.k (.int 2))) e h = .ok (.pv (.tup (xs ++ xs)), h1) := by
  refine ev_bin ha (ev_k _) ?_
  have z : xs.isEmpty = false := by cases xs <;> first | rfl | exact absurd rfl hn
  have q : (2 : Int) = 1 ∨ (2 : Int) ≤ 2 ∧ (2 : Int) ≤ 1000 ∧ xs.isEmpty = false ∧ xs.length ≤ 1000 := .inr ⟨by decide, by decide, z, hl⟩
  simp only [oBin, snap]
  rw [if_pos q]
  show okP _ _ = _
  simp [List.replicate, okP]
theorem ev_ite {t a b : IE} {z : Bool} {r : RE} (ht : evT c t e h = .ok (z, h1)) (hr : (if z = true then evE c a e h1 else evE c b e h1) = r) : evE c (.ite t a b) e h = r := by
  rw [evE, ht]
  cases z <;> exact hr
theorem ev_emp : evE c .emp e h = .ok (.pv (.dic [] []), h) := by rw [evE]; try rfl
theorem eq_emp (h : Sto) {b d : Nat} (hx : okd b d (.tup xs) = true) : oCmp .eq (.pv (.tup xs)) (.pv (.tup [])) h = .ok (.pv (.bl xs.isEmpty), h) := by
  simp only [oCmp, snap, eqOf]
  split
  · cases xs <;> rfl
  · rfl
end
section
variable [Fi P 9 f_law_mixed] [Fi P 11 f_law_draw] [Fi P 18 f_law_other] [Fi P 19 f_law_changed] [Fi P 20 f_law_nested]
theorem ty_ints {p : PV} (n : nex p = true) (hi : isInt p = true) : (∃ i, p = .int i) ∨ ∃ z, p = .bl z := by
  cases p <;> first | exact .inl ⟨_, rfl⟩ | exact .inr ⟨_, rfl⟩ | cases hi
theorem bd_add1 {b : Nat} {i : Int} (h : Bd b i) : Bd (b + 1) (i + 1) ∧ Bd (b + 1) (i - 1) ∧ Bd (b + 1) (0 - i) := by
  unfold Bd at *
  have p : 2 ^ (b + 1) = 2 ^ b * 2 := Nat.pow_succ ..
  have q : 0 < 2 ^ b := Nat.two_pow_pos b
  omega
theorem str_int {b c d w : Nat} {i : Int} (rp : PV → Str) (hrp : rp = rpOf) (h : Bd b i) (hb : b < 12000) (hw : 121000 ≤ w) (s : Sto) : ∃ x, oBlt rp .str [.pv (.int i)] s = .ok (.pv (.str x), s) ∧ Dat b c d w (.str x) := by
  have hl : i.natAbs.log2 < 12000 := by have := h.lg; omega
  refine ⟨rp (.int i), ?_, ?_⟩
  · simp only [oBlt, hl, if_true, okP]
  · subst hrp
    have e : rpOf (.int i) = Str.ofString (toString i) := by
      show (toD (.int i)).shown = _
      simp only [toD, PyData.shown]
    rw [e]
    exact .str (ck_of _) (by have := big_len hl; omega)
theorem str_bl {b c d w : Nat} {z : Bool} (rp : PV → Str) (hrp : rp = rpOf) (hw : 121000 ≤ w) (s : Sto) : ∃ x, oBlt rp .str [.pv (.bl z)] s = .ok (.pv (.str x), s) ∧ Dat b c d w (.str x) := by
  refine ⟨rp (.bl z), rfl, ?_⟩
  subst hrp
  have e : rpOf (.bl z) = Str.ofString (if z then "True" else "False") := by
    show (toD (.bl z)).shown = _
    simp only [toD, PyData.shown]
    cases z <;> rfl
  rw [e]
  refine .str (ck_of _) ?_
  have : (Str.ofString (if z then "True" else "False")).length ≤ 5 := by cases z <;> decide +kernel
  omega
theorem small_bd {b : Nat} (h : 3400 ≤ b) {i : Int} (h1 : -1000 ≤ i) (h2 : i ≤ 1000) : Bd (b + 1) i := (show Bd 10 i by unfold Bd; omega).up (by omega)
theorem c_other (k B : Nat) (sc : List Int) {cells great : List Int} {s : Int} {b c d w : Nat} (p : PV) (ext : Sto) (g : Good0 cells great s) (hs : s + 1 < 1000000) (D : Dat b c d w p) (hb : 3400 ≤ b) (hb2 : b ≤ 11000) (hc : 3 ≤ c) :
    ∃ q great', Good0 cells great' (s + 1) ∧ Dat (b + 1) c (d + 1) (w + 121000) q ∧ callI P (k + 3) 18 B [.loc 2, .pv p] (stS sc cells great s ext) = .ok (.pv q, stS sc cells great' (s + 1) ext) := by
  have hn := okd_nex D.ok
  have hrp : (cn P (k + 2) (stS sc cells great s ext).length).rp = rpOf := rfl
  let H := stS sc cells great s ext
  obtain ⟨r, g', r0, r1, gg, ed⟩ := c_dr (P := P) k H.length sc 17 ext g hs (by omega) (by omega)
  let S12 : List PV := [.non, .bl true, .bl false, .int (0 - 1), .str "", .tup [], .lst [], .dic [] [], .str "a", .int ((digVal sevT : Nat) : Int), .tup [p], .lst [p]]
  have k1 : evE (cn P (k + 2) H.length) (.lst (.cons (.k .non) (.cons (.k (.bl true)) (.cons (.k (.bl false)) (.cons (.bin .sub (.k (.int 0)) (.k (.int 1))) (.cons (.k (.str "")) (.cons (.tup .nil) (.cons (.lst .nil) (.cons .emp (.cons (.k (.str "a")) (.cons (.blt .int (.cons (.bin .mul (.k (.str "7")) (.k (.int 1000))) .nil)) (.cons (.tup (.cons (.var 1) .nil)) (.cons (.lst (.cons (.var 1) .nil)) .nil))))))))))))) [some (.loc 2), some (.pv p), none] H = .ok (.pv (.lst S12), H) := by
    refine ev_lst (ps := S12) ?_ (by simp [S12])
    exact es_c (ev_k _) (es_c (ev_k _) (es_c (ev_k _) (es_c (ev_bin (ev_k _) (ev_k _) (subE 0 1 H)) (es_c (ev_k _) (es_c (ev_tup (ps := []) es0 (by simp)) (es_c (ev_lst (ps := []) es0 (by simp)) (es_c ev_emp (es_c (ev_k _)
      (es_c (ev_blt (es1 (ev_bin (ev_k _) (ev_k _) (sev_mul H))) (sev_int _ H)) (es_c (ev_tup (ps := [p]) (es1 (ev_var 1 rfl)) (by simp)) (es_c (ev_lst (ps := [p]) (es1 (ev_var 1 rfl)) (by simp)) es0)))))))))))
  have d0 : okd (b + 1) c p = true ∧ dp p ≤ d := ⟨okd_up (by omega) (Nat.le_refl _) p D.ok, D.dp⟩
  have m12 : ∀ q ∈ S12, Dat (b + 1) c (d + 1) (w + 121000) q := by
    intro q hq
    simp only [S12, List.mem_cons, List.not_mem_nil, or_false] at hq
    have hw := D.wt
    rcases hq with rfl | rfl | rfl | rfl | rfl | rfl | rfl | rfl | rfl | rfl | rfl | rfl
    · exact .non (by omega)
    · exact .bl (by omega)
    · exact .bl (by omega)
    · exact .int (small_bd hb (by omega) (by omega)) (by omega)
    · exact .str (ck_of "") (by have : ("" : Str).length = 0 := by decide +kernel
                                omega)
    · exact .tup (by simp) (by simp) (by simp [wts])
    · exact .lst (by simp) (by simp) (by simp [wts])
    · exact .dic (by omega)
    · exact .str (ck_of "a") (by have : ("a" : Str).length = 1 := by decide +kernel
                                 omega)
    · exact .int (sev_bd.up (by omega)) (by omega)
    · exact .tup (by simp; omega) (by simpa using d0) (by simp [wts]; omega)
    · exact .lst (by simp; omega) (by simpa using d0) (by simp [wts]; omega)
  have fin : ∀ S5 : List PV, S5.length = 5 → (∀ q ∈ S5, Dat (b + 1) c (d + 1) (w + 121000) q) →
      evB (cn P (k + 2) H.length) (.cons (.iff (.isI .int (.var 1)) (.cons (.set 2 (.bin .add (.var 2) (.lst (.cons (.bin .add (.var 1) (.k (.int 1))) (.cons (.bin .sub (.var 1) (.k (.int 1))) (.cons (.bin .sub (.k (.int 0)) (.var 1)) (.cons (.cmp .eq (.var 1) (.k (.int 1))) (.cons (.blt .str (.cons (.var 1) .nil)) .nil)))))))) .nil) (.cons (.set 2 (.bin .add (.var 2) (.lst (.cons (.tup (.cons (.k (.int 0)) .nil)) (.cons (.tup (.cons (.k (.int 1)) (.cons (.k (.int 0)) .nil))) (.cons (.tup (.cons (.k (.int 0)) (.cons (.k (.int 0)) (.cons (.k (.int 0)) .nil)))) (.cons (.k (.int 5)) (.cons (.k (.str "flat")) .nil)))))))) .nil)) .nil) [some (.loc 2), some (.pv p), some (.pv (.lst S12))] H = some (.nx [some (.loc 2), some (.pv p), some (.pv (.lst (S12 ++ S5)))], H) →
      ∃ q great', Good0 cells great' (s + 1) ∧ Dat (b + 1) c (d + 1) (w + 121000) q ∧ callI P (k + 3) 18 B [.loc 2, .pv p] (stS sc cells great s ext) = .ok (.pv q, stS sc cells great' (s + 1) ext) := by
    intro S5 h5 m5 he
    obtain ⟨q, hq, ei⟩ := lst_idx (xs := S12 ++ S5) (stS sc cells g' (s + 1) ext) r0 (by simp [S12, h5]; omega)
    refine ⟨q, g', gg, ?_, ?_⟩
    · rcases List.mem_append.mp hq with hq | hq
      · exact m12 q hq
      · exact m5 q hq
    have := run_rt (B := B) (vs := [.loc 2, .pv p]) (F := f_law_other) (P := P) (k := k + 2) (j := 18) (h := H) (h1 := stS sc cells g' (s + 1) ext) (v := q) Fi.h rfl rfl (by
      show evB (cn P (k + 2) H.length) f_law_other.body [some (.loc 2), some (.pv p), none] H = _
      unfold f_law_other
      refine evB_set k1 ?_
      dsimp only [List.set_cons_succ, List.set_cons_zero]
      rw [evB] at he ⊢
      revert he
      generalize evS (cn P (k + 2) H.length) _ _ H = z
      intro he
      cases z with
      | none => cases he
      | some z =>
        obtain ⟨f, h'⟩ := z
        cases f <;> simp only [evB] at he <;> first | (cases he; done) | skip
        cases he
        exact evB_ret (ev_idx (ev_var 2 rfl) (ev_call (es2 (ev_var 0 rfl) (ev_k _)) ed) ei))
    rw [this, take_st]
  cases hi : isInt p with
  | false =>
    refine fin [.tup [.int 0], .tup [.int 1, .int 0], .tup [.int 0, .int 0, .int 0], .int 5, .str "flat"] rfl ?_ ?_
    · intro q hq
      have i0 : okd (b + 1) c (.int 0) = true ∧ dp (.int 0) ≤ d := by
        have : Dat (b + 1) c d 12004 (.int 0) := .int (small_bd hb (by omega) (by omega)) (by omega)
        exact ⟨this.ok, this.dp⟩
      have i1 : okd (b + 1) c (.int 1) = true ∧ dp (.int 1) ≤ d := by
        have : Dat (b + 1) c d 12004 (.int 1) := .int (small_bd hb (by omega) (by omega)) (by omega)
        exact ⟨this.ok, this.dp⟩
      simp only [List.mem_cons, List.not_mem_nil, or_false] at hq
      rcases hq with rfl | rfl | rfl | rfl | rfl
      · exact .tup (by simp; omega) (by simpa using i0) (by simp [wts, wt] <;> omega)
      · exact .tup (by simp; omega) (by simp only [List.forall_mem_cons]; exact ⟨i1, i0, by simp⟩) (by simp [wts, wt] <;> omega)
      · exact .tup (by simp; omega) (by simp only [List.forall_mem_cons]; exact ⟨i0, i0, i0, by simp⟩) (by simp [wts, wt] <;> omega)
      · exact .int (small_bd hb (by omega) (by omega)) (by omega)
      · exact .str (ck_of "flat") (by have : ("flat" : Str).length = 4 := by decide +kernel
                                      omega)
    · refine evB_iff (h1 := H) (T_isI' (ev_var 1 rfl) (by rw [← hi]; exact ty_int H hn)) ?_
      rw [evB_set (ev_bin (ev_var 2 rfl) (ev_lst (ps := [.tup [.int 0], .tup [.int 1, .int 0], .tup [.int 0, .int 0, .int 0], .int 5, .str "flat"]) (es_c (ev_tup (ps := [.int 0]) (es1 (ev_k _)) (by simp)) (es_c (ev_tup (ps := [.int 1, .int 0]) (es2 (ev_k _) (ev_k _)) (by simp)) (es_c (ev_tup (ps := [.int 0, .int 0, .int 0]) (es3 (ev_k _) (ev_k _) (ev_k _)) (by simp)) (es_c (ev_k _) (es_c (ev_k _) es0))))) (by simp)) (add_lst _ _ H (by simp [S12]))) evB_nil]
      simp only [evB]
      rfl
  | true =>
    rcases ty_ints hn hi with ⟨i, rfl⟩ | ⟨z, rfl⟩
    · have hbi : Bd b i := by have := D.ok; simp only [okd, decide_eq_true_eq] at this; exact this
      obtain ⟨x, ex, dx⟩ := str_int (b := b) (c := c) (d := d) (w := 121000) rpOf rfl hbi (by omega) (Nat.le_refl _) H
      obtain ⟨q1, q2, q3⟩ := bd_add1 hbi
      refine fin [.int (i + 1), .int (i - 1), .int (0 - i), .bl (i == 1), .str x] rfl ?_ ?_
      · intro q hq
        simp only [List.mem_cons, List.not_mem_nil, or_false] at hq
        rcases hq with rfl | rfl | rfl | rfl | rfl
        · exact .int q1 (by omega)
        · exact .int q2 (by omega)
        · exact .int q3 (by omega)
        · exact .bl (by omega)
        · exact dx.up (by omega) (Nat.le_refl _) (by omega) (by omega)
      · refine evB_ift (h1 := H) (T_isI' (ev_var 1 rfl) (ty_int H hn)) ?_
        rw [evB_set (ev_bin (ev_var 2 rfl) (ev_lst (ps := [.int (i + 1), .int (i - 1), .int (0 - i), .bl (i == 1), .str x]) (es_c (ev_bin (ev_var 1 rfl) (ev_k _) (addE i 1 H)) (es_c (ev_bin (ev_var 1 rfl) (ev_k _) (subE i 1 H)) (es_c (ev_bin (ev_k _) (ev_var 1 rfl) (subE 0 i H)) (es_c (ev_cmp (ev_var 1 rfl) (ev_k _) (eqI i 1 H)) (es_c (ev_blt (es1 (ev_var 1 rfl)) ex) es0))))) (by simp)) (add_lst _ _ H (by simp [S12]))) evB_nil]
        simp only [evB]
        rfl
    · obtain ⟨x, ex, dx⟩ := str_bl (b := b) (c := c) (d := d) (w := 121000) (z := z) rpOf rfl (Nat.le_refl _) H
      refine fin [.int ((if z = true then (1 : Int) else 0) + 1), .int ((if z = true then (1 : Int) else 0) - 1), .int (0 - if z = true then (1 : Int) else 0), .bl (pvEq (.bl z) (.int 1)), .str x] rfl ?_ ?_
      · intro q hq
        simp only [List.mem_cons, List.not_mem_nil, or_false] at hq
        rcases hq with rfl | rfl | rfl | rfl | rfl
        · exact .int (small_bd hb (by cases z <;> decide) (by cases z <;> decide)) (by omega)
        · exact .int (small_bd hb (by cases z <;> decide) (by cases z <;> decide)) (by omega)
        · exact .int (small_bd hb (by cases z <;> decide) (by cases z <;> decide)) (by omega)
        · exact .bl (by omega)
        · exact dx.up (by omega) (Nat.le_refl _) (by omega) (by omega)
      · refine evB_ift (h1 := H) (T_isI' (ev_var 1 rfl) (ty_int H hn)) ?_
        rw [evB_set (ev_bin (ev_var 2 rfl) (ev_lst (ps := [.int ((if z = true then (1 : Int) else 0) + 1), .int ((if z = true then (1 : Int) else 0) - 1), .int (0 - if z = true then (1 : Int) else 0), .bl (pvEq (.bl z) (.int 1)), .str x]) (es_c (ev_bin (ev_var 1 rfl) (ev_k _) rfl) (es_c (ev_bin (ev_var 1 rfl) (ev_k _) rfl) (es_c (ev_bin (ev_k _) (ev_var 1 rfl) rfl) (es_c (ev_cmp (ev_var 1 rfl) (ev_k _) rfl) (es_c (ev_blt (es1 (ev_var 1 rfl)) ex) es0))))) (by simp)) (add_lst _ _ H (by simp [S12]))) evB_nil]
        simp only [evB]
        rfl
end
end MI

namespace MI
open PySem L2
open Lean.Parser.Tactic in
local macro_rules | `(tactic| dsimp! [$ts,*]) => `(tactic| simp only [evB, evS_for, evE_comp, evT, evEs, evC, evO, evI, evE.eq_1, evE.eq_2, evE.eq_3, evE.eq_4, evE.eq_5, evE.eq_6, evE.eq_7, evE.eq_8, evE.eq_9, evE.eq_10, evE.eq_11, evE.eq_12, evE.eq_13, evE.eq_14, evE.eq_15, evE.eq_16, evE.eq_17, evE.eq_18, evE.eq_19, evE.eq_20, evE.eq_21, evE.eq_22, evE.eq_23, evE.eq_25, evE.eq_26, evE.eq_27, evE.eq_28, evE.eq_29, evE.eq_30, evS.eq_1, evS.eq_2, evS.eq_3, evS.eq_4, evS.eq_5, evS.eq_6, evS.eq_7, evS.eq_8, evS.eq_11, evS.eq_12, evS.eq_13, evS.eq_14, evS.eq_15, cn_C, cn_B, cn_rp, cn_f, cn_nx, cn_sub, cn_fuel, MI.start, List.map_cons, List.map_nil, List.length_cons, List.length_nil, List.replicate, List.cons_append, List.nil_append, List.append_nil, List.singleton_append, List.getElem?_cons_zero, List.getElem?_cons_succ, List.set_cons_zero, List.set_cons_succ, seq1_ok, seqL_ok, okP, Bool.false_eq_true, if_false, if_true, Bool.not_true, Bool.not_false, Nat.reduceSub, MI.close, take_all, $ts,*])
variable {P : Prg} [Bas P]
section
variable [Fi P 9 f_law_mixed] [Fi P 11 f_law_draw] [Fi P 18 f_law_other] [Fi P 19 f_law_changed] [Fi P 20 f_law_nested]
theorem wts_3 (n : Nat) (xs : List PV) : wts (xs.take n) + wts ((xs.drop n).take 1) + wts (xs.drop (n + 1)) = wts xs := by
  have h1 := wts_td n xs
  have h2 := wts_td 1 (xs.drop n)
  rw [List.drop_drop] at h2
  omega
theorem wts_4 (n : Nat) (xs : List PV) : wts (xs.take n) + wts ((xs.drop n).take 2) + wts (xs.drop (n + 2)) = wts xs := by
  have h1 := wts_td n xs
  have h2 := wts_td 2 (xs.drop n)
  rw [List.drop_drop] at h2
  omega
/-- a turn: the item's own change is known -/
theorem chg_step (sc : List Int) {cells : List Int} (ext : Sto) (k d B : Nat) {great : List Int} {s : Int} {b c w : Nat} (p : PV) (g : Good0 cells great s) (hs : s + 4 * ((d : Int) + 1) < 999990) (D : Dat b c d w p) (hb : 3400 ≤ b) (hb2 : b ≤ 11000) (hc : 3 ≤ c) (hc2 : c ≤ 400)
    (ih : ∀ (x : PV) (great : List Int) (t : Int), 1 ≤ d → Good0 cells great t → t ≤ s + 3 → dp x + 1 ≤ d → okd b c x = true → ∃ q great' s', t ≤ s' ∧ s' ≤ t + 4 * (d : Int) ∧ Good0 cells great' s' ∧ Dat (b + 1) (c + 1) d (2 * wt x + 121000) q ∧ callI P (k + 3) 19 (stS sc cells great t ext).length [.loc 2, .pv x] (stS sc cells great t ext) = .ok (.pv q, stS sc cells great' s' ext)) :
    ∃ q great' s', s ≤ s' ∧ s' ≤ s + 4 * ((d : Int) + 1) ∧ Good0 cells great' s' ∧ Dat (b + 1) (c + 1) (d + 1) (2 * w + 121000) q ∧ callI P (k + 4) 19 B [.loc 2, .pv p] (stS sc cells great s ext) = .ok (.pv q, stS sc cells great' s' ext) := by
  have hn := okd_nex D.ok
  let H := stS sc cells great s ext
  have hlen : ∀ g' s', (stS sc cells g' s' ext).length = H.length := fun _ _ => by rw [len_st, len_st]
  have fin : ∀ {q : PV} {g' : List Int} {s' : Int}, evB (cn P (k + 3) H.length) f_law_changed.body [some (.loc 2), some (.pv p), none, none, none, none] H = some (.rt (.pv q), stS sc cells g' s' ext) → callI P (k + 4) 19 B [.loc 2, .pv p] (stS sc cells great s ext) = .ok (.pv q, stS sc cells g' s' ext) := fun {q g' s'} he => by
    rw [run_rt (B := B) (vs := [.loc 2, .pv p]) (F := f_law_changed) (P := P) (k := k + 3) (j := 19) (h := H) (v := q) Fi.h rfl rfl he, take_st]
  -- the whole thing changes into another
  have oth : ∀ (g1 : List Int) (s1 : Int), Good0 cells g1 s1 → s ≤ s1 → s1 ≤ s + 1 → evT (cn P (k + 3) H.length) (.or (.not (.isI .tuple (.var 1))) (.or (.cmp .eq (.var 1) (.tup .nil)) (.cmp .eq (.call 11 (.cons (.var 0) (.cons (.k (.int 6)) .nil)) []) (.k (.int 0))))) [some (.loc 2), some (.pv p), none, none, none, none] H = .ok (true, stS sc cells g1 s1 ext) →
      ∃ q great' s', s ≤ s' ∧ s' ≤ s + 4 * ((d : Int) + 1) ∧ Good0 cells great' s' ∧ Dat (b + 1) (c + 1) (d + 1) (2 * w + 121000) q ∧ callI P (k + 4) 19 B [.loc 2, .pv p] (stS sc cells great s ext) = .ok (.pv q, stS sc cells great' s' ext) := by
    intro g1 s1 gg h0 h1 ht
    obtain ⟨q, g2, gg2, dq, eq⟩ := c_other (P := P) k H.length sc p ext gg (by omega) D hb hb2 hc
    refine ⟨q, g2, s1 + 1, by omega, by omega, gg2, dq.up (Nat.le_refl _) (by omega) (Nat.le_refl _) (by omega), fin ?_⟩
    unfold f_law_changed
    refine evB_ift ht ?_
    rw [evB_ret (ev_call (es2 (ev_var 0 rfl) (ev_var 1 rfl)) eq)]
  by_cases hT : isTup p = true
  case neg =>
    have hT : isTup p = false := by simpa using hT
    exact oth great s g (Int.le_refl _) (by omega) (T_or1 (T_not1 (T_isI' (ev_var 1 rfl) (by rw [← hT]; exact ty_tup H hn))))
  obtain ⟨xs, rfl⟩ : ∃ xs, p = .tup xs := by cases p <;> first | exact ⟨_, rfl⟩ | cases hT
  obtain ⟨hl, hx, hw⟩ := D.of_tup
  have tT : evT (cn P (k + 3) H.length) (.not (.isI .tuple (.var 1))) [some (.loc 2), some (.pv (.tup xs)), none, none, none, none] H = .ok (false, H) := T_not0 (T_isI' (ev_var 1 rfl) rfl)
  have eE := eq_emp H D.ok
  by_cases hxe : xs = []
  · refine oth great s g (Int.le_refl _) (by omega) (T_or0 tT (T_or1 (T_cmp (ev_cmp (ev_var 1 rfl) (ev_tup (ps := []) es0 (by simp)) ?_))))
    rw [eE, hxe]; try rfl
  have hne : xs.isEmpty = false := by cases xs <;> first | rfl | exact absurd rfl hxe
  rw [hne] at eE
  obtain ⟨r6, g1, r60, r61, gg1, ed1⟩ := c_dr (P := P) (k + 1) H.length sc 6 ext g (by omega) (by omega) (by omega)
  have tD : evT (cn P (k + 3) H.length) (.cmp .eq (.call 11 (.cons (.var 0) (.cons (.k (.int 6)) .nil)) []) (.k (.int 0))) [some (.loc 2), some (.pv (.tup xs)), none, none, none, none] H = .ok (r6 == 0, stS sc cells g1 (s + 1) ext) :=
    T_cmp (ev_cmp (ev_call (es2 (ev_var 0 rfl) (ev_k _)) ed1) (ev_k _) (eqI r6 0 _))
  have tE : evT (cn P (k + 3) H.length) (.cmp .eq (.var 1) (.tup .nil)) [some (.loc 2), some (.pv (.tup xs)), none, none, none, none] H = .ok (false, H) := T_cmp (ev_cmp (ev_var 1 rfl) (ev_tup (ps := []) es0 (by simp)) eE)
  cases h6 : r6 == 0 with
  | true =>
    rw [h6] at tD
    exact oth g1 (s + 1) gg1 (by omega) (by omega) (T_or0 tT (T_or0 tE tD))
  | false =>
  rw [h6] at tD
  have hpos : 0 < xs.length := List.length_pos_iff.mpr hxe
  have hd1 : 1 ≤ d := by
    obtain ⟨y, hy⟩ := List.exists_mem_of_length_pos hpos
    have := (hx y hy).2
    omega
  let H1 := stS sc cells g1 (s + 1) ext
  obtain ⟨at_, g2, a0, a1, gg2, ed2⟩ := c_dr (P := P) (k + 1) H.length sc (xs.length : Int) ext gg1 (by omega) (by omega) (by omega)
  obtain ⟨way, g3, w0, w1, gg3, ed3⟩ := c_dr (P := P) (k + 1) H.length sc 12 ext gg2 (by omega) (by omega) (by omega)
  obtain ⟨n, rfl⟩ : ∃ n : Nat, at_ = (n : Int) := ⟨at_.toNat, by omega⟩
  have hnl : n < xs.length := by omega
  let H3 := stS sc cells g3 (s + 1 + 1 + 1) ext
  have len : oBlt (cn P (k + 3) H.length).rp .len [.pv (.tup xs)] H1 = .ok (.pv (.int (xs.length : Int)), H1) := by simp [oBlt, seqv, okP]
  have es : evEs (cn P (k + 3) H.length) (.cons (.call 11 (.cons (.var 0) (.cons (.blt .len (.cons (.var 1) .nil)) .nil)) []) (.cons (.call 11 (.cons (.var 0) (.cons (.k (.int 12)) .nil)) []) .nil)) [some (.loc 2), some (.pv (.tup xs)), none, none, none, none] H1 = .ok ([iv n, iv way], H3) :=
    es2 (ev_call (es2 (ev_var 0 rfl) (ev_blt (es1 (ev_var 1 rfl)) len)) ed2) (ev_call (es2 (ev_var 0 rfl) (ev_k _)) ed3)
  have es' : evEs (cn P (k + 3) H.length) (.cons (.sl (.var 1) .no (.so (.var 2))) (.cons (.sl (.var 1) (.so (.bin .add (.var 2) (.k (.int 1)))) .no) .nil)) [some (.loc 2), some (.pv (.tup xs)), some (iv n), some (iv way), none, none] H3 = .ok ([.pv (.tup (xs.take n)), .pv (.tup (xs.drop (n + 1)))], H3) :=
    es2 (ev_sl_to n rfl (by omega) (ev_var 1 rfl) (ev_var 2 rfl)) (ev_sl_from (n + 1) (by simp) (ev_var 1 rfl) (ev_bin (ev_var 2 rfl) (ev_k _) (addE _ 1 H3)))
  have go : ∀ {r : RS}, evB (cn P (k + 3) H.length) (.cons (.iff (.cmp .lt (.var 3) (.k (.int 3))) (.cons (.ret (.idx (.lst (.cons (.bin .add (.var 4) (.var 5)) (.cons (.bin .add (.bin .add (.var 4) (.bin .mul (.sl (.var 1) (.so (.var 2)) (.so (.bin .add (.var 2) (.k (.int 1))))) (.k (.int 2)))) (.var 5)) (.cons (.blt .list (.cons (.var 1) .nil)) .nil)))) (.var 3))) .nil) .nil) (.cons (.iff (.cmp .eq (.var 3) (.k (.int 3))) (.cons (.ret (.bin .add (.bin .add (.var 4) (.rev (.sl (.var 1) (.so (.var 2)) (.so (.bin .add (.var 2) (.k (.int 2))))))) (.sl (.var 1) (.so (.bin .add (.var 2) (.k (.int 2)))) .no))) .nil) .nil) (.cons (.ret (.bin .add (.bin .add (.var 4) (.tup (.cons (.call 19 (.cons (.var 0) (.cons (.idx (.var 1) (.var 2)) .nil)) []) .nil))) (.var 5))) .nil))) [some (.loc 2), some (.pv (.tup xs)), some (iv n), some (iv way), some (.pv (.tup (xs.take n))), some (.pv (.tup (xs.drop (n + 1))))] H3 = r →
      evB (cn P (k + 3) H.length) f_law_changed.body [some (.loc 2), some (.pv (.tup xs)), none, none, none, none] H = r := fun {r} hr => by
    unfold f_law_changed
    exact evB_if0 (T_or0 tT (T_or0 tE tD)) (evB_par es (evB_par es' hr))
  have mt : ∀ x ∈ xs.take n, x ∈ xs := fun x h => List.mem_of_mem_take h
  have md : ∀ (m : Nat), ∀ x ∈ xs.drop m, x ∈ xs := fun m x h => List.mem_of_mem_drop h
  have mdt : ∀ (m j : Nat), ∀ x ∈ (xs.drop m).take j, x ∈ xs := fun m j x h => md m x (List.mem_of_mem_take h)
  have hx' : ∀ x ∈ xs, okd (b + 1) (c + 1) x = true ∧ dp x ≤ d := fun x h => ⟨okd_up (by omega) (by omega) x (hx x h).1, by have := (hx x h).2; omega⟩
  have w3 := wts_3 n xs
  have w4 := wts_4 n xs
  have l1 : (xs.take n).length = n := by rw [List.length_take]; omega
  have l2 : (xs.drop (n + 1)).length = xs.length - (n + 1) := List.length_drop
  have l2' : (xs.drop (n + 2)).length = xs.length - (n + 2) := List.length_drop
  have l3 : ((xs.drop n).take 1).length = 1 := by rw [List.length_take, List.length_drop]; omega
  have l4 : ((xs.drop n).take 2).length ≤ 2 := by rw [List.length_take]; omega
  have l4' : ((xs.drop n).take 2).length ≤ xs.length - n := by rw [List.length_take, List.length_drop]; omega
  have e1 : n + 1 - n = 1 := by omega
  have e2 : n + 2 - n = 2 := by omega
  have b3 : s ≤ s + 1 + 1 + 1 ∧ s + 1 + 1 + 1 ≤ s + 4 * ((d : Int) + 1) := by omega
  have mid1 : evE (cn P (k + 3) H.length) (.sl (.var 1) (.so (.var 2)) (.so (.bin .add (.var 2) (.k (.int 1))))) [some (.loc 2), some (.pv (.tup xs)), some (iv n), some (iv way), some (.pv (.tup (xs.take n))), some (.pv (.tup (xs.drop (n + 1))))] H3 = .ok (.pv (.tup ((xs.drop n).take 1)), H3) := by
    have := ev_sl_mid (c := cn P (k + 3) H.length) (e := [some (.loc 2), some (.pv (.tup xs)), some (iv n), some (iv way), some (.pv (.tup (xs.take n))), some (.pv (.tup (xs.drop (n + 1))))]) (h := H3) (h1 := H3) (h2 := H3) (h3 := H3) (x := n) (y := (n : Int) + 1) n (n + 1) rfl (by simp) (by omega) (ev_var 1 rfl) (ev_var 2 rfl) (ev_bin (ev_var 2 rfl) (ev_k _) (addE _ 1 H3))
    rwa [e1] at this
  have mid2 : evE (cn P (k + 3) H.length) (.sl (.var 1) (.so (.var 2)) (.so (.bin .add (.var 2) (.k (.int 2))))) [some (.loc 2), some (.pv (.tup xs)), some (iv n), some (iv way), some (.pv (.tup (xs.take n))), some (.pv (.tup (xs.drop (n + 1))))] H3 = .ok (.pv (.tup ((xs.drop n).take 2)), H3) := by
    have := ev_sl_mid (c := cn P (k + 3) H.length) (e := [some (.loc 2), some (.pv (.tup xs)), some (iv n), some (iv way), some (.pv (.tup (xs.take n))), some (.pv (.tup (xs.drop (n + 1))))]) (h := H3) (h1 := H3) (h2 := H3) (h3 := H3) (x := n) (y := (n : Int) + 2) n (n + 2) rfl (by simp) (by omega) (ev_var 1 rfl) (ev_var 2 rfl) (ev_bin (ev_var 2 rfl) (ev_k _) (addE _ 2 H3))
    rwa [e2] at this
  by_cases hw3 : way < 3
  · have k3 : evE (cn P (k + 3) H.length) (.lst (.cons (.bin .add (.var 4) (.var 5)) (.cons (.bin .add (.bin .add (.var 4) (.bin .mul (.sl (.var 1) (.so (.var 2)) (.so (.bin .add (.var 2) (.k (.int 1))))) (.k (.int 2)))) (.var 5)) (.cons (.blt .list (.cons (.var 1) .nil)) .nil)))) [some (.loc 2), some (.pv (.tup xs)), some (iv n), some (iv way), some (.pv (.tup (xs.take n))), some (.pv (.tup (xs.drop (n + 1))))] H3 = .ok (.pv (.lst [.tup (xs.take n ++ xs.drop (n + 1)), .tup (xs.take n ++ ((xs.drop n).take 1 ++ (xs.drop n).take 1) ++ xs.drop (n + 1)), .lst xs]), H3) := by
      refine ev_lst (ps := [.tup (xs.take n ++ xs.drop (n + 1)), .tup (xs.take n ++ ((xs.drop n).take 1 ++ (xs.drop n).take 1) ++ xs.drop (n + 1)), .lst xs]) (es3 (ev_addT (ev_var 4 rfl) (ev_var 5 rfl) (by omega)) (ev_addT (ev_addT (ev_var 4 rfl) (ev_mul2 mid1 (by omega) (fun z => by rw [z] at l3; simp at l3)) (by simp only [List.length_append]; omega)) (ev_var 5 rfl) (by simp only [List.length_append]; omega)) (ev_blt (es1 (ev_var 1 rfl)) (blt_list _ xs H3))) (by simp)
    obtain ⟨q, hq, ei⟩ := lst_idx (xs := [.tup (xs.take n ++ xs.drop (n + 1)), .tup (xs.take n ++ ((xs.drop n).take 1 ++ (xs.drop n).take 1) ++ xs.drop (n + 1)), .lst xs]) H3 w0 (by simpa using hw3)
    refine ⟨q, g3, _, b3.1, b3.2, gg3, ?_, fin (go ?_)⟩
    · simp only [List.mem_cons, List.not_mem_nil, or_false] at hq
      rcases hq with rfl | rfl | rfl
      · refine .tup (by simp only [List.length_append]; omega) (fun x h => ?_) (by rw [wts_app]; omega)
        rcases List.mem_append.mp h with h | h
        · exact hx' x (mt x h)
        · exact hx' x (md _ x h)
      · refine .tup (by simp only [List.length_append]; omega) (fun x h => ?_) (by simp only [wts_app]; omega)
        simp only [List.mem_append] at h
        rcases h with (h | h | h) | h
        · exact hx' x (mt x h)
        · exact hx' x (mdt _ _ x h)
        · exact hx' x (mdt _ _ x h)
        · exact hx' x (md _ x h)
      · exact .lst (by omega) hx' (by omega)
    · refine evB_ift (h1 := H3) (T_cmp (ev_cmp (ev_var 3 rfl) (ev_k _) (by rw [ltI way 3, decide_eq_true hw3]))) ?_
      rw [evB_ret (ev_idx k3 (ev_var 3 rfl) ei)]
  · have t3 : ∀ {ss : ISs} {a : ISs} {r : RS}, evB (cn P (k + 3) H.length) ss [some (.loc 2), some (.pv (.tup xs)), some (iv n), some (iv way), some (.pv (.tup (xs.take n))), some (.pv (.tup (xs.drop (n + 1))))] H3 = r → evB (cn P (k + 3) H.length) (.cons (.iff (.cmp .lt (.var 3) (.k (.int 3))) a .nil) ss) [some (.loc 2), some (.pv (.tup xs)), some (iv n), some (iv way), some (.pv (.tup (xs.take n))), some (.pv (.tup (xs.drop (n + 1))))] H3 = r := fun {ss a r} hr =>
      evB_if0 (h1 := H3) (T_cmp (ev_cmp (ev_var 3 rfl) (ev_k _) (by rw [ltI way 3, decide_eq_false hw3]))) hr
    by_cases hw4 : way = 3
    · refine ⟨.tup (xs.take n ++ ((xs.drop n).take 2).reverse ++ xs.drop (n + 2)), g3, _, b3.1, b3.2, gg3, ?_, fin (go (t3 ?_))⟩
      · refine .tup (by simp only [List.length_append, List.length_reverse]; omega) (fun x h => ?_) (by simp only [wts_app, wts_rev]; omega)
        simp only [List.mem_append, List.mem_reverse] at h
        rcases h with (h | h) | h
        · exact hx' x (mt x h)
        · exact hx' x (mdt _ _ x h)
        · exact hx' x (md _ x h)
      · refine evB_ift (h1 := H3) (T_cmp (ev_cmp (ev_var 3 rfl) (ev_k _) (by rw [eqI way 3, hw4]; try rfl))) ?_
        rw [evB_ret (ev_addT (ev_addT (ev_var 4 rfl) (ev_rev mid2) (by simp only [List.length_reverse]; omega)) (ev_sl_from (n + 2) (by simp) (ev_var 1 rfl) (ev_bin (ev_var 2 rfl) (ev_k _) (addE _ 2 H3))) (by simp only [List.length_append, List.length_reverse]; omega))]
    · have e4 : (way == 3) = false := by simpa using hw4
      have hxn : xs[n]? = some (xs[n]'hnl) := List.getElem?_eq_getElem _
      have hm : xs[n]'hnl ∈ xs := List.getElem_mem _
      obtain ⟨q, g4, s4, h1, h2, gg4, dq, eq⟩ := ih (xs[n]'hnl) g3 (s + 1 + 1 + 1) hd1 gg3 (by omega) (hx _ hm).2 (hx _ hm).1
      have e3 : (xs.drop n).take 1 = [xs[n]'hnl] := by
        rw [List.drop_eq_getElem_cons hnl]; try rfl
      rw [e3] at w3
      simp only [wts] at w3
      rw [hlen] at eq
      refine ⟨.tup (xs.take n ++ [q] ++ xs.drop (n + 1)), g4, s4, by omega, by omega, gg4, ?_, fin (go (t3 ?_))⟩
      · have hwq := dq.wt
        refine .tup (by simp only [List.length_append, List.length_singleton]; omega) (fun x h => ?_) (by simp only [wts_app, wts]; omega)
        simp only [List.mem_append, List.mem_singleton] at h
        rcases h with (h | h) | h
        · exact hx' x (mt x h)
        · subst h
          exact ⟨dq.ok, dq.dp⟩
        · exact hx' x (md _ x h)
      · refine evB_if0 (h1 := H3) (T_cmp (ev_cmp (ev_var 3 rfl) (ev_k _) (by rw [eqI way 3, e4]))) ?_
        exact evB_ret (ev_addT (ev_addT (ev_var 4 rfl) (ev_tup (ps := [q]) (es1 (ev_call (es2 (ev_var 0 rfl) (ev_idx (ev_var 1 rfl) (ev_var 2 rfl) (idx_tupP H3 hxn))) eq)) (by simp)) (by simp only [List.length_singleton]; omega)) (ev_var 5 rfl) (by simp only [List.length_append, List.length_singleton]; omega))
theorem c_changed (sc : List Int) {cells : List Int} (ext : Sto) : ∀ (d k B : Nat) {great : List Int} {s : Int} {b c w : Nat} (p : PV), Good0 cells great s → s + 4 * ((d : Int) + 1) < 999990 → Dat b c d w p → 3400 ≤ b → b ≤ 11000 → 3 ≤ c → c ≤ 400 →
    ∃ q great' s', s ≤ s' ∧ s' ≤ s + 4 * ((d : Int) + 1) ∧ Good0 cells great' s' ∧ Dat (b + 1) (c + 1) (d + 1) (2 * w + 121000) q ∧ callI P (k + d + 4) 19 B [.loc 2, .pv p] (stS sc cells great s ext) = .ok (.pv q, stS sc cells great' s' ext)
  | 0, k, B, great, s, b, c, w, p, g, hs, D, hb, hb2, hc, hc2 => chg_step sc ext k 0 B p g hs D hb hb2 hc hc2 fun _ _ _ h => absurd h (by omega)
  | d + 1, k, B, great, s, b, c, w, p, g, hs, D, hb, hb2, hc, hc2 => chg_step sc ext (k + (d + 1)) (d + 1) B p g hs D hb hb2 hc hc2 fun x gr t _ gg ht hd ho => by
      obtain ⟨q, g', s', h1, h2, h3, h4, h5⟩ := c_changed sc ext d k (stS sc cells gr t ext).length x gg (by omega) (w := wt x) ⟨ho, by omega, Nat.le_refl _⟩ hb hb2 hc hc2
      exact ⟨q, g', s', h1, by omega, h3, h4, h5⟩
/-! ### nested -/
def nst (w : Nat) : Nat → PV
  | 0 => .tup []
  | n + 1 => if w = 0 then .tup [nst w n, nst w n] else .lst [nst w n, nst w n]
theorem nst_nex (w n : Nat) : nex (nst w n) = true := by
  cases n with
  | zero => rfl
  | succ n => unfold nst; split <;> rfl
theorem c_nested (k B w : Nat) (h : Sto) (hw : w < 2) : callI P (k + 1) 20 B [iv w] h = .ok (.pv (nst w 60), h) := by
  obtain ⟨e', h', q, i⟩ := loop_ind (f := forF (cn P k h.length) (.nm 2) f_law_nested_b0) ((List.range 60).map fun (i : Nat) => .one (iv i)) (fun n e h' => h' = h ∧ ∃ o, e = ([some (iv w), some (.pv (nst w n)), o] : MI.Env)) 0 [some (iv w), some (.pv (.tup [])), none] h (fun i x e h2 hx hi => by
    obtain ⟨rfl, o, rfl⟩ := hi
    rw [List.getElem?_map] at hx
    have hi : i < 60 := by
      by_cases z : i < 60
      · exact z
      · rw [List.getElem?_eq_none (by simpa using z)] at hx; cases hx
    rw [List.getElem?_range hi] at hx
    cases hx
    refine ⟨[some (iv w), some (.pv (nst w (0 + i + 1))), some (iv i)], h2, .inl ?_, rfl, _, rfl⟩
    unfold forF
    dsimp only [give, List.set_cons_succ, List.set_cons_zero]
    unfold f_law_nested_b0
    refine evB_set (v := .pv (nst w (0 + i + 1))) (h1 := h2) (ev_idx (ev_lst (ps := [.tup [nst w (0 + i), nst w (0 + i)], .lst [nst w (0 + i), nst w (0 + i)]]) (es2 (ev_tup (ps := [nst w (0 + i), nst w (0 + i)]) (es2 (ev_var 1 rfl) (ev_var 1 rfl)) (by simp)) (ev_lst (ps := [nst w (0 + i), nst w (0 + i)]) (es2 (ev_var 1 rfl) (ev_var 1 rfl)) (by simp))) (by simp)) (ev_var 0 rfl) ?_) evB_nil
    rcases (show w = 0 ∨ w = 1 by omega) with rfl | rfl <;> rfl) ⟨rfl, _, rfl⟩
  obtain ⟨rfl, o, rfl⟩ := i
  have l60 : 0 + ((List.range 60).map fun (i : Nat) => Item.one (iv i)).length = 60 := by simp
  rw [l60] at q
  refine run_rt' (F := f_law_nested) Fi.h rfl rfl ?_
  show evB (cn P k h'.length) f_law_nested.body [some (iv w), none, none] h' = _
  unfold f_law_nested
  refine evB_set (ev_tup (ps := []) es0 (by simp)) ?_
  exact evB_for (it_rng 60 rfl (by omega) (ev_k _)) q (evB_ret (ev_var 1 rfl))
end
end MI

namespace K01
open PySem MI L2
def fns : Nat → Option Fn := fun j => if j = 0 then some f_is_integer else if j = 74 then some f_check_descending else if j = 75 then some f_check_partition_v2 else if j = 76 then some f_is_partition_v2 else if j = 9 then some f_law_mixed else if j = 10 then some f_law_folded else if j = 11 then some f_law_draw else if j = 12 then some f_law_begun else if j = 13 then some f_law_part else if j = 18 then some f_law_other else if j = 19 then some f_law_changed else if j = 20 then some f_law_nested else if j = 21 then some f_law_is_whole else if j = 22 then some f_law_expected else if j = 91 then some f_law_position_v2 else if j = 92 then some f_law_checked_v3 else if j = 93 then some f_law_nested_checked_v3 else if j = 94 then some f_law_v9 else none
def consts : Str → Option PV := fun x => if x = ("MAX_SIZE" : Str) then some (.int 6) else none
def bl : List Str := ["len", "tuple", "list", "repr", "min", "max", "range", "enumerate", "zip", "isinstance", "int", "bool", "str", "sum", "abs", "all", "any"]
def binds : List (Nat × List PV) := [(0, []), (9, []), (10, []), (11, []), (12, []), (13, []), (18, []), (19, []), (20, []), (21, []), (22, []), (74, []), (75, []), (76, []), (91, []), (92, []), (93, [])]
def kbs : List (Nat × Nat × List Str × List Nat) := [(0, 0, ["value"], [0]), (75, 0, ["value"], [0]), (76, 0, ["value"], [0])]
def excs : Nat → Option Str := fun c => if c = 0 then some "InvalidPartition" else none
def nx : Nat → Bool := fun c => c == 0
def prg : Prg := { fns := fns, rp := rpOf, fields := fields, fuel := 100000, nx := nx, sub := fun a b => a == b }
def mkT (P : Program) (w : World) (mg : Str → Option Value) (base : Heap) (K : PySem.W.Frag) (cA : Nat → Addr) : Tb := ⟨P, w, mg, base, ⟨K, cA, fields⟩, prg, consts, bl, binds, kbs, excs⟩
abbrev topS (i : Nat) : Stmt := PySem.Challenge.pw_threerims_k01_integers_and_partitions.main.body.getD i (.Pass ⟨0,0,0,0⟩)
instance : Bas prg := ⟨rfl, rfl, rfl, rfl⟩
instance : Fi prg 0 f_is_integer := ⟨rfl⟩
instance : Fi prg 74 f_check_descending := ⟨rfl⟩
instance : Fi prg 75 f_check_partition_v2 := ⟨rfl⟩
instance : Fi prg 76 f_is_partition_v2 := ⟨rfl⟩
instance : Fi prg 9 f_law_mixed := ⟨rfl⟩
instance : Fi prg 10 f_law_folded := ⟨rfl⟩
instance : Fi prg 11 f_law_draw := ⟨rfl⟩
instance : Fi prg 12 f_law_begun := ⟨rfl⟩
instance : Fi prg 13 f_law_part := ⟨rfl⟩
instance : Fi prg 18 f_law_other := ⟨rfl⟩
instance : Fi prg 19 f_law_changed := ⟨rfl⟩
instance : Fi prg 20 f_law_nested := ⟨rfl⟩
instance : Fi prg 21 f_law_is_whole := ⟨rfl⟩
instance : Fi prg 22 f_law_expected := ⟨rfl⟩
instance : Fi prg 91 f_law_position_v2 := ⟨rfl⟩
instance : Fi prg 92 f_law_checked_v3 := ⟨rfl⟩
instance : Fi prg 93 f_law_nested_checked_v3 := ⟨rfl⟩
instance : Fi prg 94 f_law_v9 := ⟨rfl⟩
instance : Nx prg 0 := ⟨rfl⟩
theorem chk_f_is_integer (P : Program) (w : World) (mg : Str → Option Value) (base : Heap) (K : PySem.W.Frag) (cA : Nat → Addr) : mB (mkT P w mg base K cA) ⟨f_is_integer.N, defScope (topS 5), fun _ => true⟩ f_is_integer.body (defBody (topS 5)) = true := by kernel_rfl
theorem sc_f_is_integer : L2.FnScope f_is_integer.N f_is_integer.ps (defScope (topS 5)) := C8.fnScope_by (by decide +kernel)
theorem chk_f_check_descending (P : Program) (w : World) (mg : Str → Option Value) (base : Heap) (K : PySem.W.Frag) (cA : Nat → Addr) : mB (mkT P w mg base K cA) ⟨f_check_descending.N, defScope (topS 6), fun _ => true⟩ f_check_descending.body (defBody (topS 6)) = true := by kernel_rfl
theorem sc_f_check_descending : L2.FnScope f_check_descending.N f_check_descending.ps (defScope (topS 6)) := C8.fnScope_by (by decide +kernel)
theorem chk_f_check_partition_v2 (P : Program) (w : World) (mg : Str → Option Value) (base : Heap) (K : PySem.W.Frag) (cA : Nat → Addr) : mB (mkT P w mg base K cA) ⟨f_check_partition_v2.N, defScope (topS 7), fun _ => true⟩ f_check_partition_v2.body (defBody (topS 7)) = true := by kernel_rfl
theorem sc_f_check_partition_v2 : L2.FnScope f_check_partition_v2.N f_check_partition_v2.ps (defScope (topS 7)) := C8.fnScope_by (by decide +kernel)
theorem chk_f_is_partition_v2 (P : Program) (w : World) (mg : Str → Option Value) (base : Heap) (K : PySem.W.Frag) (cA : Nat → Addr) : mB (mkT P w mg base K cA) ⟨f_is_partition_v2.N, defScope (topS 8), fun _ => true⟩ f_is_partition_v2.body (defBody (topS 8)) = true := by kernel_rfl
theorem sc_f_is_partition_v2 : L2.FnScope f_is_partition_v2.N f_is_partition_v2.ps (defScope (topS 8)) := C8.fnScope_by (by decide +kernel)
theorem chk_f_law_mixed (P : Program) (w : World) (mg : Str → Option Value) (base : Heap) (K : PySem.W.Frag) (cA : Nat → Addr) : mB (mkT P w mg base K cA) ⟨f_law_mixed.N, defScope (topS 10), fun _ => true⟩ f_law_mixed.body (defBody (topS 10)) = true := by kernel_rfl
theorem sc_f_law_mixed : L2.FnScope f_law_mixed.N f_law_mixed.ps (defScope (topS 10)) := C8.fnScope_by (by decide +kernel)
theorem chk_f_law_folded (P : Program) (w : World) (mg : Str → Option Value) (base : Heap) (K : PySem.W.Frag) (cA : Nat → Addr) : mB (mkT P w mg base K cA) ⟨f_law_folded.N, defScope (topS 11), fun _ => true⟩ f_law_folded.body (defBody (topS 11)) = true := by kernel_rfl
theorem sc_f_law_folded : L2.FnScope f_law_folded.N f_law_folded.ps (defScope (topS 11)) := C8.fnScope_by (by decide +kernel)
theorem chk_f_law_draw (P : Program) (w : World) (mg : Str → Option Value) (base : Heap) (K : PySem.W.Frag) (cA : Nat → Addr) : mB (mkT P w mg base K cA) ⟨f_law_draw.N, defScope (topS 12), fun _ => true⟩ f_law_draw.body (defBody (topS 12)) = true := by kernel_rfl
theorem sc_f_law_draw : L2.FnScope f_law_draw.N f_law_draw.ps (defScope (topS 12)) := C8.fnScope_by (by decide +kernel)
theorem chk_f_law_begun (P : Program) (w : World) (mg : Str → Option Value) (base : Heap) (K : PySem.W.Frag) (cA : Nat → Addr) : mB (mkT P w mg base K cA) ⟨f_law_begun.N, defScope (topS 13), fun _ => true⟩ f_law_begun.body (defBody (topS 13)) = true := by kernel_rfl
theorem sc_f_law_begun : L2.FnScope f_law_begun.N f_law_begun.ps (defScope (topS 13)) := C8.fnScope_by (by decide +kernel)
theorem chk_f_law_part (P : Program) (w : World) (mg : Str → Option Value) (base : Heap) (K : PySem.W.Frag) (cA : Nat → Addr) : mB (mkT P w mg base K cA) ⟨f_law_part.N, defScope (topS 14), fun _ => true⟩ f_law_part.body (defBody (topS 14)) = true := by kernel_rfl
theorem sc_f_law_part : L2.FnScope f_law_part.N f_law_part.ps (defScope (topS 14)) := C8.fnScope_by (by decide +kernel)
theorem chk_f_law_other (P : Program) (w : World) (mg : Str → Option Value) (base : Heap) (K : PySem.W.Frag) (cA : Nat → Addr) : mB (mkT P w mg base K cA) ⟨f_law_other.N, defScope (topS 15), fun _ => true⟩ f_law_other.body (defBody (topS 15)) = true := by kernel_rfl
theorem sc_f_law_other : L2.FnScope f_law_other.N f_law_other.ps (defScope (topS 15)) := C8.fnScope_by (by decide +kernel)
theorem chk_f_law_changed (P : Program) (w : World) (mg : Str → Option Value) (base : Heap) (K : PySem.W.Frag) (cA : Nat → Addr) : mB (mkT P w mg base K cA) ⟨f_law_changed.N, defScope (topS 16), fun _ => true⟩ f_law_changed.body (defBody (topS 16)) = true := by kernel_rfl
theorem sc_f_law_changed : L2.FnScope f_law_changed.N f_law_changed.ps (defScope (topS 16)) := C8.fnScope_by (by decide +kernel)
theorem chk_f_law_nested (P : Program) (w : World) (mg : Str → Option Value) (base : Heap) (K : PySem.W.Frag) (cA : Nat → Addr) : mB (mkT P w mg base K cA) ⟨f_law_nested.N, defScope (topS 17), fun _ => true⟩ f_law_nested.body (defBody (topS 17)) = true := by kernel_rfl
theorem sc_f_law_nested : L2.FnScope f_law_nested.N f_law_nested.ps (defScope (topS 17)) := C8.fnScope_by (by decide +kernel)
theorem chk_f_law_is_whole (P : Program) (w : World) (mg : Str → Option Value) (base : Heap) (K : PySem.W.Frag) (cA : Nat → Addr) : mB (mkT P w mg base K cA) ⟨f_law_is_whole.N, defScope (topS 18), fun _ => true⟩ f_law_is_whole.body (defBody (topS 18)) = true := by kernel_rfl
theorem sc_f_law_is_whole : L2.FnScope f_law_is_whole.N f_law_is_whole.ps (defScope (topS 18)) := C8.fnScope_by (by decide +kernel)
theorem chk_f_law_expected (P : Program) (w : World) (mg : Str → Option Value) (base : Heap) (K : PySem.W.Frag) (cA : Nat → Addr) : mB (mkT P w mg base K cA) ⟨f_law_expected.N, defScope (topS 19), fun _ => true⟩ f_law_expected.body (defBody (topS 19)) = true := by kernel_rfl
theorem sc_f_law_expected : L2.FnScope f_law_expected.N f_law_expected.ps (defScope (topS 19)) := C8.fnScope_by (by decide +kernel)
theorem chk_f_law_position_v2 (P : Program) (w : World) (mg : Str → Option Value) (base : Heap) (K : PySem.W.Frag) (cA : Nat → Addr) : mB (mkT P w mg base K cA) ⟨f_law_position_v2.N, defScope (topS 20), fun _ => true⟩ f_law_position_v2.body (defBody (topS 20)) = true := by kernel_rfl
theorem sc_f_law_position_v2 : L2.FnScope f_law_position_v2.N f_law_position_v2.ps (defScope (topS 20)) := C8.fnScope_by (by decide +kernel)
theorem chk_f_law_checked_v3 (P : Program) (w : World) (mg : Str → Option Value) (base : Heap) (K : PySem.W.Frag) (cA : Nat → Addr) : mB (mkT P w mg base K cA) ⟨f_law_checked_v3.N, defScope (topS 21), fun _ => true⟩ f_law_checked_v3.body (defBody (topS 21)) = true := by kernel_rfl
theorem sc_f_law_checked_v3 : L2.FnScope f_law_checked_v3.N f_law_checked_v3.ps (defScope (topS 21)) := C8.fnScope_by (by decide +kernel)
theorem chk_f_law_nested_checked_v3 (P : Program) (w : World) (mg : Str → Option Value) (base : Heap) (K : PySem.W.Frag) (cA : Nat → Addr) : mB (mkT P w mg base K cA) ⟨f_law_nested_checked_v3.N, defScope (topS 22), fun _ => true⟩ f_law_nested_checked_v3.body (defBody (topS 22)) = true := by kernel_rfl
theorem sc_f_law_nested_checked_v3 : L2.FnScope f_law_nested_checked_v3.N f_law_nested_checked_v3.ps (defScope (topS 22)) := C8.fnScope_by (by decide +kernel)
theorem chk_f_law_v9 (P : Program) (w : World) (mg : Str → Option Value) (base : Heap) (K : PySem.W.Frag) (cA : Nat → Addr) : mB (mkT P w mg base K cA) ⟨f_law_v9.N, defScope (topS 23), fun _ => true⟩ f_law_v9.body (defBody (topS 23)) = true := by kernel_rfl
theorem sc_f_law_v9 : L2.FnScope f_law_v9.N f_law_v9.ps (defScope (topS 23)) := C8.fnScope_by (by decide +kernel)
end K01

namespace K01
open PySem MI L2
open PyProof.Rows hiding St
theorem ini0 : initT (defBody (inClass (topS 2) 0)) "ThreerimsError" "position" "position" = true := by kernel_rfl
theorem isc0 : FnScope ["self", "position"] ["self", "position"] (defScope (inClass (topS 2) 0)) := C8.fnScope_by (by decide +kernel)
theorem igl0 : (defScope (inClass (topS 2) 0)).names.lookup ("ThreerimsError" : Str) = some .globalImplicit := by kernel_rfl
set_option maxHeartbeats 0 in
theorem all_mk {l : PySem.W.OpenLaw} {w : World} {K : PySem.W.Frag} {h : Heap} {mg : Str → Option Value} {fa : Addr} (X : K.In h) (G : h.Ns mainGlobals mg) (hfa : mg "law" = some (.ref fa))
  {f0 : Addr} {od0 an0 : Option Addr} {sl0 : Array (Option Value)} {oc0 kV0 dc0 pm0 cd0 ct0 : Value}
  (a0 : PySem.W.nsIn K mainGlobals "is_integer" = some (some (.ref f0)))
  (l0 : K.lookup f0 = some ⟨oc0, od0, .func (PySem.W.fnOf "is_integer" "is_integer" (defArgs (topS 5)) (defBody (topS 5)) (defScope (topS 5)) .none kV0 dc0 pm0 an0 cd0 ct0), sl0⟩)
  (c0 : PySem.W.codeIn K cd0 "is_integer" = true)
  (k0 : PySem.W.keepIn K (.ref f0) = true)
  {f1 : Addr} {od1 an1 : Option Addr} {sl1 : Array (Option Value)} {oc1 kV1 dc1 pm1 cd1 ct1 : Value}
  (a1 : PySem.W.nsIn K mainGlobals "check_descending" = some (some (.ref f1)))
  (l1 : K.lookup f1 = some ⟨oc1, od1, .func (PySem.W.fnOf "check_descending" "check_descending" (defArgs (topS 6)) (defBody (topS 6)) (defScope (topS 6)) .none kV1 dc1 pm1 an1 cd1 ct1), sl1⟩)
  (c1 : PySem.W.codeIn K cd1 "check_descending" = true)
  (k1 : PySem.W.keepIn K (.ref f1) = true)
  {f2 : Addr} {od2 an2 : Option Addr} {sl2 : Array (Option Value)} {oc2 kV2 dc2 pm2 cd2 ct2 : Value}
  (a2 : PySem.W.nsIn K mainGlobals "check_partition" = some (some (.ref f2)))
  (l2 : K.lookup f2 = some ⟨oc2, od2, .func (PySem.W.fnOf "check_partition" "check_partition" (defArgs (topS 7)) (defBody (topS 7)) (defScope (topS 7)) .none kV2 dc2 pm2 an2 cd2 ct2), sl2⟩)
  (c2 : PySem.W.codeIn K cd2 "check_partition" = true)
  (k2 : PySem.W.keepIn K (.ref f2) = true)
  {f3 : Addr} {od3 an3 : Option Addr} {sl3 : Array (Option Value)} {oc3 kV3 dc3 pm3 cd3 ct3 : Value}
  (a3 : PySem.W.nsIn K mainGlobals "is_partition" = some (some (.ref f3)))
  (l3 : K.lookup f3 = some ⟨oc3, od3, .func (PySem.W.fnOf "is_partition" "is_partition" (defArgs (topS 8)) (defBody (topS 8)) (defScope (topS 8)) .none kV3 dc3 pm3 an3 cd3 ct3), sl3⟩)
  (c3 : PySem.W.codeIn K cd3 "is_partition" = true)
  (k3 : PySem.W.keepIn K (.ref f3) = true)
  {f4 : Addr} {od4 an4 : Option Addr} {sl4 : Array (Option Value)} {oc4 kV4 dc4 pm4 cd4 ct4 : Value}
  (a4 : PySem.W.nsIn K mainGlobals "_law_mixed" = some (some (.ref f4)))
  (l4 : K.lookup f4 = some ⟨oc4, od4, .func (PySem.W.fnOf "_law_mixed" "_law_mixed" (defArgs (topS 10)) (defBody (topS 10)) (defScope (topS 10)) .none kV4 dc4 pm4 an4 cd4 ct4), sl4⟩)
  (c4 : PySem.W.codeIn K cd4 "_law_mixed" = true)
  (k4 : PySem.W.keepIn K (.ref f4) = true)
  {f5 : Addr} {od5 an5 : Option Addr} {sl5 : Array (Option Value)} {oc5 kV5 dc5 pm5 cd5 ct5 : Value}
  (a5 : PySem.W.nsIn K mainGlobals "_law_folded" = some (some (.ref f5)))
  (l5 : K.lookup f5 = some ⟨oc5, od5, .func (PySem.W.fnOf "_law_folded" "_law_folded" (defArgs (topS 11)) (defBody (topS 11)) (defScope (topS 11)) .none kV5 dc5 pm5 an5 cd5 ct5), sl5⟩)
  (c5 : PySem.W.codeIn K cd5 "_law_folded" = true)
  (k5 : PySem.W.keepIn K (.ref f5) = true)
  {f6 : Addr} {od6 an6 : Option Addr} {sl6 : Array (Option Value)} {oc6 kV6 dc6 pm6 cd6 ct6 : Value}
  (a6 : PySem.W.nsIn K mainGlobals "_law_draw" = some (some (.ref f6)))
  (l6 : K.lookup f6 = some ⟨oc6, od6, .func (PySem.W.fnOf "_law_draw" "_law_draw" (defArgs (topS 12)) (defBody (topS 12)) (defScope (topS 12)) .none kV6 dc6 pm6 an6 cd6 ct6), sl6⟩)
  (c6 : PySem.W.codeIn K cd6 "_law_draw" = true)
  (k6 : PySem.W.keepIn K (.ref f6) = true)
  {f7 : Addr} {od7 an7 : Option Addr} {sl7 : Array (Option Value)} {oc7 kV7 dc7 pm7 cd7 ct7 : Value}
  (a7 : PySem.W.nsIn K mainGlobals "_law_begun" = some (some (.ref f7)))
  (l7 : K.lookup f7 = some ⟨oc7, od7, .func (PySem.W.fnOf "_law_begun" "_law_begun" (defArgs (topS 13)) (defBody (topS 13)) (defScope (topS 13)) .none kV7 dc7 pm7 an7 cd7 ct7), sl7⟩)
  (c7 : PySem.W.codeIn K cd7 "_law_begun" = true)
  (k7 : PySem.W.keepIn K (.ref f7) = true)
  {f8 : Addr} {od8 an8 : Option Addr} {sl8 : Array (Option Value)} {oc8 kV8 dc8 pm8 cd8 ct8 : Value}
  (a8 : PySem.W.nsIn K mainGlobals "_law_part" = some (some (.ref f8)))
  (l8 : K.lookup f8 = some ⟨oc8, od8, .func (PySem.W.fnOf "_law_part" "_law_part" (defArgs (topS 14)) (defBody (topS 14)) (defScope (topS 14)) .none kV8 dc8 pm8 an8 cd8 ct8), sl8⟩)
  (c8 : PySem.W.codeIn K cd8 "_law_part" = true)
  (k8 : PySem.W.keepIn K (.ref f8) = true)
  {f9 : Addr} {od9 an9 : Option Addr} {sl9 : Array (Option Value)} {oc9 kV9 dc9 pm9 cd9 ct9 : Value}
  (a9 : PySem.W.nsIn K mainGlobals "_law_other" = some (some (.ref f9)))
  (l9 : K.lookup f9 = some ⟨oc9, od9, .func (PySem.W.fnOf "_law_other" "_law_other" (defArgs (topS 15)) (defBody (topS 15)) (defScope (topS 15)) .none kV9 dc9 pm9 an9 cd9 ct9), sl9⟩)
  (c9 : PySem.W.codeIn K cd9 "_law_other" = true)
  (k9 : PySem.W.keepIn K (.ref f9) = true)
  {f10 : Addr} {od10 an10 : Option Addr} {sl10 : Array (Option Value)} {oc10 kV10 dc10 pm10 cd10 ct10 : Value}
  (a10 : PySem.W.nsIn K mainGlobals "_law_changed" = some (some (.ref f10)))
  (l10 : K.lookup f10 = some ⟨oc10, od10, .func (PySem.W.fnOf "_law_changed" "_law_changed" (defArgs (topS 16)) (defBody (topS 16)) (defScope (topS 16)) .none kV10 dc10 pm10 an10 cd10 ct10), sl10⟩)
  (c10 : PySem.W.codeIn K cd10 "_law_changed" = true)
  (k10 : PySem.W.keepIn K (.ref f10) = true)
  {f11 : Addr} {od11 an11 : Option Addr} {sl11 : Array (Option Value)} {oc11 kV11 dc11 pm11 cd11 ct11 : Value}
  (a11 : PySem.W.nsIn K mainGlobals "_law_nested" = some (some (.ref f11)))
  (l11 : K.lookup f11 = some ⟨oc11, od11, .func (PySem.W.fnOf "_law_nested" "_law_nested" (defArgs (topS 17)) (defBody (topS 17)) (defScope (topS 17)) .none kV11 dc11 pm11 an11 cd11 ct11), sl11⟩)
  (c11 : PySem.W.codeIn K cd11 "_law_nested" = true)
  (k11 : PySem.W.keepIn K (.ref f11) = true)
  {f12 : Addr} {od12 an12 : Option Addr} {sl12 : Array (Option Value)} {oc12 kV12 dc12 pm12 cd12 ct12 : Value}
  (a12 : PySem.W.nsIn K mainGlobals "_law_is_whole" = some (some (.ref f12)))
  (l12 : K.lookup f12 = some ⟨oc12, od12, .func (PySem.W.fnOf "_law_is_whole" "_law_is_whole" (defArgs (topS 18)) (defBody (topS 18)) (defScope (topS 18)) .none kV12 dc12 pm12 an12 cd12 ct12), sl12⟩)
  (c12 : PySem.W.codeIn K cd12 "_law_is_whole" = true)
  (k12 : PySem.W.keepIn K (.ref f12) = true)
  {f13 : Addr} {od13 an13 : Option Addr} {sl13 : Array (Option Value)} {oc13 kV13 dc13 pm13 cd13 ct13 : Value}
  (a13 : PySem.W.nsIn K mainGlobals "_law_expected" = some (some (.ref f13)))
  (l13 : K.lookup f13 = some ⟨oc13, od13, .func (PySem.W.fnOf "_law_expected" "_law_expected" (defArgs (topS 19)) (defBody (topS 19)) (defScope (topS 19)) .none kV13 dc13 pm13 an13 cd13 ct13), sl13⟩)
  (c13 : PySem.W.codeIn K cd13 "_law_expected" = true)
  (k13 : PySem.W.keepIn K (.ref f13) = true)
  {f14 : Addr} {od14 an14 : Option Addr} {sl14 : Array (Option Value)} {oc14 kV14 dc14 pm14 cd14 ct14 : Value}
  (a14 : PySem.W.nsIn K mainGlobals "_law_position" = some (some (.ref f14)))
  (l14 : K.lookup f14 = some ⟨oc14, od14, .func (PySem.W.fnOf "_law_position" "_law_position" (defArgs (topS 20)) (defBody (topS 20)) (defScope (topS 20)) .none kV14 dc14 pm14 an14 cd14 ct14), sl14⟩)
  (c14 : PySem.W.codeIn K cd14 "_law_position" = true)
  (k14 : PySem.W.keepIn K (.ref f14) = true)
  {f15 : Addr} {od15 an15 : Option Addr} {sl15 : Array (Option Value)} {oc15 kV15 dc15 pm15 cd15 ct15 : Value}
  (a15 : PySem.W.nsIn K mainGlobals "_law_checked" = some (some (.ref f15)))
  (l15 : K.lookup f15 = some ⟨oc15, od15, .func (PySem.W.fnOf "_law_checked" "_law_checked" (defArgs (topS 21)) (defBody (topS 21)) (defScope (topS 21)) .none kV15 dc15 pm15 an15 cd15 ct15), sl15⟩)
  (c15 : PySem.W.codeIn K cd15 "_law_checked" = true)
  (k15 : PySem.W.keepIn K (.ref f15) = true)
  {f16 : Addr} {od16 an16 : Option Addr} {sl16 : Array (Option Value)} {oc16 kV16 dc16 pm16 cd16 ct16 : Value}
  (a16 : PySem.W.nsIn K mainGlobals "_law_nested_checked" = some (some (.ref f16)))
  (l16 : K.lookup f16 = some ⟨oc16, od16, .func (PySem.W.fnOf "_law_nested_checked" "_law_nested_checked" (defArgs (topS 22)) (defBody (topS 22)) (defScope (topS 22)) .none kV16 dc16 pm16 an16 cd16 ct16), sl16⟩)
  (c16 : PySem.W.codeIn K cd16 "_law_nested_checked" = true)
  (k16 : PySem.W.keepIn K (.ref f16) = true)
  {f17 : Addr} {od17 an17 : Option Addr} {sl17 : Array (Option Value)} {oc17 kV17 dc17 pm17 cd17 ct17 : Value}
  (a17 : PySem.W.nsIn K mainGlobals "law" = some (some (.ref f17)))
  (l17 : K.lookup f17 = some ⟨oc17, od17, .func (PySem.W.fnOf "law" "law" (defArgs (topS 23)) (defBody (topS 23)) (defScope (topS 23)) .none kV17 dc17 pm17 an17 cd17 ct17), sl17⟩)
  (c17 : PySem.W.codeIn K cd17 "law" = true)
  (k17 : PySem.W.keepIn K (.ref f17) = true)
  {C0 : Addr}
  (smd : PySem.W.nsIn K cStatics "sys.int_max_str_digits" = some none)
  (aB : PySem.W.nsIn K mainGlobals "ThreerimsError" = some (some (.ref C0)))
  (g1 : PySem.W.specialIn K (.ref C0) "__getattribute__" = some (some (.builtin "type.__getattribute__")))
  (g2 : PySem.W.readsIn K C0 (.type "type") = true)
  (g3 : PySem.W.findCls K (.ref C0) (.type "type") "__init__" = some (.val (.builtin "ValueError.__init__")))
  {E0 i0 N0 : Addr} {nm0 qn0 : Str} {bs0 sub0 : List Value} {sn0 : List Str} {ab0 : Bool} {co0 : Option Bool} {dd0 : Option Addr} {m00 m10 m20 m30 m50 : Option Value}
  {xo0 kx0 dx0 px0 cx0 tx0 : Value} {xd0 xa0 : Option Addr} {xs0 : Array (Option Value)}
  (aE0 : PySem.W.nsIn K mainGlobals "InvalidPartition" = some (some (.ref E0)))
  (xL0 : K.lookup E0 = some (excClassObj nm0 qn0 E0 N0 bs0 [.ref C0, .type "ValueError", .type "Exception", .type "BaseException", .type "object"] true sn0 sub0 ab0 co0 dd0 m00 m10 m20 m30 m50 "ValueError.__new__"))
  (sa0 : PySem.W.findIn K (.ref E0) "__setattr__" = some (some (.builtin "object.__setattr__")))
  (no0_0 : PySem.W.findIn K (.ref E0) "position" = some none)
  (xga0 : PySem.W.findIn K (.ref E0) "__getattribute__" = some (some (.builtin "BaseException.__getattribute__")))
  (xgg0 : PySem.W.findIn K (.ref E0) "__getattr__" = some none)
  (xhd0 : PySem.W.hasDictIn K E0 = true)
  (fi0 : PySem.W.findIn K (.ref E0) "__init__" = some (some (.ref i0)))
  (ti0 : PySem.W.typeIn K (.ref i0) = some (.type "function"))
  {T0 : Addr} {to0 : Value} {td0 : Option Addr} {tn0 : Nat} {ts0 : Array (Option Value)}
  (li0 : K.lookup i0 = some ⟨xo0, xd0, .func (PySem.W.fnOf "__init__" "InvalidPartition.__init__" (defArgs (inClass (topS 2) 0)) (defBody (inClass (topS 2) 0)) (defScope (inClass (topS 2) 0)) (.ref T0) kx0 dx0 px0 xa0 cx0 tx0), xs0⟩)
  (lt0 : K.lookup T0 = some ⟨to0, td0, .seq #[.none] tn0, ts0⟩)
  (ci0 : PySem.W.codeIn K cx0 "InvalidPartition.__init__" = true)
  (kE0 : PySem.W.keepIn K (.ref E0) = true)
  (eE0 : PySem.W.subIn K (.ref E0) (.type "BaseException") = some true)
  (tE0 : PySem.W.typeIn K (.ref E0) = some (.type "type"))
  (x0_0 : PySem.W.exmOne K (.ref E0) (.ref E0) = some true)
  {tk0 : Tok}
  (q0 : PySem.W.nsIn K mainGlobals "MAX_SIZE" = some (some (.int 6 tk0)))
  (z0 : PySem.W.nsIn K mainGlobals "len" = some none)
  (z1 : PySem.W.nsIn K mainGlobals "tuple" = some none)
  (z2 : PySem.W.nsIn K mainGlobals "list" = some none)
  (z3 : PySem.W.nsIn K mainGlobals "repr" = some none)
  (z4 : PySem.W.nsIn K mainGlobals "min" = some none)
  (z5 : PySem.W.nsIn K mainGlobals "max" = some none)
  (z6 : PySem.W.nsIn K mainGlobals "range" = some none)
  (z7 : PySem.W.nsIn K mainGlobals "enumerate" = some none)
  (z8 : PySem.W.nsIn K mainGlobals "zip" = some none)
  (z9 : PySem.W.nsIn K mainGlobals "isinstance" = some none)
  (z10 : PySem.W.nsIn K mainGlobals "int" = some none)
  (z11 : PySem.W.nsIn K mainGlobals "bool" = some none)
  (z12 : PySem.W.nsIn K mainGlobals "str" = some none)
  (z13 : PySem.W.nsIn K mainGlobals "sum" = some none)
  (z14 : PySem.W.nsIn K mainGlobals "abs" = some none)
  (z15 : PySem.W.nsIn K mainGlobals "all" = some none)
  (z16 : PySem.W.nsIn K mainGlobals "any" = some none)
  (pure : ∀ ns : List Int, ns.length ≤ 63 → ∃ h', callI prg 195 94 0 [.loc 0] [.lock (ns.map PV.int)] = .ok (.pv (.bl true), h')) :
  ∃ (fd : FuncData) (sp : Sp), (∀ (s : Shared) (u : Value), BindsTo s fd ⟨[u], []⟩ [("script", u)]) ∧ (∀ base : Heap, K.In base → base.Ns mainGlobals mg → FnG l.prog w K mg base 200 fa fd ["script"] sp) ∧
    ∀ (H : Hp) (a : Addr) (ns : List Int), ns.length ≤ 63 → Only H → SqL K H a (ns.map V.int) → sp [.ref a] H (fun v _ => v = .bl true) fun _ _ _ => False := by
  have e := hfa.symm.trans (PySem.W.mg_of X G a17)
  cases e
  let cA : Nat → Addr := fun c => if c = 0 then E0 else C0
  have st : ∀ base, K.In base → Stat (mkT l.prog w mg base K cA) := fun base KB => {
    rp := rfl
    fields := rfl
    exc := fun c x e => by
      simp only [mkT, excs] at e
      by_cases hc0 : c = 0
      · subst hc0
        cases e
        have ox : OexC K E0 := ⟨⟨_, _, _, _, _, _, _, _, _, _, _, _, _, _, _, xL0, rfl⟩, sa0, eE0, tE0, kE0⟩
        exact ⟨PySem.W.mg_of X G aE0, ox, i0, _, _, fi0, ti0, init1 li0 ci0 isc0 ini0 ox no0_0 (PySem.W.mg_of X G aB) igl0 (by decide) (by decide) g1 g2 g3, fun s us hk hl => match us, hl with | [_, _], _ => PySem.W.binds_K hk rfl lt0 rfl rfl rfl⟩
      simp only [hc0, if_false] at e
      cases e
    smd := smd
    exf := fun c hc => by
      simp only [mkT, prg, nx, Bool.or_eq_true, beq_iff_eq] at hc
      subst hc
      · refine ⟨⟨xga0, xgg0, eE0, xhd0⟩, fun f hf => ?_⟩
        replace hf : f ∈ (["position"] : List Str) := hf
        simp only [List.mem_cons, List.not_mem_nil, or_false] at hf
        rcases hf with rfl
        · exact no0_0
    exm := fun k k' hk hk' => by
      simp only [mkT, prg, nx, Bool.or_eq_true, beq_iff_eq] at hk hk'
      subst hk; subst hk'
      · exact x0_0
    con := fun x v e => by
      simp only [mkT, consts] at e
      split at e
      · rename_i hx
        cases e
        subst hx
        exact ⟨_, .int 6, PySem.W.mg_of X G q0, ⟨_, rfl⟩, fun _ _ => rfl⟩
      · cases e
    blt := fun x hx => by
      simp only [mkT, bl, List.mem_cons, List.not_mem_nil, or_false] at hx
      rcases hx with rfl | rfl | rfl | rfl | rfl | rfl | rfl | rfl | rfl | rfl | rfl | rfl | rfl | rfl | rfl | rfl | rfl
      · exact PySem.W.mg_none_of X G z0
      · exact PySem.W.mg_none_of X G z1
      · exact PySem.W.mg_none_of X G z2
      · exact PySem.W.mg_none_of X G z3
      · exact PySem.W.mg_none_of X G z4
      · exact PySem.W.mg_none_of X G z5
      · exact PySem.W.mg_none_of X G z6
      · exact PySem.W.mg_none_of X G z7
      · exact PySem.W.mg_none_of X G z8
      · exact PySem.W.mg_none_of X G z9
      · exact PySem.W.mg_none_of X G z10
      · exact PySem.W.mg_none_of X G z11
      · exact PySem.W.mg_none_of X G z12
      · exact PySem.W.mg_none_of X G z13
      · exact PySem.W.mg_none_of X G z14
      · exact PySem.W.mg_none_of X G z15
      · exact PySem.W.mg_none_of X G z16
    fn := fun j Fn e => by
      simp only [mkT, prg, fns] at e
      by_cases hj0 : j = 0
      · subst hj0
        cases e
        exact ⟨_, _, PySem.W.mg_of X G a0, k0, ⟨_, _, _, _, _, _, _, _, _, _, _, _, _, _, _, rfl, l0, c0, sc_f_is_integer, chk_f_is_integer _ _ _ _ _ _⟩, fun ds hd => ⟨[], [], by simp [mkT, binds] at hd; subst hd; try rfl, .nil, Binds.all fun us hl => match us, hl with | [_], _ => rfl⟩, fun np ns perm hd => by
          simp only [mkT, kbs, List.mem_cons, List.not_mem_nil, or_false, Prod.mk.injEq] at hd
          rcases hd with ⟨hj, rfl, rfl, rfl⟩ | ⟨hj, rfl, rfl, rfl⟩ | ⟨hj, rfl, rfl, rfl⟩
          · exact ⟨fun s us ws h1 h2 => match us, ws, h1, h2 with | [], [_], _, _ => .of_eq rfl, rfl, by decide⟩
          · exact absurd hj (by decide)
          · exact absurd hj (by decide)⟩
      by_cases hj1 : j = 74
      · subst hj1
        cases e
        exact ⟨_, _, PySem.W.mg_of X G a1, k1, ⟨_, _, _, _, _, _, _, _, _, _, _, _, _, _, _, rfl, l1, c1, sc_f_check_descending, chk_f_check_descending _ _ _ _ _ _⟩, fun ds hd => ⟨[], [], by simp [mkT, binds] at hd; subst hd; try rfl, .nil, Binds.all fun us hl => match us, hl with | [_], _ => rfl⟩, fun np ns perm hd => by simp [mkT, kbs] at hd⟩
      by_cases hj2 : j = 75
      · subst hj2
        cases e
        exact ⟨_, _, PySem.W.mg_of X G a2, k2, ⟨_, _, _, _, _, _, _, _, _, _, _, _, _, _, _, rfl, l2, c2, sc_f_check_partition_v2, chk_f_check_partition_v2 _ _ _ _ _ _⟩, fun ds hd => ⟨[], [], by simp [mkT, binds] at hd; subst hd; try rfl, .nil, Binds.all fun us hl => match us, hl with | [_], _ => rfl⟩, fun np ns perm hd => by
          simp only [mkT, kbs, List.mem_cons, List.not_mem_nil, or_false, Prod.mk.injEq] at hd
          rcases hd with ⟨hj, rfl, rfl, rfl⟩ | ⟨hj, rfl, rfl, rfl⟩ | ⟨hj, rfl, rfl, rfl⟩
          · exact absurd hj (by decide)
          · exact ⟨fun s us ws h1 h2 => match us, ws, h1, h2 with | [], [_], _, _ => .of_eq rfl, rfl, by decide⟩
          · exact absurd hj (by decide)⟩
      by_cases hj3 : j = 76
      · subst hj3
        cases e
        exact ⟨_, _, PySem.W.mg_of X G a3, k3, ⟨_, _, _, _, _, _, _, _, _, _, _, _, _, _, _, rfl, l3, c3, sc_f_is_partition_v2, chk_f_is_partition_v2 _ _ _ _ _ _⟩, fun ds hd => ⟨[], [], by simp [mkT, binds] at hd; subst hd; try rfl, .nil, Binds.all fun us hl => match us, hl with | [_], _ => rfl⟩, fun np ns perm hd => by
          simp only [mkT, kbs, List.mem_cons, List.not_mem_nil, or_false, Prod.mk.injEq] at hd
          rcases hd with ⟨hj, rfl, rfl, rfl⟩ | ⟨hj, rfl, rfl, rfl⟩ | ⟨hj, rfl, rfl, rfl⟩
          · exact absurd hj (by decide)
          · exact absurd hj (by decide)
          · exact ⟨fun s us ws h1 h2 => match us, ws, h1, h2 with | [], [_], _, _ => .of_eq rfl, rfl, by decide⟩⟩
      by_cases hj4 : j = 9
      · subst hj4
        cases e
        exact ⟨_, _, PySem.W.mg_of X G a4, k4, ⟨_, _, _, _, _, _, _, _, _, _, _, _, _, _, _, rfl, l4, c4, sc_f_law_mixed, chk_f_law_mixed _ _ _ _ _ _⟩, fun ds hd => ⟨[], [], by simp [mkT, binds] at hd; subst hd; try rfl, .nil, Binds.all fun us hl => match us, hl with | [_, _], _ => rfl⟩, fun np ns perm hd => by simp [mkT, kbs] at hd⟩
      by_cases hj5 : j = 10
      · subst hj5
        cases e
        exact ⟨_, _, PySem.W.mg_of X G a5, k5, ⟨_, _, _, _, _, _, _, _, _, _, _, _, _, _, _, rfl, l5, c5, sc_f_law_folded, chk_f_law_folded _ _ _ _ _ _⟩, fun ds hd => ⟨[], [], by simp [mkT, binds] at hd; subst hd; try rfl, .nil, Binds.all fun us hl => match us, hl with | [_], _ => rfl⟩, fun np ns perm hd => by simp [mkT, kbs] at hd⟩
      by_cases hj6 : j = 11
      · subst hj6
        cases e
        exact ⟨_, _, PySem.W.mg_of X G a6, k6, ⟨_, _, _, _, _, _, _, _, _, _, _, _, _, _, _, rfl, l6, c6, sc_f_law_draw, chk_f_law_draw _ _ _ _ _ _⟩, fun ds hd => ⟨[], [], by simp [mkT, binds] at hd; subst hd; try rfl, .nil, Binds.all fun us hl => match us, hl with | [_, _], _ => rfl⟩, fun np ns perm hd => by simp [mkT, kbs] at hd⟩
      by_cases hj7 : j = 12
      · subst hj7
        cases e
        exact ⟨_, _, PySem.W.mg_of X G a7, k7, ⟨_, _, _, _, _, _, _, _, _, _, _, _, _, _, _, rfl, l7, c7, sc_f_law_begun, chk_f_law_begun _ _ _ _ _ _⟩, fun ds hd => ⟨[], [], by simp [mkT, binds] at hd; subst hd; try rfl, .nil, Binds.all fun us hl => match us, hl with | [_], _ => rfl⟩, fun np ns perm hd => by simp [mkT, kbs] at hd⟩
      by_cases hj8 : j = 13
      · subst hj8
        cases e
        exact ⟨_, _, PySem.W.mg_of X G a8, k8, ⟨_, _, _, _, _, _, _, _, _, _, _, _, _, _, _, rfl, l8, c8, sc_f_law_part, chk_f_law_part _ _ _ _ _ _⟩, fun ds hd => ⟨[], [], by simp [mkT, binds] at hd; subst hd; try rfl, .nil, Binds.all fun us hl => match us, hl with | [_, _, _], _ => rfl⟩, fun np ns perm hd => by simp [mkT, kbs] at hd⟩
      by_cases hj9 : j = 18
      · subst hj9
        cases e
        exact ⟨_, _, PySem.W.mg_of X G a9, k9, ⟨_, _, _, _, _, _, _, _, _, _, _, _, _, _, _, rfl, l9, c9, sc_f_law_other, chk_f_law_other _ _ _ _ _ _⟩, fun ds hd => ⟨[], [], by simp [mkT, binds] at hd; subst hd; try rfl, .nil, Binds.all fun us hl => match us, hl with | [_, _], _ => rfl⟩, fun np ns perm hd => by simp [mkT, kbs] at hd⟩
      by_cases hj10 : j = 19
      · subst hj10
        cases e
        exact ⟨_, _, PySem.W.mg_of X G a10, k10, ⟨_, _, _, _, _, _, _, _, _, _, _, _, _, _, _, rfl, l10, c10, sc_f_law_changed, chk_f_law_changed _ _ _ _ _ _⟩, fun ds hd => ⟨[], [], by simp [mkT, binds] at hd; subst hd; try rfl, .nil, Binds.all fun us hl => match us, hl with | [_, _], _ => rfl⟩, fun np ns perm hd => by simp [mkT, kbs] at hd⟩
      by_cases hj11 : j = 20
      · subst hj11
        cases e
        exact ⟨_, _, PySem.W.mg_of X G a11, k11, ⟨_, _, _, _, _, _, _, _, _, _, _, _, _, _, _, rfl, l11, c11, sc_f_law_nested, chk_f_law_nested _ _ _ _ _ _⟩, fun ds hd => ⟨[], [], by simp [mkT, binds] at hd; subst hd; try rfl, .nil, Binds.all fun us hl => match us, hl with | [_], _ => rfl⟩, fun np ns perm hd => by simp [mkT, kbs] at hd⟩
      by_cases hj12 : j = 21
      · subst hj12
        cases e
        exact ⟨_, _, PySem.W.mg_of X G a12, k12, ⟨_, _, _, _, _, _, _, _, _, _, _, _, _, _, _, rfl, l12, c12, sc_f_law_is_whole, chk_f_law_is_whole _ _ _ _ _ _⟩, fun ds hd => ⟨[], [], by simp [mkT, binds] at hd; subst hd; try rfl, .nil, Binds.all fun us hl => match us, hl with | [_], _ => rfl⟩, fun np ns perm hd => by simp [mkT, kbs] at hd⟩
      by_cases hj13 : j = 22
      · subst hj13
        cases e
        exact ⟨_, _, PySem.W.mg_of X G a13, k13, ⟨_, _, _, _, _, _, _, _, _, _, _, _, _, _, _, rfl, l13, c13, sc_f_law_expected, chk_f_law_expected _ _ _ _ _ _⟩, fun ds hd => ⟨[], [], by simp [mkT, binds] at hd; subst hd; try rfl, .nil, Binds.all fun us hl => match us, hl with | [_], _ => rfl⟩, fun np ns perm hd => by simp [mkT, kbs] at hd⟩
      by_cases hj14 : j = 91
      · subst hj14
        cases e
        exact ⟨_, _, PySem.W.mg_of X G a14, k14, ⟨_, _, _, _, _, _, _, _, _, _, _, _, _, _, _, rfl, l14, c14, sc_f_law_position_v2, chk_f_law_position_v2 _ _ _ _ _ _⟩, fun ds hd => ⟨[], [], by simp [mkT, binds] at hd; subst hd; try rfl, .nil, Binds.all fun us hl => match us, hl with | [_, _], _ => rfl⟩, fun np ns perm hd => by simp [mkT, kbs] at hd⟩
      by_cases hj15 : j = 92
      · subst hj15
        cases e
        exact ⟨_, _, PySem.W.mg_of X G a15, k15, ⟨_, _, _, _, _, _, _, _, _, _, _, _, _, _, _, rfl, l15, c15, sc_f_law_checked_v3, chk_f_law_checked_v3 _ _ _ _ _ _⟩, fun ds hd => ⟨[], [], by simp [mkT, binds] at hd; subst hd; try rfl, .nil, Binds.all fun us hl => match us, hl with | [_], _ => rfl⟩, fun np ns perm hd => by simp [mkT, kbs] at hd⟩
      by_cases hj16 : j = 93
      · subst hj16
        cases e
        exact ⟨_, _, PySem.W.mg_of X G a16, k16, ⟨_, _, _, _, _, _, _, _, _, _, _, _, _, _, _, rfl, l16, c16, sc_f_law_nested_checked_v3, chk_f_law_nested_checked_v3 _ _ _ _ _ _⟩, fun ds hd => ⟨[], [], by simp [mkT, binds] at hd; subst hd; try rfl, .nil, Binds.all fun us hl => match us, hl with | [], _ => rfl⟩, fun np ns perm hd => by simp [mkT, kbs] at hd⟩
      by_cases hj17 : j = 94
      · subst hj17
        cases e
        exact ⟨_, _, PySem.W.mg_of X G a17, k17, ⟨_, _, _, _, _, _, _, _, _, _, _, _, _, _, _, rfl, l17, c17, sc_f_law_v9, chk_f_law_v9 _ _ _ _ _ _⟩, fun ds hd => by simp [mkT, binds] at hd, fun np ns perm hd => by simp [mkT, kbs] at hd⟩
      simp only [hj0, hj1, hj2, hj3, hj4, hj5, hj6, hj7, hj8, hj9, hj10, hj11, hj12, hj13, hj14, hj15, hj16, hj17, if_false] at e
      cases e }
  exact ⟨_, spI (mkT l.prog w mg h K cA) 195 94, fun s u => .of_eq rfl, fun base KB _ => fnG_step (tb_all (st base KB) 194) (j := 94) (Fn := f_law_v9) rfl ⟨_, _, _, _, _, _, _, _, _, _, _, _, _, _, _, rfl, l17, c17, sc_f_law_v9, chk_f_law_v9 _ _ _ _ _ _⟩, fun H a ns hl _ hS => sp_law (T := mkT l.prog w mg h K cA) pure hl hS⟩
end K01

namespace K01
open PySem MI
open Lean.Parser.Tactic in
local macro_rules | `(tactic| dsimp! [$ts,*]) => `(tactic| simp only [evB, evS_for, evE_comp, evT, evEs, evC, evO, evI, evE.eq_1, evE.eq_2, evE.eq_3, evE.eq_4, evE.eq_5, evE.eq_6, evE.eq_7, evE.eq_8, evE.eq_9, evE.eq_10, evE.eq_11, evE.eq_12, evE.eq_13, evE.eq_14, evE.eq_15, evE.eq_16, evE.eq_17, evE.eq_18, evE.eq_19, evE.eq_20, evE.eq_21, evE.eq_22, evE.eq_23, evE.eq_25, evE.eq_26, evE.eq_27, evE.eq_28, evE.eq_29, evE.eq_30, evS.eq_1, evS.eq_2, evS.eq_3, evS.eq_4, evS.eq_5, evS.eq_6, evS.eq_7, evS.eq_8, evS.eq_11, evS.eq_12, evS.eq_13, evS.eq_14, evS.eq_15, cn_C, cn_B, cn_rp, cn_f, cn_nx, cn_sub, cn_fuel, MI.start, List.map_cons, List.map_nil, List.length_cons, List.length_nil, List.replicate, List.cons_append, List.nil_append, List.append_nil, List.singleton_append, List.getElem?_cons_zero, List.getElem?_cons_succ, List.set_cons_zero, List.set_cons_succ, seq1_ok, seqL_ok, okP, Bool.false_eq_true, if_false, if_true, Bool.not_true, Bool.not_false, Nat.reduceSub, MI.close, take_all, $ts,*])
variable {P : Prg} [Bas P] [Fi P 0 f_is_integer] [Fi P 74 f_check_descending] [Fi P 75 f_check_partition_v2] [Fi P 76 f_is_partition_v2] [Fi P 9 f_law_mixed] [Fi P 10 f_law_folded] [Fi P 11 f_law_draw] [Fi P 12 f_law_begun] [Fi P 13 f_law_part] [Fi P 18 f_law_other] [Fi P 19 f_law_changed] [Fi P 20 f_law_nested] [Fi P 21 f_law_is_whole] [Fi P 22 f_law_expected] [Fi P 91 f_law_position_v2] [Fi P 92 f_law_checked_v3] [Fi P 93 f_law_nested_checked_v3] [Fi P 94 f_law_v9] [Nx P 0]
/-- the first place that is wrong -/
def fbg : Nat → Option Int → List PV → Option Nat
  | _, _, [] => none
  | n, o, .int i :: r => match o with
    | some j => if j < i then some n else fbg (n + 1) (some i) r
    | none => fbg (n + 1) (some i) r
  | n, _, _ :: _ => some n
def due (p : PV) : List PV := match p with
  | .tup xs => if 0 < xs.length ∧ xs.length < 7 then (match fbg 0 none xs with | none => [] | some n => [.int n]) else [.non]
  | _ => [.non]
theorem due_cases (p : PV) : due p = [] ∨ due p = [.non] ∨ ∃ n : Nat, due p = [.int n] := by
  unfold due
  split
  · split
    · split
      · exact .inl rfl
      · exact .inr (.inr ⟨_, rfl⟩)
    · exact .inr (.inl rfl)
  · exact .inr (.inl rfl)
/-- what stands before -/
def Bef (pre : List PV) (o : Option Int) : Prop := (pre = [] ∧ o = none) ∨ ∃ q j, pre = q ++ [.int j] ∧ o = some j
structure Ok1 (p : PV) : Prop where
  n : nex p = true
  t : ∀ xs, p = .tup xs → ∀ x ∈ xs, nex x = true
theorem c_whole (k B : Nat) (p : PV) (h : Sto) (n : nex p = true) : callI P (k + 1) 0 B [.pv p] h = .ok (.pv (.bl (whl p)), h) := by
  refine run_rt' (F := f_is_integer) Fi.h rfl rfl ?_
  show evB (cn P k h.length) f_is_integer.body [some (.pv p)] h = _
  unfold f_is_integer
  refine evB_ret ?_
  cases p <;> first | rfl | cases n
theorem c_whole2 (k B : Nat) (p : PV) (h : Sto) (n : nex p = true) : callI P (k + 1) 21 B [.pv p] h = .ok (.pv (.bl (whl p)), h) := by
  refine run_rt' (F := f_law_is_whole) Fi.h rfl rfl ?_
  show evB (cn P k h.length) f_law_is_whole.body [some (.pv p)] h = _
  unfold f_law_is_whole
  refine evB_ret ?_
  cases p <;> first | rfl | cases n
theorem idx_bef {pre suf : List PV} {j : Int} {q : List PV} (h : Sto) (e : pre = q ++ [.int j]) : oIdx (.pv (.tup (pre ++ suf))) (.pv (.int ((pre.length : Int) - 1))) h = .ok (.pv (.int j), h) := by
  subst e
  have : (((q ++ [PV.int j]).length : Int) - 1) = (q.length : Int) := by simp
  rw [this]
  exact idx_tupP h (by simp)
theorem lp_exp (k B : Nat) (h : Sto) : ∀ (suf pre : List PV) (o : Option Int) (o1 o2 : Option MV), (∀ x ∈ suf, nex x = true) → Bef pre o →
    loop (forF (cn P (k + 1) B) (.tp [1, 2]) f_law_expected_b0) (enumFrom pre.length (suf.map .pv)) [some (.pv (.tup (pre ++ suf))), o1, o2] h = (match fbg pre.length o suf with | none => some (.nx (([some (.pv (.tup (pre ++ suf)))] : MI.Env) ++ (match suf.getLast? with | none => [o1, o2] | some z => [some (iv ((pre.length : Int) + suf.length - 1)), some (.pv z)])), h) | some n => some (.rt (.pv (.lst [.int n])), h))
  | [], pre, o, o1, o2, _, _ => by simp [enumFrom, loop, fbg]
  | x :: suf, pre, o, o1, o2, hn, hb => by
    have hx := hn x List.mem_cons_self
    have e0 : forF (cn P (k + 1) B) (.tp [1, 2]) f_law_expected_b0 (.many [.pv (.int (pre.length : Int)), .pv x]) [some (.pv (.tup (pre ++ x :: suf))), o1, o2] h = evB (cn P (k + 1) B) f_law_expected_b0 [some (.pv (.tup (pre ++ x :: suf))), some (iv pre.length), some (.pv x)] h := by
      unfold forF
      dsimp only [give, setAll, List.set_cons_succ, List.set_cons_zero]
    simp only [List.map_cons, enumFrom, loop]
    rw [e0]
    unfold f_law_expected_b0
    have w := c_whole2 (P := P) k B x h hx
    cases hw : whl x with
    | false =>
      rw [hw] at w
      rw [evB_ift (h1 := h) (r := some (.rt (.pv (.lst [.int pre.length])), h)) (T_or1 (T_not1 (T_call (ev_call (es1 (ev_var 2 rfl)) w)))) (by rw [evB_ret (ev_lst (ps := [.int pre.length]) (es1 (ev_var 1 rfl)) (by simp))])]
      have : fbg pre.length o (x :: suf) = some pre.length := by
        cases x <;> first | rfl | cases hw
      rw [this]
    | true =>
      rw [hw] at w
      obtain ⟨i, rfl⟩ : ∃ i, x = .int i := by cases x <;> first | exact ⟨_, rfl⟩ | cases hw
      have tw : evT (cn P (k + 1) B) (.not (.call 21 (.cons (.var 2) .nil) [])) [some (.pv (.tup (pre ++ .int i :: suf))), some (iv pre.length), some (.pv (.int i))] h = .ok (false, h) := T_not0 (T_call (ev_call (es1 (ev_var 2 rfl)) w))
      have next : Bef (pre ++ [.int i]) (some i) := .inr ⟨pre, i, rfl, rfl⟩
      have ih := lp_exp k B h suf (pre ++ [.int i]) (some i) (some (iv pre.length)) (some (.pv (.int i))) (fun y hy => hn y (List.mem_cons_of_mem _ hy)) next
      rw [List.append_assoc, List.singleton_append, List.length_append, List.length_singleton] at ih
      have last : (match suf.getLast? with | none => [some (iv pre.length), some (.pv (.int i))] | some z => [some (iv (((pre.length + 1 : Nat) : Int) + suf.length - 1)), some (.pv z)]) = (match (PV.int i :: suf).getLast? with | none => [o1, o2] | some z => [some (iv ((pre.length : Int) + ((PV.int i :: suf).length : Nat) - 1)), some (.pv z)]) := by
        cases hs : suf with
        | nil => simp
        | cons y ys =>
          rw [List.getLast?_cons_cons]
          cases hl : (y :: ys).getLast? with
          | none => simp at hl
          | some z =>
            dsimp only
            congr 4
            simp only [List.length_cons]
            omega
      rw [last] at ih
      rcases hb with ⟨rfl, rfl⟩ | ⟨q, j, e, rfl⟩
      · rw [evB_if0 (h1 := h) (T_or0 tw (T_and0 (T_cmp (ev_cmp (ev_var 1 rfl) (ev_k _) (gtI 0 0 h))))) evB_nil]
        simp only [fbg]
        exact ih
      · have p : decide ((0 : Int) < (pre.length : Int)) = true := by rw [e]; simp <;> omega
        have tg : evT (cn P (k + 1) B) (.or (.not (.call 21 (.cons (.var 2) .nil) [])) (.and (.cmp .gt (.var 1) (.k (.int 0))) (.cmp .gt (.var 2) (.idx (.var 0) (.bin .sub (.var 1) (.k (.int 1))))))) [some (.pv (.tup (pre ++ .int i :: suf))), some (iv pre.length), some (.pv (.int i))] h = .ok (decide (j < i), h) :=
          T_or0 tw (T_and1 (h1 := h) (T_cmp (ev_cmp (ev_var 1 rfl) (ev_k _) (by rw [← p]; exact gtI _ _ h))) (T_cmp (ev_cmp (ev_var 2 rfl) (ev_idx (ev_var 0 rfl) (ev_bin (ev_var 1 rfl) (ev_k _) (subE _ 1 h)) (idx_bef h e)) (gtI _ _ h))))
        simp only [fbg]
        by_cases hji : j < i
        · rw [decide_eq_true hji] at tg
          rw [evB_ift (h1 := h) (r := some (.rt (.pv (.lst [.int pre.length])), h)) tg (by rw [evB_ret (ev_lst (ps := [.int pre.length]) (es1 (ev_var 1 rfl)) (by simp))]), if_pos hji]
        · rw [decide_eq_false hji] at tg
          rw [evB_if0 (h1 := h) tg evB_nil, if_neg hji]
          exact ih
theorem evB_rai {c : Cn} {j : Nat} {a : IE} {ss : ISs} {e : MI.Env} {h h1 : Sto} {v : PV} (ha : evE c a e h = .ok (.pv v, h1)) : evB c (.cons (.rai j (.cons a .nil) []) ss) e h = some (.ex j [v] e, h1) := by
  rw [evB, evS, es1 ha]
  rfl
theorem lp_desc (k B : Nat) (h : Sto) : ∀ (suf pre : List PV) (o : Option Int) (o1 o2 : Option MV), (∀ x ∈ suf, nex x = true) → Bef pre o →
    ∃ e', loop (forF (cn P (k + 1) B) (.tp [1, 2]) f_check_descending_b0) (enumFrom pre.length (suf.map .pv)) [some (.pv (.tup (pre ++ suf))), o1, o2] h = (match fbg pre.length o suf with | none => some (.nx e', h) | some n => some (.ex 0 [.int n] e', h))
  | [], pre, o, o1, o2, _, _ => ⟨[some (.pv (.tup (pre ++ []))), o1, o2], by simp [enumFrom, loop, fbg]⟩
  | x :: suf, pre, o, o1, o2, hn, hb => by
    have hx := hn x List.mem_cons_self
    have e0 : forF (cn P (k + 1) B) (.tp [1, 2]) f_check_descending_b0 (.many [.pv (.int (pre.length : Int)), .pv x]) [some (.pv (.tup (pre ++ x :: suf))), o1, o2] h = evB (cn P (k + 1) B) f_check_descending_b0 [some (.pv (.tup (pre ++ x :: suf))), some (iv pre.length), some (.pv x)] h := by
      unfold forF
      dsimp only [give, setAll, List.set_cons_succ, List.set_cons_zero]
    simp only [List.map_cons, enumFrom, loop]
    rw [e0]
    unfold f_check_descending_b0
    have w := c_whole (P := P) k B x h hx
    cases hw : whl x with
    | false =>
      rw [hw] at w
      rw [evB_ift (h1 := h) (r := some (.ex 0 [.int pre.length] [some (.pv (.tup (pre ++ x :: suf))), some (iv pre.length), some (.pv x)], h)) (T_not1 (T_call (ev_call (es1 (ev_var 2 rfl)) w))) (by rw [evB_rai (v := .int pre.length) (ev_var 1 rfl)])]
      have : fbg pre.length o (x :: suf) = some pre.length := by
        cases x <;> first | rfl | cases hw
      rw [this]
      exact ⟨_, rfl⟩
    | true =>
      rw [hw] at w
      obtain ⟨i, rfl⟩ : ∃ i, x = .int i := by cases x <;> first | exact ⟨_, rfl⟩ | cases hw
      have tw : evT (cn P (k + 1) B) (.not (.call 0 (.cons (.var 2) .nil) [])) [some (.pv (.tup (pre ++ .int i :: suf))), some (iv pre.length), some (.pv (.int i))] h = .ok (false, h) := T_not0 (T_call (ev_call (es1 (ev_var 2 rfl)) w))
      have next : Bef (pre ++ [.int i]) (some i) := .inr ⟨pre, i, rfl, rfl⟩
      have ih := lp_desc k B h suf (pre ++ [.int i]) (some i) (some (iv pre.length)) (some (.pv (.int i))) (fun y hy => hn y (List.mem_cons_of_mem _ hy)) next
      rw [List.append_assoc, List.singleton_append, List.length_append, List.length_singleton] at ih
      rcases hb with ⟨rfl, rfl⟩ | ⟨q, j, e, rfl⟩
      · rw [evB_if0 (h1 := h) tw (evB_if0 (h1 := h) (T_and0 (T_cmp (ev_cmp (ev_var 1 rfl) (ev_k _) (gtI 0 0 h)))) evB_nil)]
        simp only [fbg]
        exact ih
      · have p : decide ((0 : Int) < (pre.length : Int)) = true := by rw [e]; simp <;> omega
        have tg : evT (cn P (k + 1) B) (.and (.cmp .gt (.var 1) (.k (.int 0))) (.cmp .gt (.var 2) (.idx (.var 0) (.bin .sub (.var 1) (.k (.int 1)))))) [some (.pv (.tup (pre ++ .int i :: suf))), some (iv pre.length), some (.pv (.int i))] h = .ok (decide (j < i), h) :=
          T_and1 (h1 := h) (T_cmp (ev_cmp (ev_var 1 rfl) (ev_k _) (by rw [← p]; exact gtI _ _ h))) (T_cmp (ev_cmp (ev_var 2 rfl) (ev_idx (ev_var 0 rfl) (ev_bin (ev_var 1 rfl) (ev_k _) (subE _ 1 h)) (idx_bef h e)) (gtI _ _ h)))
        simp only [fbg]
        by_cases hji : j < i
        · rw [decide_eq_true hji] at tg
          rw [evB_if0 (h1 := h) tw (evB_ift (h1 := h) (r := some (.ex 0 [.int pre.length] [some (.pv (.tup (pre ++ .int i :: suf))), some (iv pre.length), some (.pv (.int i))], h)) tg (by rw [evB_rai (v := .int pre.length) (ev_var 1 rfl)])), if_pos hji]
          exact ⟨_, rfl⟩
        · rw [decide_eq_false hji] at tg
          rw [evB_if0 (h1 := h) tw (evB_if0 (h1 := h) tg evB_nil), if_neg hji]
          exact ih
theorem it_enumP {c : Cn} {a : IE} {e : MI.Env} {h h1 : Sto} {xs : List PV} (ha : evE c a e h = .ok (.pv (.tup xs), h1)) : evI c (.enum a) e h = .ok (enumFrom 0 (xs.map .pv), h1) := by
  simp only [evI, ha, seq1_ok, itemsOf]
theorem evB_forR {c : Cn} {tg : TG} {it : IT} {b ss : ISs} {e : MI.Env} {h h1 : Sto} {its : List Item} {f : Fl} {h2 : Sto} (hi : evI c it e h = .ok (its, h1)) (hl : loop (forF c tg b) its e h1 = some (f, h2)) (hf : (∃ v, f = .rt v) ∨ ∃ j fs e', f = .ex j fs e') : evB c (.cons (.for_ tg it b) ss) e h = some (f, h2) := by
  rw [evB, evS_for, hi]
  dsimp only
  rw [hl]
  rcases hf with ⟨v, rfl⟩ | ⟨j, fs, e', rfl⟩ <;> rfl
theorem tlen (rp : PV → Str) (xs : List PV) (h : Sto) : oBlt rp .len [.pv (.tup xs)] h = .ok (iv xs.length, h) := by simp [oBlt, seqv, okP]
theorem c_exp (k B : Nat) (p : PV) (h : Sto) (hp : Ok1 p) : callI P (k + 2) 22 B [.pv p] h = .ok (.pv (.lst (due p)), h) := by
  refine run_rt' (F := f_law_expected) Fi.h rfl rfl ?_
  show evB (cn P (k + 1) h.length) f_law_expected.body [some (.pv p), none, none] h = _
  unfold f_law_expected
  cases hT : isTup p with
  | false =>
    have : due p = [.non] := by cases p <;> first | rfl | cases hT
    rw [this]
    refine evB_ift (h1 := h) (T_or1 (T_not1 (T_isI' (ev_var 0 rfl) (by rw [← hT]; exact ty_tup h hp.n)))) ?_
    rw [evB_ret (ev_lst (ps := [.non]) (es1 (ev_k _)) (by simp))]
  | true =>
  obtain ⟨xs, rfl⟩ : ∃ xs, p = .tup xs := by cases p <;> first | exact ⟨_, rfl⟩ | cases hT
  have tT : evT (cn P (k + 1) h.length) (.not (.isI .tuple (.var 0))) [some (.pv (.tup xs)), none, none] h = .ok (false, h) := T_not0 (T_isI' (ev_var 0 rfl) rfl)
  have tl : evT (cn P (k + 1) h.length) (.cmp2 .lt .lt (.k (.int 0)) (.blt .len (.cons (.var 0) .nil)) (.k (.int 7))) [some (.pv (.tup xs)), none, none] h = .ok (decide ((0 : Int) < xs.length) && decide ((xs.length : Int) < 7), h) :=
    T_cmp2 (ev_cmp2 (h1 := h) (h2 := h) (ev_k _) (ev_blt (es1 (ev_var 0 rfl)) (tlen _ xs h)) (ev_k _) (ltI _ _ h) (ltI _ _ h))
  by_cases hl : 0 < xs.length ∧ xs.length < 7
  · have e1 : (decide ((0 : Int) < xs.length) && decide ((xs.length : Int) < 7)) = true := by rw [Bool.and_eq_true, decide_eq_true_eq, decide_eq_true_eq]; omega
    rw [e1] at tl
    have lp := lp_exp (P := P) k h.length h xs [] none none none (hp.t xs rfl) (.inl ⟨rfl, rfl⟩)
    rw [List.nil_append, List.length_nil] at lp
    have ed : due (.tup xs) = (match fbg 0 none xs with | none => [] | some n => [.int n]) := by unfold due; dsimp only; rw [if_pos hl]
    rw [ed]
    refine evB_if0 (h1 := h) (T_or0 tT (T_not0 tl)) ?_
    cases hf : fbg 0 none xs with
    | none =>
      rw [hf] at lp
      exact evB_for (it_enumP (ev_var 0 rfl)) lp (evB_ret (ev_lst (ps := []) es0 (by simp)))
    | some n =>
      rw [hf] at lp
      exact evB_forR (it_enumP (ev_var 0 rfl)) lp (.inl ⟨_, rfl⟩)
  · have e1 : (decide ((0 : Int) < xs.length) && decide ((xs.length : Int) < 7)) = false := by
      rw [Bool.and_eq_false_iff, decide_eq_false_iff_not, decide_eq_false_iff_not]; omega
    rw [e1] at tl
    have ed : due (.tup xs) = [.non] := by unfold due; dsimp only; rw [if_neg hl]
    rw [ed]
    refine evB_ift (h1 := h) (T_or0 tT (T_not1 tl)) ?_
    rw [evB_ret (ev_lst (ps := [.non]) (es1 (ev_k _)) (by simp))]
/-- what check_partition does -/
def chkR (p : PV) (h : Sto) : RE := match due p with
  | [] => .ok (.pv .non, h)
  | x :: _ => .exc 0 [x] h
theorem run_ex {k j B : Nat} {vs : List MV} {h h1 : Sto} {F : Fn} {c : Nat} {fs : List PV} {e : MI.Env} (hf : P.fns j = some F) (hk : F.keep = false) (hl : vs.length = F.ps.length) (hb : evB (cn P k h.length) F.body (MI.start F.N vs) h = some (.ex c fs e, h)) : callI P (k + 1) j B vs h = .exc c fs h := by
  rw [run_fn hf hk hl, hb]
  dsimp only
  rw [List.take_length]
theorem evB_exx {c : Cn} {a : IE} {ss : ISs} {e : MI.Env} {h h1 : Sto} {j : Nat} {fs : List PV} (ha : evE c a e h = .exc j fs h1) : evB c (.cons (.ex a) ss) e h = some (.ex j fs e, h1) := by
  rw [evB, evS.eq_7, ha]
theorem c_chk (k B : Nat) (p : PV) (h : Sto) (hp : Ok1 p) : callI P (k + 3) 75 B [.pv p] h = chkR p h := by
  unfold chkR
  cases hT : isTup p with
  | false =>
    have : due p = [.non] := by cases p <;> first | rfl | cases hT
    rw [this]
    refine run_ex (h1 := h) (F := f_check_partition_v2) (e := [some (.pv p)]) Fi.h rfl rfl ?_
    show evB (cn P (k + 2) h.length) f_check_partition_v2.body [some (.pv p)] h = _
    unfold f_check_partition_v2
    refine evB_ift (h1 := h) (T_or1 (T_not1 (T_isI' (ev_var 0 rfl) (by rw [← hT]; exact ty_tup h hp.n)))) ?_
    rw [evB_rai (v := .non) (ev_k _)]
  | true =>
  obtain ⟨xs, rfl⟩ : ∃ xs, p = .tup xs := by cases p <;> first | exact ⟨_, rfl⟩ | cases hT
  have tT : evT (cn P (k + 2) h.length) (.not (.isI .tuple (.var 0))) [some (.pv (.tup xs))] h = .ok (false, h) := T_not0 (T_isI' (ev_var 0 rfl) rfl)
  have tl : evT (cn P (k + 2) h.length) (.cmp2 .le .le (.k (.int 1)) (.blt .len (.cons (.var 0) .nil)) (.glob "MAX_SIZE" (.int 6))) [some (.pv (.tup xs))] h = .ok (decide ((1 : Int) ≤ xs.length) && decide ((xs.length : Int) ≤ 6), h) :=
    T_cmp2 (ev_cmp2 (h1 := h) (h2 := h) (ev_k _) (ev_blt (es1 (ev_var 0 rfl)) (tlen _ xs h)) (ev_glob _ _) (leI _ _ h) (leI _ _ h))
  by_cases hl : 0 < xs.length ∧ xs.length < 7
  · have e1 : (decide ((1 : Int) ≤ xs.length) && decide ((xs.length : Int) ≤ 6)) = true := by simp; omega
    rw [e1] at tl
    obtain ⟨e', lp⟩ := lp_desc (P := P) k h.length h xs [] none none none (hp.t xs rfl) (.inl ⟨rfl, rfl⟩)
    rw [List.nil_append, List.length_nil] at lp
    have ed : due (.tup xs) = (match fbg 0 none xs with | none => [] | some n => [.int n]) := by unfold due; dsimp only; rw [if_pos hl]
    rw [ed]
    have cd : callI P (k + 2) 74 h.length [.pv (.tup xs)] h = (match fbg 0 none xs with | none => .ok (.pv .non, h) | some n => .exc 0 [.int n] h) := by
      cases hf : fbg 0 none xs with
      | none =>
        rw [hf] at lp
        refine run_nx' (F := f_check_descending) (e := e') Fi.h rfl rfl ?_
        show evB (cn P (k + 1) h.length) f_check_descending.body [some (.pv (.tup xs)), none, none] h = _
        unfold f_check_descending
        exact evB_for (it_enumP (ev_var 0 rfl)) lp evB_nil
      | some n =>
        rw [hf] at lp
        refine run_ex (h1 := h) (F := f_check_descending) (e := e') Fi.h rfl rfl ?_
        show evB (cn P (k + 1) h.length) f_check_descending.body [some (.pv (.tup xs)), none, none] h = _
        unfold f_check_descending
        exact evB_forR (it_enumP (ev_var 0 rfl)) lp (.inr ⟨_, _, _, rfl⟩)
    cases hf : fbg 0 none xs with
    | none =>
      rw [hf] at cd
      refine run_nx' (F := f_check_partition_v2) (e := [some (.pv (.tup xs))]) Fi.h rfl rfl ?_
      show evB (cn P (k + 2) h.length) f_check_partition_v2.body [some (.pv (.tup xs))] h = _
      unfold f_check_partition_v2
      exact evB_if0 (h1 := h) (T_or0 tT (T_not0 tl)) (evB_ex (ev_call (es1 (ev_var 0 rfl)) cd) evB_nil)
    | some n =>
      rw [hf] at cd
      refine run_ex (h1 := h) (F := f_check_partition_v2) (e := [some (.pv (.tup xs))]) Fi.h rfl rfl ?_
      show evB (cn P (k + 2) h.length) f_check_partition_v2.body [some (.pv (.tup xs))] h = _
      unfold f_check_partition_v2
      exact evB_if0 (h1 := h) (T_or0 tT (T_not0 tl)) (evB_exx (ev_call (es1 (ev_var 0 rfl)) cd))
  · have e1 : (decide ((1 : Int) ≤ xs.length) && decide ((xs.length : Int) ≤ 6)) = false := by
      rw [Bool.and_eq_false_iff]; simp; omega
    rw [e1] at tl
    have ed : due (.tup xs) = [.non] := by unfold due; dsimp only; rw [if_neg hl]
    rw [ed]
    refine run_ex (h1 := h) (F := f_check_partition_v2) (e := [some (.pv (.tup xs))]) Fi.h rfl rfl ?_
    show evB (cn P (k + 2) h.length) f_check_partition_v2.body [some (.pv (.tup xs))] h = _
    unfold f_check_partition_v2
    refine evB_ift (h1 := h) (T_or0 tT (T_not1 tl)) ?_
    rw [evB_rai (v := .non) (ev_k _)]
end K01

namespace K01
open PySem MI
open Lean.Parser.Tactic in
local macro_rules | `(tactic| dsimp! [$ts,*]) => `(tactic| simp only [evB, evS_for, evE_comp, evT, evEs, evC, evO, evI, evE.eq_1, evE.eq_2, evE.eq_3, evE.eq_4, evE.eq_5, evE.eq_6, evE.eq_7, evE.eq_8, evE.eq_9, evE.eq_10, evE.eq_11, evE.eq_12, evE.eq_13, evE.eq_14, evE.eq_15, evE.eq_16, evE.eq_17, evE.eq_18, evE.eq_19, evE.eq_20, evE.eq_21, evE.eq_22, evE.eq_23, evE.eq_25, evE.eq_26, evE.eq_27, evE.eq_28, evE.eq_29, evE.eq_30, evS.eq_1, evS.eq_2, evS.eq_3, evS.eq_4, evS.eq_5, evS.eq_6, evS.eq_7, evS.eq_8, evS.eq_11, evS.eq_12, evS.eq_13, evS.eq_14, evS.eq_15, cn_C, cn_B, cn_rp, cn_f, cn_nx, cn_sub, cn_fuel, MI.start, List.map_cons, List.map_nil, List.length_cons, List.length_nil, List.replicate, List.cons_append, List.nil_append, List.append_nil, List.singleton_append, List.getElem?_cons_zero, List.getElem?_cons_succ, List.set_cons_zero, List.set_cons_succ, seq1_ok, seqL_ok, okP, Bool.false_eq_true, if_false, if_true, Bool.not_true, Bool.not_false, Nat.reduceSub, MI.close, take_all, $ts,*])
variable {P : Prg} [Bas P] [Fi P 0 f_is_integer] [Fi P 74 f_check_descending] [Fi P 75 f_check_partition_v2] [Fi P 76 f_is_partition_v2] [Fi P 9 f_law_mixed] [Fi P 10 f_law_folded] [Fi P 11 f_law_draw] [Fi P 12 f_law_begun] [Fi P 13 f_law_part] [Fi P 18 f_law_other] [Fi P 19 f_law_changed] [Fi P 20 f_law_nested] [Fi P 21 f_law_is_whole] [Fi P 22 f_law_expected] [Fi P 91 f_law_position_v2] [Fi P 92 f_law_checked_v3] [Fi P 93 f_law_nested_checked_v3] [Fi P 94 f_law_v9] [Nx P 0]
theorem fbg_lt : ∀ (xs : List PV) (n : Nat) (o : Option Int) (m : Nat), fbg n o xs = some m → m < n + xs.length
  | [], n, o, m, e => by simp [fbg] at e
  | x :: xs, n, o, m, e => by
    rw [List.length_cons]
    cases x with
    | int i =>
      simp only [fbg] at e
      cases o with
      | none => have := fbg_lt xs (n + 1) _ m e; omega
      | some j =>
        dsimp only at e
        split at e
        · cases e; omega
        · have := fbg_lt xs (n + 1) _ m e; omega
    | _ => simp only [fbg, Option.some.injEq] at e; omega
theorem due_rl (p : PV) : RL 60 (.lst (due p)) 3000 := by
  have key : ∀ x ∈ due p, RL 59 x 1922 := by
    intro x hx
    unfold due at hx
    split at hx
    · rename_i xs
      split at hx
      · rename_i hl
        split at hx
        · cases hx
        · rename_i n e
          have := fbg_lt xs 0 none n e
          rw [List.mem_singleton] at hx
          subst hx
          exact rl_int 59 ((show Bd 10 (n : Int) by unfold Bd; omega).up (by omega))
      · rw [List.mem_singleton] at hx
        subst hx
        exact ⟨4, rfl, by omega⟩
    · rw [List.mem_singleton] at hx
      subst hx
      exact ⟨4, rfl, by omega⟩
  refine rl_lst key ?_
  rcases due_cases p with e | e | ⟨n, e⟩ <;> rw [e] <;> simp
theorem evB_tri0 {c : Cn} {b hd ss : ISs} {k : Nat} {a : Option Nat} {e e1 : MI.Env} {h h1 : Sto} {r : RS} (hb : evB c b e h = some (.nx e1, h1)) (hr : evB c ss e1 h1 = r) : evB c (.cons (.tri b k a hd) ss) e h = r := by
  rw [evB, evS, hb]
  exact hr
theorem evB_triN {c : Cn} {b hd ss : ISs} {k : Nat} {fs : List PV} {e e1 : MI.Env} {h h1 : Sto} {r : RS} (hb : evB c b e h = some (.ex k fs e1, h1)) (hn : c.nx k = true) (hs : c.sub k k = true) (hr : (match evB c hd e1 h1 with | some (.nx e2, h2) => evB c ss e2 h2 | some (.rt v, h2) => some (.rt v, h2) | _ => none) = r) : evB c (.cons (.tri b k none hd) ss) e h = r := by
  rw [evB, evS, hb]
  dsimp only
  rw [if_pos hn, if_pos hs]
  rw [← hr]
  cases evB c hd e1 h1 with
  | none => rfl
  | some z => obtain ⟨f, h2⟩ := z; cases f <;> rfl
theorem evB_triS {c : Cn} {b hd ss : ISs} {k i : Nat} {fs : List PV} {e e1 e2 : MI.Env} {h h1 h2 : Sto} {r : RS} (hb : evB c b e h = some (.ex k fs e1, h1)) (hn : c.nx k = true) (hs : c.sub k k = true) (hd' : evB c hd (e1.set i (some (.pv (.exc k fs)))) h1 = some (.nx e2, h2)) (hr : evB c ss (e2.set i none) h2 = r) : evB c (.cons (.tri b k (some i) hd) ss) e h = r := by
  rw [evB, evS, hb]
  dsimp only
  rw [if_pos hn, if_pos hs, hd']
  exact hr
theorem c_isp1 (k B : Nat) (p : PV) (h : Sto) (hp : Ok1 p) : callI P (k + 4) 76 B [.pv p] h = .ok (.pv (.bl (due p).isEmpty), h) := by
  have cd := c_chk (P := P) k h.length p h hp
  unfold chkR at cd
  refine run_rt' (F := f_is_partition_v2) Fi.h rfl rfl ?_
  show evB (cn P (k + 3) h.length) f_is_partition_v2.body [some (.pv p)] h = _
  unfold f_is_partition_v2
  cases hd : due p with
  | nil =>
    rw [hd] at cd
    exact evB_tri0 (evB_ex (ev_call (es1 (ev_var 0 rfl)) cd) evB_nil) (evB_ret (ev_k _))
  | cons x l =>
    rw [hd] at cd
    exact evB_triN (evB_exx (ev_call (es1 (ev_var 0 rfl)) cd)) Nx.h (beq_self_eq_true _) (by rw [evB_ret (ev_k _)]; try rfl)
theorem T_varB {c : Cn} {i : Nat} {e : MI.Env} {h : Sto} {b : Bool} (hv : e[i]? = some (some (.pv (.bl b)))) : evT c (.var i) e h = .ok (b, h) := by
  rw [evT, hv]
  rfl
theorem ev_ite1 {c : Cn} {t a b : IE} {e : MI.Env} {h h1 : Sto} {r : RE} (ht : evT c t e h = .ok (true, h1)) (hr : evE c a e h1 = r) : evE c (.ite t a b) e h = r := by
  rw [evE, ht]
  exact hr
theorem non_non (h : Sto) : oCmp .is (.pv .non) (.pv .non) h = .ok (.pv (.bl true), h) := rfl
theorem is_non (v : MV) (h : Sto) : oCmp .is v (.pv .non) h = .ok (.pv (.bl (isNon v)), h) := rfl
theorem evB_setx {c : Cn} {i : Nat} {a : IE} {ss : ISs} {e : MI.Env} {h h1 : Sto} {j : Nat} {fs : List PV} (ha : evE c a e h = .exc j fs h1) : evB c (.cons (.set i a) ss) e h = some (.ex j fs e, h1) := by
  rw [evB, evS.eq_1, ha]
theorem c_pos (k B : Nat) (p : PV) (b : Bool) (h : Sto) (hp : Ok1 p) : callI P (k + 4) 91 B [.pv p, .pv (.bl b)] h = .ok (.pv (.lst (due p)), h) := by
  have cd := c_chk (P := P) k h.length p h hp
  unfold chkR at cd
  have hi : evE (cn P (k + 3) h.length) (.ite (.var 1) (.callk 75 .nil ["value"] (.cons (.var 0) .nil) [0]) (.call 75 (.cons (.var 0) .nil) [])) [some (.pv p), some (.pv (.bl b)), some (.pv .non), some (.pv .non), none] h = callI P (k + 3) 75 h.length [.pv p] h := by
    refine ev_ite (h1 := h) (T_varB rfl) ?_
    cases b with
    | true => exact (if_pos rfl).trans (ev_callk (ns := ["value"]) es0 (es1 (ev_var 0 rfl)) rfl rfl)
    | false => exact (if_neg Bool.false_ne_true).trans (ev_call (es1 (ev_var 0 rfl)) rfl)
  rw [cd] at hi
  refine run_rt' (F := f_law_position_v2) Fi.h rfl rfl ?_
  show evB (cn P (k + 3) h.length) f_law_position_v2.body [some (.pv p), some (.pv (.bl b)), none, none, none] h = _
  unfold f_law_position_v2
  refine evB_set (ev_k _) (evB_set (ev_k _) ?_)
  dsimp only [List.set_cons_succ, List.set_cons_zero]
  cases hd : due p with
  | nil =>
    rw [hd] at hi
    refine evB_tri0 (evB_set hi evB_nil) ?_
    dsimp only [List.set_cons_succ, List.set_cons_zero]
    refine evB_ift (h1 := h) (T_cmp (ev_cmp (ev_var 2 rfl) (ev_k _) (is_non _ h))) ?_
    rw [evB_ret (ev_ite1 (h1 := h) (T_cmp (ev_cmp (ev_var 3 rfl) (ev_k _) (non_non h))) (ev_lst (ps := []) es0 (by simp)))]
  | cons x l =>
    rw [hd] at hi
    have hl : l = [] := by rcases due_cases p with e | e | ⟨n, e⟩ <;> rw [hd] at e <;> cases e <;> rfl
    subst hl
    refine evB_triS (evB_setx hi) Nx.h (beq_self_eq_true _) (evB_set (ev_var 4 rfl) evB_nil) ?_
    dsimp only [List.set_cons_succ, List.set_cons_zero]
    refine evB_if0 (h1 := h) (T_cmp (ev_cmp (ev_var 2 rfl) (ev_k _) (is_non _ h))) ?_
    refine evB_ret (ev_lst (ps := [x]) (es1 ?_) (by simp))
    rw [evE, ev_var 2 rfl, seq1_ok]
    have nx0 : (cn P (k + 3) h.length).nx 0 = true := Nx.h
    have fl : (cn P (k + 3) h.length).fields 0 = ([("position" : Str)] : List Str) := rfl
    simp only [fieldOf, nx0, if_true, fl, List.zip_cons_cons, List.zip_nil_right, List.lookup_cons, beq_self_eq_true, okP]
theorem eq_str (a b : Str) (h : Sto) : oCmp .eq (.pv (.str a)) (.pv (.str b)) h = .ok (.pv (.bl (a == b)), h) := eqS a b h
theorem rl_2b (a b : Bool) : RL 60 (.lst [.bl a, .bl b]) 100 := by
  refine rl_lst (d := 59) (N := 5) (fun x hx => ?_) (by simp)
  simp only [List.mem_cons, List.not_mem_nil, or_false] at hx
  rcases hx with rfl | rfl <;> exact ⟨5, rfl, by omega⟩
theorem mul_2 (z : Bool) (h : Sto) : oBin .mul (.pv (.lst [.bl z])) (.pv (.int 2)) h = .ok (.pv (.lst [.bl z, .bl z]), h) := by
  rw [ev_mulL h (by decide) (by decide) (by simp)]
  rfl
theorem ev_and1 {c : Cn} {a b : IE} {e : MI.Env} {h h1 : Sto} {r : RE} (ha : evE c a e h = .ok (.pv (.bl true), h1)) (hb : evE c b e h1 = r) : evE c (.and a b) e h = r := by
  rw [evE, ha]
  exact hb
theorem c_chkd (k B : Nat) (p : PV) (h : Sto) (hp : Ok1 p) (hr : RL 60 p 16000000) : callI P (k + 5) 92 B [.pv p] h = .ok (.pv (.bl true), h) := by
  have rp := repr_rl h hr (Nat.le_refl _)
  have rd := repr_rl h (due_rl p) (by omega)
  have ex := c_exp (P := P) (k + 2) h.length p h hp
  have ip := c_isp1 (P := P) k h.length p h hp
  have w1 := c_whole (P := P) (k + 3) h.length p h hp.n
  have w2 := c_whole2 (P := P) (k + 3) h.length p h hp.n
  have r2 := fun a b : Bool => repr_rl h (rl_2b a b) (by omega)
  refine run_rt' (F := f_law_checked_v3) Fi.h rfl rfl ?_
  show evB (cn P (k + 4) h.length) f_law_checked_v3.body [some (.pv p), none, none, none] h = _
  unfold f_law_checked_v3
  refine evB_par (es2 (ev_call (es1 (ev_var 0 rfl)) ex) (ev_blt (es1 (ev_var 0 rfl)) rp)) ?_
  dsimp only [List.set_cons_succ, List.set_cons_zero]
  obtain ⟨e', q, o, rfl⟩ := loop_keep (f := forF (cn P (k + 4) h.length) (.nm 3) f_law_checked_v3_b0) (mk := fun (b : Bool) => .one (.pv (.bl b))) (h := h) (fun e => ∃ o, e = ([some (.pv p), some (.pv (.lst (due p))), some (.pv (.str (rpOf p))), o] : MI.Env)) [false, true] [some (.pv p), some (.pv (.lst (due p))), some (.pv (.str (rpOf p))), none] ⟨_, rfl⟩ (by
    rintro b _ e ⟨o, rfl⟩
    refine ⟨[some (.pv p), some (.pv (.lst (due p))), some (.pv (.str (rpOf p))), some (.pv (.bl b))], ?_, _, rfl⟩
    unfold forF
    dsimp only [give, List.set_cons_succ, List.set_cons_zero]
    unfold f_law_checked_v3_b0
    exact evB_if0 (h1 := h) (T_cmp (ev_cmp (ev_blt (es1 (ev_call (es2 (ev_var 0 rfl) (ev_var 3 rfl)) (c_pos (P := P) k h.length p b h hp))) rd) (ev_blt (es1 (ev_var 1 rfl)) rd) (ne_str _ h))) evB_nil)
  refine evB_for (its := [false, true].map fun b => Item.one (.pv (.bl b))) (it_val (xs := [.bl false, .bl true]) (ev_tup (ps := [.bl false, .bl true]) (es2 (ev_k _) (ev_k _)) (by simp))) q ?_
  have pl : plain 60 (.lst (due p)) = true := by
    rcases due_cases p with e | e | ⟨n, e⟩ <;> rw [e] <;> rfl
  have le : evE (cn P (k + 4) h.length) (.lst (.cons (.cmp .eq (.var 1) (.lst .nil)) .nil)) [some (.pv p), some (.pv (.lst (due p))), some (.pv (.str (rpOf p))), o] h = .ok (.pv (.lst [.bl (due p).isEmpty]), h) :=
    ev_lst (ps := [.bl (due p).isEmpty]) (es1 (ev_cmp (ev_var 1 rfl) (ev_lst (ps := []) es0 (by simp)) (eq_nil h pl))) (by simp)
  refine evB_if0 (h1 := h) (T_cmp (ev_cmp (ev_blt (es1 (ev_lst (ps := [.bl (due p).isEmpty, .bl (due p).isEmpty]) (es2 (ev_call (es1 (ev_var 0 rfl)) ip) (ev_callk es0 (es1 (ev_var 0 rfl)) rfl ip)) (by simp))) (r2 _ _)) (ev_blt (es1 (ev_bin le (ev_k _) (mul_2 _ h))) (r2 _ _)) (ne_str _ h))) ?_
  refine evB_set (ev_bin (ev_lst (ps := [.bl (whl p)]) (es1 (ev_call (es1 (ev_var 0 rfl)) w2)) (by simp)) (ev_k _) (mul_2 _ h)) ?_
  dsimp only [List.set_cons_succ, List.set_cons_zero]
  refine evB_ret (ev_and1 (h1 := h) (ev_cmp (ev_blt (es1 (ev_lst (ps := [.bl (whl p), .bl (whl p)]) (es2 (ev_call (es1 (ev_var 0 rfl)) w1) (ev_callk es0 (es1 (ev_var 0 rfl)) rfl w1)) (by simp))) (r2 _ _)) (ev_blt (es1 (ev_var 1 rfl)) (r2 _ _)) ?_) (ev_cmp (ev_blt (es1 (ev_var 0 rfl)) rp) (ev_var 2 rfl) ?_))
  · rw [eq_str, beq_self_eq_true]
  · rw [eq_str, beq_self_eq_true]
/-! ### nested -/
theorem whl_nst (w n : Nat) : whl (nst w n) = false := by
  cases n with
  | zero => rfl
  | succ n => unfold nst; split <;> rfl
theorem due_one {x : PV} (hx : whl x = false) : due (.tup [x]) = [.int 0] := by
  cases x <;> first | rfl | cases hx
theorem due_two {x : PV} (hx : whl x = false) : due (.tup [.int 3, x]) = [.int 1] := by
  cases x <;> first | rfl | cases hx
theorem due_n0 (n : Nat) : due (nst 0 (n + 1)) = [.int 0] := by
  show due (.tup [nst 0 n, nst 0 n]) = _
  have h := whl_nst 0 n
  cases hx : nst 0 n <;> first | rfl | (rw [hx] at h; cases h)
theorem due_n1 (n : Nat) : due (nst 1 (n + 1)) = [.non] := rfl
theorem ok_one {x : PV} (hx : nex x = true) : Ok1 (.tup [x]) := ⟨rfl, fun xs e y hy => by cases e; rw [List.mem_singleton] at hy; rw [hy]; exact hx⟩
theorem ok_two {x : PV} (hx : nex x = true) : Ok1 (.tup [.int 3, x]) := ⟨rfl, fun xs e y hy => by
  cases e
  simp only [List.mem_cons, List.not_mem_nil, or_false] at hy
  rcases hy with rfl | rfl
  · rfl
  · exact hx⟩
theorem ok_nst (w : Nat) : ∀ n, Ok1 (nst w n)
  | 0 => ⟨rfl, fun xs e y hy => by cases e; cases hy⟩
  | n + 1 => ⟨nst_nex w (n + 1), fun xs e y hy => by
      unfold nst at e
      split at e
      · cases e
        simp only [List.mem_cons, List.not_mem_nil, or_false, or_self] at hy
        rw [hy]; exact nst_nex w n
      · cases e⟩
theorem due_ne (w n : Nat) : (due (nst w n)).isEmpty = false := by
  cases n with
  | zero => rfl
  | succ n =>
    unfold nst
    split
    · have := due_n0 n
      rename_i hw
      subst hw
      rw [show PV.tup [nst 0 n, nst 0 n] = nst 0 (n + 1) from rfl, this]; try rfl
    · rfl
theorem c_nestc (k B : Nat) (h : Sto) : callI P (k + 5) 93 B [] h = .ok (.pv (.bl true), h) := by
  have hn : ∀ (w : Nat), w < 2 → callI P (k + 4) 20 h.length [iv w] h = .ok (.pv (nst w 60), h) := fun w hw => c_nested (P := P) (k + 3) h.length w h hw
  obtain ⟨e', q, o1, o2, rfl⟩ := loop_keep (f := forF (cn P (k + 4) h.length) (.nm 0) f_law_nested_checked_v3_b0) (mk := fun (w : Nat) => .one (iv w)) (h := h) (fun e => ∃ o1 o2, e = ([o1, o2] : MI.Env)) (List.range 2) [none, none] ⟨_, _, rfl⟩ (by
    rintro w hw e ⟨o1, o2, rfl⟩
    have hw : w < 2 := by simpa using hw
    generalize hx : nst w 60 = far at hn
    have fn : nex far = true := by rw [← hx]; exact nst_nex w 60
    have fw : whl far = false := by rw [← hx]; exact whl_nst w 60
    have fo : Ok1 far := by rw [← hx]; exact ok_nst w 60
    have fd : (due far).isEmpty = false := by rw [← hx]; exact due_ne w 60
    have n1 : callI P (k + 4) 20 h.length [iv w] h = .ok (.pv far, h) := by rw [← hx]; exact c_nested (P := P) (k + 3) h.length w h hw
    refine ⟨[some (iv w), some (.pv far)], ?_, _, _, rfl⟩
    unfold forF
    dsimp only [give, List.set_cons_succ, List.set_cons_zero]
    unfold f_law_nested_checked_v3_b0
    refine evB_set (ev_call (es1 (ev_var 0 rfl)) n1) ?_
    dsimp only [List.set_cons_succ, List.set_cons_zero]
    have i0 := c_whole (P := P) (k + 3) h.length far h fn
    have i1 := c_isp1 (P := P) k h.length far h fo
    have i2 := c_isp1 (P := P) k h.length (.tup [far]) h (ok_one fn)
    have i3 := c_isp1 (P := P) k h.length (.tup [.int 3, far]) h (ok_two fn)
    rw [fw] at i0
    rw [fd] at i1
    rw [due_one fw] at i2
    rw [due_two fw] at i3
    have p1 := c_pos (P := P) k h.length (.tup [far]) false h (ok_one fn)
    have p2 := c_pos (P := P) k h.length (.tup [.int 3, far]) false h (ok_two fn)
    rw [due_one fw] at p1
    rw [due_two fw] at p2
    have t1 : ∀ (e : MI.Env), e[1]? = some (some (.pv far)) → evE (cn P (k + 4) h.length) (.tup (.cons (.var 1) .nil)) e h = .ok (.pv (.tup [far]), h) := fun e he => ev_tup (ps := [far]) (es1 (ev_var 1 he)) (by simp)
    have t2 : ∀ (e : MI.Env), e[1]? = some (some (.pv far)) → evE (cn P (k + 4) h.length) (.tup (.cons (.k (.int 3)) (.cons (.var 1) .nil))) e h = .ok (.pv (.tup [.int 3, far]), h) := fun e he => ev_tup (ps := [.int 3, far]) (es2 (ev_k _) (ev_var 1 he)) (by simp)
    refine evB_if0 (h1 := h) (T_cmp (ev_cmp (ev_lst (ps := [.bl false, .bl false, .bl false, .bl false]) (es4 (ev_call (es1 (ev_var 1 rfl)) i0) (ev_call (es1 (ev_var 1 rfl)) i1) (ev_call (es1 (t1 _ rfl)) i2) (ev_call (es1 (t2 _ rfl)) i3)) (by simp)) (ev_bin (ev_lst (ps := [.bl false]) (es1 (ev_k _)) (by simp)) (ev_k _) (ev_mulL h (by decide) (by decide) (by simp))) (ne_self h rfl))) ?_
    exact evB_if0 (h1 := h) (T_cmp (ev_cmp (ev_lst (ps := [.lst [.int 0], .lst [.int 1]]) (es2 (ev_call (es2 (t1 _ rfl) (ev_k _)) p1) (ev_call (es2 (t2 _ rfl) (ev_k _)) p2)) (by simp)) (ev_lst (ps := [.lst [.int 0], .lst [.int 1]]) (es2 (ev_lst (ps := [.int 0]) (es1 (ev_k _)) (by simp)) (ev_lst (ps := [.int 1]) (es1 (ev_k _)) (by simp))) (by simp)) (ne_self h rfl))) evB_nil)
  refine run_rt' (F := f_law_nested_checked_v3) Fi.h rfl rfl ?_
  show evB (cn P (k + 4) h.length) f_law_nested_checked_v3.body [none, none] h = _
  unfold f_law_nested_checked_v3
  refine evB_for (it_rng 2 rfl (by omega) (ev_k _)) q ?_
  have p0 := c_pos (P := P) k h.length (nst 0 60) false h (ok_nst 0 60)
  have p1 := c_pos (P := P) k h.length (nst 1 60) false h (ok_nst 1 60)
  rw [due_n0 59] at p0
  rw [due_n1 59] at p1
  refine evB_ret (ev_and1 (h1 := h) (ev_cmp (ev_call (es2 (ev_call (es1 (ev_k _)) (hn 0 (by omega))) (ev_k _)) p0) (ev_lst (ps := [.int 0]) (es1 (ev_k _)) (by simp)) (eq_self h rfl)) (ev_cmp (ev_call (es2 (ev_call (es1 (ev_k _)) (hn 1 (by omega))) (ev_k _)) p1) (ev_lst (ps := [.non]) (es1 (ev_k _)) (by simp)) (eq_self h rfl)))
end K01

namespace K01
open PySem MI
open Lean.Parser.Tactic in
local macro_rules | `(tactic| dsimp! [$ts,*]) => `(tactic| simp only [evB, evS_for, evE_comp, evT, evEs, evC, evO, evI, evE.eq_1, evE.eq_2, evE.eq_3, evE.eq_4, evE.eq_5, evE.eq_6, evE.eq_7, evE.eq_8, evE.eq_9, evE.eq_10, evE.eq_11, evE.eq_12, evE.eq_13, evE.eq_14, evE.eq_15, evE.eq_16, evE.eq_17, evE.eq_18, evE.eq_19, evE.eq_20, evE.eq_21, evE.eq_22, evE.eq_23, evE.eq_25, evE.eq_26, evE.eq_27, evE.eq_28, evE.eq_29, evE.eq_30, evS.eq_1, evS.eq_2, evS.eq_3, evS.eq_4, evS.eq_5, evS.eq_6, evS.eq_7, evS.eq_8, evS.eq_11, evS.eq_12, evS.eq_13, evS.eq_14, evS.eq_15, cn_C, cn_B, cn_rp, cn_f, cn_nx, cn_sub, cn_fuel, MI.start, List.map_cons, List.map_nil, List.length_cons, List.length_nil, List.replicate, List.cons_append, List.nil_append, List.append_nil, List.singleton_append, List.getElem?_cons_zero, List.getElem?_cons_succ, List.set_cons_zero, List.set_cons_succ, seq1_ok, seqL_ok, okP, Bool.false_eq_true, if_false, if_true, Bool.not_true, Bool.not_false, Nat.reduceSub, MI.close, take_all, $ts,*])
variable {P : Prg} [Bas P] [Fi P 0 f_is_integer] [Fi P 74 f_check_descending] [Fi P 75 f_check_partition_v2] [Fi P 76 f_is_partition_v2] [Fi P 9 f_law_mixed] [Fi P 10 f_law_folded] [Fi P 11 f_law_draw] [Fi P 12 f_law_begun] [Fi P 13 f_law_part] [Fi P 18 f_law_other] [Fi P 19 f_law_changed] [Fi P 20 f_law_nested] [Fi P 21 f_law_is_whole] [Fi P 22 f_law_expected] [Fi P 91 f_law_position_v2] [Fi P 92 f_law_checked_v3] [Fi P 93 f_law_nested_checked_v3] [Fi P 94 f_law_v9] [Nx P 0]
theorem ok_dat {b c d w : Nat} {p : PV} (h : Dat b c d w p) : Ok1 p := ⟨okd_nex h.ok, fun xs e x hx => by
  subst e
  exact okd_nex (h.of_tup.2.1 x hx).1⟩
theorem wts_ints : ∀ ys : List Int, wts (ys.map .int) = ys.length * 12004
  | [] => by simp [wts]
  | y :: ys => by simp only [List.map_cons, wts, wt, wts_ints ys, List.length_cons]; omega
theorem dat_ints {b c d w : Nat} {ys : List Int} (hb : ∀ a ∈ ys, Bd b a) (hl : ys.length ≤ c) (hw : ys.length * 12004 + 5 ≤ w) : Dat b c (d + 1) w (tupI ys) := by
  refine .tup (by rw [List.length_map]; exact hl) (fun x hx => ?_) (by rw [wts_ints]; exact hw)
  obtain ⟨a, ha, rfl⟩ := List.mem_map.mp hx
  have : Dat b c d 12004 (.int a) := .int (hb a ha) (by omega)
  exact ⟨this.ok, this.dp⟩
theorem dat_intsL {b c d w : Nat} {ys : List Int} (hb : ∀ a ∈ ys, Bd b a) (hl : ys.length ≤ c) (hw : ys.length * 12004 + 5 ≤ w) : Dat b c (d + 1) w (.lst (ys.map .int)) := by
  refine .lst (by rw [List.length_map]; exact hl) (fun x hx => ?_) (by rw [wts_ints]; exact hw)
  obtain ⟨a, ha, rfl⟩ := List.mem_map.mp hx
  have : Dat b c d 12004 (.int a) := .int (hb a ha) (by omega)
  exact ⟨this.ok, this.dp⟩
theorem toInts_map' : ∀ ys : List Int, toInts (ys.map .int) = some ys
  | [] => rfl
  | y :: ys => by simp only [List.map_cons, toInts, toInts_map' ys]
theorem ck_ints : ∀ ys : List Int, ∀ t ∈ PyData.shownAll (toDs (ys.map .int)), ck t
  | [], t, ht => by simp [toDs, PyData.shownAll] at ht
  | y :: ys, t, ht => by
    simp only [List.map_cons, toDs, PyData.shownAll, List.mem_cons] at ht
    rcases ht with rfl | ht
    · simp only [toD, PyData.shown]; exact ck_of _
    · exact ck_ints ys t ht
theorem str_tup (ys : List Int) (h : Sto) (hb : ∀ a ∈ ys, Bd 1000 a) (hl : ys.length ≤ 6) : ∃ x, oBlt rpOf .str [.pv (tupI ys)] h = .ok (.pv (.str x), h) ∧ Dat 4002 12 3 651400 (.str x) := by
  obtain ⟨n, en, hn⟩ := rlen_tup 59 (xs := ys) ⟨hl, hb⟩
  refine ⟨rpOf (tupI ys), ?_, ?_⟩
  · have c : (ys.all fun i => decide (i.natAbs.log2 < 1920)) = true ∧ n ≤ 16000000 := ⟨by
      rw [List.all_eq_true]
      intro a ha
      have := (hb a ha).lg
      exact decide_eq_true (by omega), by omega⟩
    have en' : rlen 60 (.tup (ys.map .int)) = some n := en
    simp only [oBlt, tupI, toInts_map', en']
    rw [if_pos c]
    rfl
  · have e : rpOf (tupI ys) = tupleText (PyData.shownAll (toDs (ys.map .int))) := by
      show (toD (tupI ys)).shown = _
      simp only [tupI, toD, PyData.shown]
    have hz := (rlen_ok 60 (tupI ys) n en).1
    rw [show (toD (tupI ys)).shown = rpOf (tupI ys) from rfl] at hz
    rw [e] at hz ⊢
    exact .str (ck_tt (ck_ints ys)) (by omega)
theorem cut_last {xs : List PV} (h : 1 ≤ xs.length) : cut xs (some (-1)) none = xs.drop (xs.length - 1) := by
  have e : (-1 : Int) < 0 := by decide
  have e2 : ((-1 : Int) + (xs.length : Int)).toNat = xs.length - 1 := by omega
  simp only [cut, sIx, e, if_true, e2]
  rw [List.take_of_length_le (by simp)]
theorem ev_sl_last {c : Cn} {e : MI.Env} {h h1 : Sto} {a : IE} {xs : List PV} (ha : evE c a e h = .ok (.pv (.tup xs), h1)) (hl : 1 ≤ xs.length) : evE c (.sl a (.so (.neg (.k (.int 1)))) .no) e h = .ok (.pv (.tup (xs.drop (xs.length - 1))), h1) := by
  have en : evE c (.neg (.k (.int 1))) e h1 = .ok (.pv (.int (-1)), h1) := by rw [evE, ev_k, seq1_ok]; try rfl
  rw [evE, ha, seq1_ok]
  simp only [evO, en, seq1_ok, oSl, optI, snapK, cut_last hl, okP]
/-- the law's loop -/
def St (sc cells : List Int) (i : Nat) (e : MI.Env) (h : Sto) : Prop := ∃ o2 o3 o4 o5 o6 o7 great s, e = ([some (.loc 0), some (.loc 2), o2, o3, o4, o5, o6, o7] : MI.Env) ∧ h = stS sc cells great s [] ∧ Good0 cells great s ∧ s ≤ 100 * (i : Int)
theorem law_step (k : Nat) (sc cells : List Int) (i : Nat) (x : Int) (e : MI.Env) (h : Sto) (hi : i < 10) (p : St sc cells i e h) :
    ∃ e' h', (forF (cn P (k + 20) 1) (.nm 2) f_law_v9_b2 (.one (.pv (.int x))) e h = some (.nx e', h') ∨ forF (cn P (k + 20) 1) (.nm 2) f_law_v9_b2 (.one (.pv (.int x))) e h = some (.ct e', h')) ∧ St sc cells (i + 1) e' h' := by
  obtain ⟨o2, o3, o4, o5, o6, o7, great, s, rfl, rfl, g, hs⟩ := p
  have hs0 := g.s0
  obtain ⟨r1, g1, r10, r11, gg1, e1⟩ := c_dr (P := P) (k + 18) 1 sc 6 [] g (by omega) (by omega) (by omega)
  obtain ⟨r2, g2, r20, r21, gg2, e2⟩ := c_dr (P := P) (k + 18) 1 sc 30 [] gg1 (by omega) (by omega) (by omega)
  obtain ⟨xs, g3, hlen, hdec, hbx, gg3, e3⟩ := c_partn (P := P) (k + 17) 1 sc (1 + r1) r2 [] gg2 (by omega) (by omega) (by omega) r20
  generalize hs3 : s + 1 + 1 + 1 + 3 * (1 + r1 - 1) = s3 at gg3 e3
  obtain ⟨r4, g4, r40, r41, gg4, e4⟩ := c_dr (P := P) (k + 18) 1 sc 5 [] gg3 (by omega) (by omega) (by omega)
  have hx1 : 1 ≤ xs.length := by omega
  have hx6 : xs.length ≤ 6 := by omega
  let H4 : Sto := stS sc cells g4 (s3 + 1) []
  have bx : ∀ a ∈ xs, Bd 10 a := fun a ha => by have := hbx a ha; unfold Bd; omega
  -- the part
  obtain ⟨ys, hyl, hyb, ey⟩ : ∃ ys : List Int, ys.length = xs.length ∧ (∀ a ∈ ys, Bd 1000 a) ∧ evE (cn P (k + 20) 1) (.ite (.cmp .gt (.call 11 (.cons (.var 1) (.cons (.k (.int 5)) .nil)) []) (.k (.int 0))) (.var 3) (.blt .tuple (.cons f_law_v9_c0 .nil))) [some (.loc 0), some (.loc 2), some (iv x), some (.pv (tupI xs)), o4, o5, o6, o7] (stS sc cells g3 s3 []) = .ok (.pv (tupI ys), H4) := by
    have tt : evT (cn P (k + 20) 1) (.cmp .gt (.call 11 (.cons (.var 1) (.cons (.k (.int 5)) .nil)) []) (.k (.int 0))) [some (.loc 0), some (.loc 2), some (iv x), some (.pv (tupI xs)), o4, o5, o6, o7] (stS sc cells g3 s3 []) = .ok (decide (0 < r4), H4) :=
      T_cmp (ev_cmp (ev_call (es2 (ev_var 1 rfl) (ev_k _)) e4) (ev_k _) (gtI r4 0 H4))
    by_cases h4 : 0 < r4
    · rw [decide_eq_true h4] at tt
      exact ⟨xs, rfl, fun a ha => (bx a ha).up (by omega), ev_ite1 tt (ev_var 3 rfl)⟩
    · rw [decide_eq_false h4] at tt
      refine ⟨xs.map fun a => a * 10 ^ 40, by simp, fun a ha => ?_, ?_⟩
      · obtain ⟨b, hb, rfl⟩ := List.mem_map.mp ha
        have : Bd 140 ((10 : Int) ^ 40) := by unfold Bd; decide
        exact ((bx b hb).mulI this).up (by omega)
      · rw [evE, tt]
        dsimp only
        refine tup_of ?_
        rw [List.map_map]
        refine comp_ints2 (l := xs) (mk := fun (a : Int) => .one (.pv (.int a))) (φ := fun a => a * 10 ^ 40) ?_ (by omega) fun a ha => ?_
        · rw [it_val (xs := xs.map .int) (ev_var 3 rfl), List.map_map]; try rfl
        · have hm := mulE a ((10 : Int) ^ 40) H4 ((bx a ha).two (q := 140) (by unfold Bd; decide) (by omega))
          unfold compF
          dsimp only [give, MI.wipe, List.set_cons_succ, List.set_cons_zero]
          rw [evC]
          try dsimp only
          rw [ev_bin (ev_var 7 rfl) (ev_bin (ev_k _) (ev_k _) (powE 10 40 H4 (by decide))) hm]
          try rfl
  have D0 : Dat 4000 6 1 72100 (tupI ys) := dat_ints (fun a ha => (hyb a ha).up (by omega)) (by omega) (by omega)
  obtain ⟨q1, g5, s5, h51, h52, gg5, D1, e5⟩ := c_changed (P := P) sc [] 1 (k + 15) 1 (tupI ys) gg4 (by omega) D0 (by omega) (by omega) (by omega) (by omega)
  rw [show k + 15 + 1 + 4 = k + 20 by omega] at e5
  obtain ⟨q2, g6, s6, h61, h62, gg6, D2, e6⟩ := c_changed (P := P) sc [] 2 (k + 14) 1 q1 gg5 (by omega) D1 (by omega) (by omega) (by omega) (by omega)
  rw [show k + 14 + 2 + 4 = k + 20 by omega] at e6
  obtain ⟨q3, g7, gg7, D3, e7⟩ := c_other (P := P) (k + 17) 1 sc (tupI ys) [] gg6 (by omega) D0 (by omega) (by omega) (by omega)
  let H7 : Sto := stS sc cells g7 (s6 + 1) []
  obtain ⟨tx, et, Dt⟩ := str_tup ys H7 hyb (by omega)
  have ly : (ys.map PV.int).length = ys.length := by simp
  have y0 : (ys.map PV.int)[0]? = some (.int (ys[0]'(by omega))) := by simp [List.getElem?_eq_getElem (show 0 < ys.length by omega)]
  let S7 : List PV := [tupI ys, q1, q2, q3, .tup (ys.map .int ++ (ys.map .int).drop ((ys.map PV.int).length - 1)), .tup (ys.map .int ++ ys.map .int), .tup (ys.map .int).reverse]
  let S5 : List PV := [.tup ((ys.map .int).take 1), .tup [], .lst (ys.map .int), .int (ys[0]'(by omega)), .str tx]
  have k7 : evE (cn P (k + 20) 1) (.lst (.cons (.var 3) (.cons (.var 4) (.cons (.call 19 (.cons (.var 1) (.cons (.var 4) .nil)) []) (.cons (.call 18 (.cons (.var 1) (.cons (.var 3) .nil)) []) (.cons (.bin .add (.var 3) (.sl (.var 3) (.so (.neg (.k (.int 1)))) .no)) (.cons (.bin .mul (.var 3) (.k (.int 2))) (.cons (.rev (.var 3)) .nil)))))))) [some (.loc 0), some (.loc 2), some (iv x), some (.pv (tupI ys)), some (.pv q1), o5, o6, o7] (stS sc cells g5 s5 []) = .ok (.pv (.lst S7), H7) := by
    refine ev_lst (ps := S7) ?_ (by simp [S7])
    exact es_c (ev_var 3 rfl) (es_c (ev_var 4 rfl) (es_c (ev_call (es2 (ev_var 1 rfl) (ev_var 4 rfl)) e6) (es_c (ev_call (es2 (ev_var 1 rfl) (ev_var 3 rfl)) e7) (es_c (ev_addT (xs := ys.map .int) (ev_var 3 rfl) (ev_sl_last (xs := ys.map .int) (ev_var 3 rfl) (by omega)) (by rw [List.length_drop]; omega)) (es_c (ev_mul2 (xs := ys.map .int) (ev_var 3 rfl) (by omega) (fun z => by rw [z] at ly; simp at ly; omega)) (es_c (ev_rev (xs := ys.map .int) (ev_var 3 rfl)) es0))))))
  have k12 : evE (cn P (k + 20) 1) (.bin .add (.var 5) (.lst (.cons (.sl (.var 3) .no (.so (.k (.int 1)))) (.cons (.tup .nil) (.cons (.blt .list (.cons (.var 3) .nil)) (.cons (.idx (.var 3) (.k (.int 0))) (.cons (.blt .str (.cons (.var 3) .nil)) .nil))))))) [some (.loc 0), some (.loc 2), some (iv x), some (.pv (tupI ys)), some (.pv q1), some (.pv (.lst S7)), o6, o7] H7 = .ok (.pv (.lst (S7 ++ S5)), H7) := by
    refine ev_bin (ev_var 5 rfl) (ev_lst (ps := S5) ?_ (by simp [S5])) (add_lst S7 S5 H7 (by simp [S7, S5]))
    exact es_c (ev_sl_to (xs := ys.map .int) 1 rfl (by omega) (ev_var 3 rfl) (ev_k _)) (es_c (ev_tup (ps := []) es0 (by simp)) (es_c (ev_blt (es1 (ev_var 3 rfl)) (blt_list _ (ys.map .int) H7)) (es_c (ev_idx (ev_var 3 rfl) (ev_k _) (idx_tupP (i := 0) H7 y0)) (es_c (ev_blt (es1 (ev_var 3 rfl)) et) es0))))
  have mem : ∀ q ∈ S7 ++ S5, Dat 4002 12 3 651400 q := by
    have ha : ∀ a ∈ ys, Bd 4002 a := fun a ha => (hyb a ha).up (by omega)
    have hm : ∀ z ∈ ys.map PV.int, okd 4002 12 z = true ∧ dp z ≤ 2 := fun z hz => by
      obtain ⟨a, h1, rfl⟩ := List.mem_map.mp hz
      have : Dat 4002 12 2 12004 (.int a) := .int (ha a h1) (by omega)
      exact ⟨this.ok, this.dp⟩
    have hw := wts_ints ys
    have hwd := wts_td ((ys.map PV.int).length - 1) (ys.map .int)
    have hwt := wts_td 1 (ys.map PV.int)
    intro q hq
    simp only [S7, S5, List.cons_append, List.nil_append, List.mem_cons, List.not_mem_nil, or_false] at hq
    rcases hq with rfl | rfl | rfl | rfl | rfl | rfl | rfl | rfl | rfl | rfl | rfl | rfl
    · exact D0.up (by omega) (by omega) (by omega) (by omega)
    · exact D1.up (by omega) (by omega) (by omega) (by omega)
    · exact D2.up (by omega) (by omega) (by omega) (by omega)
    · exact D3.up (by omega) (by omega) (by omega) (by omega)
    · refine .tup (by rw [List.length_append, List.length_drop]; omega) (fun z hz => ?_) (by rw [wts_app]; omega)
      rcases List.mem_append.mp hz with hz | hz
      · exact hm z hz
      · exact hm z (List.mem_of_mem_drop hz)
    · refine .tup (by rw [List.length_append]; omega) (fun z hz => ?_) (by rw [wts_app]; omega)
      rcases List.mem_append.mp hz with hz | hz <;> exact hm z hz
    · exact .tup (by rw [List.length_reverse]; omega) (fun z hz => hm z (List.mem_reverse.mp hz)) (by rw [wts_rev]; omega)
    · exact .tup (by rw [List.length_take]; omega) (fun z hz => hm z (List.mem_of_mem_take hz)) (by omega)
    · exact .tup (by simp) (by simp) (by simp [wts])
    · exact .lst (by omega) hm (by omega)
    · exact .int (ha _ (List.getElem_mem _)) (by omega)
    · exact Dt
  obtain ⟨e', q, o6', rfl⟩ := loop_keep (f := forF (cn P (k + 20) 1) (.nm 6) f_law_v9_b1) (mk := fun (z : PV) => .one (.pv z)) (h := H7) (fun e => ∃ o6, e = ([some (.loc 0), some (.loc 2), some (iv x), some (.pv (tupI ys)), some (.pv q1), some (.pv (.lst S7)), o6, o7] : MI.Env)) (S7 ++ S5) [some (.loc 0), some (.loc 2), some (iv x), some (.pv (tupI ys)), some (.pv q1), some (.pv (.lst S7)), o6, o7] ⟨_, rfl⟩ (by
    rintro z hz e ⟨o6, rfl⟩
    have Dz := mem z hz
    refine ⟨[some (.loc 0), some (.loc 2), some (iv x), some (.pv (tupI ys)), some (.pv q1), some (.pv (.lst S7)), some (.pv z), o7], ?_, _, rfl⟩
    unfold forF
    dsimp only [give, List.set_cons_succ, List.set_cons_zero]
    unfold f_law_v9_b1
    exact evB_if0 (h1 := H7) (T_not0 (T_call (ev_call (es1 (ev_var 6 rfl)) (c_chkd (P := P) (k + 15) 1 z H7 (ok_dat Dz) ((Dz.rl (by omega) (by omega)).up (by omega)))))) evB_nil)
  refine ⟨[some (.loc 0), some (.loc 2), some (iv x), some (.pv (tupI ys)), some (.pv q1), some (.pv (.lst S7)), o6', o7], H7, .inl ?_, _, _, _, _, _, _, g7, s6 + 1, rfl, rfl, gg7, by omega⟩
  unfold forF
  dsimp only [give, List.set_cons_succ, List.set_cons_zero]
  unfold f_law_v9_b2
  refine evB_set (ev_call (es3 (ev_var 1 rfl) (ev_bin (ev_k _) (ev_call (es2 (ev_var 1 rfl) (ev_k _)) e1) (addE 1 r1 _)) (ev_call (es2 (ev_var 1 rfl) (ev_k _)) e2)) e3) ?_
  refine evB_set ey ?_
  refine evB_set (ev_call (es2 (ev_var 1 rfl) (ev_var 3 rfl)) e5) ?_
  refine evB_set k7 ?_
  exact evB_for (it_valL k12) q evB_nil
theorem pure_gen (ns : List Int) (hl : ns.length ≤ 63) : ∃ h', callI P 195 94 0 [.loc 0] [.lock (ns.map PV.int)] = .ok (.pv (.bl true), h') := by
  obtain ⟨cells, great, g, eb⟩ := c_begun (P := P) 192 ns hl
  obtain ⟨e', h', q, o2, o3, o4, o5, o6, o7, gr, s', rfl, rfl, _, _⟩ := loop_ind (f := forF (cn P 194 1) (.nm 2) f_law_v9_b2) ((List.range 10).map fun (i : Nat) => .one (iv i)) (fun i => St ns cells i) 0 [some (.loc 0), some (.loc 2), none, none, none, none, none, none] (stS ns cells great 0 []) (by
    intro i x e h hx p
    rw [List.getElem?_map] at hx
    have hi : i < 10 := by
      by_cases z : i < 10
      · exact z
      · rw [List.getElem?_eq_none (by simpa using z)] at hx; cases hx
    rw [List.getElem?_range hi] at hx
    cases hx
    rw [Nat.zero_add] at p ⊢
    exact law_step (P := P) 174 ns cells i _ e h hi p) ⟨_, _, _, _, _, _, great, 0, rfl, rfl, g, by omega⟩
  have body : evB (cn P 194 1) f_law_v9.body [some (.loc 0), none, none, none, none, none, none, none] [.lock (ns.map PV.int)] = some (.rt (.pv (.bl true)), stS ns cells gr s' []) := by
    unfold f_law_v9
    refine evB_set (ev_call (es1 (ev_var 0 rfl)) eb) ?_
    refine evB_for (it_rng 10 rfl (by omega) (ev_k _)) q ?_
    exact evB_ret (ev_and1 (ev_call es0 (c_nestc (P := P) 189 1 _)) (ev_cmp (ev_glob _ _) (ev_k _) (eqI 6 6 _)))
  exact ⟨_, run_rt (P := P) (j := 94) (k := 194) (B := 0) (vs := [.loc 0]) (h := [.lock (ns.map PV.int)]) (F := f_law_v9) Fi.h rfl rfl body⟩
theorem pure_ok : ∀ ns : List Int, ns.length ≤ 63 → ∃ h', callI prg 195 94 0 [.loc 0] [.lock (ns.map PV.int)] = .ok (.pv (.bl true), h') := fun ns hl => pure_gen ns hl
end K01

open PySem PySem.W PyProof.Rows
set_option maxHeartbeats 0 in
theorem PySem.Challenge.cw_threerims_k01_integers_and_partitions_holds : PySem.Challenge.rw_threerims_k01_integers_and_partitions.Holds := by
  w_on; o_law; k_head; (case hw => w_witness2)
  k_fill
  refine MI.walk_ofG (l := PySem.Challenge.rw_threerims_k01_integers_and_partitions) (n := 63) (k := 200) (x := "script") rfl (by decide) rfl ⟨rfl, by decide, by decide⟩ (fun w h Y => PySem.W.kIn_of Y) ?F
  case F =>
    intro w mg fa h KX G hmg
    refine' K01.all_mk KX G hmg ?a0 ?l0 ?c0 ?k0 ?a1 ?l1 ?c1 ?k1 ?a2 ?l2 ?c2 ?k2 ?a3 ?l3 ?c3 ?k3 ?a4 ?l4 ?c4 ?k4 ?a5 ?l5 ?c5 ?k5 ?a6 ?l6 ?c6 ?k6 ?a7 ?l7 ?c7 ?k7 ?a8 ?l8 ?c8 ?k8 ?a9 ?l9 ?c9 ?k9 ?a10 ?l10 ?c10 ?k10 ?a11 ?l11 ?c11 ?k11 ?a12 ?l12 ?c12 ?k12 ?a13 ?l13 ?c13 ?k13 ?a14 ?l14 ?c14 ?k14 ?a15 ?l15 ?c15 ?k15 ?a16 ?l16 ?c16 ?k16 ?a17 ?l17 ?c17 ?k17 ?smd ?aB ?g1 ?g2 ?g3 ?aE0 ?xL0 ?sa0 ?no0_0 ?xga0 ?xgg0 ?xhd0 ?fi0 ?ti0 ?li0 ?lt0 ?ci0 ?kE0 ?eE0 ?tE0 ?x0_0 ?q0 ?z0 ?z1 ?z2 ?z3 ?z4 ?z5 ?z6 ?z7 ?z8 ?z9 ?z10 ?z11 ?z12 ?z13 ?z14 ?z15 ?z16 K01.pure_ok
    (case a0 => k_is)
    (case l0 => k_is)
    (case c0 => k_is)
    (case k0 => k_is)
    (case a1 => k_is)
    (case l1 => k_is)
    (case c1 => k_is)
    (case k1 => k_is)
    (case a2 => k_is)
    (case l2 => k_is)
    (case c2 => k_is)
    (case k2 => k_is)
    (case a3 => k_is)
    (case l3 => k_is)
    (case c3 => k_is)
    (case k3 => k_is)
    (case a4 => k_is)
    (case l4 => k_is)
    (case c4 => k_is)
    (case k4 => k_is)
    (case a5 => k_is)
    (case l5 => k_is)
    (case c5 => k_is)
    (case k5 => k_is)
    (case a6 => k_is)
    (case l6 => k_is)
    (case c6 => k_is)
    (case k6 => k_is)
    (case a7 => k_is)
    (case l7 => k_is)
    (case c7 => k_is)
    (case k7 => k_is)
    (case a8 => k_is)
    (case l8 => k_is)
    (case c8 => k_is)
    (case k8 => k_is)
    (case a9 => k_is)
    (case l9 => k_is)
    (case c9 => k_is)
    (case k9 => k_is)
    (case a10 => k_is)
    (case l10 => k_is)
    (case c10 => k_is)
    (case k10 => k_is)
    (case a11 => k_is)
    (case l11 => k_is)
    (case c11 => k_is)
    (case k11 => k_is)
    (case a12 => k_is)
    (case l12 => k_is)
    (case c12 => k_is)
    (case k12 => k_is)
    (case a13 => k_is)
    (case l13 => k_is)
    (case c13 => k_is)
    (case k13 => k_is)
    (case a14 => k_is)
    (case l14 => k_is)
    (case c14 => k_is)
    (case k14 => k_is)
    (case a15 => k_is)
    (case l15 => k_is)
    (case c15 => k_is)
    (case k15 => k_is)
    (case a16 => k_is)
    (case l16 => k_is)
    (case c16 => k_is)
    (case k16 => k_is)
    (case a17 => k_is)
    (case l17 => k_is)
    (case c17 => k_is)
    (case k17 => k_is)
    (case smd => k_is)
    (case aB => k_is)
    (case g1 => k_is)
    (case g2 => k_is)
    (case g3 => k_is)
    (case aE0 => k_is)
    (case xL0 => k_is)
    (case sa0 => k_is)
    (case no0_0 => k_is)
    (case xga0 => k_is)
    (case xgg0 => k_is)
    (case xhd0 => k_is)
    (case fi0 => k_is)
    (case ti0 => k_is)
    (case li0 => k_is)
    (case lt0 => k_is)
    (case ci0 => k_is)
    (case kE0 => k_is)
    (case eE0 => k_is)
    (case tE0 => k_is)
    (case x0_0 => first | rfl | k_is)
    (case q0 => k_is)
    (case z0 => k_is)
    (case z1 => k_is)
    (case z2 => k_is)
    (case z3 => k_is)
    (case z4 => k_is)
    (case z5 => k_is)
    (case z6 => k_is)
    (case z7 => k_is)
    (case z8 => k_is)
    (case z9 => k_is)
    (case z10 => k_is)
    (case z11 => k_is)
    (case z12 => k_is)
    (case z13 => k_is)
    (case z14 => k_is)
    (case z15 => k_is)
    (case z16 => k_is)
