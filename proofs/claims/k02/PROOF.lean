import PyProof.Rows.All
import Wide.All
import OpenK.AllK
import Wide.FinOn
import HandS.List
import KE.KMathGC
import HandS.ForMost
import HandS.Deep
import HandS.Walk
import HandS.Lambda
import HandS.TupAny
import HandS.TupLe
import HandS.IsInst
import HandS.Conv
import HandS.AnyAll
import KE.SortData
import KE.SortKeyHeap
import HandS.Dict
import KE.DataCmp
import HandS.Flow
import PyProof.AutoSeq1
import KE.GoesEnum
import HandS.GenOver
import PyProof.GenRules
import PyProof.GenQ
import HandS.SortKw
import KE.SortUse
import HandS.Style
import HandS.EndOwn
import KE.KNest
import HandS.Words
import PySem.Challenge.RW_maskpaint_k02_whole_trees
section
set_option Elab.async false
set_option linter.all false
/-! Data and the evaluator of the pure subset. -/
namespace Mp
open PySem

/-- data: what a value tells -/
inductive D where
  | non
  | bl (b : Bool)
  | int (i : Int)
  | str (s : Str)
  | tup (l : List D)
  | lst (l : List D)
  /-- the script -/
  | scr (l : List Int)
  /-- something that may change, by its place in the state -/
  | cell (k : Nat)
  /-- a dict: its kind (0: keys ints and texts, 1: tuples of such), keys, values -/
  | dct (t : Nat) (ks vs : List D)
  deriving Inhabited

inductive Cell where
  | lst (l : List D)
  | dct (t : Nat) (ks vs : List D)
  deriving Inhabited

abbrev St := List Cell
abbrev Env := List (Option D)

inductive Res (α : Type) where
  | ok (a : α) (st : St)
  | bad

abbrev M (α : Type) := St → Res α
def bnd {α β : Type} (m : M α) (f : α → M β) : M β := fun st => match m st with
  | .ok a st' => f a st'
  | .bad => .bad
def ret {α : Type} (a : α) : M α := fun st => .ok a st
def bad {α : Type} : M α := fun _ => .bad
def opt {α : Type} : Option α → M α
  | some a => ret a
  | none => bad
def guard' (b : Bool) : M Unit := fun st => match b with
  | true => .ok () st
  | false => .bad

/-! ### equality -/
mutual
def D.eq : D → D → Bool
  | .non, .non => true
  | .bl a, .bl b => a == b
  | .bl a, .int j => (if a then (1 : Int) else 0) == j
  | .int i, .bl b => i == (if b then (1 : Int) else 0)
  | .int i, .int j => i == j
  | .str a, .str b => a == b
  | .tup a, .tup b => D.eqs a b
  | .lst a, .lst b => D.eqs a b
  | _, _ => false
def D.eqs : List D → List D → Bool
  | [], [] => true
  | a :: r, b :: s => D.eq a b && D.eqs r s
  | _, _ => false
end
mutual
/-- plain data of at most so many levels -/
def D.shp : Nat → D → Bool
  | n, .tup l => match n with | 0 => false | n + 1 => D.shps n l
  | n, .lst l => match n with | 0 => false | n + 1 => D.shps n l
  | _, .cell _ => false
  | _, .scr _ => false
  | _, .dct _ _ _ => false
  | _, .str s => PyData.strOk s
  | _, _ => true
def D.shps : Nat → List D → Bool
  | _, [] => true
  | n, a :: r => D.shp n a && D.shps n r
end
/-- plain data, at most sixty levels -/
def D.ok (d : D) : Bool := D.shp 60 d

/-! ### order: of intsOf; of texts; of tuples and lists of alike data -/
mutual
def D.lt : D → D → Bool
  | .int i, .int j => decide (i < j)
  | .tup a, .tup b => D.lts a b
  | .lst a, .lst b => D.lts a b
  | .str a, .str b => decide (a.cps.toList < b.cps.toList)
  | _, _ => false
def D.lts : List D → List D → Bool
  | [], [] => false
  | [], _ :: _ => true
  | _ :: _, [] => false
  | a :: r, b :: s => if D.eq a b then D.lts r s else D.lt a b
end
mutual
/-- alike: one may be compared with the other -/
def D.alike : D → D → Bool
  | .int _, .int _ => true
  | .str _, .str _ => true
  | .tup a, .tup b => D.alikes a b
  | .lst a, .lst b => D.alikes a b
  | _, _ => false
def D.alikes : List D → List D → Bool
  | [], _ => true
  | _, [] => true
  | a :: r, b :: s => D.alike a b && D.alikes r s
end
/-- put into a sorted list, ahead of all that are not less -/
def ins {α : Type} (le : α → α → Bool) (x : α) : List α → List α
  | [] => [x]
  | y :: r => if le x y then x :: y :: r else y :: ins le x r
def isort {α : Type} (le : α → α → Bool) : List α → List α
  | [] => []
  | x :: r => ins le x (isort le r)
def leD (a b : D) : Bool := !D.lt b a

/-! ### syntax -/
inductive Bin where
  | add | sub | mul | fdiv | mod | pow
  deriving DecidableEq
inductive Cmp where
  | eq | ne | lt | le | gt | ge | mem | nmem | is | isn
  deriving DecidableEq
inductive Prim where
  | len | tuple | list | sorted | min | max | sum | int | perm
  /-- isinstance; the classes by numbers: int 0, bool 1, str 2, tuple 3, list 4 -/
  | isI (cs : List Nat)
  deriving DecidableEq
/-- list(d.values()); len(set(x)); dict(pairs) -/
inductive Un where
  | vals | lenSet | mkD (t : Nat)
  deriving DecidableEq
inductive Itk where
  | seq | range1 | range2 | enum
  deriving DecidableEq
inductive Meth where
  | append | pop | popAt | extend
  deriving DecidableEq
inductive Pat where
  | one (i : Nat)
  | tup (l : List Nat)
  deriving DecidableEq
inductive E where
  | var (i : Nat)
  | con (d : D)
  | nil
  | cons (a b : E)
  | tup (a : E)
  | lst (a : E)
  /-- a list that will change -/
  | newC (a : E)
  /-- a dict that will change -/
  | newD (t : Nat)
  /-- list(range(n)) that will change -/
  | rngC (a : E)
  | un (u : Un) (a : E)
  | bin (o : Bin) (a b : E)
  | neg (a : E)
  | cmp (o : Cmp) (a b : E)
  | chain (o p : Cmp) (a b c : E)
  | and (a b : E)
  | or (a b : E)
  | not (a : E)
  | ite (c a b : E)
  | call (f : Nat) (a : E)
  | prim (p : Prim) (a : E)
  | meth (m : Meth) (o a : E)
  | idx (a i : E)
  | slice (l h : Bool) (a lo hi : E)
  /-- what is walked: its items -/
  | itr (k : Itk) (a : E)
  | comp (p : Pat) (s c e : E)
  | comp2 (p : Pat) (s c : E) (q : Pat) (t d e : E)
  /-- all (true), any (false) of a generator expression -/
  | gen (all : Bool) (p : Pat) (s c e : E)
  | gen2 (all : Bool) (p : Pat) (s c : E) (q : Pat) (t d e : E)
  /-- sorted(a, key=lambda x: (len(x), x)) -/
  | sortLen (a : E)
  /-- a range made a tuple (true), a list (false) -/
  | rng1 (t : Bool) (a : E)
  | rng2 (t : Bool) (a b : E)
inductive S where
  | skip
  | seq (a b : S)
  | asg (p : Pat) (e : E)
  /-- names = expressions, side by side -/
  | par (l : List Nat) (e : E)
  | setIdx (o i e : E)
  /-- an int grows -/
  | aug (i : Nat) (e : E)
  | drop (e : E)
  | ite (c : E) (a b : S)
  | for_ (p : Pat) (s : E) (b : S)
  | while_ (c : E) (b : S)
  | ret (e : E)
  | never

/-! ### operations on data -/
/-- the longest sequence -/
def line : Nat := 16777216
def lenOk (l : List D) : Bool := Nat.ble l.length line
def deref (d : D) : M D := fun st => match d with
  | .cell k => match st[k]? with
    | some (.lst l) => .ok (.lst l) st
    | some (.dct t ks vs) => .ok (.dct t ks vs) st
    | none => .bad
  | d => .ok d st
def retLst (l : List D) : M D := fun st => match lenOk l with
  | true => .ok (.lst l) st
  | false => .bad
def retTup (l : List D) : M D := fun st => match lenOk l with
  | true => .ok (.tup l) st
  | false => .bad
def newCell (l : List D) : M D := fun st => match lenOk l with
  | true => .ok (.cell st.length) (st ++ [.lst l])
  | false => .bad
def newDict (t : Nat) : M D := fun st => match Nat.blt t 2 with
  | true => .ok (.cell st.length) (st ++ [.dct t [] []])
  | false => .bad
/-! ### dicts -/
def isKey : D → Bool
  | .int _ => true
  | .str _ => true
  | _ => false
/-- a key of a dict of this kind -/
def kOk (t : Nat) (k : D) : Bool := match t, k with
  | 0, k => isKey k
  | 1, .tup l => l.all isKey
  | _, _ => false
def dgetL : List D → List D → D → Option D
  | k :: ks, v :: vs, x => if D.eq k x then some v else dgetL ks vs x
  | _, _, _ => none
def dsetL : List D → List D → D → D → List D
  | k :: ks, v :: vs, x, y => (if D.eq k x then y else v) :: dsetL ks vs x y
  | _, vs, _, _ => vs
def dputL (ks vs : List D) (x y : D) : List D × List D := if ks.any fun k => D.eq k x then (ks, dsetL ks vs x y) else (ks ++ [x], vs ++ [y])
/-- pairs put in, one by one -/
def dmkL (t : Nat) : List D → List D → List D → Option (List D × List D)
  | [], ks, vs => some (ks, vs)
  | .tup [k, v] :: r, ks, vs => if kOk t k then dmkL t r (dputL ks vs k v).1 (dputL ks vs k v).2 else none
  | _ :: _, _, _ => none
def dgetS (t : Nat) (ks vs : List D) (i : D) : M D := if kOk t i then opt (dgetL ks vs i) else bad
def hasS (t : Nat) (ks vs : List D) (i : D) (b : Bool) : M D := if kOk t i then ret (.bl ((dgetL ks vs i).isSome == b)) else bad
def mulOk (i j : Int) : Bool := (decide (-(2 ^ 64) < i) && decide (i < 2 ^ 64)) || (decide (-(2 ^ 64) < j) && decide (j < 2 ^ 64))
def binI (o : Bin) (i j : Int) : M D := match o with
  | .add => ret (.int (i + j))
  | .sub => ret (.int (i - j))
  | .mul => if mulOk i j then ret (.int (i * j)) else bad
  | .fdiv => if j != 0 && decide (j.natAbs < 1073741824) then ret (.int (i.fdiv j)) else bad
  | .mod => if j != 0 then ret (.int (i.fmod j)) else bad
  | .pow => if decide (0 ≤ j) && decide (j ≤ 1000) && decide (i.natAbs < 2 ^ 64) then ret (.int (i ^ j.toNat)) else bad
def binS (o : Bin) (a b : D) : M D := match o, a, b with
  | o, .int i, .int j => binI o i j
  | .add, .tup l, .tup r => retTup (l ++ r)
  | .add, .lst l, .lst r => retLst (l ++ r)
  | .mul, .lst l, .int k => if decide (0 ≤ k) && decide (k < 2 ^ 63) && Nat.ble (l.length * k.toNat) line then ret (.lst (List.replicate k.toNat l).flatten) else bad
  | _, _, _ => bad
def binD (o : Bin) (a b : D) : M D := bnd (deref a) fun a => bnd (deref b) fun b => binS o a b
def isNon (d : D) : Bool := match d with
  | .non => true
  | _ => false
def cmpS (o : Cmp) (a b : D) : M D := match o with
  | .eq => if a.ok && b.ok then ret (.bl (D.eq a b)) else bad
  | .ne => if a.ok && b.ok then ret (.bl (!D.eq a b)) else bad
  | .mem => match b with
    | .tup l => if a.ok && D.ok b then ret (.bl (l.any fun z => D.eq z a)) else bad
    | .lst l => if a.ok && D.ok b then ret (.bl (l.any fun z => D.eq z a)) else bad
    | .dct t ks vs => hasS t ks vs a true
    | _ => bad
  | .nmem => match b with
    | .tup l => if a.ok && D.ok b then ret (.bl (!l.any fun z => D.eq z a)) else bad
    | .lst l => if a.ok && D.ok b then ret (.bl (!l.any fun z => D.eq z a)) else bad
    | .dct t ks vs => hasS t ks vs a false
    | _ => bad
  | .lt => match a, b with
    | .int i, .int j => ret (.bl (decide (i < j)))
    | .tup l, .tup r => if D.ok a && D.ok b && D.alikes l r then ret (.bl (D.lts l r)) else bad
    | _, _ => bad
  | .le => match a, b with
    | .int i, .int j => ret (.bl (decide (i ≤ j)))
    | _, _ => bad
  | .gt => match a, b with
    | .int i, .int j => ret (.bl (decide (j < i)))
    | _, _ => bad
  | .ge => match a, b with
    | .int i, .int j => ret (.bl (decide (j ≤ i)))
    | _, _ => bad
  | .is => match b with
    | .non => ret (.bl (isNon a))
    | _ => bad
  | .isn => match b with
    | .non => ret (.bl (!isNon a))
    | _ => bad
def cmpD (o : Cmp) (a b : D) : M D := bnd (deref a) fun a => bnd (deref b) fun b => cmpS o a b
def idxS (a i : D) : M D := match a, i with
  | .tup l, .int i => opt (L2.atI l i)
  | .lst l, .int i => opt (L2.atI l i)
  | .scr l, .int i => opt ((L2.atI l i).map D.int)
  | .dct t ks vs, i => dgetS t ks vs i
  | _, _ => bad
def idxD (a i : D) : M D := bnd (deref a) fun a => idxS a i
/-- a bound of a slice: left out, or an int -/
def bound (there : Bool) (d : D) : Option (Option Int) := match there, d with
  | false, _ => some none
  | true, .int i => some (some i)
  | _, _ => none
def cut (l : List D) (lo hi : Option Int) : List D := (l.drop (HT.sIx l.length 0 lo)).take (HT.sIx l.length l.length hi - HT.sIx l.length 0 lo)
def sliceS (a : D) (lo hi : Option (Option Int)) : M D := match a, lo, hi with
  | .tup l, some x, some y => ret (.tup (cut l x y))
  | .lst l, some x, some y => ret (.lst (cut l x y))
  | _, _, _ => bad
def sliceD (a : D) (lo hi : Option (Option Int)) : M D := bnd (deref a) fun a => sliceS a lo hi
def intsOf : List D → Option (List Int)
  | [] => some []
  | .int i :: r => (intsOf r).map (i :: ·)
  | _ => none
def leastI : List Int → Option Int
  | [] => none
  | i :: r => some (r.foldl min i)
def mostI : List Int → Option Int
  | [] => none
  | i :: r => some (r.foldl max i)
def kindOk (d : D) (c : Nat) : Bool := match d, c with
  | .int _, 0 => true
  | .bl _, 0 => true
  | .bl _, 1 => true
  | .str _, 2 => true
  | .tup _, 3 => true
  | .lst _, 4 => true
  | .cell _, 4 => true
  | _, _ => false
/-- an empty tuple, alone -/
def isE (l : List D) : Bool := match l with
  | [.tup []] => true
  | _ => false
/-- what may be put in order -/
def sortable (l : List D) : Bool := l.all D.ok && (match l with
  | [] => true
  | x :: r => l.all fun a => l.all fun b => D.alike a b) && ((l.all fun d => match d with | .tup (_ :: _) => true | _ => false) || (l.all fun d => match d with | .int _ => true | .str _ => true | _ => false) || isE l)
def items : D → Option (List D)
  | .tup l => some l
  | .lst l => some l
  | _ => none
/-- so many unlike ones -/
def distI (l : List Int) : Nat := l.eraseDups.length
def lenSetS (l : List D) : M D := match intsOf l with
  | some is => if Nat.blt is.length 1000 then ret (.int (distI is : Nat)) else bad
  | none => bad
def primS (p : Prim) (l : List D) : M D := match p, l with
  | .len, [.tup l] => ret (.int l.length)
  | .len, [.lst l] => ret (.int l.length)
  | .len, [.scr l] => ret (.int l.length)
  | .tuple, [.tup l] => ret (.tup l)
  | .tuple, [.lst l] => ret (.tup l)
  | .list, [.tup l] => ret (.lst l)
  | .list, [.lst l] => ret (.lst l)
  | .sorted, [.lst l] => if sortable l then ret (.lst (isort leD l)) else bad
  | .min, [.lst l] => opt (((intsOf l).bind leastI).map D.int)
  | .max, [.lst l] => opt (((intsOf l).bind mostI).map D.int)
  | .min, [.int i, .int j] => ret (.int (if j < i then j else i))
  | .max, [.int i, .int j] => ret (.int (if j > i then j else i))
  | .sum, [.lst l] => opt ((intsOf l).map fun l => .int l.sum)
  | .int, [.int i] => ret (.int i)
  | .int, [.bl b] => ret (.int (if b then 1 else 0))
  | .perm, [.int n, .int k] => if decide (0 ≤ n) && decide (n < 64) && decide (0 ≤ k) && decide (k < 64) then ret (.int (PySem.W.mcPerm n k)) else bad
  | .isI cs, [.scr _] => bad
  | .isI cs, [.dct (_ + 1) _ _] => bad
  | .isI cs, [d] => ret (.bl (cs.any (kindOk d)))
  | _, _ => bad
def unS (u : Un) (d : D) : M D := match u, d with
  | .vals, .dct _ _ vs => ret (.lst vs)
  | .lenSet, .tup l => lenSetS l
  | .lenSet, .lst l => lenSetS l
  | .mkD t, .lst l => if Nat.ble l.length 10000 then opt ((dmkL t l [] []).map fun p => .dct t p.1 p.2) else bad
  | _, _ => bad
def unD (u : Un) (d : D) : M D := bnd (deref d) (unS u)
/-- the first one may be a cell -/
def primD (p : Prim) (l : List D) : M D := match l with
  | d :: r => bnd (deref d) fun d => primS p (d :: r)
  | [] => bad
/-- pairs of a number and an item -/
def numbered (k : Nat) : List D → List D
  | [] => []
  | x :: r => .tup [.int k, x] :: numbered (k + 1) r
def upto (a : Int) (n : Nat) : List D := (List.range n).map fun i => .int (a + (i : Nat))
/-- an int that a range takes -/
def rangeOk (i : Int) : Bool := decide (-(2 ^ 62) ≤ i) && decide (i < 2 ^ 62)
def rngD (t : Bool) (x y : D) : M D := match x, y with
  | .int a, .int b => if rangeOk a && rangeOk b && Nat.ble (b - a).toNat line then ret (if t then .tup (upto a (b - a).toNat) else .lst (upto a (b - a).toNat)) else bad
  | _, _ => bad
def rngCD (y : D) : M D := match y with
  | .int b => if rangeOk b && Nat.ble b.toNat line then newCell (upto 0 b.toNat) else bad
  | _ => bad
/-- what is walked: its items, and the list that must stand meanwhile -/
abbrev Src := List D × Option (Nat × List D)
def guardOf (d : D) (l : List D) : Option (Nat × List D) := match d with
  | .cell k => some (k, l)
  | _ => none
def itemsD (k : Itk) (l : List D) : M Src := match k, l with
  | .seq, [d] => bnd (deref d) fun e => bnd (opt (items e)) fun l => ret (l, guardOf d l)
  | .range1, [.int n] => if rangeOk n then ret (upto 0 n.toNat, none) else bad
  | .range2, [.int a, .int b] => if rangeOk a && rangeOk b then ret (upto a (b - a).toNat, none) else bad
  | .enum, [d] => bnd (deref d) fun e => bnd (opt (items e)) fun l => ret (numbered 0 l, guardOf d l)
  | _, _ => bad
mutual
def D.same : D → D → Bool
  | .non, .non => true
  | .bl a, .bl b => a == b
  | .int i, .int j => i == j
  | .str a, .str b => a == b
  | .tup a, .tup b => D.sames a b
  | .lst a, .lst b => D.sames a b
  | .scr a, .scr b => a == b
  | .cell i, .cell j => i == j
  | .dct t a b, .dct u c d => t == u && (D.sames a c && D.sames b d)
  | _, _ => false
def D.sames : List D → List D → Bool
  | [], [] => true
  | a :: r, b :: s => D.same a b && D.sames r s
  | _, _ => false
end
/-- the list still stands -/
def chk (g : Option (Nat × List D)) : M Unit := fun st => match g with
  | none => .ok () st
  | some (k, l) => match st[k]? with
    | some (.lst m) => match D.sames m l with
      | true => .ok () st
      | false => .bad
    | _ => .bad
def methD (m : Meth) (o : D) (l : List D) : M D := match m, o, l with
  | .append, .cell k, [x] => fun st => match st[k]? with
    | some (.lst l) => if decide (l.length < line) then .ok .non (st.set k (.lst (l ++ [x]))) else .bad
    | _ => .bad
  | .pop, .cell k, [] => fun st => match st[k]? with
    | some (.lst l) => match l.getLast? with
      | some x => .ok x (st.set k (.lst l.dropLast))
      | none => .bad
    | _ => .bad
  | .popAt, .cell k, [.int i] => fun st => match st[k]? with
    | some (.lst l) => match (if Nat.ble l.length line then L2.ixN l.length i else none) with
      | some j => match l[j]? with
        | some x => .ok x (st.set k (.lst (l.eraseIdx j)))
        | none => .bad
      | none => .bad
    | _ => .bad
  | .extend, .cell k, [.tup m] => fun st => match st[k]? with
    | some (.lst l) => match Nat.ble (l.length + m.length) line with
      | true => .ok .non (st.set k (.lst (l ++ m)))
      | false => .bad
    | _ => .bad
  | _, _, _ => bad
/-- a list that may change -/
def lstC (x : D) : M Unit := match x with
  | .cell k => fun st => match st[k]? with
    | some (.lst _) => .ok () st
    | _ => .bad
  | _ => bad
def setLst (k : Nat) (l : List D) (i x : D) : M Unit := fun st => match i with
  | .int i => match L2.ixN l.length i with
    | some j => .ok () (st.set k (.lst (l.set j x)))
    | none => .bad
  | _ => .bad
def setDct (k t : Nat) (ks vs : List D) (i x : D) : M Unit := fun st => match kOk t i && Nat.blt ks.length line with
  | true => .ok () (st.set k (.dct t (dputL ks vs i x).1 (dputL ks vs i x).2))
  | false => .bad
def setAt (o i x : D) : M Unit := match o with
  | .cell k => fun st => match st[k]? with
    | some (.lst l) => setLst k l i x st
    | some (.dct t ks vs) => setDct k t ks vs i x st
    | none => .bad
  | _ => bad
/-- by length, then by the tuple itself -/
def leLen (a b : D) : Bool := match a, b with
  | .tup l, .tup r => if l.length = r.length then leD a b else decide (l.length < r.length)
  | _, _ => false
def isInt (d : D) : Bool := match d with
  | .int _ => true
  | _ => false
def sortLenOk (l : List D) : Bool := l.all fun d => match d with
  | .tup m => m.all isInt
  | _ => false
def sortLenD (d : D) : M D := bnd (deref d) fun d => match d with
  | .lst l => if sortLenOk l then ret (.lst (isort leLen l)) else bad
  | _ => bad
/-- a test -/
def truthS (d : D) : M Bool := match d with
  | .bl b => ret b
  | .non => ret false
  | .int i => ret (i != 0)
  | .tup l => ret (!l.isEmpty)
  | .lst l => ret (!l.isEmpty)
  | _ => bad
def truth (d : D) : M Bool := bnd (deref d) truthS
def boolOf (d : D) : M Bool := match d with
  | .bl b => ret b
  | _ => bad
def listOf (d : D) : M (List D) := match d with
  | .lst l => ret l
  | _ => bad
/-- a source, written as data -/
def srcD : Src → D
  | (l, none) => .tup [.lst l]
  | (l, some (k, m)) => .tup [.lst l, .cell k, .lst m]
def srcOf (d : D) : M Src := match d with
  | .tup [.lst l] => ret (l, none)
  | .tup [.lst l, .cell k, .lst m] => ret (l, some (k, m))
  | _ => bad

/-! ### names -/
def setAll : List Nat → List D → Env → Option Env
  | [], [], env => some env
  | i :: r, d :: s, env => setAll r s (env.set i (some d))
  | _, _, _ => none
def Pat.bind : Pat → D → Env → Option Env
  | .one i, d, env => some (env.set i (some d))
  | .tup l, .tup s, env => setAll l s env
  | _, _, _ => none
def Pat.slots : Pat → List Nat
  | .one i => [i]
  | .tup l => l
def wipeE (env : Env) : List Nat → Env
  | [] => env
  | v :: vs => (wipeE env vs).set v none

/-! ### expressions -/
def compL (p : Pat) (c e : Env → M D) (env : Env) (g : Option (Nat × List D)) : List D → M (List D)
  | [] => ret []
  | x :: r => bnd (opt (p.bind x env)) fun env' => bnd (bnd (c env') truth) fun b => match b with
    | true => bnd (e env') fun y => bnd (chk g) fun _ => bnd (compL p c e env g r) fun ys => ret (y :: ys)
    | false => bnd (chk g) fun _ => compL p c e env g r
/-- the lists of the turns, joined -/
def compJ (p : Pat) (c : Env → M D) (e : Env → M (List D)) (env : Env) (g : Option (Nat × List D)) : List D → M (List D)
  | [] => ret []
  | x :: r => bnd (opt (p.bind x env)) fun env' => bnd (bnd (c env') truth) fun b => match b with
    | true => bnd (e env') fun y => bnd (chk g) fun _ => bnd (compJ p c e env g r) fun ys => ret (y ++ ys)
    | false => bnd (chk g) fun _ => compJ p c e env g r
/-- all (any) of the turns -/
def genL (all : Bool) (p : Pat) (c : Env → M D) (e : Env → M Bool) (env : Env) (g : Option (Nat × List D)) : List D → M Bool
  | [] => ret all
  | x :: r => bnd (opt (p.bind x env)) fun env' => bnd (bnd (c env') truth) fun b => match b with
    | true => bnd (e env') fun y => if y = all then bnd (chk g) fun _ => genL all p c e env g r else ret y
    | false => bnd (chk g) fun _ => genL all p c e env g r
abbrev CallF := Nat → List D → M D

def ev (C : CallF) : E → Env → M D
  | .var i, env => match env[i]? with
    | some (some d) => ret d
    | _ => bad
  | .con d, _ => ret d
  | .nil, _ => ret (.lst [])
  | .cons a b, env => bnd (ev C a env) fun x => bnd (bnd (ev C b env) listOf) fun l => ret (.lst (x :: l))
  | .tup a, env => bnd (bnd (ev C a env) listOf) retTup
  | .lst a, env => bnd (bnd (ev C a env) listOf) retLst
  | .newC a, env => bnd (bnd (ev C a env) listOf) newCell
  | .newD t, _ => newDict t
  | .rngC a, env => bnd (ev C a env) rngCD
  | .un u a, env => bnd (ev C a env) (unD u)
  | .bin o a b, env => bnd (ev C a env) fun x => bnd (ev C b env) fun y => binD o x y
  | .neg a, env => bnd (ev C a env) fun x => match x with
    | .int i => ret (.int (-i))
    | _ => bad
  | .cmp o a b, env => bnd (ev C a env) fun x => bnd (ev C b env) fun y => cmpD o x y
  | .chain o p a b c, env => bnd (ev C a env) fun x => bnd (ev C b env) fun y => bnd (bnd (cmpD o x y) boolOf) fun k => match k with
    | true => bnd (ev C c env) fun z => cmpD p y z
    | false => ret (.bl false)
  | .and a b, env => bnd (ev C a env) fun x => bnd (truth x) fun k => match k with
    | true => ev C b env
    | false => ret x
  | .or a b, env => bnd (ev C a env) fun x => bnd (truth x) fun k => match k with
    | true => ret x
    | false => ev C b env
  | .not a, env => bnd (bnd (ev C a env) truth) fun k => ret (.bl (!k))
  | .ite c a b, env => bnd (bnd (ev C c env) truth) fun k => match k with
    | true => ev C a env
    | false => ev C b env
  | .call f a, env => bnd (bnd (ev C a env) listOf) fun l => C f l
  | .prim p a, env => bnd (bnd (ev C a env) listOf) fun l => primD p l
  | .meth m o a, env => bnd (ev C o env) fun x => bnd (lstC x) fun _ => bnd (bnd (ev C a env) listOf) fun l => methD m x l
  | .idx a i, env => bnd (ev C a env) fun x => bnd (ev C i env) fun y => idxD x y
  | .slice l h a lo hi, env => bnd (ev C a env) fun x => bnd (ev C lo env) fun y => bnd (ev C hi env) fun z => sliceD x (bound l y) (bound h z)
  | .itr k a, env => bnd (bnd (ev C a env) listOf) fun l => bnd (itemsD k l) fun s => ret (srcD s)
  | .comp p s c e, env => bnd (bnd (ev C s env) srcOf) fun s => bnd (compL p (ev C c) (ev C e) (wipeE env p.slots) s.2 s.1) retLst
  | .comp2 p s c q t d e, env => bnd (bnd (ev C s env) srcOf) fun s =>
      bnd (compJ p (ev C c) (fun env => bnd (bnd (ev C t env) srcOf) fun s => compL q (ev C d) (ev C e) (wipeE env q.slots) s.2 s.1) (wipeE env (p.slots ++ q.slots)) s.2 s.1) retLst
  | .gen all p s c e, env => bnd (bnd (ev C s env) srcOf) fun s => bnd (genL all p (ev C c) (fun env => bnd (ev C e env) boolOf) (wipeE env p.slots) s.2 s.1) fun b => ret (.bl b)
  | .gen2 all p s c q t d e, env => bnd (bnd (ev C s env) srcOf) fun s =>
      bnd (genL all p (ev C c) (fun env => bnd (bnd (ev C t env) srcOf) fun s => genL all q (ev C d) (fun env => bnd (ev C e env) boolOf) (wipeE env q.slots) s.2 s.1) (wipeE env (p.slots ++ q.slots)) s.2 s.1) fun b => ret (.bl b)
  | .sortLen a, env => bnd (ev C a env) sortLenD
  | .rng1 t a, env => bnd (ev C a env) fun x => rngD t (.int 0) x
  | .rng2 t a b, env => bnd (ev C a env) fun x => bnd (ev C b env) fun y => rngD t x y

/-! ### statements -/
inductive Out where
  | next (env : Env) (st : St)
  | ret (d : D) (st : St)
  | bad
def run' {α : Type} (m : M α) (st : St) (f : α → St → Out) : Out := match m st with
  | .ok a st' => f a st'
  | .bad => .bad
def forL (p : Pat) (b : Env → St → Out) (g : Option (Nat × List D)) : List D → Env → St → Out
  | [], env, st => .next env st
  | x :: r, env, st => match p.bind x env with
    | some env' => match b env' st with
      | .next env2 st2 => run' (chk g) st2 fun _ st2 => forL p b g r env2 st2
      | o => o
    | none => .bad
def whileL (c : Env → M D) (b : Env → St → Out) : Nat → Env → St → Out
  | 0, _, _ => .bad
  | n + 1, env, st => run' (bnd (c env) truth) st fun k st => match k with
    | true => match b env st with
      | .next env2 st2 => whileL c b n env2 st2
      | o => o
    | false => .next env st
def exec (C : CallF) : S → Env → St → Out
  | .skip, env, st => .next env st
  | .seq a b, env, st => match exec C a env st with
    | .next env2 st2 => exec C b env2 st2
    | o => o
  | .asg p e, env, st => run' (ev C e env) st fun d st => match p.bind d env with
    | some env' => .next env' st
    | none => .bad
  | .par is e, env, st => run' (bnd (ev C e env) listOf) st fun l st => match setAll is l env with
    | some env' => .next env' st
    | none => .bad
  | .setIdx o i e, env, st => run' (bnd (ev C e env) fun x => bnd (ev C o env) fun o => bnd (ev C i env) fun i => setAt o i x) st fun _ st => .next env st
  | .aug i e, env, st => match env[i]? with
    | some (some (.int a)) => run' (ev C e env) st fun d st => match d with
      | .int b => .next (env.set i (some (.int (a + b)))) st
      | _ => .bad
    | _ => .bad
  | .drop e, env, st => run' (ev C e env) st fun _ st => .next env st
  | .ite c a b, env, st => run' (bnd (ev C c env) truth) st fun k st => match k with
    | true => exec C a env st
    | false => exec C b env st
  | .for_ p s b, env, st => run' (bnd (ev C s env) srcOf) st fun s st => forL p (exec C b) s.2 s.1 env st
  | .while_ c b, env, st => whileL (ev C c) (exec C b) 1000 env st
  | .ret e, env, st => run' (ev C e env) st fun d st => .ret d st
  | .never, _, _ => .bad

/-! ### defs -/
structure FD where
  np : Nat
  ns : Nat
  body : S
mutual
/-- all that may change, told in it, is older than n -/
def D.low (n : Nat) : D → Bool
  | .cell k => Nat.blt k n
  | .tup l => D.lows n l
  | .lst l => D.lows n l
  | .dct _ ks vs => D.lows n ks && D.lows n vs
  | _ => true
def D.lows (n : Nat) : List D → Bool
  | [] => true
  | d :: r => D.low n d && D.lows n r
end
def Cell.low (n : Nat) : Cell → Bool
  | .lst l => D.lows n l
  | .dct _ ks vs => D.lows n ks && D.lows n vs
/-- what a def hands back: a list of its own is let go -/
def leave (n : Nat) (d : D) (st : St) : Res D := match (st.take n).all (Cell.low n) with
  | true => match d with
    | .cell k => match Nat.blt k n with
      | true => .ok (.cell k) (st.take n)
      | false => match st[k]? with
        | some (.lst l) => match D.lows n l with
          | true => .ok (.lst l) (st.take n)
          | false => .bad
        | some (.dct t ks vs) => match D.lows n ks && D.lows n vs with
          | true => .ok (.dct t ks vs) (st.take n)
          | false => .bad
        | none => .bad
    | d => match D.low n d with
      | true => .ok d (st.take n)
      | false => .bad
  | false => .bad
def callB (C : CallF) (fd : FD) (l : List D) : M D := fun st => match decide (l.length = fd.np) with
  | true => match exec C fd.body (l.map some ++ List.replicate (fd.ns - fd.np) none) st with
    | .next _ st' => leave st.length .non st'
    | .ret d st' => leave st.length d st'
    | .bad => .bad
  | false => .bad
def run (T : List FD) : Nat → CallF
  | 0 => fun _ _ => bad
  | n + 1 => fun f l => match T[f]? with
    | some fd => callB (run T n) fd l
    | none => bad
end Mp
end
section
set_option Elab.async false
set_option linter.all false
set_option maxRecDepth 100000
/-! What a value tells, in an abstract heap. -/
namespace Mp
open PySem PySem.Spec PyProof.Rows L2

/-- without what may change -/
def Mk (av : List Addr) (H : Hp) : Hp := fun b => if b ∈ av then none else H b
theorem mk_out {av : List Addr} {H : Hp} {b : Addr} (h : b ∉ av) : Mk av H b = H b := if_neg h
theorem mk_some {av : List Addr} {H : Hp} {b : Addr} {o : HO} (h : Mk av H b = some o) : b ∉ av ∧ H b = some o := by
  unfold Mk at h
  split at h
  · cases h
  · exact ⟨by assumption, h⟩
def NoTbl (o : HO) : Prop := ∀ ps, o ≠ .tbl ps
/-- all but tables stays -/
def LeG (G G' : Hp) : Prop := ∀ b o, G b = some o → NoTbl o → G' b = some o
theorem LeG.refl (G : Hp) : LeG G G := fun _ _ h _ => h
theorem LeG.trans {G G1 G2 : Hp} (a : LeG G G1) (b : LeG G1 G2) : LeG G G2 := fun c o h n => b c o (a c o h n) n
theorem noT_lst {xs : List V} : NoTbl (.lst xs) := fun _ h => by cases h
theorem noT_tup {xs : List V} : NoTbl (.tup xs) := fun _ h => by cases h
theorem noT_frz {o : Obj} {u : HO} : NoTbl (.frz o u) := fun _ h => by cases h
theorem LeG.sqT {K : PySem.W.Frag} {G G' : Hp} {a : Addr} {xs : List V} (e : LeG G G') (h : SqT K G a xs) : SqT K G' a xs := by
  rcases h with (h | ⟨o, h⟩) | h
  · exact .inl (.inl (e _ _ h noT_tup))
  · exact .inl (.inr ⟨o, e _ _ h noT_frz⟩)
  · exact .inr h
theorem LeG.sqL {K : PySem.W.Frag} {G G' : Hp} {a : Addr} {xs : List V} (e : LeG G G') (h : SqL K G a xs) : SqL K G' a xs := by
  rcases h with (h | ⟨o, h⟩) | h
  · exact .inl (.inl (e _ _ h noT_lst))
  · exact .inl (.inr ⟨o, e _ _ h noT_frz⟩)
  · exact .inr h
theorem LeG.mk {av : List Addr} {H : Hp} : LeG (Mk av H) H := fun b o h _ => (mk_some h).2
theorem LeG.mk_sub {av av' : List Addr} {H : Hp} (h : ∀ b ∈ av', b ∈ av) : LeG (Mk av H) (Mk av' H) := fun b o e _ => by
  obtain ⟨n, e⟩ := mk_some e
  rw [mk_out fun z => n (h b z)]
  exact e

/-- a key of a dict, told -/
def kyD : D → Option L2.Key
  | .int i => some (.inl i)
  | .str s => some (.inr s)
  | _ => none
def keysL : List D → Option (List L2.Key)
  | [] => some []
  | d :: r => match kyD d, keysL r with
    | some k, some l => some (k :: l)
    | _, _ => none
def keysD : D → Option (List L2.Key)
  | .tup l => keysL l
  | _ => none
/-- the dict's object: its keys, its values -/
def DHo (G : Hp) (a : Addr) (t : Nat) (ks : List D) (xs : List V) : Prop := match t with
  | 0 => ∃ kvs : List (L2.Key × V), G a = some (.dK kvs) ∧ kvs.map Prod.snd = xs ∧ ks.map kyD = kvs.map fun p => some p.1
  | 1 => ∃ kvs : List (List L2.Key × V), G a = some (.dT kvs) ∧ kvs.map Prod.snd = xs ∧ ks.map keysD = kvs.map fun p => some p.1
  | _ => False
theorem noT_dK {xs : List (L2.Key × V)} : NoTbl (.dK xs) := fun _ h => by cases h
theorem noT_dT {xs : List (List L2.Key × V)} : NoTbl (.dT xs) := fun _ h => by cases h
theorem DHo.le {G G' : Hp} (e : ∀ b o, G b = some o → NoTbl o → G' b = some o) {a : Addr} {t : Nat} {ks : List D} {xs : List V} (h : DHo G a t ks xs) : DHo G' a t ks xs := by
  unfold DHo at h ⊢
  split at h
  · obtain ⟨kvs, h1, h2⟩ := h
    exact ⟨kvs, e _ _ h1 noT_dK, h2⟩
  · obtain ⟨kvs, h1, h2⟩ := h
    exact ⟨kvs, e _ _ h1 noT_dT, h2⟩
  · exact h
/-- what may change -/
def Trk (o : HO) : Prop := (∃ xs, o = .lst xs) ∨ (∃ kvs, o = .dK kvs) ∨ ∃ kvs, o = .dT kvs
theorem Trk.no {o : HO} (h : Trk o) : NoTbl o := fun ps z => by
  subst z
  rcases h with ⟨_, z⟩ | ⟨_, z⟩ | ⟨_, z⟩ <;> cases z
theorem DHo.there {G : Hp} {a : Addr} {t : Nat} {ks : List D} {xs : List V} (h : DHo G a t ks xs) : ∃ o, G a = some o ∧ Trk o := by
  unfold DHo at h
  split at h
  · obtain ⟨kvs, h1, _⟩ := h
    exact ⟨_, h1, .inr (.inl ⟨_, rfl⟩)⟩
  · obtain ⟨kvs, h1, _⟩ := h
    exact ⟨_, h1, .inr (.inr ⟨_, rfl⟩)⟩
  · exact h.elim
/-- the same at another heap with the same object there -/
theorem DHo.at_ {G G' : Hp} {a : Addr} (e : G' a = G a) {t : Nat} {ks : List D} {xs : List V} (h : DHo G a t ks xs) : DHo G' a t ks xs := by
  unfold DHo at h ⊢
  split at h
  · rw [e]; exact h
  · rw [e]; exact h
  · exact h
section
variable (K : PySem.W.Frag) (α : List Addr) (G : Hp)
mutual
def Rep : D → V → Prop
  | .non, v => v = .non
  | .bl b, v => v = .bl b
  | .int i, v => v = .int i
  | .str s, v => v = .str s
  | .tup l, v => ∃ a xs, v = .ref a ∧ G a = some (.tup xs) ∧ Reps l xs
  | .lst l, v => ∃ a xs, v = .ref a ∧ G a = some (.lst xs) ∧ Reps l xs
  | .scr l, v => ∃ a, v = .ref a ∧ SqL K G a (l.map V.int)
  | .cell k, v => ∃ a, v = .ref a ∧ α[k]? = some a
  | .dct t ks vs, v => ∃ a xs, v = .ref a ∧ DHo G a t ks xs ∧ Reps vs xs
def Reps : List D → List V → Prop
  | [], xs => xs = []
  | d :: r, xs => ∃ x ys, xs = x :: ys ∧ Rep d x ∧ Reps r ys
end
end
theorem pre_get {α α' : List Addr} (h : α <+: α') {k : Nat} {a : Addr} (e : α[k]? = some a) : α'[k]? = some a := by
  obtain ⟨t, rfl⟩ := h
  rw [List.getElem?_append_left (List.getElem?_eq_some_iff.mp e).1]
  exact e
section
variable {K : PySem.W.Frag} {α α' : List Addr} {G G' : Hp}
mutual
theorem Rep.mono (hα : α <+: α') (hG : LeG G G') : ∀ (d : D) (v : V), Rep K α G d v → Rep K α' G' d v
  | .non, _, h => h
  | .bl _, _, h => h
  | .int _, _, h => h
  | .str _, _, h => h
  | .tup l, _, ⟨a, xs, e, h1, h2⟩ => ⟨a, xs, e, hG _ _ h1 noT_tup, Reps.mono hα hG l xs h2⟩
  | .lst l, _, ⟨a, xs, e, h1, h2⟩ => ⟨a, xs, e, hG _ _ h1 noT_lst, Reps.mono hα hG l xs h2⟩
  | .scr _, _, ⟨a, e, h1⟩ => ⟨a, e, hG.sqL h1⟩
  | .cell _, _, ⟨a, e, h1⟩ => ⟨a, e, pre_get hα h1⟩
  | .dct _ _ vs, _, ⟨a, xs, e, h1, h2⟩ => ⟨a, xs, e, h1.le hG, Reps.mono hα hG vs xs h2⟩
theorem Reps.mono (hα : α <+: α') (hG : LeG G G') : ∀ (l : List D) (xs : List V), Reps K α G l xs → Reps K α' G' l xs
  | [], _, h => h
  | d :: r, _, ⟨x, ys, e, h1, h2⟩ => ⟨x, ys, e, Rep.mono hα hG d x h1, Reps.mono hα hG r ys h2⟩
end
theorem Reps.length : ∀ {l : List D} {xs : List V}, Reps K α G l xs → xs.length = l.length
  | [], _, h => by cases h; rfl
  | d :: r, _, ⟨x, ys, e, h1, h2⟩ => by rw [e, List.length_cons, List.length_cons, Reps.length h2]
theorem Reps.append : ∀ {l m : List D} {xs ys : List V}, Reps K α G l xs → Reps K α G m ys → Reps K α G (l ++ m) (xs ++ ys)
  | [], _, _, _, h, k => by cases h; exact k
  | d :: r, _, _, _, ⟨x, zs, e, h1, h2⟩, k => ⟨x, zs ++ _, by rw [e]; rfl, h1, Reps.append h2 k⟩
theorem Reps.take : ∀ {l : List D} {xs : List V} (n : Nat), Reps K α G l xs → Reps K α G (l.take n) (xs.take n)
  | [], _, n, h => by cases h; rw [List.take_nil, List.take_nil]; rfl
  | d :: r, _, 0, _ => rfl
  | d :: r, _, n + 1, ⟨x, zs, e, h1, h2⟩ => ⟨x, zs.take n, by rw [e]; rfl, h1, Reps.take n h2⟩
theorem Reps.drop : ∀ {l : List D} {xs : List V} (n : Nat), Reps K α G l xs → Reps K α G (l.drop n) (xs.drop n)
  | [], _, n, h => by cases h; rw [List.drop_nil, List.drop_nil]; rfl
  | d :: r, _, 0, h => h
  | d :: r, _, n + 1, ⟨x, zs, e, h1, h2⟩ => by rw [e]; exact Reps.drop n h2
theorem Reps.get : ∀ {l : List D} {xs : List V} {i : Nat} {d : D}, Reps K α G l xs → l[i]? = some d → ∃ x, xs[i]? = some x ∧ Rep K α G d x
  | d :: r, _, 0, _, ⟨x, zs, e, h1, h2⟩, q => by
    rw [e]
    cases q
    exact ⟨x, rfl, h1⟩
  | d :: r, _, i + 1, _, ⟨x, zs, e, h1, h2⟩, q => by
    rw [e]
    exact Reps.get (i := i) h2 q
theorem Reps.getV : ∀ {l : List D} {xs : List V} {i : Nat} {x : V}, Reps K α G l xs → xs[i]? = some x → ∃ d, l[i]? = some d ∧ Rep K α G d x
  | [], _, i, _, h, q => by cases h; simp at q
  | d :: r, _, 0, _, ⟨x, zs, e, h1, h2⟩, q => by
    rw [e] at q
    cases q
    exact ⟨d, rfl, h1⟩
  | d :: r, _, i + 1, _, ⟨x, zs, e, h1, h2⟩, q => by
    rw [e] at q
    exact Reps.getV (i := i) h2 q
theorem Reps.set : ∀ {l : List D} {xs : List V} (i : Nat) {d : D} {x : V}, Reps K α G l xs → Rep K α G d x → Reps K α G (l.set i d) (xs.set i x)
  | [], _, i, _, _, h, _ => by cases h; rfl
  | d :: r, _, 0, _, _, ⟨x, zs, e, h1, h2⟩, k => ⟨_, zs, by rw [e]; rfl, k, h2⟩
  | d :: r, _, i + 1, _, _, ⟨x, zs, e, h1, h2⟩, k => ⟨x, zs.set i _, by rw [e]; rfl, h1, Reps.set i h2 k⟩
theorem Reps.one {d : D} {x : V} (h : Rep K α G d x) : Reps K α G [d] [x] := ⟨x, [], rfl, h, rfl⟩
theorem Reps.flatten {l : List D} {xs : List V} (h : Reps K α G l xs) : ∀ k : Nat, Reps K α G (List.replicate k l).flatten (List.replicate k xs).flatten
  | 0 => rfl
  | k + 1 => by
    rw [List.replicate_succ, List.replicate_succ, List.flatten_cons, List.flatten_cons]
    exact h.append (Reps.flatten h k)
end

/-! ### plain data -/
mutual
def D.py : D → PyData
  | .non => .none
  | .bl b => .bool b
  | .int i => .int i
  | .str s => .str s
  | .tup l => .tuple (D.pys l)
  | .lst l => .list (D.pys l)
  | .scr _ => .none
  | .cell _ => .none
  | .dct _ _ _ => .none
def D.pys : List D → List PyData
  | [] => []
  | d :: r => D.py d :: D.pys r
end
theorem D.pys_map : ∀ l : List D, D.pys l = l.map D.py
  | [] => by rw [D.pys]; rfl
  | d :: r => by rw [D.pys, D.pys_map r]; rfl
mutual
theorem D.shp_lay : ∀ (n : Nat) (d : D), D.shp n d = true → (D.py d).canLay0 = true ∧ (D.py d).depth ≤ n
  | _, .non, _ => by simp [D.py, PyData.canLay0, PyData.depth]
  | _, .bl _, _ => by simp [D.py, PyData.canLay0, PyData.depth]
  | _, .int _, _ => by simp [D.py, PyData.canLay0, PyData.depth]
  | _, .str s, h => by
    have h : PyData.strOk s = true := by simpa [D.shp] using h
    simp [D.py, PyData.canLay0, PyData.depth, h]
  | 0, .tup l, h => by simp [D.shp] at h
  | n + 1, .tup l, h => by
    have h : D.shps n l = true := by simpa [D.shp] using h
    obtain ⟨h1, h2⟩ := D.shps_lay n l h
    simp [D.py, PyData.canLay0, PyData.depth, h1]
    omega
  | 0, .lst l, h => by simp [D.shp] at h
  | n + 1, .lst l, h => by
    have h : D.shps n l = true := by simpa [D.shp] using h
    obtain ⟨h1, h2⟩ := D.shps_lay n l h
    simp [D.py, PyData.canLay0, PyData.depth, h1]
    omega
  | _, .scr _, h => by simp [D.shp] at h
  | _, .cell _, h => by simp [D.shp] at h
  | _, .dct _ _ _, h => by simp [D.shp] at h
theorem D.shps_lay : ∀ (n : Nat) (l : List D), D.shps n l = true → PyData.canLayAll0 (D.pys l) = true ∧ PyData.depthAll (D.pys l) ≤ n
  | _, [], _ => by simp [D.pys, PyData.canLayAll0, PyData.depthAll]
  | n, d :: r, h => by
    have h : D.shp n d = true ∧ D.shps n r = true := by simpa [D.shps] using h
    obtain ⟨h1, h2⟩ := D.shp_lay n d h.1
    obtain ⟨h3, h4⟩ := D.shps_lay n r h.2
    simp [D.pys, PyData.canLayAll0, PyData.depthAll, h1, h3]
    omega
end
theorem D.ok_shaped {d : D} (h : d.ok = true) : SeqAt.shaped (D.py d) = true := by
  obtain ⟨h1, h2⟩ := D.shp_lay 60 d h
  unfold SeqAt.shaped
  rw [h1, decide_eq_true (by omega)]
  rfl
mutual
theorem D.eq_py : ∀ (n : Nat) (a b : D), D.shp n a = true → D.shp n b = true → D.eq a b = PyData.eqv (D.py a) (D.py b)
  | n, a, b, ha, hb => by
    cases a <;> cases b <;> first
      | (simp only [D.eq, D.py, PyData.eqv]; done)
      | (simp [D.shp] at ha; done)
      | (simp [D.shp] at hb; done)
      | (rename_i l m
         cases n with
         | zero => simp [D.shp] at ha
         | succ n =>
           have h1 : D.shps n l = true := by simpa [D.shp] using ha
           have h2 : D.shps n m = true := by simpa [D.shp] using hb
           simp only [D.eq, D.py, PyData.eqv]
           exact D.eqs_py n l m h1 h2)
theorem D.eqs_py : ∀ (n : Nat) (l m : List D), D.shps n l = true → D.shps n m = true → D.eqs l m = PyData.eqvAll (D.pys l) (D.pys m)
  | n, [], [], _, _ => by simp [D.eqs, D.pys, PyData.eqvAll]
  | n, [], _ :: _, _, _ => by simp [D.eqs, D.pys, PyData.eqvAll]
  | n, _ :: _, [], _, _ => by simp [D.eqs, D.pys, PyData.eqvAll]
  | n, a :: r, b :: s, ha, hb => by
    have ha : D.shp n a = true ∧ D.shps n r = true := by simpa [D.shps] using ha
    have hb : D.shp n b = true ∧ D.shps n s = true := by simpa [D.shps] using hb
    simp only [D.eqs, D.pys, PyData.eqvAll]
    rw [D.eq_py n a b ha.1 hb.1, D.eqs_py n r s ha.2 hb.2]
end
section
variable {K : PySem.W.Frag} {α : List Addr} {G H : Hp}
mutual
theorem Rep.dp (hG : LeG G H) : ∀ (n : Nat) (d : D) (v : V), D.shp n d = true → Rep K α G d v → Dp K H v (D.py d)
  | _, .non, _, _, h => by cases h; rw [D.py]; exact .non
  | _, .bl b, _, _, h => by cases h; rw [D.py]; exact .bl b
  | _, .int i, _, _, h => by cases h; rw [D.py]; exact .int i
  | _, .str s, _, _, h => by cases h; rw [D.py]; exact .str s
  | 0, .tup l, _, z, _ => by simp [D.shp] at z
  | n + 1, .tup l, _, z, ⟨a, xs, e, h1, h2⟩ => by
    rw [e, D.py]
    exact .tup (.inl (.inl (hG _ _ h1 noT_tup))) (Reps.dp hG n l xs (by simpa [D.shp] using z) h2)
  | 0, .lst l, _, z, _ => by simp [D.shp] at z
  | n + 1, .lst l, _, z, ⟨a, xs, e, h1, h2⟩ => by
    rw [e, D.py]
    exact .lst (.inl (.inl (hG _ _ h1 noT_lst))) (Reps.dp hG n l xs (by simpa [D.shp] using z) h2)
  | _, .scr _, _, z, _ => by simp [D.shp] at z
  | _, .cell _, _, z, _ => by simp [D.shp] at z
  | _, .dct _ _ _, _, z, _ => by simp [D.shp] at z
theorem Reps.dp (hG : LeG G H) : ∀ (n : Nat) (l : List D) (xs : List V), D.shps n l = true → Reps K α G l xs → DpAll K H xs (D.pys l)
  | _, [], _, _, h => by cases h; rw [D.pys]; exact .nil
  | n, d :: r, _, z, ⟨x, ys, e, h1, h2⟩ => by
    have z : D.shp n d = true ∧ D.shps n r = true := by simpa [D.shps] using z
    rw [e, D.pys]
    exact .cons (Rep.dp hG n d x z.1 h1) (Reps.dp hG n r ys z.2 h2)
end
end

/-! ### the state -/
/-- tables of code objects: whatever they tell (none), or code objects of one name -/
def TabOk (H : Hp) (p : Addr × Option Str) : Prop := match p.2 with
  | none => GxR.TabG H p.1
  | some q => LamX.TabS H p.1 q
structure Ok (K : PySem.W.Frag) (Tb : List (Addr × Option Str)) (β α : List Addr) (st : St) (H : Hp) : Prop where
  nd : α.Nodup
  ap : ∀ a ∈ α, a ∉ β
  bl : ∀ b ∈ β, ∃ xs, H b = some (.lst xs)
  len : α.length = st.length
  cells : ∀ (k : Nat) (a : Addr) (l : List D), α[k]? = some a → st[k]? = some (.lst l) → ∃ xs, H a = some (.lst xs) ∧ Reps K α (Mk (β ++ α) H) l xs
  dcells : ∀ (k : Nat) (a : Addr) (t : Nat) (ks vs : List D), α[k]? = some a → st[k]? = some (.dct t ks vs) → ∃ xs, DHo H a t ks xs ∧ Reps K α (Mk (β ++ α) H) vs xs
  tabs : ∀ p ∈ Tb, TabOk H p
/-- what the run of a piece may do -/
structure Stp (α α' : List Addr) (H H' : Hp) : Prop where
  pre : α <+: α'
  new : ∀ a ∈ α', a ∈ α ∨ H a = none
  keep : ∀ b o, b ∉ α → H b = some o → NoTbl o → H' b = some o
  tbl : ∀ b ps, b ∉ α → H b = some (.tbl ps) → ∃ ps', H' b = some (.tbl ps')
theorem Stp.refl (α : List Addr) (H : Hp) : Stp α α H H := ⟨List.prefix_rfl, fun _ h => .inl h, fun _ _ _ h _ => h, fun _ ps _ h => ⟨ps, h⟩⟩
section
variable {K : PySem.W.Frag} {Tb : List (Addr × Option Str)} {β α α1 α2 : List Addr} {st st1 : St} {H H1 H2 : Hp}
theorem Stp.free (a : Stp α α1 H H1) {c : Addr} (hc : c ∉ α) (h : H1 c = none) : H c = none := by
  cases q : H c with
  | none => rfl
  | some o =>
    cases o with
    | tbl ps =>
      obtain ⟨ps', e⟩ := a.tbl c ps hc q
      rw [e] at h
      cases h
    | _ =>
      rw [a.keep c _ hc q (fun _ z => by cases z)] at h
      cases h
theorem Stp.mem (a : Stp α α1 H H1) {c : Addr} (h : c ∈ α) : c ∈ α1 := a.pre.subset h
theorem Stp.old (a : Stp α α1 H H1) {c : Addr} (hc : c ∉ α) {o : HO} (h : H c = some o) : c ∉ α1 := fun z => by
  rcases a.new c z with y | y
  · exact hc y
  · rw [h] at y
    cases y
theorem Stp.trans (a : Stp α α1 H H1) (b : Stp α1 α2 H1 H2) : Stp α α2 H H2 where
  pre := a.pre.trans b.pre
  new := fun c hc => by
    by_cases hα : c ∈ α
    · exact .inl hα
    · rcases b.new c hc with h | h
      · exact a.new c h
      · exact .inr (a.free hα h)
  keep := fun c o hc h n => b.keep c o (a.old hc h) (a.keep c o hc h n) n
  tbl := fun c ps hc h => by
    obtain ⟨ps', e⟩ := a.tbl c ps hc h
    exact b.tbl c ps' (a.old hc h) e
/-- what was not to change, under a step -/
theorem Stp.le (a : Stp α α1 H H1) (β : List Addr) : LeG (Mk (β ++ α) H) (Mk (β ++ α1) H1) := fun b o e n => by
  obtain ⟨hb, e⟩ := mk_some e
  have h1 : b ∉ β := fun z => hb (List.mem_append_left _ z)
  have h2 : b ∉ α := fun z => hb (List.mem_append_right _ z)
  rw [mk_out fun z => (List.mem_append.mp z).elim h1 (a.old h2 e)]
  exact a.keep b o h2 e n
theorem Stp.rep (a : Stp α α1 H H1) {d : D} {v : V} (h : Rep K α (Mk (β ++ α) H) d v) : Rep K α1 (Mk (β ++ α1) H1) d v := Rep.mono a.pre (a.le β) d v h
theorem Stp.reps (a : Stp α α1 H H1) {l : List D} {xs : List V} (h : Reps K α (Mk (β ++ α) H) l xs) : Reps K α1 (Mk (β ++ α1) H1) l xs := Reps.mono a.pre (a.le β) l xs h
/-- something new is laid -/
theorem Stp.laid {p : Addr} {o : HO} (hp : H p = none) : Stp α α H (upd H p o) where
  pre := List.prefix_rfl
  new := fun _ h => .inl h
  keep := fun b u _ h _ => by rw [upd_ne (ne_of_none h hp)]; exact h
  tbl := fun b ps _ h => ⟨ps, by rw [upd_ne (ne_of_none h hp)]; exact h⟩
theorem tabOk_ext {p : Addr × Option Str} (h : TabOk H p) (e : ∀ b o, H b = some o → H1 b = some o) : TabOk H1 p := by
  unfold TabOk at h ⊢
  split
  · rename_i q
    rw [q] at h
    obtain ⟨ps, h1, h2⟩ := h
    exact ⟨ps, e _ _ h1, h2⟩
  · rename_i q z
    rw [z] at h
    exact LamX.TabS.ext h e
theorem Ok.mem_of (h : Ok K Tb β α st H) {k : Nat} {a : Addr} (e : α[k]? = some a) : (∃ l xs, st[k]? = some (.lst l) ∧ H a = some (.lst xs) ∧ Reps K α (Mk (β ++ α) H) l xs) ∨ ∃ t ks vs xs, st[k]? = some (.dct t ks vs) ∧ DHo H a t ks xs ∧ Reps K α (Mk (β ++ α) H) vs xs := by
  have hk : k < st.length := by rw [← h.len]; exact (List.getElem?_eq_some_iff.mp e).1
  cases q : st[k] with
  | lst l =>
    have q' : st[k]? = some (.lst l) := by rw [List.getElem?_eq_getElem hk, q]
    obtain ⟨xs, h1, h2⟩ := h.cells k a l e q'
    exact .inl ⟨l, xs, q', h1, h2⟩
  | dct t ks vs =>
    have q' : st[k]? = some (.dct t ks vs) := by rw [List.getElem?_eq_getElem hk, q]
    obtain ⟨xs, h1, h2⟩ := h.dcells k a t ks vs e q'
    exact .inr ⟨t, ks, vs, xs, q', h1, h2⟩
theorem Ok.tracked (h : Ok K Tb β α st H) {a : Addr} (ha : a ∈ α) : ∃ o, H a = some o ∧ Trk o := by
  obtain ⟨k, e⟩ := List.getElem?_of_mem ha
  rcases h.mem_of e with ⟨_, xs, _, e2, _⟩ | ⟨_, _, _, _, _, e2, _⟩
  · exact ⟨_, e2, .inl ⟨_, rfl⟩⟩
  · exact e2.there
theorem Ok.laid {p : Addr} {o : HO} (h : Ok K Tb β α st H) (hp : H p = none) : Ok K Tb β α st (upd H p o) where
  nd := h.nd
  ap := h.ap
  bl := fun b hb => by
    obtain ⟨xs, e⟩ := h.bl b hb
    exact ⟨xs, by rw [upd_ne (ne_of_none e hp)]; exact e⟩
  len := h.len
  cells := fun k a l e1 e2 => by
    obtain ⟨xs, h1, h2⟩ := h.cells k a l e1 e2
    exact ⟨xs, by rw [upd_ne (ne_of_none h1 hp)]; exact h1, (Stp.laid hp).reps h2⟩
  dcells := fun k a t ks vs e1 e2 => by
    obtain ⟨xs, h1, h2⟩ := h.dcells k a t ks vs e1 e2
    exact ⟨xs, h1.le fun b o e _ => by rw [upd_ne (ne_of_none e hp)]; exact e, (Stp.laid hp).reps h2⟩
  tabs := fun q hq => tabOk_ext (h.tabs q hq) fun b u e => by rw [upd_ne (ne_of_none e hp)]; exact e

/-- a name's value -/
def EnvOk (K : PySem.W.Frag) (α : List Addr) (G : Hp) (env : Env) (σ : L2.St) : Prop := env.length = σ.length ∧ ∀ (i : Nat) (d : D), env[i]? = some (some d) → ∃ v : V, σ[i]? = some (some v) ∧ Rep K α G d v
theorem EnvOk.mono {G G' : Hp} {env : Env} {σ : L2.St} (h : EnvOk K α G env σ) (hα : α <+: α1) (hG : LeG G G') : EnvOk K α1 G' env σ := ⟨h.1, fun i d e => by
  obtain ⟨v, h1, h2⟩ := h.2 i d e
  exact ⟨v, h1, h2.mono hα hG⟩⟩
theorem EnvOk.set {G : Hp} {env : Env} {σ : L2.St} (h : EnvOk K α G env σ) {d : D} {v : V} (i : Nat) (r : Rep K α G d v) : EnvOk K α G (env.set i (some d)) (σ.set i (some v)) := by
  refine ⟨by rw [List.length_set, List.length_set]; exact h.1, fun j e q => ?_⟩
  by_cases hj : i = j
  · subst hj
    by_cases hi : i < env.length
    · rw [List.getElem?_set_self hi] at q
      cases q
      exact ⟨v, by rw [List.getElem?_set_self (by rw [← h.1]; exact hi)], r⟩
    · rw [List.getElem?_eq_none (by rw [List.length_set]; omega)] at q
      cases q
  · rw [List.getElem?_set_ne hj] at q ⊢
    exact h.2 j e q
theorem EnvOk.wipe1 {G : Hp} {env : Env} {σ : L2.St} (h : EnvOk K α G env σ) (i : Nat) : EnvOk K α G (env.set i none) (σ.set i none) := by
  refine ⟨by rw [List.length_set, List.length_set]; exact h.1, fun j e q => ?_⟩
  by_cases hj : i = j
  · subst hj
    by_cases hi : i < env.length
    · rw [List.getElem?_set_self hi] at q
      cases q
    · rw [List.getElem?_eq_none (by rw [List.length_set]; omega)] at q
      cases q
  · rw [List.getElem?_set_ne hj] at q ⊢
    exact h.2 j e q
theorem EnvOk.wipe {G : Hp} {env : Env} {σ : L2.St} (h : EnvOk K α G env σ) : ∀ vs : List Nat, EnvOk K α G (wipeE env vs) (wipe σ vs)
  | [] => h
  | v :: vs => (EnvOk.wipe h vs).wipe1 v
/-- fewer names told -/
theorem EnvOk.less {G : Hp} {env env' : Env} {σ : L2.St} (h : EnvOk K α G env σ) (hl : env'.length = env.length) (hs : ∀ (i : Nat) (d : D), env'[i]? = some (some d) → env[i]? = some (some d)) : EnvOk K α G env' σ :=
  ⟨hl.trans h.1, fun i d e => h.2 i d (hs i d e)⟩

/-! ### what a run gives, told of the heap -/
def Sat (K : PySem.W.Frag) (Tb : List (Addr × Option Str)) (β α : List Addr) (r : Res D) (H : Hp) (Q : VK) : Prop := match r with
  | .ok d st' => ∀ v α' H', Stp α α' H H' → Ok K Tb β α' st' H' → Rep K α' (Mk (β ++ α') H') d v → Q v H'
  | .bad => False
def SatL (K : PySem.W.Frag) (Tb : List (Addr × Option Str)) (β α : List Addr) (r : Res (List D)) (H : Hp) (Q : List V → Hp → Prop) : Prop := match r with
  | .ok l st' => ∀ xs α' H', Stp α α' H H' → Ok K Tb β α' st' H' → Reps K α' (Mk (β ++ α') H') l xs → Q xs H'
  | .bad => False
def SatB (K : PySem.W.Frag) (Tb : List (Addr × Option Str)) (β α : List Addr) (r : Res Bool) (H : Hp) (Q : Bool → Hp → Prop) : Prop := match r with
  | .ok b st' => ∀ α' H', Stp α α' H H' → Ok K Tb β α' st' H' → Q b H'
  | .bad => False
theorem Sat.step {r : Res D} {Q : VK} (h : Sat K Tb β α r H Q) (s : Stp α α1 H H1) : Sat K Tb β α1 r H1 Q := by
  cases r with
  | ok d st' => exact fun v α' H' s' o rv => h v α' H' (s.trans s') o rv
  | bad => exact h
theorem SatL.step {r : Res (List D)} {Q : List V → Hp → Prop} (h : SatL K Tb β α r H Q) (s : Stp α α1 H H1) : SatL K Tb β α1 r H1 Q := by
  cases r with
  | ok d st' => exact fun v α' H' s' o rv => h v α' H' (s.trans s') o rv
  | bad => exact h
theorem SatB.step {r : Res Bool} {Q : Bool → Hp → Prop} (h : SatB K Tb β α r H Q) (s : Stp α α1 H H1) : SatB K Tb β α1 r H1 Q := by
  cases r with
  | ok d st' => exact fun α' H' s' o => h α' H' (s.trans s') o
  | bad => exact h
/-- the value is there, the state as it is -/
theorem Sat.here {d : D} {Q : VK} {v : V} (h : Sat K Tb β α (.ok d st) H Q) (o : Ok K Tb β α st H) (r : Rep K α (Mk (β ++ α) H) d v) : Q v H := h v α H (Stp.refl α H) o r
theorem SatB.here {b : Bool} {Q : Bool → Hp → Prop} (h : SatB K Tb β α (.ok b st) H Q) (o : Ok K Tb β α st H) : Q b H := h α H (Stp.refl α H) o
theorem SatL.here {l : List D} {xs : List V} {Q : List V → Hp → Prop} (h : SatL K Tb β α (.ok l st) H Q) (o : Ok K Tb β α st H) (r : Reps K α (Mk (β ++ α) H) l xs) : Q xs H := h xs α H (Stp.refl α H) o r

/-- an expression's reading by its evaluation -/
def tOf (K : PySem.W.Frag) (Tb : List (Addr × Option Str)) (m : Env → M D) : TE := fun σ H Q => ∃ β α st env, Ok K Tb β α st H ∧ EnvOk K α (Mk (β ++ α) H) env σ ∧ Sat K Tb β α (m env st) H Q
def tOfL (K : PySem.W.Frag) (Tb : List (Addr × Option Str)) (m : Env → M (List D)) : TA := fun σ H Q => ∃ β α st env, Ok K Tb β α st H ∧ EnvOk K α (Mk (β ++ α) H) env σ ∧ SatL K Tb β α (m env st) H Q
def tOfB (K : PySem.W.Frag) (Tb : List (Addr × Option Str)) (m : Env → M Bool) : TT := fun σ H Q => ∃ β α st env, Ok K Tb β α st H ∧ EnvOk K α (Mk (β ++ α) H) env σ ∧ SatB K Tb β α (m env st) H Q
end
/-- a reading that another gives -/
theorem PE.by {X : Cx} {e : Expr} {t : TE} (h : ∀ σ H Q, t σ H Q → ∃ u, PE X e u ∧ u σ H Q) : PE X e t := ⟨fun pins s σ H Q I w => by
  obtain ⟨u, p, q⟩ := h σ H Q w
  exact p.run pins s σ H Q I q⟩
theorem PA.by {X : Cx} {e : List Expr} {t : TA} (h : ∀ σ H Q, t σ H Q → ∃ u, PA X e u ∧ u σ H Q) : PA X e t := ⟨fun pos pins s σ H Q I w => by
  obtain ⟨u, p, q⟩ := h σ H Q w
  exact p.run pos pins s σ H Q I q⟩
theorem PT.by {X : Cx} {e : Expr} {t : TT} (h : ∀ σ H Q, t σ H Q → ∃ u, PT X e u ∧ u σ H Q) : PT X e t := ⟨fun pins s σ H Q I w => by
  obtain ⟨u, p, q⟩ := h σ H Q w
  exact p.run pins s σ H Q I q⟩
theorem PS.by {X : Cx} {e : Stmt} {t : TS} (h : ∀ D σ H, t D σ H → ∃ u, PS X e u ∧ u D σ H) : PS X e t := ⟨fun pins s σ H D I w => by
  obtain ⟨u, p, q⟩ := h D σ H w
  exact p.run pins s σ H D I q⟩
section
variable {K : PySem.W.Frag} {Tb : List (Addr × Option Str)} {β α : List Addr} {st : St} {H : Hp} {σ : L2.St} {env : Env}
theorem tOf_bnd {m : Env → M D} {α' : Type} {F : D → M α'} {S : ∀ (α : List Addr), Res α' → Hp → Prop} {R : VK} (o : Ok K Tb β α st H) (e : EnvOk K α (Mk (β ++ α) H) env σ)
    (h : S α (bnd (m env) F st) H) (hbad : ∀ α H, ¬ S α .bad H) (hst : ∀ α1 H1 r, Stp α α1 H H1 → S α r H → S α1 r H1)
    (k : ∀ d st1 v α1 H1, m env st = .ok d st1 → Stp α α1 H H1 → Ok K Tb β α1 st1 H1 → EnvOk K α1 (Mk (β ++ α1) H1) env σ → Rep K α1 (Mk (β ++ α1) H1) d v → S α1 (F d st1) H1 → R v H1) : tOf K Tb m σ H R := by
  refine ⟨β, α, st, env, o, e, ?_⟩
  unfold bnd at h
  cases q : m env st with
  | bad =>
    rw [q] at h
    exact hbad α H h
  | ok d st1 =>
    rw [q] at h
    exact fun v α1 H1 s o1 r => k d st1 v α1 H1 q s o1 (e.mono s.pre (s.le β)) r (hst α1 H1 _ s h)
theorem tOfL_bnd {m : Env → M (List D)} {α' : Type} {F : List D → M α'} {S : ∀ (α : List Addr), Res α' → Hp → Prop} {R : List V → Hp → Prop} (o : Ok K Tb β α st H) (e : EnvOk K α (Mk (β ++ α) H) env σ)
    (h : S α (bnd (m env) F st) H) (hbad : ∀ α H, ¬ S α .bad H) (hst : ∀ α1 H1 r, Stp α α1 H H1 → S α r H → S α1 r H1)
    (k : ∀ l st1 xs α1 H1, m env st = .ok l st1 → Stp α α1 H H1 → Ok K Tb β α1 st1 H1 → EnvOk K α1 (Mk (β ++ α1) H1) env σ → Reps K α1 (Mk (β ++ α1) H1) l xs → S α1 (F l st1) H1 → R xs H1) : tOfL K Tb m σ H R := by
  refine ⟨β, α, st, env, o, e, ?_⟩
  unfold bnd at h
  cases q : m env st with
  | bad =>
    rw [q] at h
    exact hbad α H h
  | ok d st1 =>
    rw [q] at h
    exact fun v α1 H1 s o1 r => k d st1 v α1 H1 q s o1 (e.mono s.pre (s.le β)) r (hst α1 H1 _ s h)
theorem tOfB_bnd {m : Env → M Bool} {α' : Type} {F : Bool → M α'} {S : ∀ (α : List Addr), Res α' → Hp → Prop} {R : Bool → Hp → Prop} (o : Ok K Tb β α st H) (e : EnvOk K α (Mk (β ++ α) H) env σ)
    (h : S α (bnd (m env) F st) H) (hbad : ∀ α H, ¬ S α .bad H) (hst : ∀ α1 H1 r, Stp α α1 H H1 → S α r H → S α1 r H1)
    (k : ∀ b st1 α1 H1, m env st = .ok b st1 → Stp α α1 H H1 → Ok K Tb β α1 st1 H1 → EnvOk K α1 (Mk (β ++ α1) H1) env σ → S α1 (F b st1) H1 → R b H1) : tOfB K Tb m σ H R := by
  refine ⟨β, α, st, env, o, e, ?_⟩
  unfold bnd at h
  cases q : m env st with
  | bad =>
    rw [q] at h
    exact hbad α H h
  | ok d st1 =>
    rw [q] at h
    exact fun α1 H1 s o1 => k d st1 α1 H1 q s o1 (e.mono s.pre (s.le β)) (hst α1 H1 _ s h)
end
end Mp
end
section
set_option Elab.async false
set_option linter.all false
set_option maxRecDepth 100000
/-! Operations on values. -/
namespace Mp
open PySem PySem.Spec L2 PyProof.Rows
section
variable {K : PySem.W.Frag} {Tb : List (Addr × Option Str)} {β α : List Addr} {st : St} {H : Hp}
/-- looked at: a list that may change is its items -/
def Vw (K : PySem.W.Frag) (α : List Addr) (G H : Hp) (d : D) (v : V) : Prop := match d with
  | .lst l => ∃ a xs, v = .ref a ∧ H a = some (.lst xs) ∧ Reps K α G l xs
  | .cell _ => False
  | .dct t ks vs => ∃ a xs, v = .ref a ∧ DHo H a t ks xs ∧ Reps K α G vs xs
  | d => Rep K α G d v
theorem Vw.rep {G : Hp} (hG : LeG G H) {d : D} {v : V} (h : Vw K α G H d v) : Rep K α H d v := by
  cases d with
  | lst l =>
    obtain ⟨a, xs, e, h1, h2⟩ := h
    exact ⟨a, xs, e, h1, Reps.mono List.prefix_rfl hG l xs h2⟩
  | cell k => exact h.elim
  | dct t ks vs =>
    obtain ⟨a, xs, e, h1, h2⟩ := h
    exact ⟨a, xs, e, h1, Reps.mono List.prefix_rfl hG vs xs h2⟩
  | _ => exact Rep.mono List.prefix_rfl hG _ _ h
theorem deref_vw {d d' : D} {v : V} {st' : St} (o : Ok K Tb β α st H) (r : Rep K α (Mk (β ++ α) H) d v) (h : deref d st = .ok d' st') : st' = st ∧ Vw K α (Mk (β ++ α) H) H d' v := by
  cases d with
  | cell k =>
    obtain ⟨a, rfl, e⟩ := r
    rcases o.mem_of e with ⟨l, xs, e1, e2, e3⟩ | ⟨t, ks, vs, xs, e1, e2, e3⟩
    · simp only [deref, e1] at h
      cases h
      exact ⟨rfl, a, xs, rfl, e2, e3⟩
    · simp only [deref, e1] at h
      cases h
      exact ⟨rfl, a, xs, rfl, e2, e3⟩
  | lst l =>
    cases h
    obtain ⟨a, xs, e, h1, h2⟩ := r
    exact ⟨rfl, a, xs, e, (mk_some h1).2, h2⟩
  | dct t ks vs =>
    cases h
    obtain ⟨a, xs, e, h1, h2⟩ := r
    exact ⟨rfl, a, xs, e, h1.le LeG.mk, h2⟩
  | _ =>
    cases h
    exact ⟨rfl, r⟩
theorem sat_bnd {γ : Type} {m : M γ} {F : γ → M D} {Q : VK} (h : Sat K Tb β α (bnd m F st) H Q) : ∃ a st', m st = .ok a st' ∧ Sat K Tb β α (F a st') H Q := by
  unfold bnd at h
  split at h
  · exact ⟨_, _, by assumption, h⟩
  · exact h.elim
theorem sat_deref {d : D} {v : V} {F : D → M D} {Q : VK} (o : Ok K Tb β α st H) (r : Rep K α (Mk (β ++ α) H) d v) (h : Sat K Tb β α (bnd (deref d) F st) H Q) :
    ∃ d', Vw K α (Mk (β ++ α) H) H d' v ∧ Sat K Tb β α (F d' st) H Q := by
  obtain ⟨a, st', e, h2⟩ := sat_bnd h
  obtain ⟨e1, hv⟩ := deref_vw o r e
  rw [e1] at h2
  exact ⟨a, hv, h2⟩
theorem line_eq : line = sizeLine := by rw [sizeLine_eq]; rfl
theorem lenOk_le {l : List D} (h : lenOk l = true) : l.length ≤ sizeLine := by
  rw [← line_eq]
  exact Nat.le_of_ble_eq_true h
theorem Ok.out (o : Ok K Tb β α st H) {p : Addr} (hp : H p = none) : p ∉ β ++ α := fun z => by
  rcases List.mem_append.mp z with z | z
  · obtain ⟨_, e⟩ := o.bl p z
    rw [hp] at e
    cases e
  · obtain ⟨_, e, _⟩ := o.tracked z
    rw [hp] at e
    cases e
theorem laid_lst {l : List D} {xs : List V} {p : Addr} (hp : H p = none) (o : Ok K Tb β α st H) (r : Reps K α (Mk (β ++ α) H) l xs) : Rep K α (Mk (β ++ α) (upd H p (.lst xs))) (.lst l) (.ref p) :=
  ⟨p, xs, rfl, by rw [mk_out (o.out hp), upd_same], (Stp.laid hp).reps r⟩
theorem laid_tup {l : List D} {xs : List V} {p : Addr} (hp : H p = none) (o : Ok K Tb β α st H) (r : Reps K α (Mk (β ++ α) H) l xs) : Rep K α (Mk (β ++ α) (upd H p (.tup xs))) (.tup l) (.ref p) :=
  ⟨p, xs, rfl, by rw [mk_out (o.out hp), upd_same], (Stp.laid hp).reps r⟩
/-- a new list, a new tuple -/
theorem Sat.newLst {l : List D} {xs : List V} {p : Addr} {Q : VK} (h : Sat K Tb β α (.ok (.lst l) st) H Q) (o : Ok K Tb β α st H) (hp : H p = none) (r : Reps K α (Mk (β ++ α) H) l xs) : Q (.ref p) (upd H p (.lst xs)) :=
  h _ _ _ (Stp.laid hp) (o.laid hp) (laid_lst hp o r)
theorem Sat.newTup {l : List D} {xs : List V} {p : Addr} {Q : VK} (h : Sat K Tb β α (.ok (.tup l) st) H Q) (o : Ok K Tb β α st H) (hp : H p = none) (r : Reps K α (Mk (β ++ α) H) l xs) : Q (.ref p) (upd H p (.tup xs)) :=
  h _ _ _ (Stp.laid hp) (o.laid hp) (laid_tup hp o r)
theorem Vw.items {G : Hp} {d : D} {v : V} {l : List D} (h : Vw K α G H d v) (hG : LeG G H) (e : Mp.items d = some l) : ∃ a xs, v = .ref a ∧ (SqL K H a xs ∨ SqT K H a xs) ∧ Reps K α G l xs := by
  cases d with
  | lst m =>
    cases e
    obtain ⟨a, xs, e, h1, h2⟩ := h
    exact ⟨a, xs, e, .inl (.inl (.inl h1)), h2⟩
  | tup m =>
    cases e
    obtain ⟨a, xs, e, h1, h2⟩ := h
    exact ⟨a, xs, e, .inr (hG.sqT (.inl (.inl h1))), h2⟩
  | _ => cases e
theorem Reps.nil_iff {G : Hp} {l : List D} {xs : List V} (h : Reps K α G l xs) : xs = [] ↔ l = [] := by
  have e := h.length
  constructor
  · intro z
    rw [z] at e
    exact List.eq_nil_of_length_eq_zero e.symm
  · intro z
    rw [z] at e
    exact List.eq_nil_of_length_eq_zero e
end

def Bin.op : Bin → Operator
  | .add => .Add
  | .sub => .Sub
  | .mul => .Mult
  | .fdiv => .FloorDiv
  | .mod => .Mod
  | .pow => .Pow
def Cmp.op : Cmp → CmpOp
  | .eq => .Eq
  | .ne => .NotEq
  | .lt => .Lt
  | .le => .LtE
  | .gt => .Gt
  | .ge => .GtE
  | .mem => .In
  | .nmem => .NotIn
  | .is => .Is
  | .isn => .IsNot
section
variable {X : Cx} {Tb : List (Addr × Option Str)}
def rBin (K : PySem.W.Frag) (Tb : List (Addr × Option Str)) (o : Bin) : R2 := fun x y H Q => ∃ β α st a b, Ok K Tb β α st H ∧ Rep K α (Mk (β ++ α) H) a x ∧ Rep K α (Mk (β ++ α) H) b y ∧ Sat K Tb β α (binD o a b st) H Q
theorem op_bin (o : Bin) : OpR X (binaryOp o.op) (rBin X.K Tb o) := by
  intro pins s σ H x y v u Q I rx ry h
  obtain ⟨β, α, st, a, b, ok, ra, rb, h⟩ := h
  obtain ⟨a1, ra1, h1⟩ := sat_deref ok ra h
  obtain ⟨b1, rb1, h2⟩ := sat_deref ok rb h1
  clear h h1 ra rb
  have ra := ra1
  have rb := rb1
  have h := h2
  clear ra1 rb1 h2
  cases a1 <;> cases b1 <;> (try (cases o <;> exact h.elim))
  -- two ints
  · rename_i i j
    obtain rfl : x = .int i := ra
    obtain rfl : y = .int j := rb
    cases o with
    | add => exact op_add pins s σ H _ _ v u Q I rx ry ⟨i, j, rfl, rfl, h.here ok rfl⟩
    | sub => exact op_sub pins s σ H _ _ v u Q I rx ry ⟨i, j, rfl, rfl, h.here ok rfl⟩
    | mul =>
      simp only [binS, binI] at h
      split at h
      · rename_i hm
        refine op_mul pins s σ H _ _ v u Q I rx ry ⟨i, j, rfl, rfl, ?_, h.here ok rfl⟩
        simpa [mulOk, CMul] using hm
      · exact h.elim
    | fdiv =>
      simp only [binS, binI] at h
      split at h
      · rename_i hm
        refine op_fdivN pins s σ H _ _ v u Q I rx ry ⟨i, j, rfl, rfl, ?_, h.here ok rfl⟩
        simp only [Bool.and_eq_true, decide_eq_true_eq] at hm
        exact ⟨by simpa using hm.1, hm.2⟩
      · exact h.elim
    | mod =>
      simp only [binS, binI] at h
      split at h
      · rename_i hm
        exact op_modN pins s σ H _ _ v u Q I rx ry ⟨i, j, rfl, rfl, by simpa using hm, h.here ok rfl⟩
      · exact h.elim
    | pow =>
      simp only [binS, binI] at h
      split at h
      · rename_i hm
        refine op_pow pins s σ H _ _ v u Q I rx ry ⟨i, j, rfl, rfl, ?_, h.here ok rfl⟩
        simp only [Bool.and_eq_true, decide_eq_true_eq] at hm
        exact ⟨hm.1.1, by omega, hm.2⟩
      · exact h.elim
  -- two tuples
  · rename_i l m
    cases o with
    | add =>
      obtain ⟨p, xs, rfl, h1, h2⟩ := ra
      obtain ⟨q, ys, rfl, h3, h4⟩ := rb
      simp only [binS, retTup] at h
      split at h
      · rename_i hl
        have hz := lenOk_le hl
        have hr := h2.append h4
        refine op_catA pins s σ H _ _ v u Q I rx ry ⟨p, q, xs, ys, rfl, rfl, LeG.mk.sqT (.inl (.inl h1)), LeG.mk.sqT (.inl (.inl h3)), ?_, fun e => ?_, fun e e2 => ?_, fun _ _ p hp => h.newTup ok hp hr⟩
        · rw [h2.length, h4.length, ← List.length_append]
          exact hz
        · have : l = [] := h2.nil_iff.mp e
          subst this
          exact h.here ok ⟨q, ys, rfl, h3, h4⟩
        · have : m = [] := h4.nil_iff.mp e2
          subst this
          rw [List.append_nil] at h
          exact h.here ok ⟨p, xs, rfl, h1, h2⟩
      · exact h.elim
    | _ => exact h.elim
  -- a list and an int
  · rename_i l k
    cases o with
    | mul =>
      obtain ⟨p, xs, rfl, h1, h2⟩ := ra
      obtain rfl : y = .int k := rb
      simp only [binS] at h
      split at h
      · rename_i hm
        simp only [Bool.and_eq_true, decide_eq_true_eq] at hm
        have hz : l.length * k.toNat ≤ sizeLine := by rw [← line_eq]; exact Nat.le_of_ble_eq_true hm.2
        refine op_rep pins s σ H _ _ v u Q I rx ry ⟨p, k, xs, rfl, rfl, h1, by omega, hm.1.2, ?_, fun p hp => h.newLst ok hp (h2.flatten _)⟩
        rw [h2.length]
        exact hz
      · exact h.elim
    | _ => exact h.elim
  -- two lists
  · rename_i l m
    cases o with
    | add =>
      obtain ⟨p, xs, rfl, h1, h2⟩ := ra
      obtain ⟨q, ys, rfl, h3, h4⟩ := rb
      simp only [binS, retLst] at h
      split at h
      · rename_i hl
        have hz := lenOk_le hl
        refine op_cat pins s σ H _ _ v u Q I rx ry ⟨p, q, xs, ys, rfl, rfl, h1, h3, ?_, fun p hp => h.newLst ok hp (h2.append h4)⟩
        rw [h2.length, h4.length, ← List.length_append]
        exact hz
      · exact h.elim
    | _ => exact h.elim
end
end Mp
end
section
set_option Elab.async false
set_option linter.all false
set_option maxRecDepth 100000
set_option maxHeartbeats 1000000
/-! Keys of dicts; what a dict holds. -/
namespace Mp
open PySem PySem.Spec L2 PyProof.Rows
section
variable {K : PySem.W.Frag} {α : List Addr} {G H : Hp}
theorem keyD_kV : ∀ {d : D} {x : V} {k : L2.Key}, kyD d = some k → Rep K α G d x → x = kV k
  | .int i, x, k, h, r => by
    cases h
    exact r
  | .str s, x, k, h, r => by
    cases h
    exact r
  | .non, _, _, h, _ => by cases h
  | .bl _, _, _, h, _ => by cases h
  | .tup _, _, _, h, _ => by cases h
  | .lst _, _, _, h, _ => by cases h
  | .scr _, _, _, h, _ => by cases h
  | .cell _, _, _, h, _ => by cases h
  | .dct _ _ _, _, _, h, _ => by cases h
theorem keysL_kV : ∀ {l : List D} {xs : List V} {ks : List L2.Key}, keysL l = some ks → Reps K α G l xs → xs = ks.map kV
  | [], xs, ks, h, r => by
    cases h
    exact r
  | d :: l, xs, ks, h, ⟨x, ys, e, r1, r2⟩ => by
    unfold keysL at h
    split at h
    · rename_i k m h1 h2
      cases h
      rw [e, keyD_kV h1 r1, keysL_kV h2 r2]
      rfl
    · cases h
theorem eq_key : ∀ {a b : D} {k j : L2.Key}, kyD a = some k → kyD b = some j → D.eq a b = decide (k = j) := fun {a b k j} h1 h2 => by
  cases a <;> cases b <;> first
    | (cases h1; done)
    | (cases h2; done)
    | (cases h1; cases h2; simp only [D.eq]; rw [Bool.eq_iff_iff]; simp)
theorem eqs_keys : ∀ {a b : List D} {k j : List L2.Key}, keysL a = some k → keysL b = some j → D.eqs a b = decide (k = j)
  | [], [], k, j, h1, h2 => by
    cases h1
    cases h2
    rfl
  | [], d :: b, k, j, h1, h2 => by
    cases h1
    unfold keysL at h2
    split at h2
    · cases h2
      rfl
    · cases h2
  | d :: a, [], k, j, h1, h2 => by
    cases h2
    unfold keysL at h1
    split at h1
    · cases h1
      rfl
    · cases h1
  | d :: a, e :: b, k, j, h1, h2 => by
    unfold keysL at h1 h2
    split at h1
    · rename_i k1 m1 a1 a2
      split at h2
      · rename_i k2 m2 b1 b2
        cases h1
        cases h2
        simp only [D.eqs]
        rw [eq_key a1 b1, eqs_keys a2 b2, ← Bool.decide_and]
        exact decide_eq_decide.mpr (by rw [List.cons.injEq])
      · cases h2
    · cases h1
theorem isKey_is : ∀ {d : D}, isKey d = true → ∃ k, kyD d = some k
  | .int i, _ => ⟨_, rfl⟩
  | .str s, _ => ⟨_, rfl⟩
  | .non, h => by cases h
  | .bl _, h => by cases h
  | .tup _, h => by cases h
  | .lst _, h => by cases h
  | .scr _, h => by cases h
  | .cell _, h => by cases h
  | .dct _ _ _, h => by cases h
theorem allKey_is : ∀ {l : List D}, l.all isKey = true → ∃ ks, keysL l = some ks
  | [], _ => ⟨_, rfl⟩
  | d :: l, h => by
    rw [List.all_cons, Bool.and_eq_true] at h
    obtain ⟨k, hk⟩ := isKey_is h.1
    obtain ⟨ks, hs⟩ := allKey_is h.2
    refine ⟨k :: ks, ?_⟩
    unfold keysL
    rw [hk, hs]
/-- what the lists hold is what the dict holds -/
theorem get_rel {κ : Type} [DecidableEq κ] {f : D → Option κ} (hf : ∀ a b k j, f a = some k → f b = some j → D.eq a b = decide (k = j)) {x : D} {k : κ} (hx : f x = some k) : ∀ {ks vs : List D} {kvs : List (κ × V)}, ks.map f = kvs.map (fun p => some p.1) → Reps K α G vs (kvs.map Prod.snd) →
    (∃ v d, valV kvs k = some v ∧ dgetL ks vs x = some d ∧ Rep K α G d v) ∨ (valV kvs k = none ∧ dgetL ks vs x = none)
  | [], vs, kvs, e, r => by
    cases kvs with
    | nil => exact .inr ⟨rfl, rfl⟩
    | cons p r => cases e
  | a :: ks, vs, kvs, e, r => by
    cases kvs with
    | nil => cases e
    | cons p kvs =>
      rw [List.map_cons, List.map_cons, List.cons.injEq] at e
      cases vs with
      | nil => cases r
      | cons b vs =>
        obtain ⟨y, ys, e2, r1, r2⟩ := r
        rw [List.map_cons, List.cons.injEq] at e2
        have he := hf a x p.1 k e.1 hx
        unfold dgetL
        rw [he]
        by_cases z : p.1 = k
        · refine .inl ⟨p.2, b, ?_, ?_, ?_⟩
          · unfold valV
            rw [List.find?_cons_of_pos (by simp [z])]
            rfl
          · rw [decide_eq_true z]
            rfl
          · rw [e2.1]
            exact r1
        · have := get_rel hf hx e.2 (by rw [e2.2]; exact r2)
          rw [decide_eq_false z]
          unfold valV
          rw [List.find?_cons_of_neg (by simp [z])]
          exact this
/-- looked up in a dict -/
theorem dho_get {t : Nat} {ks vs : List D} {xs : List V} {p : Addr} {i : D} {x : V} (hd : DHo H p t ks xs) (rv : Reps K α G vs xs) (hk : kOk t i = true) (ri : Rep K α H i x) :
    (∃ v d, DGet H p x (some v) ∧ dgetL ks vs i = some d ∧ Rep K α G d v) ∨ (DGet H p x none ∧ dgetL ks vs i = none) := by
  unfold DHo at hd
  split at hd
  · obtain ⟨kvs, h1, rfl, h3⟩ := hd
    obtain ⟨k, hk⟩ := isKey_is (show isKey i = true from by simpa [kOk] using hk)
    have e := keyD_kV hk ri
    subst e
    rcases get_rel (f := kyD) (fun a b k j => eq_key) hk h3 rv with ⟨v, d, g1, g2, g3⟩ | ⟨g1, g2⟩
    · exact .inl ⟨v, d, by rw [← g1]; exact DGet.k h1, g2, g3⟩
    · exact .inr ⟨by rw [← g1]; exact DGet.k h1, g2⟩
  · obtain ⟨kvs, h1, rfl, h3⟩ := hd
    cases i with
    | tup l =>
      obtain ⟨k, hk⟩ := allKey_is (show l.all isKey = true from by simpa [kOk] using hk)
      obtain ⟨b, zs, rfl, e1, e2⟩ := ri
      have e := keysL_kV hk e2
      subst e
      have hx : keysD (.tup l) = some k := hk
      rcases get_rel (f := keysD) (fun a b k j h1 h2 => by
        cases a <;> cases b <;> first
          | (cases h1; done)
          | (cases h2; done)
          | (simp only [D.eq]; exact eqs_keys h1 h2)) hx h3 rv with ⟨v, d, g1, g2, g3⟩ | ⟨g1, g2⟩
      · exact .inl ⟨v, d, by rw [← g1]; exact DGet.t h1 e1, g2, g3⟩
      · exact .inr ⟨by rw [← g1]; exact DGet.t h1 e1, g2⟩
    | _ => simp [kOk] at hk
  · exact hd.elim
theorem set_rel {κ : Type} [DecidableEq κ] {f : D → Option κ} (hf : ∀ a b k j, f a = some k → f b = some j → D.eq a b = decide (k = j)) {x y : D} {k : κ} {w : V} (hx : f x = some k) (ry : Rep K α G y w) : ∀ {ks vs : List D} {kvs : List (κ × V)}, ks.map f = kvs.map (fun p => some p.1) → Reps K α G vs (kvs.map Prod.snd) →
    (ks.any fun a => D.eq a x) = (kvs.any fun p => decide (p.1 = k)) ∧ Reps K α G (dsetL ks vs x y) ((kvs.map fun p => if p.1 = k then (p.1, w) else p).map Prod.snd) ∧ (kvs.map fun p => if p.1 = k then (p.1, w) else p).map (fun p => p.1) = kvs.map fun p => p.1
  | [], vs, kvs, e, r => by
    cases kvs with
    | nil =>
      cases vs with
      | nil => exact ⟨rfl, rfl, rfl⟩
      | cons b vs =>
        obtain ⟨_, _, e2, _⟩ := r
        cases e2
    | cons p r => cases e
  | a :: ks, vs, kvs, e, r => by
    cases kvs with
    | nil => cases e
    | cons p kvs =>
      rw [List.map_cons, List.map_cons, List.cons.injEq] at e
      cases vs with
      | nil => cases r
      | cons b vs =>
        obtain ⟨z, zs, e2, r1, r2⟩ := r
        rw [List.map_cons, List.cons.injEq] at e2
        have he := hf a x p.1 k e.1 hx
        obtain ⟨i1, i2, i3⟩ := set_rel hf hx ry e.2 (show Reps K α G vs (kvs.map Prod.snd) by rw [e2.2]; exact r2)
        refine ⟨by rw [List.any_cons, List.any_cons, he, i1], ?_, ?_⟩
        · unfold dsetL
          rw [he, List.map_cons, List.map_cons]
          by_cases q : p.1 = k
          · rw [decide_eq_true q, if_pos rfl, if_pos q]
            exact ⟨_, _, rfl, ry, i2⟩
          · rw [decide_eq_false q, if_neg (by simp), if_neg q]
            exact ⟨_, _, rfl, by rw [e2.1]; exact r1, i2⟩
        · rw [List.map_cons, List.map_cons, List.map_cons, i3]
          congr 1
          split <;> rfl
theorem put_rel {κ : Type} [DecidableEq κ] {f : D → Option κ} (hf : ∀ a b k j, f a = some k → f b = some j → D.eq a b = decide (k = j)) {x y : D} {k : κ} {w : V} (hx : f x = some k) (ry : Rep K α G y w) {ks vs : List D} {kvs : List (κ × V)} (e : ks.map f = kvs.map (fun p => some p.1)) (r : Reps K α G vs (kvs.map Prod.snd)) :
    (dputL ks vs x y).1.map f = (putK kvs k w).map (fun p => some p.1) ∧ Reps K α G (dputL ks vs x y).2 ((putK kvs k w).map Prod.snd) := by
  obtain ⟨i1, i2, i3⟩ := set_rel hf hx ry e r
  unfold dputL putK
  rw [i1]
  by_cases q : (kvs.any fun p => decide (p.1 = k)) = true
  · rw [if_pos q, if_pos q]
    refine ⟨?_, i2⟩
    rw [e, List.map_map]
    have := congrArg (List.map some) i3
    rw [List.map_map, List.map_map, List.map_map] at this
    exact this.symm
  · rw [if_neg q, if_neg q]
    refine ⟨by rw [List.map_append, List.map_append, e]; simp [hx], ?_⟩
    rw [List.map_append]
    exact r.append (Reps.one ry)
/-- put into a dict -/
theorem dho_put {t : Nat} {ks vs : List D} {xs : List V} {p : Addr} {i y : D} {x w : V} (hd : DHo H p t ks xs) (rv : Reps K α G vs xs) (hk : kOk t i = true) (ri : Rep K α H i x) (ry : Rep K α G y w) (hl : ks.length < sizeLine) :
    ∃ (o : HO) (xs' : List V), DPut H p x w (upd H p o) ∧ NoTbl o ∧ (∀ G' : Hp, G' p = some o → DHo G' p t (dputL ks vs i y).1 xs') ∧ Reps K α G (dputL ks vs i y).2 xs' := by
  unfold DHo at hd
  split at hd
  · obtain ⟨kvs, h1, rfl, h3⟩ := hd
    obtain ⟨k, hk⟩ := isKey_is (show isKey i = true from by simpa [kOk] using hk)
    have e := keyD_kV hk ri
    subst e
    obtain ⟨p1, p2⟩ := put_rel (f := kyD) (fun a b k j => eq_key) hk ry h3 rv
    have hlen : kvs.length = ks.length := by have := congrArg List.length h3; simpa using this.symm
    exact ⟨.dK (putK kvs k w), _, DPut.k h1 (by omega), noT_dK, fun G' hG => ⟨_, hG, rfl, p1⟩, p2⟩
  · obtain ⟨kvs, h1, rfl, h3⟩ := hd
    cases i with
    | tup l =>
      obtain ⟨k, hk⟩ := allKey_is (show l.all isKey = true from by simpa [kOk] using hk)
      obtain ⟨b, zs, rfl, e1, e2⟩ := ri
      have e := keysL_kV hk e2
      subst e
      have hx : keysD (.tup l) = some k := hk
      obtain ⟨p1, p2⟩ := put_rel (f := keysD) (fun a b k j h1 h2 => by
        cases a <;> cases b <;> first
          | (cases h1; done)
          | (cases h2; done)
          | (simp only [D.eq]; exact eqs_keys h1 h2)) hx ry h3 rv
      have hlen : kvs.length = ks.length := by have := congrArg List.length h3; simpa using this.symm
      exact ⟨.dT (putK kvs k w), _, DPut.t h1 e1 (by omega), noT_dT, fun G' hG => ⟨_, hG, rfl, p1⟩, p2⟩
    | _ => simp [kOk] at hk
  · exact hd.elim
end
end Mp
end
section
set_option Elab.async false
set_option linter.all false
set_option maxRecDepth 100000
/-! Comparisons, calls of built-ins on values. -/
namespace Mp
open PySem PySem.Spec L2 PyProof.Rows
mutual
theorem D.alike_py : ∀ a b : D, D.alike a b = true → PySem.W.alike (D.py a) (D.py b) = true
  | a, b, h => by
    cases a <;> cases b <;> first
      | (simp only [D.alike] at h; cases h; done)
      | (simp only [D.py, PySem.W.alike]; done)
      | (simp only [D.py, PySem.W.alike]
         simp only [D.alike] at h
         exact D.alikes_py _ _ h)
theorem D.alikes_py : ∀ l m : List D, D.alikes l m = true → PySem.W.alikeAll (D.pys l) (D.pys m) = true
  | [], m, _ => by simp only [D.pys, PySem.W.alikeAll]
  | _ :: _, [], _ => by simp only [D.pys, PySem.W.alikeAll]
  | a :: r, b :: s, h => by
    simp only [D.alikes, Bool.and_eq_true] at h
    simp only [D.pys, PySem.W.alikeAll, Bool.and_eq_true]
    exact ⟨D.alike_py a b h.1, D.alikes_py r s h.2⟩
end
mutual
theorem D.eq_alike : ∀ a b : D, D.alike a b = true → D.eq a b = PyData.eqv (D.py a) (D.py b)
  | a, b, h => by
    cases a <;> cases b <;> first
      | (simp only [D.alike] at h; cases h; done)
      | (simp only [D.eq, D.py, PyData.eqv]; done)
      | (simp only [D.eq, D.py, PyData.eqv]
         simp only [D.alike] at h
         exact D.eqs_alike _ _ h)
theorem D.eqs_alike : ∀ l m : List D, D.alikes l m = true → D.eqs l m = PyData.eqvAll (D.pys l) (D.pys m)
  | [], [], _ => by simp only [D.eqs, D.pys, PyData.eqvAll]
  | [], _ :: _, _ => by simp only [D.eqs, D.pys, PyData.eqvAll]
  | _ :: _, [], _ => by simp only [D.eqs, D.pys, PyData.eqvAll]
  | a :: r, b :: s, h => by
    simp only [D.alikes, Bool.and_eq_true] at h
    simp only [D.eqs, D.pys, PyData.eqvAll]
    rw [D.eq_alike a b h.1, D.eqs_alike r s h.2]
end
mutual
theorem D.lt_py : ∀ a b : D, D.alike a b = true → D.lt a b = PySem.W.dataLt (D.py a) (D.py b)
  | a, b, h => by
    cases a <;> cases b <;> first
      | (simp only [D.alike] at h; cases h; done)
      | (simp only [D.lt, D.py, PySem.W.dataLt_int]; done)
      | (simp only [D.lt, D.py, PySem.W.dataLt_str]; done)
      | (simp only [D.lt, D.py, PySem.W.dataLt_tuple]
         simp only [D.alike] at h
         exact D.lts_py _ _ h)
      | (simp only [D.lt, D.py, PySem.W.dataLt_list]
         simp only [D.alike] at h
         exact D.lts_py _ _ h)
theorem D.lts_py : ∀ l m : List D, D.alikes l m = true → D.lts l m = PyProof.Rows.lexLt PyProof.Rows.itemOrd (PySem.W.keyToksAll (D.pys l)) (PySem.W.keyToksAll (D.pys m))
  | [], [], _ => by simp [D.lts, D.pys, PySem.W.keyToksAll, PyProof.Rows.lex_irrefl]
  | [], b :: s, _ => by
    have e := PySem.W.firstLt_toks [] (D.pys (b :: s)) (by simp only [D.pys, PySem.W.alikeAll])
    simp only [D.lts, D.pys] at e ⊢
    rw [← e]
    simp [SeqAt.firstLt]
  | a :: r, [], _ => by
    have e := PySem.W.firstLt_toks (D.pys (a :: r)) [] (by simp only [D.pys, PySem.W.alikeAll])
    simp only [D.lts, D.pys] at e ⊢
    rw [← e]
    simp [SeqAt.firstLt]
  | a :: r, b :: s, h => by
    simp only [D.alikes, Bool.and_eq_true] at h
    simp only [D.lts, D.pys]
    rw [D.eq_alike a b h.1]
    cases q : PyData.eqv (D.py a) (D.py b) with
    | true =>
      rw [if_pos rfl, PySem.W.dataLt_all_yes (D.alike_py a b h.1) q]
      exact D.lts_py r s h.2
    | false =>
      rw [if_neg (by simp), PySem.W.dataLt_all_no (D.alike_py a b h.1) q]
      exact D.lt_py a b h.1
end
section
variable {X : Cx} {Tb : List (Addr × Option Str)}
theorem D.ok_lay {d : D} (h : d.ok = true) : (D.py d).canLay0 = true ∧ (D.py d).depth ≤ 60 := D.shp_lay 60 d h
def rCmp (K : PySem.W.Frag) (Tb : List (Addr × Option Str)) (o : Cmp) : R2 := fun x y H Q => ∃ β α st a b, Ok K Tb β α st H ∧ Rep K α (Mk (β ++ α) H) a x ∧ Rep K α (Mk (β ++ α) H) b y ∧ Sat K Tb β α (cmpD o a b st) H Q
theorem any_py (a : D) (ha : a.ok = true) : ∀ l : List D, D.shps 60 l = true → ((D.pys l).any fun z => PyData.eqv z (D.py a)) = l.any fun z => D.eq z a
  | [], _ => by simp [D.pys]
  | d :: r, h => by
    simp only [D.shps, Bool.and_eq_true] at h
    simp only [D.pys, List.any_cons]
    rw [any_py a ha r h.2, D.eq_py 60 d a h.1 ha]
mutual
theorem shp_more : ∀ (n : Nat) (d : D), D.shp n d = true → D.shp (n + 1) d = true
  | _, .non, _ => by simp [D.shp]
  | _, .bl _, _ => by simp [D.shp]
  | _, .int _, _ => by simp [D.shp]
  | _, .str _, h => by simpa [D.shp] using h
  | 0, .tup l, h => by simp [D.shp] at h
  | n + 1, .tup l, h => by
    simp only [D.shp] at h ⊢
    exact shps_more n l h
  | 0, .lst l, h => by simp [D.shp] at h
  | n + 1, .lst l, h => by
    simp only [D.shp] at h ⊢
    exact shps_more n l h
  | _, .scr _, h => by simp [D.shp] at h
  | _, .cell _, h => by simp [D.shp] at h
theorem shps_more : ∀ (n : Nat) (l : List D), D.shps n l = true → D.shps (n + 1) l = true
  | _, [], _ => by simp [D.shps]
  | n, d :: r, h => by
    simp only [D.shps, Bool.and_eq_true] at h ⊢
    exact ⟨shp_more n d h.1, shps_more n r h.2⟩
end
theorem op_cmp (hu : X.A.units + 65 < cLine) (o : Cmp) : OpR X (compareOp o.op) (rCmp X.K Tb o) := by
  intro pins s σ H x y v u Q I rx ry h
  obtain ⟨β, α, st, a0, b0, ok, ra0, rb0, h⟩ := h
  obtain ⟨a, ra, h1⟩ := sat_deref ok ra0 h
  obtain ⟨b, rb, h2⟩ := sat_deref ok rb0 h1
  clear h h1 ra0 rb0
  have h := h2
  clear h2
  have da : a.ok = true → Dp X.K H x (D.py a) := fun e => Rep.dp (LeG.refl H) 60 a x e (ra.rep LeG.mk)
  have db : b.ok = true → Dp X.K H y (D.py b) := fun e => Rep.dp (LeG.refl H) 60 b y e (rb.rep LeG.mk)
  cases o with
  | eq =>
    simp only [cmpS] at h
    split at h
    · rename_i hm
      rw [Bool.and_eq_true] at hm
      refine op_eqD (by omega) pins s σ H _ _ v u Q I rx ry ⟨_, _, da hm.1, db hm.2, D.ok_shaped hm.1, D.ok_shaped hm.2, ?_⟩
      rw [← D.eq_py 60 a b hm.1 hm.2]
      exact h.here ok rfl
    · exact h.elim
  | ne =>
    simp only [cmpS] at h
    split at h
    · rename_i hm
      rw [Bool.and_eq_true] at hm
      refine op_neD (by omega) pins s σ H _ _ v u Q I rx ry ⟨_, _, da hm.1, db hm.2, D.ok_shaped hm.1, D.ok_shaped hm.2, ?_⟩
      rw [← D.eq_py 60 a b hm.1 hm.2]
      exact h.here ok rfl
    · exact h.elim
  | mem =>
    cases b with
    | lst l =>
      simp only [cmpS] at h
      split at h
      · rename_i hm
        rw [Bool.and_eq_true] at hm
        have hd := db hm.2
        rw [D.py] at hd
        refine op_inD hu pins s σ H _ _ v u Q I rx ry ⟨_, _, da hm.1, hd, D.ok_shaped hm.1, by have := D.ok_shaped hm.2; rwa [D.py] at this, ?_⟩
        have hs : D.shps 59 l = true := by simpa [D.ok, D.shp] using hm.2
        rw [any_py a hm.1 l (shps_more 59 l hs)]
        exact h.here ok rfl
      · exact h.elim
    | tup l =>
      simp only [cmpS] at h
      split at h
      · rename_i hm
        rw [Bool.and_eq_true] at hm
        have hd := db hm.2
        rw [D.py] at hd
        obtain ⟨as, r1⟩ := Dp.reads I _ x v (da hm.1) rx
        obtain ⟨bs, r2⟩ := Dp.reads I _ y u hd ry
        have hs : D.shps 59 l = true := by simpa [D.ok, D.shp] using hm.2
        have k1 := D.ok_lay hm.1
        refine SeqAt.in_tuple_reads r2 r1 (D.shps_lay 59 l hs).1 k1.1 (by have := k1.2; omega) ⟨.bl _, H, I, rfl, ?_⟩
        rw [any_py a hm.1 l (shps_more 59 l hs)]
        exact h.here ok rfl
      · exact h.elim
    | dct t ks vs =>
      simp only [cmpS, hasS] at h
      split at h
      · rename_i hk
        obtain ⟨p, xs, rfl, hd, rv⟩ := rb
        rcases dho_get hd rv hk (ra.rep LeG.mk) with ⟨v', d, g1, g2, _⟩ | ⟨g1, g2⟩
        · rw [g2] at h
          cases ry
          exact d_in (by omega) I g1 rx fun s' I' => ⟨.bl true, H, I', rfl, h.here ok rfl⟩
        · rw [g2] at h
          cases ry
          exact d_in (by omega) I g1 rx fun s' I' => ⟨.bl false, H, I', rfl, h.here ok rfl⟩
      · exact h.elim
    | _ => exact h.elim
  | nmem =>
    cases b with
    | lst l =>
      simp only [cmpS] at h
      split at h
      · rename_i hm
        rw [Bool.and_eq_true] at hm
        have hd := db hm.2
        rw [D.py] at hd
        refine op_notInD hu pins s σ H _ _ v u Q I rx ry ⟨_, _, da hm.1, hd, D.ok_shaped hm.1, by have := D.ok_shaped hm.2; rwa [D.py] at this, ?_⟩
        have hs : D.shps 59 l = true := by simpa [D.ok, D.shp] using hm.2
        rw [any_py a hm.1 l (shps_more 59 l hs)]
        exact h.here ok rfl
      · exact h.elim
    | tup l =>
      simp only [cmpS] at h
      split at h
      · rename_i hm
        rw [Bool.and_eq_true] at hm
        have hd := db hm.2
        rw [D.py] at hd
        obtain ⟨as, r1⟩ := Dp.reads I _ x v (da hm.1) rx
        obtain ⟨bs, r2⟩ := Dp.reads I _ y u hd ry
        have hs : D.shps 59 l = true := by simpa [D.ok, D.shp] using hm.2
        have k1 := D.ok_lay hm.1
        refine SeqAt.notIn_tuple_reads r2 r1 (D.shps_lay 59 l hs).1 k1.1 (by have := k1.2; omega) ⟨.bl _, H, I, rfl, ?_⟩
        rw [any_py a hm.1 l (shps_more 59 l hs)]
        exact h.here ok rfl
      · exact h.elim
    | dct t ks vs =>
      simp only [cmpS, hasS] at h
      split at h
      · rename_i hk
        obtain ⟨p, xs, rfl, hd, rv⟩ := rb
        rcases dho_get hd rv hk (ra.rep LeG.mk) with ⟨v', d, g1, g2, _⟩ | ⟨g1, g2⟩
        · rw [g2] at h
          cases ry
          exact d_notIn (by omega) I g1 rx fun s' I' => ⟨.bl false, H, I', rfl, h.here ok rfl⟩
        · rw [g2] at h
          cases ry
          exact d_notIn (by omega) I g1 rx fun s' I' => ⟨.bl true, H, I', rfl, h.here ok rfl⟩
      · exact h.elim
    | _ => exact h.elim
  | lt =>
    cases a <;> cases b <;> (try exact h.elim)
    · obtain rfl : x = .int _ := ra
      obtain rfl : y = .int _ := rb
      exact op_lt pins s σ H _ _ v u Q I rx ry ⟨_, _, rfl, rfl, h.here ok rfl⟩
    · rename_i l m
      simp only [cmpS] at h
      split at h
      · rename_i hm
        simp only [Bool.and_eq_true] at hm
        obtain ⟨as, r1⟩ := Dp.reads I _ x v (da hm.1.1) rx
        obtain ⟨bs, r2⟩ := Dp.reads I _ y u (db hm.1.2) ry
        have hal : D.alike (.tup l) (.tup m) = true := by simp only [D.alike]; exact hm.2
        have k1 := D.ok_lay hm.1.1
        have hlt := PySem.W.rcLt_alike _ _ X.A s v u as bs r1 r2 (D.alike_py _ _ hal) (by rw [D.py]; intro z; cases z) (by have := k1.2; omega)
        refine hlt X.prog X.w X.xe _ ⟨.bl _, H, I, rfl, ?_⟩
        rw [← D.lt_py _ _ hal]
        simp only [D.lt]
        exact h.here ok rfl
      · exact h.elim
  | le =>
    cases a <;> cases b <;> (try exact h.elim)
    obtain rfl : x = .int _ := ra
    obtain rfl : y = .int _ := rb
    exact op_le pins s σ H _ _ v u Q I rx ry ⟨_, _, rfl, rfl, h.here ok rfl⟩
  | gt =>
    cases a <;> cases b <;> (try exact h.elim)
    obtain rfl : x = .int _ := ra
    obtain rfl : y = .int _ := rb
    exact op_gt pins s σ H _ _ v u Q I rx ry ⟨_, _, rfl, rfl, h.here ok rfl⟩
  | ge =>
    cases a <;> cases b <;> (try exact h.elim)
    obtain rfl : x = .int _ := ra
    obtain rfl : y = .int _ := rb
    exact op_ge pins s σ H _ _ v u Q I rx ry ⟨_, _, rfl, rfl, h.here ok rfl⟩
  | is =>
    cases b with
    | non =>
      obtain rfl : y = .non := rb
      refine op_isN pins s σ H _ _ v u Q I rx ry ⟨rfl, ?_⟩
      have e : isNon a = decide (x = .non) := by
        cases a with
        | non => obtain rfl : x = .non := ra; rfl
        | cell k => exact ra.elim
        | lst l => obtain ⟨p, xs, rfl, _⟩ := ra; rfl
        | dct _ _ _ => obtain ⟨p, xs, rfl, _⟩ := ra; rfl
        | tup l => obtain ⟨p, xs, rfl, _⟩ := ra; rfl
        | scr l => obtain ⟨p, rfl, _⟩ := ra; rfl
        | bl _ => obtain rfl : x = .bl _ := ra; rfl
        | int _ => obtain rfl : x = .int _ := ra; rfl
        | str _ => obtain rfl : x = .str _ := ra; rfl
      rw [← e]
      exact h.here ok rfl
    | _ => exact h.elim
  | isn =>
    cases b with
    | non =>
      obtain rfl : y = .non := rb
      refine op_notN pins s σ H _ _ v u Q I rx ry ⟨rfl, ?_⟩
      have e : isNon a = decide (x = .non) := by
        cases a with
        | non => obtain rfl : x = .non := ra; rfl
        | cell k => exact ra.elim
        | lst l => obtain ⟨p, xs, rfl, _⟩ := ra; rfl
        | dct _ _ _ => obtain ⟨p, xs, rfl, _⟩ := ra; rfl
        | tup l => obtain ⟨p, xs, rfl, _⟩ := ra; rfl
        | scr l => obtain ⟨p, rfl, _⟩ := ra; rfl
        | bl _ => obtain rfl : x = .bl _ := ra; rfl
        | int _ => obtain rfl : x = .int _ := ra; rfl
        | str _ => obtain rfl : x = .str _ := ra; rfl
      rw [← e]
      exact h.here ok rfl
    | _ => exact h.elim
end
end Mp
end
section
set_option Elab.async false
set_option linter.all false
set_option maxRecDepth 100000
/-! Sorting. -/
namespace Mp
open PySem PySem.Spec L2 PyProof.Rows
section
variable {α : Type} {le : α → α → Bool}
theorem mem_ins {x y : α} : ∀ {l : List α}, y ∈ ins le x l ↔ y = x ∨ y ∈ l
  | [] => by simp [ins]
  | z :: r => by
    unfold ins
    split
    · simp
    · rw [List.mem_cons, mem_ins (l := r), List.mem_cons]
      constructor
      · rintro (h | h | h) <;> simp [h]
      · rintro (h | h | h) <;> simp [h]
theorem mem_isort {y : α} : ∀ {l : List α}, y ∈ isort le l ↔ y ∈ l
  | [] => by simp [isort]
  | x :: r => by rw [isort, mem_ins, mem_isort (l := r), List.mem_cons]
theorem length_ins {x : α} : ∀ l : List α, (ins le x l).length = l.length + 1
  | [] => rfl
  | y :: r => by
    unfold ins
    split
    · rfl
    · rw [List.length_cons, length_ins r, List.length_cons]
theorem length_isort : ∀ l : List α, (isort le l).length = l.length
  | [] => rfl
  | x :: r => by rw [isort, length_ins, length_isort r, List.length_cons]
theorem perm_ins {x : α} : ∀ l : List α, (ins le x l).Perm (x :: l)
  | [] => List.Perm.refl _
  | y :: r => by
    unfold ins
    split
    · exact List.Perm.refl _
    · exact ((perm_ins r).cons y).trans (List.Perm.swap x y r)
theorem perm_isort : ∀ l : List α, (isort le l).Perm l
  | [] => List.Perm.refl _
  | x :: r => (perm_ins _).trans ((perm_isort r).cons x)
theorem ins_congr {le' : α → α → Bool} {x : α} : ∀ {l : List α}, (∀ y ∈ l, le x y = le' x y) → ins le x l = ins le' x l
  | [], _ => rfl
  | y :: r, h => by
    unfold ins
    rw [h y List.mem_cons_self, ins_congr fun z hz => h z (List.mem_cons_of_mem _ hz)]
theorem isort_congr {le' : α → α → Bool} : ∀ {l : List α}, (∀ x ∈ l, ∀ y ∈ l, le x y = le' x y) → isort le l = isort le' l
  | [], _ => rfl
  | x :: r, h => by
    rw [isort, isort, isort_congr fun y hy z hz => h y (List.mem_cons_of_mem _ hy) z (List.mem_cons_of_mem _ hz)]
    exact ins_congr fun y hy => h x List.mem_cons_self y (List.mem_cons_of_mem _ (mem_isort.mp hy))
theorem sorted_ins (T : PySem.W.TotalLe le) {x : α} : ∀ {l : List α}, l.Pairwise (fun a b => le a b = true) → (ins le x l).Pairwise (fun a b => le a b = true)
  | [], _ => List.pairwise_singleton _ _
  | y :: r, h => by
    obtain ⟨h1, h2⟩ := List.pairwise_cons.mp h
    unfold ins
    split
    · rename_i hx
      refine List.pairwise_cons.mpr ⟨fun z hz => ?_, h⟩
      rcases List.mem_cons.mp hz with rfl | hz
      · exact hx
      · exact T.trans _ _ _ hx (h1 z hz)
    · rename_i hx
      refine List.pairwise_cons.mpr ⟨fun z hz => ?_, sorted_ins T h2⟩
      rcases mem_ins.mp hz with rfl | hz
      · exact (T.total _ _).resolve_left hx
      · exact h1 z hz
theorem sorted_isort (T : PySem.W.TotalLe le) : ∀ l : List α, (isort le l).Pairwise (fun a b => le a b = true)
  | [] => List.Pairwise.nil
  | x :: r => sorted_ins T (sorted_isort T r)
theorem filter_ins (T : PySem.W.TotalLe le) (c : α) {x : α} : ∀ {l : List α}, l.Pairwise (fun a b => le a b = true) → (ins le x l).filter (PySem.W.sameRank le c) = (x :: l).filter (PySem.W.sameRank le c)
  | [], _ => rfl
  | y :: r, h => by
    obtain ⟨h1, h2⟩ := List.pairwise_cons.mp h
    unfold ins
    split
    · rfl
    · rename_i hx
      rw [List.filter_cons, filter_ins T c h2, List.filter_cons (x := x) (xs := r), List.filter_cons (x := x) (xs := y :: r), List.filter_cons (x := y) (xs := r)]
      by_cases a : PySem.W.sameRank le c x = true
      · by_cases b : PySem.W.sameRank le c y = true
        · exfalso
          unfold PySem.W.sameRank at a b
          rw [Bool.and_eq_true] at a b
          exact hx (T.trans _ _ _ a.2 b.1)
        · rw [if_neg b, if_pos a, if_neg b, if_pos a]
      · rw [if_neg a, if_neg a]
theorem filter_isort (T : PySem.W.TotalLe le) (c : α) : ∀ l : List α, (isort le l).filter (PySem.W.sameRank le c) = l.filter (PySem.W.sameRank le c)
  | [] => rfl
  | x :: r => by
    rw [isort, filter_ins T c (sorted_isort T r), List.filter_cons, filter_isort T c r, List.filter_cons]
theorem isort_merge (T : PySem.W.TotalLe le) (l : List α) : isort le l = l.mergeSort le :=
  PySem.W.sort_unique T (sorted_isort T l) fun c => filter_isort T c l
end
theorem leD_py {a b : D} (h : D.alike b a = true) : leD a b = PySem.W.dataLe false D.py a b := by
  unfold leD
  rw [D.lt_py b a h, PySem.W.dataLe_eq]
  rfl
theorem total_py {β : Type} (k : β → PyData) : PySem.W.TotalLe (PySem.W.dataLe false k) := PySem.W.sortLe_total _ _ _
theorem isort_py {l : List D} (h : ∀ a ∈ l, ∀ b ∈ l, D.alike a b = true) : l.mergeSort (PySem.W.dataLe false D.py) = isort leD l := by
  rw [← isort_merge (total_py D.py)]
  exact (isort_congr fun a ha b hb => leD_py (h b hb a ha)).symm
end Mp
end
section
set_option Elab.async false
set_option linter.all false
set_option maxRecDepth 100000
/-! Subscripts, slices, built-ins. -/
namespace Mp
open PySem PySem.Spec L2 PyProof.Rows
section
variable {X : Cx} {Tb : List (Addr × Option Str)}
theorem sat_opt {K : PySem.W.Frag} {β α : List Addr} {st : St} {H : Hp} {o : Option D} {Q : VK} (h : Sat K Tb β α (opt o st) H Q) : ∃ d, o = some d ∧ Sat K Tb β α (.ok d st) H Q := by
  cases o with
  | none => exact h.elim
  | some d => exact ⟨d, rfl, h⟩
theorem atI_get {α : Type} {l : List α} {i : Int} {d : α} (h : atI l i = some d) : ∃ j, ixN l.length i = some j ∧ l[j]? = some d := by
  unfold atI at h
  cases q : ixN l.length i with
  | none => rw [q] at h; cases h
  | some j =>
    rw [q] at h
    exact ⟨j, rfl, h⟩
theorem atI_of {α : Type} {l : List α} {i : Int} {j n : Nat} {d : α} (h : ixN n i = some j) (hn : n = l.length) (e : l[j]? = some d) : atI l i = some d := by
  unfold atI
  rw [← hn, h]
  exact e
def rIdx (K : PySem.W.Frag) (Tb : List (Addr × Option Str)) : R2 := fun x y H Q => ∃ β α st a b, Ok K Tb β α st H ∧ Rep K α (Mk (β ++ α) H) a x ∧ Rep K α (Mk (β ++ α) H) b y ∧ Sat K Tb β α (idxD a b st) H Q
theorem ix_any (hu : X.A.units + 65 < cLine) : IxR X (rIdx X.K Tb) := by
  intro value slice pins s σ H x y v u Q I rx ry h hs
  obtain ⟨β, α, st, a0, b, ok, ra0, rb, h0⟩ := h
  obtain ⟨a, ra, h⟩ := sat_deref ok ra0 h0
  clear ra0 h0
  have go : rIx X.K x y H Q → _ := fun q => ix_seq value slice pins s σ H x y v u Q I rx ry q hs
  by_cases hd : ∃ t ks vs, a = .dct t ks vs
  · obtain ⟨t, ks, vs, rfl⟩ := hd
    obtain ⟨p, xs, rfl, h1, h2⟩ := ra
    simp only [idxS, dgetS] at h
    split at h
    · rename_i hk
      rcases dho_get h1 h2 hk (Rep.mono List.prefix_rfl LeG.mk _ _ rb) with ⟨v', d, g1, g2, g3⟩ | ⟨_, g2⟩
      · rw [g2] at h
        cases rx
        exact tail_any (dict_typeIs I g1) PySem.F.slot_dict_getitem.lookup (d_getItem (by omega) I g1 ry fun w' s' I' rw' => ⟨v', H, I', rw', h.here ok g3⟩) hs
      · rw [g2] at h
        exact h.elim
    · exact h.elim
  cases a <;> cases b <;> (try exact h.elim) <;> (try exact absurd ⟨_, _, _, rfl⟩ hd)
  · rename_i l i
    obtain ⟨p, xs, rfl, h1, h2⟩ := ra
    obtain rfl : y = .int i := rb
    obtain ⟨d, hd, h3⟩ := sat_opt h
    obtain ⟨j, e1, e2⟩ := atI_get hd
    obtain ⟨z, e3, r3⟩ := h2.get e2
    exact go (.inr (.inl ⟨p, xs, i, z, rfl, rfl, LeG.mk.sqT (.inl (.inl h1)), atI_of e1 h2.length.symm e3, h3.here ok r3⟩))
  · rename_i l i
    obtain ⟨p, xs, rfl, h1, h2⟩ := ra
    obtain rfl : y = .int i := rb
    obtain ⟨d, hd, h3⟩ := sat_opt h
    obtain ⟨j, e1, e2⟩ := atI_get hd
    obtain ⟨z, e3, r3⟩ := h2.get e2
    exact go (.inl ⟨p, xs, i, z, rfl, rfl, .inl (.inl h1), atI_of e1 h2.length.symm e3, h3.here ok r3⟩)
  · rename_i l i
    obtain ⟨p, rfl, h1⟩ := ra
    obtain rfl : y = .int i := rb
    obtain ⟨d, hd, h3⟩ := sat_opt h
    obtain ⟨k, e0, rfl⟩ := Option.map_eq_some_iff.mp hd
    obtain ⟨j, e1, e2⟩ := atI_get e0
    exact go (.inl ⟨p, _, i, .int k, rfl, rfl, LeG.mk.sqL h1, atI_of e1 (List.length_map ..).symm (by rw [List.getElem?_map, e2]; rfl), h3.here ok rfl⟩)
def rSl (K : PySem.W.Frag) (Tb : List (Addr × Option Str)) : V → Option Int → Option Int → Hp → VK → Prop := fun x lo hi H Q => ∃ β α st a, Ok K Tb β α st H ∧ Rep K α (Mk (β ++ α) H) a x ∧ Sat K Tb β α (sliceD a (some lo) (some hi) st) H Q
theorem cut_reps {K : PySem.W.Frag} {α : List Addr} {G : Hp} {l : List D} {xs : List V} {lo hi : Option Int} (h : Reps K α G l xs) : Reps K α G (cut l lo hi) (cutV xs lo hi) := by
  unfold cut cutV
  rw [h.length]
  exact (h.drop _).take _
theorem sl_any : SlR X (rSl X.K Tb) := by
  intro pins s σ H x v vl vu lo hi sl Q I rx hs pl pu h
  obtain ⟨β, α, st, a0, ok, ra0, h0⟩ := h
  obtain ⟨a, ra, h⟩ := sat_deref ok ra0 h0
  clear ra0 h0
  cases a <;> (try (simp only [sliceS] at h; exact h.elim))
  · rename_i l
    simp only [sliceS] at h
    obtain ⟨p, xs, rfl, h1, h2⟩ := ra
    refine sl_tupA pins s σ H _ v vl vu lo hi sl Q I rx hs pl pu ⟨p, xs, rfl, LeG.mk.sqT (.inl (.inl h1)), fun hw => ?_, fun _ q hq => h.newTup ok hq (cut_reps h2)⟩
    have e : cut l lo hi = l := by
      unfold cut
      rw [h2.length] at hw
      rw [hw.1, hw.2, List.drop_zero, Nat.sub_zero, List.take_length]
    rw [e] at h
    exact h.here ok ⟨p, xs, rfl, h1, h2⟩
  · rename_i l
    simp only [sliceS] at h
    obtain ⟨p, xs, rfl, h1, h2⟩ := ra
    exact sl_list pins s σ H _ v vl vu lo hi sl Q I rx hs pl pu ⟨p, xs, rfl, .inl (.inl h1), fun q hq => h.newLst ok hq (cut_reps h2)⟩
/-- a built-in on values -/
def rPrim (K : PySem.W.Frag) (Tb : List (Addr × Option Str)) (p : Prim) : List V → Hp → VK → Prop := fun xs H Q => ∃ β α st l, Ok K Tb β α st H ∧ Reps K α (Mk (β ++ α) H) l xs ∧ Sat K Tb β α (primD p l st) H Q
theorem intsOf_reps {K : PySem.W.Frag} {α : List Addr} {G : Hp} : ∀ {l : List D} {ns : List Int} {xs : List V}, intsOf l = some ns → Reps K α G l xs → xs = ns.map V.int
  | [], _, _, e, h => by
    cases e
    cases h
    rfl
  | d :: r, ns, _, e, ⟨x, ys, e2, h1, h2⟩ => by
    cases d with
    | int i =>
      simp only [intsOf] at e
      obtain ⟨ms, e3, rfl⟩ := Option.map_eq_some_iff.mp e
      rw [e2, intsOf_reps e3 h2]
      obtain rfl : x = .int i := h1
      rfl
    | _ => simp [intsOf] at e
theorem least_is {l : List Int} {m : Int} (h : leastI l = some m) : 0 < l.length ∧ m ∈ l ∧ ∀ y ∈ l, m ≤ y := by
  have key : ∀ (r : List Int) (a : Int), (r.foldl min a = a ∨ r.foldl min a ∈ r) ∧ r.foldl min a ≤ a ∧ ∀ y ∈ r, r.foldl min a ≤ y := by
    intro r
    induction r with
    | nil => intro a; simp
    | cons b r ih =>
      intro a
      obtain ⟨h1, h2, h3⟩ := ih (min a b)
      rw [List.foldl_cons]
      refine ⟨?_, by omega, fun y hy => ?_⟩
      · rcases h1 with h1 | h1
        · rw [h1]
          rcases Int.le_total a b with h | h
          · rw [Int.min_eq_left h]; exact .inl rfl
          · rw [Int.min_eq_right h]; exact .inr List.mem_cons_self
        · exact .inr (List.mem_cons_of_mem _ h1)
      · rcases List.mem_cons.mp hy with rfl | hy
        · omega
        · exact h3 y hy
  cases l with
  | nil => cases h
  | cons a r =>
    cases h
    obtain ⟨h1, h2, h3⟩ := key r a
    refine ⟨Nat.succ_pos _, ?_, fun y hy => ?_⟩
    · rcases h1 with h1 | h1
      · rw [h1]; exact List.mem_cons_self
      · exact List.mem_cons_of_mem _ h1
    · rcases List.mem_cons.mp hy with rfl | hy
      · exact h2
      · exact h3 y hy
theorem most_is {l : List Int} {m : Int} (h : mostI l = some m) : 0 < l.length ∧ m ∈ l ∧ ∀ y ∈ l, y ≤ m := by
  have key : ∀ (r : List Int) (a : Int), (r.foldl max a = a ∨ r.foldl max a ∈ r) ∧ a ≤ r.foldl max a ∧ ∀ y ∈ r, y ≤ r.foldl max a := by
    intro r
    induction r with
    | nil => intro a; simp
    | cons b r ih =>
      intro a
      obtain ⟨h1, h2, h3⟩ := ih (max a b)
      rw [List.foldl_cons]
      refine ⟨?_, by omega, fun y hy => ?_⟩
      · rcases h1 with h1 | h1
        · rw [h1]
          rcases Int.le_total b a with h | h
          · rw [Int.max_eq_left h]; exact .inl rfl
          · rw [Int.max_eq_right h]; exact .inr List.mem_cons_self
        · exact .inr (List.mem_cons_of_mem _ h1)
      · rcases List.mem_cons.mp hy with rfl | hy
        · omega
        · exact h3 y hy
  cases l with
  | nil => cases h
  | cons a r =>
    cases h
    obtain ⟨h1, h2, h3⟩ := key r a
    refine ⟨Nat.succ_pos _, ?_, fun y hy => ?_⟩
    · rcases h1 with h1 | h1
      · rw [h1]; exact List.mem_cons_self
      · exact List.mem_cons_of_mem _ h1
    · rcases List.mem_cons.mp hy with rfl | hy
      · exact h2
      · exact h3 y hy
end
end Mp
namespace Mp
open PySem PySem.Spec L2 PyProof.Rows
section
variable {X : Cx} {Tb : List (Addr × Option Str)}
def Prim.val : Prim → Value
  | .len => .builtin "len"
  | .tuple => .type "tuple"
  | .list => .type "list"
  | .sorted => .builtin "sorted"
  | .min => .builtin "min"
  | .max => .builtin "max"
  | .sum => .builtin "sum"
  | .int => .type "int"
  | .perm => .builtin "math.perm"
  | .isI _ => .builtin "isinstance"
theorem each_vals {K : PySem.W.Frag} {α : List Addr} {G : Hp} : ∀ {us : List Value} {l : List D}, PySem.W.EachIs (fun u d => ∃ x, RelV x u ∧ Rep K α G d x) us l → ∃ xs, Vals xs us ∧ Reps K α G l xs
  | _, _, .nil => ⟨[], .nil, rfl⟩
  | _, _, .cons ⟨x, h1, h2⟩ t => by
    obtain ⟨xs, h3, h4⟩ := each_vals t
    exact ⟨x :: xs, .cons h1 h3, x, xs, rfl, h2, h4⟩
theorem vals_each {K : PySem.W.Frag} {α : List Addr} {G : Hp} : ∀ {us : List Value} {l : List D} {xs : List V}, Vals xs us → Reps K α G l xs → PySem.W.EachIs (fun u d => ∃ x, RelV x u ∧ Rep K α G d x) us l
  | _, [], _, h, e => by
    cases e
    cases h
    exact .nil
  | _, d :: r, _, h, ⟨x, ys, e, h1, h2⟩ => by
    subst e
    cases h with
    | cons r1 r2 => exact .cons ⟨x, r1, h1⟩ (vals_each r2 h2)
theorem each_reads {α : List Addr} {G H : Hp} {pins : List (Addr × Obj)} {s : Shared} {σ : L2.St} (I : Inv X pins σ H s) (hG : LeG G H) : ∀ {us : List Value} {l : List D} {xs : List V}, l.all D.ok = true → Vals xs us → Reps X.K α G l xs → PySem.W.EachIs (fun u d => ∃ as, Reads s.heap u (D.py d) as) us l
  | _, [], _, _, h, e => by
    cases e
    cases h
    exact .nil
  | _, d :: r, _, ho, h, ⟨x, ys, e, h1, h2⟩ => by
    subst e
    rw [List.all_cons, Bool.and_eq_true] at ho
    cases h with
    | cons r1 r2 => exact .cons (Dp.reads I _ x _ (Rep.dp hG 60 d x ho.1 h1) r1) (each_reads I hG ho.2 r2 h2)
theorem all_alike {l : List D} (h : (l.all fun a => l.all fun b => D.alike a b) = true) : ∀ a ∈ l, ∀ b ∈ l, D.alike a b = true := fun a ha b hb =>
  List.all_eq_true.mp (List.all_eq_true.mp h a ha) b hb
theorem sortable_of {l : List D} (h : sortable l = true) : l.all D.ok = true ∧ (∀ a ∈ l, ∀ b ∈ l, D.alike a b = true) ∧ (PySem.W.Sortable (l.map D.py) ∨ l.map D.py = [.tuple []]) := by
  unfold sortable at h
  simp only [Bool.and_eq_true, Bool.or_eq_true] at h
  obtain ⟨⟨h1, h2⟩, h3⟩ := h
  refine ⟨h1, ?_, ?_⟩
  · cases l with
    | nil => intro a ha; cases ha
    | cons x r => exact all_alike h2
  · rcases h3 with (h3 | h3) | h3
    · refine .inl (.inl fun d hd => ?_)
      obtain ⟨e, he, rfl⟩ := List.mem_map.mp hd
      have q := List.all_eq_true.mp h3 e he
      cases e with
      | tup m =>
        cases m with
        | nil => cases q
        | cons y r => exact ⟨D.py y, D.pys r, by simp only [D.py, D.pys]⟩
      | _ => cases q
    · refine .inl (.inr fun d hd => ?_)
      obtain ⟨e, he, rfl⟩ := List.mem_map.mp hd
      have q := List.all_eq_true.mp h3 e he
      cases e with
      | int i => exact ⟨fun z => (by simp only [D.py] at z; cases z), fun xs z => (by simp only [D.py] at z; cases z)⟩
      | str i => exact ⟨fun z => (by simp only [D.py] at z; cases z), fun xs z => (by simp only [D.py] at z; cases z)⟩
      | _ => cases q
    · unfold isE at h3
      split at h3
      · refine .inr ?_
        simp only [List.map, D.py, D.pys]
      · cases h3
section
open PySem.W
/-- one empty tuple -/
theorem sorts_none {prog : Program} {w : World} {A : Around} {s : Shared} {vs : List Value} (e : EachIs (fun v d => ∃ as, Reads s.heap v d as) vs [.tuple []]) (hA : A.units + 1 < cLine) : SortsAt prog w A s (dataKind s.heap [.tuple []]) vs := by
  have hal : AllAlike [.tuple []] := fun a ha b hb => by
    rw [List.mem_singleton.mp ha, List.mem_singleton.mp hb]
    rfl
  refine ⟨fun v hv => ?_, tuples' false, ?_, fun h2 => absurd h2 (by rw [e.length]; simp)⟩
  · obtain ⟨d, hd, as, r⟩ := e.left v hv
    exact ⟨_, dataKind_some hal hd r⟩
  · intro E x y a b Q ha hb hq
    obtain ⟨d, as, hd, ra, rfl⟩ := dataKind_inv ha
    obtain ⟨d', as', hd', rb, rfl⟩ := dataKind_inv hb
    obtain rfl := List.mem_singleton.mp hd
    obtain rfl := List.mem_singleton.mp hd'
    have hq' : Q (dataLt (.tuple []) (.tuple [])) s := hq
    rw [dataLt_tuple] at hq'
    cases ra with
    | @tuple l o xs n _ _ h1 h2 h3 h4 =>
      cases rb with
      | @tuple l' o' xs' n' _ _ k1 k2 k3 k4 =>
        have n1 : xs.size = 0 := by simpa using SeqAt.ReadsAll.length _ _ _ h4
        have n2 : xs'.size = 0 := by simpa using SeqAt.ReadsAll.length _ _ _ k4
        exact kat_lt h1 h3 k1 k3 (katLex_alike [] [] 0 _ _ _ _ h4 k4 rfl (by show A.units + min 0 0 < cLine; omega) (fun z => by cases z) (by rw [n1, n2]; rfl) hq')
theorem sorted_data' {prog : Program} {w : World} {A : Around} {E : Value → Shared → Prop} {s : Shared} {β : Type} {vs : List Value} {bs : List β} {enc : β → PyData} {R : Value → β → Prop} {l : Addr} {Q : Value → Shared → Prop} (hl : s.heap.IsList l vs.toArray) (e : EachIs R vs bs) (er : EachIs (fun v b => ∃ as, Reads s.heap v (enc b) as) vs bs)
    (hal : AllAlike (bs.map enc)) (hk : Sortable (bs.map enc) ∨ bs.map enc = [.tuple []]) (hL : bs.length ≤ sizeLine) (hA : A.units + 65 < cLine)
    (hu : ∀ b, b ∈ bs → A.units + 2 + (enc b).depth < cLine) (h : ∀ out, out.length = bs.length → EachIs R out (bs.mergeSort (dataLe false enc)) → Q (.ref (s.heap.objs.size + 1)) { s with heap := sortedAll s.heap vs (List.toArray out) }) :
    wpAny (model prog w) A (call (.builtin "sorted") [.ref l]) Q E s := by
  rcases hk with hk | hk
  · exact sorted_data hl e er hal hk hL hu h
  · have er' : EachIs (fun v b => ∃ as, Reads (sortingHeap (copyHeap s.heap vs) (s.heap.objs.size + 1) vs) v (enc b) as) vs bs := er.mono fun _ _ ⟨as, r⟩ => ⟨as, PyProof.Rows.Reads.keeps (fun _ _ => sorting_copy_old) r⟩
    have em := each_map (R := fun v d => ∃ as, Reads (sortingHeap (copyHeap s.heap vs) (s.heap.objs.size + 1) vs) v d as) enc er'
    rw [hk] at em
    have S := sorts_none (prog := prog) (w := w) (A := A.in1.in1) (s := { s with heap := sortingHeap (copyHeap s.heap vs) (s.heap.objs.size + 1) vs }) em (by show A.units + 2 + 1 < cLine; omega)
    rw [← hk] at S
    exact sorted_vals hl S (by rw [e.length]; exact hL) (h _ (by rw [sortVals_length false rfl]; exact e.length) (sortVals_data false e er' hal))
end
theorem reps_one {K : PySem.W.Frag} {α : List Addr} {G : Hp} {d : D} {xs : List V} (h : Reps K α G [d] xs) : ∃ x, xs = [x] ∧ Rep K α G d x := by
  obtain ⟨x, ys, e, h1, h2⟩ := h
  cases h2
  exact ⟨x, e, h1⟩
theorem reps_two {K : PySem.W.Frag} {α : List Addr} {G : Hp} {d e : D} {xs : List V} (h : Reps K α G [d, e] xs) : ∃ x y, xs = [x, y] ∧ Rep K α G d x ∧ Rep K α G e y := by
  obtain ⟨x, ys, e1, h1, h2⟩ := h
  obtain ⟨y, rfl, h3⟩ := reps_one h2
  exact ⟨x, y, e1, h1, h3⟩
theorem line31 : sizeLine < 2 ^ 63 := by rw [sizeLine_eq]; decide
theorem call_prim (hc : X.calm = true) (hu : X.A.units + 65 < cLine) (p : Prim) (hp : ∀ cs, p ≠ .isI cs) : CallR X p.val (rPrim X.K Tb p) := by
  intro pins s σ H vs us Q I r h
  obtain ⟨β, α, st, l0, ok, rl, h0⟩ := h
  cases l0 with
  | nil => cases p <;> exact h0.elim
  | cons d0 rest =>
  obtain ⟨x, ys, rfl, r0, rr⟩ := rl
  have h1 : Sat X.K Tb β α (bnd (deref d0) (fun d => primS p (d :: rest)) st) H Q := by
    cases p <;> first
      | exact h0
      | exact absurd rfl (hp _)
  obtain ⟨d, rd, h⟩ := sat_deref ok r0 h1
  clear h0 h1 r0
  cases p with
  | len =>
    cases rest with
    | cons _ _ => cases d <;> exact h.elim
    | nil =>
      cases rr
      cases d <;> (try exact h.elim)
      · obtain ⟨a, xs, rfl, e1, e2⟩ := rd
        refine call_len_seq pins s σ H _ us Q I r ⟨a, xs, rfl, .inr (LeG.mk.sqT (.inl (.inl e1))), ?_⟩
        rw [e2.length]
        exact h.here ok rfl
      · obtain ⟨a, xs, rfl, e1, e2⟩ := rd
        refine call_len_seq pins s σ H _ us Q I r ⟨a, xs, rfl, .inl (.inl (.inl e1)), ?_⟩
        rw [e2.length]
        exact h.here ok rfl
      · obtain ⟨a, rfl, e1⟩ := rd
        refine call_len_seq pins s σ H _ us Q I r ⟨a, _, rfl, .inl (LeG.mk.sqL e1), ?_⟩
        rw [List.length_map]
        exact h.here ok rfl
  | tuple =>
    cases rest with
    | cons _ _ => cases d <;> exact h.elim
    | nil =>
      cases rr
      cases d <;> (try exact h.elim)
      · obtain ⟨a, xs, rfl, e1, e2⟩ := rd
        exact call_tuple_of pins s σ H _ us Q I r ⟨a, xs, rfl, .inr ⟨LeG.mk.sqT (.inl (.inl e1)), h.here ok ⟨a, xs, rfl, e1, e2⟩⟩⟩
      · obtain ⟨a, xs, rfl, e1, e2⟩ := rd
        exact call_tuple_of pins s σ H _ us Q I r ⟨a, xs, rfl, .inl ⟨.inl (.inl e1), fun q hq => h.newTup ok hq e2⟩⟩
  | list =>
    cases rest with
    | cons _ _ => cases d <;> exact h.elim
    | nil =>
      cases rr
      cases d <;> (try exact h.elim)
      · obtain ⟨a, xs, rfl, e1, e2⟩ := rd
        exact call_list_of pins s σ H _ us Q I r ⟨a, xs, rfl, .inr (LeG.mk.sqT (.inl (.inl e1))), fun q hq => h.newLst ok hq e2⟩
      · obtain ⟨a, xs, rfl, e1, e2⟩ := rd
        exact call_list_of pins s σ H _ us Q I r ⟨a, xs, rfl, .inl (.inl (.inl e1)), fun q hq => h.newLst ok hq e2⟩
  | sorted =>
    cases rest with
    | cons _ _ => cases d <;> exact h.elim
    | nil =>
      cases rr
      cases d <;> (try exact h.elim)
      rename_i l
      obtain ⟨a, xs, rfl, e1, e2⟩ := rd
      simp only [primS] at h
      split at h
      · rename_i hs
        obtain ⟨k1, k2, k3⟩ := sortable_of hs
        obtain ⟨u, rfl, ru⟩ := vals1 r
        cases ru
        obtain ⟨its, rv, pl, hz⟩ := I.list (.inl (.inl e1))
        have hz' : l.length ≤ sizeLine := by rw [← e2.length]; exact hz
        refine sorted_data' (enc := D.py) (bs := l) (R := fun u d => ∃ x, RelV x u ∧ Rep X.K α (Mk (β ++ α) H) d x) pl.isList (vals_each rv e2) (each_reads I LeG.mk k1 rv e2) ?_ k3 hz' hu (fun d hd => ?_) fun out hl ho => ?_
        · intro d hd d' hd'
          obtain ⟨b, hb, rfl⟩ := List.mem_map.mp hd
          obtain ⟨b', hb', rfl⟩ := List.mem_map.mp hd'
          exact D.alike_py b b' (k2 b hb b' hb')
        · have := (D.ok_lay (List.all_eq_true.mp k1 d hd)).2
          omega
        · rw [isort_py k2] at ho
          obtain ⟨zs, q1, q2⟩ := each_vals ho
          obtain ⟨ep, he'⟩ := PyProof.Rows.sortedAll_at s.heap its out.toArray
          have hl2 : zs.length ≤ sizeLine := by rw [q2.length, length_isort]; exact hz'
          have hf : H (s.heap.objs.size + 1) = none := I.hok.fresh (Nat.le_succ _)
          exact ⟨.ref _, upd H (s.heap.objs.size + 1) (.lst zs), I.laid (t' := s.toks) (fun _ _ => PyProof.Rows.sortedAll_old) (Nat.le_succ _) ⟨hl2, _, ep, q1, he'⟩, rfl, h.newLst ok hf q2⟩
      · exact h.elim
  | min =>
    cases rest with
    | cons d2 rest =>
      cases rest with
      | cons _ _ => cases d <;> cases d2 <;> exact h.elim
      | nil =>
        obtain ⟨y, rfl, r2⟩ := reps_one rr
        cases d <;> cases d2 <;> (try exact h.elim)
        obtain rfl : x = .int _ := rd
        obtain rfl : y = .int _ := r2
        exact call_min2 hc pins s σ H _ us Q I r ⟨_, _, rfl, h.here ok rfl⟩
    | nil =>
      cases rr
      cases d <;> (try exact h.elim)
      rename_i l
      obtain ⟨a, xs, rfl, e1, e2⟩ := rd
      obtain ⟨d, hd, h3⟩ := sat_opt h
      obtain ⟨m, hm, rfl⟩ := Option.map_eq_some_iff.mp hd
      obtain ⟨ns, hn, hm⟩ := Option.bind_eq_some_iff.mp hm
      have e3 := intsOf_reps hn e2
      subst e3
      obtain ⟨q1, q2, q3⟩ := least_is hm
      refine cr_min hc pins s σ H _ us Q I r ⟨a, ns, rfl, .inl (.inl e1), q1, fun k hk hall => ?_⟩
      have : k = m := Int.le_antisymm (hall m q2) (q3 k hk)
      subst this
      exact h3.here ok rfl
  | max =>
    cases rest with
    | cons d2 rest =>
      cases rest with
      | cons _ _ => cases d <;> cases d2 <;> exact h.elim
      | nil =>
        obtain ⟨y, rfl, r2⟩ := reps_one rr
        cases d <;> cases d2 <;> (try exact h.elim)
        obtain rfl : x = .int _ := rd
        obtain rfl : y = .int _ := r2
        exact call_max2 hc pins s σ H _ us Q I r ⟨_, _, rfl, h.here ok rfl⟩
    | nil =>
      cases rr
      cases d <;> (try exact h.elim)
      rename_i l
      obtain ⟨a, xs, rfl, e1, e2⟩ := rd
      obtain ⟨d, hd, h3⟩ := sat_opt h
      obtain ⟨m, hm, rfl⟩ := Option.map_eq_some_iff.mp hd
      obtain ⟨ns, hn, hm⟩ := Option.bind_eq_some_iff.mp hm
      have e3 := intsOf_reps hn e2
      subst e3
      obtain ⟨q1, q2, q3⟩ := most_is hm
      refine cr_max hc pins s σ H _ us Q I r ⟨a, ns, rfl, .inl (.inl e1), q1, fun k hk hall => ?_⟩
      have : k = m := Int.le_antisymm (q3 k hk) (hall m q2)
      subst this
      exact h3.here ok rfl
  | sum =>
    cases rest with
    | cons _ _ => cases d <;> exact h.elim
    | nil =>
      cases rr
      cases d <;> (try exact h.elim)
      rename_i l
      obtain ⟨a, xs, rfl, e1, e2⟩ := rd
      obtain ⟨d, hd, h3⟩ := sat_opt h
      obtain ⟨ns, hn, rfl⟩ := Option.map_eq_some_iff.mp hd
      have e3 := intsOf_reps hn e2
      subst e3
      exact cr_sum hc pins s σ H _ us Q I r ⟨a, ns, rfl, .inl (.inl e1), h3.here ok rfl⟩
  | int =>
    cases rest with
    | cons _ _ => cases d <;> exact h.elim
    | nil =>
      cases rr
      cases d <;> (try exact h.elim)
      · obtain rfl : x = .bl _ := rd
        exact call_int1 pins s σ H _ us Q I r (.inr ⟨_, rfl, h.here ok rfl⟩)
      · obtain rfl : x = .int _ := rd
        exact call_int1 pins s σ H _ us Q I r (.inl ⟨_, rfl, h.here ok rfl⟩)
  | perm =>
    cases rest with
    | nil => cases d <;> exact h.elim
    | cons d2 rest =>
      cases rest with
      | cons _ _ => cases d <;> cases d2 <;> exact h.elim
      | nil =>
        obtain ⟨y, rfl, r2⟩ := reps_one rr
        cases d <;> cases d2 <;> (try exact h.elim)
        obtain rfl : x = .int _ := rd
        obtain rfl : y = .int _ := r2
        simp only [primS] at h
        split at h
        · rename_i hk
          simp only [Bool.and_eq_true, decide_eq_true_eq] at hk
          obtain ⟨t, u, rfl⟩ := Vals.int2 r
          exact PySem.W.mc_perm hk.1.1.1 hk.1.2 (by omega) (by omega) fun _ => ⟨.int _, H, I.tok _, ⟨_, rfl⟩, h.here ok rfl⟩
        · exact h.elim
  | isI cs => exact absurd rfl (hp cs)
end
end Mp
end
section
set_option Elab.async false
set_option linter.all false
set_option maxRecDepth 100000
/-! Expressions. -/
namespace Mp
open PySem PySem.Spec L2 PyProof.Rows
theorem bnd_assoc {α β γ : Type} (m : M α) (f : α → M β) (g : β → M γ) : bnd (bnd m f) g = bnd m fun x => bnd (f x) g := by
  funext st
  unfold bnd
  cases m st <;> rfl
theorem bnd_ret {α β : Type} (a : α) (f : α → M β) : bnd (ret a) f = f a := rfl
theorem bnd_ret' {α : Type} (m : M α) : bnd m ret = m := by
  funext st
  unfold bnd ret
  cases m st <;> rfl
/-- a test is made of a value and leaves the state -/
theorem truth_st {d : D} {st st' : St} {b : Bool} (h : truth d st = .ok b st') : st' = st := by
  unfold truth at h
  cases d with
  | cell k =>
    simp only [bnd, deref] at h
    cases q : st[k]? with
    | none => rw [q] at h; cases h
    | some c =>
      cases c with
      | lst l =>
        rw [q] at h
        cases h
        rfl
      | dct t ks vs =>
        rw [q] at h
        cases h
  | scr l => cases h
  | str l => cases h
  | dct _ _ _ => cases h
  | _ => cases h; rfl
theorem truth_and (x : D) (m : M D) : bnd (bnd (truth x) fun k => match k with | true => m | false => ret x) truth = bnd (truth x) fun k => match k with | true => bnd m truth | false => ret false := by
  funext st
  cases q : truth x st with
  | bad => simp only [bnd, q]
  | ok b st' =>
    have e := truth_st q
    subst e
    cases b with
    | true => simp only [bnd, q]
    | false => simp only [bnd, q, ret]
theorem truth_or (x : D) (m : M D) : bnd (bnd (truth x) fun k => match k with | true => ret x | false => m) truth = bnd (truth x) fun k => match k with | true => ret true | false => bnd m truth := by
  funext st
  cases q : truth x st with
  | bad => simp only [bnd, q]
  | ok b st' =>
    have e := truth_st q
    subst e
    cases b with
    | true => simp only [bnd, q, ret]
    | false => simp only [bnd, q]
section
variable {K : PySem.W.Frag} {Tb : List (Addr × Option Str)} {β α : List Addr} {st : St} {H : Hp} {σ : L2.St} {env : Env} {Q : VK}
/-- a value, then what follows -/
theorem one {m : Env → M D} {F : D → M D} (h : tOf K Tb (fun env => bnd (m env) F) σ H Q) : tOf K Tb m σ H fun x H1 => ∃ β α st a, Ok K Tb β α st H1 ∧ Rep K α (Mk (β ++ α) H1) a x ∧ Sat K Tb β α (F a st) H1 Q := by
  obtain ⟨β, α, st, env, o, e, h⟩ := h
  exact tOf_bnd (S := fun α r H => Sat K Tb β α r H Q) o e h (fun _ _ z => z) (fun _ _ _ s h => h.step s) fun d st1 v α1 H1 _ s o1 e1 r h1 => ⟨β, α1, st1, d, o1, r, h1⟩
theorem oneB {m : Env → M D} {F : D → M Bool} {Q : Bool → Hp → Prop} (h : tOfB K Tb (fun env => bnd (m env) F) σ H Q) : tOf K Tb m σ H fun x H1 => ∃ β α st a, Ok K Tb β α st H1 ∧ Rep K α (Mk (β ++ α) H1) a x ∧ SatB K Tb β α (F a st) H1 Q := by
  obtain ⟨β, α, st, env, o, e, h⟩ := h
  exact tOf_bnd (S := fun α r H => SatB K Tb β α r H Q) o e h (fun _ _ z => z) (fun _ _ _ s h => h.step s) fun d st1 v α1 H1 _ s o1 e1 r h1 => ⟨β, α1, st1, d, o1, r, h1⟩
theorem oneL {m : Env → M (List D)} {F : List D → M D} (h : tOf K Tb (fun env => bnd (m env) F) σ H Q) : tOfL K Tb m σ H fun xs H1 => ∃ β α st l, Ok K Tb β α st H1 ∧ Reps K α (Mk (β ++ α) H1) l xs ∧ Sat K Tb β α (F l st) H1 Q := by
  obtain ⟨β, α, st, env, o, e, h⟩ := h
  exact tOfL_bnd (S := fun α r H => Sat K Tb β α r H Q) o e h (fun _ _ z => z) (fun _ _ _ s h => h.step s) fun d st1 v α1 H1 _ s o1 e1 r h1 => ⟨β, α1, st1, d, o1, r, h1⟩
theorem two {m1 m2 : Env → M D} {F : D → D → M D} (h : tOf K Tb (fun env => bnd (m1 env) fun x => bnd (m2 env) fun y => F x y) σ H Q) :
    tOf K Tb m1 σ H fun x H1 => tOf K Tb m2 σ H1 fun y H2 => ∃ β α st a b, Ok K Tb β α st H2 ∧ Rep K α (Mk (β ++ α) H2) a x ∧ Rep K α (Mk (β ++ α) H2) b y ∧ Sat K Tb β α (F a b st) H2 Q := by
  obtain ⟨β, α, st, env, o, e, h⟩ := h
  refine tOf_bnd (S := fun α r H => Sat K Tb β α r H Q) o e h (fun _ _ z => z) (fun _ _ _ s h => h.step s) fun d st1 v α1 H1 _ s o1 e1 r h1 => ?_
  exact tOf_bnd (S := fun α r H => Sat K Tb β α r H Q) o1 e1 h1 (fun _ _ z => z) (fun _ _ _ s h => h.step s) fun d2 st2 v2 α2 H2 _ s2 o2 e2 r2 h2 => ⟨β, α2, st2, d, d2, o2, s2.rep r, r2, h2⟩
/-- a value, then a reading -/
theorem oneT {m : Env → M D} {F : Env → D → M D} {γ : Type} (h : tOf K Tb (fun env => bnd (m env) (F env)) σ H Q) : tOf K Tb m σ H fun x H1 => ∃ β α st env a, Ok K Tb β α st H1 ∧ EnvOk K α (Mk (β ++ α) H1) env σ ∧ Rep K α (Mk (β ++ α) H1) a x ∧ Sat K Tb β α (F env a st) H1 Q := by
  obtain ⟨β, α, st, env, o, e, h⟩ := h
  exact tOf_bnd (S := fun α r H => Sat K Tb β α r H Q) o e h (fun _ _ z => z) (fun _ _ _ s h => h.step s) fun d st1 v α1 H1 _ s o1 e1 r h1 => ⟨β, α1, st1, env, d, o1, e1, r, h1⟩
theorem testT {m : Env → M Bool} {F : Env → Bool → M D} (h : tOf K Tb (fun env => bnd (m env) (F env)) σ H Q) : tOfB K Tb m σ H fun b H1 => tOf K Tb (fun env => F env b) σ H1 Q := by
  obtain ⟨β, α, st, env, o, e, h⟩ := h
  exact tOfB_bnd (S := fun α r H => Sat K Tb β α r H Q) o e h (fun _ _ z => z) (fun _ _ _ s h => h.step s) fun b st1 α1 H1 _ s o1 e1 h1 => ⟨β, α1, st1, env, o1, e1, h1⟩
theorem testB {m : Env → M Bool} {F : Env → Bool → M Bool} {Q : Bool → Hp → Prop} (h : tOfB K Tb (fun env => bnd (m env) (F env)) σ H Q) : tOfB K Tb m σ H fun b H1 => tOfB K Tb (fun env => F env b) σ H1 Q := by
  obtain ⟨β, α, st, env, o, e, h⟩ := h
  exact tOfB_bnd (S := fun α r H => SatB K Tb β α r H Q) o e h (fun _ _ z => z) (fun _ _ _ s h => h.step s) fun b st1 α1 H1 _ s o1 e1 h1 => ⟨β, α1, st1, env, o1, e1, h1⟩
theorem satB_bnd {γ : Type} {m : M γ} {F : γ → M Bool} {Q : Bool → Hp → Prop} (h : SatB K Tb β α (bnd m F st) H Q) : ∃ a st', m st = .ok a st' ∧ SatB K Tb β α (F a st') H Q := by
  unfold bnd at h
  split at h
  · exact ⟨_, _, by assumption, h⟩
  · exact h.elim
/-- a value's truth -/
theorem tru_of {x : V} {a : D} {b : Bool} {st' : St} (o : Ok K Tb β α st H) (r : Rep K α (Mk (β ++ α) H) a x) (h : truth a st = .ok b st') : TruV K x H b := by
  have e := truth_st h
  subst e
  unfold truth bnd at h
  cases q : deref a st' with
  | bad => rw [q] at h; cases h
  | ok d st2 =>
    rw [q] at h
    obtain ⟨e, v⟩ := deref_vw o r q
    subst e
    cases d with
    | non =>
      obtain rfl : x = .non := v
      cases h
      rfl
    | bl b =>
      obtain rfl : x = .bl b := v
      cases h
      rfl
    | int i =>
      obtain rfl : x = .int i := v
      cases h
      rfl
    | str s => cases h
    | tup l =>
      obtain ⟨p, xs, rfl, h1, h2⟩ := v
      cases h
      refine .inr (.inl ⟨xs, LeG.mk.sqT (.inl (.inl h1)), ?_⟩)
      cases l with
      | nil => rw [h2.nil_iff.mpr rfl]; rfl
      | cons d r => obtain ⟨y, ys, rfl, _⟩ := h2; rfl
    | lst l =>
      obtain ⟨p, xs, rfl, h1, h2⟩ := v
      cases h
      refine .inl ⟨xs, .inl (.inl h1), ?_⟩
      cases l with
      | nil => rw [h2.nil_iff.mpr rfl]; rfl
      | cons d r => obtain ⟨y, ys, rfl, _⟩ := h2; rfl
    | scr l => cases h
    | dct _ _ _ => cases h
    | cell k => exact v.elim
end
section
variable {X : Cx} {Tb : List (Addr × Option Str)} {C : CallF} {a b c : E} {e l r : Expr} {pos : Pos}
theorem snd_var {i : Nat} {x : Str} (hN : X.N[i]? = some x) (hv : Vis X.env.scope x) (h1 : (x == ("__debug__" : Str)) = false) (h2 : (x == ("__classdict__" : Str)) = false) : PE X (.Name x pos) (tOf X.K Tb (ev C (.var i))) := by
  refine PE.by fun σ H Q h => ⟨_, pe_var hN hv h1 h2, ?_⟩
  obtain ⟨β, α, st, env, o, e, h⟩ := h
  unfold ev at h
  cases q : env[i]? with
  | none => rw [q] at h; exact h.elim
  | some z =>
    cases z with
    | none => rw [q] at h; exact h.elim
    | some d =>
      rw [q] at h
      obtain ⟨v, e1, e2⟩ := e.2 i d q
      exact ⟨v, e1, Sat.here h o e2⟩
theorem snd_con {d : D} {v : V} {e : Expr} (h : PE X e (tC v)) (r : ∀ K α G, Rep K α G d v) : PE X e (tOf X.K Tb (ev C (.con d))) := by
  refine PE.by fun σ H Q h2 => ⟨_, h, ?_⟩
  obtain ⟨β, α, st, env, o, _, h2⟩ := h2
  exact Sat.here h2 o (r _ _ _)
theorem snd_nil : PA X [] (tOfL X.K Tb fun env => bnd (ev C .nil env) listOf) := by
  refine PA.by fun σ H Q h => ⟨_, pa_nil, ?_⟩
  obtain ⟨β, α, st, env, o, _, h⟩ := h
  exact SatL.here h o rfl
theorem star_cons {e : Expr} {es : List Expr} {env : PySem.Env} (h : ∀ x p, e ≠ .Starred x p) : starEach (e :: es) env = (false, eval e env) :: starEach es env := by
  cases e <;> first
    | rfl
    | exact absurd rfl (h _ _)
theorem snd_cons {es : List Expr} (hs : ∀ x p, e ≠ .Starred x p) (h1 : PE X e (tOf X.K Tb (ev C a))) (h2 : PA X es (tOfL X.K Tb fun env => bnd (ev C b env) listOf)) : PA X (e :: es) (tOfL X.K Tb fun env => bnd (ev C (.cons a b) env) listOf) := by
  refine PA.by fun σ H Q h => ⟨_, pa_cons h1 h2 (star_cons hs), ?_⟩
  obtain ⟨β, α, st, env, o, e, h⟩ := h
  simp only [ev, bnd_assoc] at h
  show tOf X.K Tb (ev C a) σ H fun x H1 => tOfL X.K Tb _ σ H1 fun xs H2 => Q (x :: xs) H2
  refine tOf_bnd (S := fun α r H => SatL X.K Tb β α r H Q) o e h (fun _ _ z => z) (fun _ _ _ s h => h.step s) fun d st1 v α1 H1 _ s o1 e1 r h1 => ?_
  have h1' : SatL X.K Tb β α1 (bnd (bnd (ev C b env) listOf) (fun l => ret (d :: l)) st1) H1 Q := by
    rw [bnd_assoc]
    exact h1
  exact tOfL_bnd (m := fun env => bnd (ev C b env) listOf) (S := fun α r H => SatL X.K Tb β α r H Q) o1 e1 h1' (fun _ _ z => z) (fun _ _ _ s h => h.step s) fun l st2 xs α2 H2 _ s2 o2 e2 r2 h2 => SatL.here h2 o2 ⟨v, xs, rfl, s2.rep r, r2⟩
theorem snd_tup {es : List Expr} {k : Nat} (h : PA X es (tOfL X.K Tb fun env => bnd (ev C a env) listOf)) : PE X (.Tuple es k pos) (tOf X.K Tb (ev C (.tup a))) := by
  refine PE.by fun σ H Q h2 => ⟨_, pe_tup h, ?_⟩
  obtain ⟨β, α, st, env, o, e, h2⟩ := h2
  show tOfL X.K Tb _ σ H _
  refine tOfL_bnd (m := fun env => bnd (ev C a env) listOf) (S := fun α r H => Sat X.K Tb β α r H Q) o e h2 (fun _ _ z => z) (fun _ _ _ s h => h.step s) fun l st1 xs α1 H1 _ s o1 e1 r h1 => ?_
  unfold retTup at h1
  split at h1
  · rename_i hl
    exact ⟨by rw [r.length]; exact lenOk_le hl, fun p hp => h1.newTup o1 hp r⟩
  · exact h1.elim
theorem snd_lst {es : List Expr} (h : PA X es (tOfL X.K Tb fun env => bnd (ev C a env) listOf)) : PE X (.List es pos) (tOf X.K Tb (ev C (.lst a))) := by
  refine PE.by fun σ H Q h2 => ⟨_, pe_lst h, ?_⟩
  obtain ⟨β, α, st, env, o, e, h2⟩ := h2
  show tOfL X.K Tb _ σ H _
  refine tOfL_bnd (m := fun env => bnd (ev C a env) listOf) (S := fun α r H => Sat X.K Tb β α r H Q) o e h2 (fun _ _ z => z) (fun _ _ _ s h => h.step s) fun l st1 xs α1 H1 _ s o1 e1 r h1 => ?_
  unfold retLst at h1
  split at h1
  · rename_i hl
    exact ⟨by rw [r.length]; exact lenOk_le hl, fun p hp => h1.newLst o1 hp r⟩
  · exact h1.elim
theorem snd_bin (o : Bin) (ha : PE X l (tOf X.K Tb (ev C a))) (hb : PE X r (tOf X.K Tb (ev C b))) : PE X (.BinOp l o.op r pos) (tOf X.K Tb (ev C (.bin o a b))) :=
  PE.by fun σ H Q h => ⟨_, pe_op (op_bin (Tb := Tb) o) ha hb, two (F := binD o) h⟩
theorem snd_neg (ha : PE X e (tOf X.K Tb (ev C a))) : PE X (.UnaryOp .USub e pos) (tOf X.K Tb (ev C (.neg a))) := by
  refine PE.by fun σ H Q h => ⟨_, pe_un un_neg ha, ?_⟩
  obtain ⟨β, α, st, env, o, e, h⟩ := h
  show tOf X.K Tb _ σ H _
  refine tOf_bnd (m := ev C a) (S := fun α r H => Sat X.K Tb β α r H Q) o e h (fun _ _ z => z) (fun _ _ _ s h => h.step s) fun d st1 v α1 H1 _ s o1 e1 r h1 => ?_
  cases d with
  | int i =>
    obtain rfl : v = .int i := r
    exact ⟨i, rfl, Sat.here h1 o1 rfl⟩
  | _ => exact h1.elim
theorem snd_cmp (hu : X.A.units + 65 < cLine) (o : Cmp) (hm : behindInMarks o.op r = false) (ha : PE X l (tOf X.K Tb (ev C a))) (hb : PE X r (tOf X.K Tb (ev C b))) : PE X (.Compare l [o.op] [r] pos) (tOf X.K Tb (ev C (.cmp o a b))) :=
  PE.by fun σ H Q h => ⟨_, pe_cmpR (op_cmp (Tb := Tb) hu o) ha hb hm, two (F := cmpD o) h⟩
theorem boolOf_ok {d : D} {st st' : St} {k : Bool} (h : boolOf d st = .ok k st') : d = .bl k ∧ st' = st := by
  cases d with
  | bl b => cases h; exact ⟨rfl, rfl⟩
  | _ => cases h
/-- the value of a chain is True or False -/
theorem snd_chain {e3 : Expr} (hu : X.A.units + 65 < cLine) (o p : Cmp) (hm : behindInMarks p.op e3 = false) (ha : PE X l (tOf X.K Tb (ev C a))) (hb : PE X r (tOf X.K Tb (ev C b))) (hc : PE X e3 (tOf X.K Tb (ev C c))) :
    PE X (.Compare l [o.op, p.op] [r, e3] pos) (tOf X.K Tb (ev C (.chain o p a b c))) := by
  refine PE.by fun σ H Q h => ⟨_, pe_chain (op_cmp (Tb := Tb) hu o) (op_cmp (Tb := Tb) hu p) ha hb hc (by simp only [lastMarks]; exact hm), ?_⟩
  obtain ⟨β, α, st, env, ok, e, h⟩ := h
  simp only [ev] at h
  refine tOf_bnd (S := fun α r H => Sat X.K Tb β α r H Q) ok e h (fun _ _ z => z) (fun _ _ _ s h => h.step s) fun d1 st1 v1 α1 H1 _ s1 o1 e1 r1 h1 => ?_
  refine tOf_bnd (S := fun α r H => Sat X.K Tb β α r H Q) o1 e1 h1 (fun _ _ z => z) (fun _ _ _ s h => h.step s) fun d2 st2 v2 α2 H2 _ s2 o2 e2 r2 h2 => ?_
  have r1' := s2.rep r1
  rw [bnd_assoc] at h2
  obtain ⟨d3, st3, q3, h3⟩ := sat_bnd h2
  obtain ⟨k, st4, q4, h4⟩ := sat_bnd h3
  obtain ⟨rfl, rfl⟩ := boolOf_ok q4
  refine ⟨β, α2, st2, d1, d2, o2, r1', r2, ?_⟩
  rw [q3]
  intro v3 α3 H3 s3 o3 r3
  obtain rfl : v3 = .bl k := r3
  refine ⟨k, rfl, ?_⟩
  cases k with
  | true =>
    rw [if_pos rfl]
    refine tOf_bnd (S := fun α r H => Sat X.K Tb β α r H Q) o3 (e2.mono s3.pre (s3.le β)) (Sat.step h4 s3) (fun _ _ z => z) (fun _ _ _ s h => h.step s) fun d5 st5 v5 α5 H5 _ s5 o5 e5 r5 h5 => ?_
    exact ⟨β, α5, st5, d2, d5, o5, s5.rep (s3.rep r2), r5, h5⟩
  | false =>
    rw [if_neg Bool.false_ne_true]
    exact Sat.here (h4.step s3) o3 rfl
end
end Mp
end
section
set_option Elab.async false
set_option linter.all false
set_option maxRecDepth 100000
/-! Expressions, further: by truth, subscripts, calls. -/
namespace Mp
open PySem PySem.Spec L2 PyProof.Rows
section
variable {K : PySem.W.Frag} {Tb : List (Addr × Option Str)} {β α : List Addr} {H : Hp} {σ : L2.St}
theorem Sat.imp {r : Res D} {Q Q' : VK} (h : Sat K Tb β α r H Q) (i : ∀ v H, Q v H → Q' v H) : Sat K Tb β α r H Q' := by
  cases r with
  | ok d st => exact fun v α1 H1 s o r => i _ _ (h v α1 H1 s o r)
  | bad => exact h
theorem SatB.imp {r : Res Bool} {Q Q' : Bool → Hp → Prop} (h : SatB K Tb β α r H Q) (i : ∀ v H, Q v H → Q' v H) : SatB K Tb β α r H Q' := by
  cases r with
  | ok d st => exact fun α1 H1 s o => i _ _ (h α1 H1 s o)
  | bad => exact h
theorem SatL.imp {r : Res (List D)} {Q Q' : List V → Hp → Prop} (h : SatL K Tb β α r H Q) (i : ∀ v H, Q v H → Q' v H) : SatL K Tb β α r H Q' := by
  cases r with
  | ok d st => exact fun v α1 H1 s o r => i _ _ (h v α1 H1 s o r)
  | bad => exact h
theorem tOf.imp {m : Env → M D} {Q Q' : VK} (h : tOf K Tb m σ H Q) (i : ∀ v H, Q v H → Q' v H) : tOf K Tb m σ H Q' := by
  obtain ⟨β, α, st, env, o, e, h⟩ := h
  exact ⟨β, α, st, env, o, e, h.imp i⟩
theorem tOfB.imp {m : Env → M Bool} {Q Q' : Bool → Hp → Prop} (h : tOfB K Tb m σ H Q) (i : ∀ v H, Q v H → Q' v H) : tOfB K Tb m σ H Q' := by
  obtain ⟨β, α, st, env, o, e, h⟩ := h
  exact ⟨β, α, st, env, o, e, h.imp i⟩
theorem tOfL.imp {m : Env → M (List D)} {Q Q' : List V → Hp → Prop} (h : tOfL K Tb m σ H Q) (i : ∀ v H, Q v H → Q' v H) : tOfL K Tb m σ H Q' := by
  obtain ⟨β, α, st, env, o, e, h⟩ := h
  exact ⟨β, α, st, env, o, e, h.imp i⟩
end
section
variable {X : Cx} {Tb : List (Addr × Option Str)} {C : CallF} {a b c : E} {e l r : Expr} {pos : Pos}
/-- a test by a value's truth -/
theorem tst_val {m : Env → M D} (h : PE X e (tOf X.K Tb m)) (he : ∀ whole, PySem.isTrue e X.env whole = (do let v ← whole; standAt e.pos; holding [v] (truthy v))) : PT X e (tOfB X.K Tb fun env => bnd (m env) truth) := by
  refine PT.by fun σ H Q hw => ⟨_, pt_truth h he, ?_⟩
  refine tOf.imp (oneB (F := truth) hw) fun v H1 h2 => ?_
  obtain ⟨β2, α2, st2, d2, o2, r2, h2⟩ := h2
  obtain ⟨k, st3, q3, h3⟩ : ∃ k st3, truth d2 st2 = .ok k st3 ∧ SatB X.K Tb β2 α2 (.ok k st3) H1 Q := by
    cases q3 : truth d2 st2 with
    | bad => rw [q3] at h2; exact h2.elim
    | ok k st3 => rw [q3] at h2; exact ⟨k, st3, rfl, h2⟩
  have e3 := truth_st q3
  subst e3
  exact ⟨k, tru_of o2 r2 q3, h3.here o2⟩
theorem snd_and {ra : Expr} {rest : List Expr} (ha : PE X e (tOf X.K Tb (ev C a))) (hb : PE X (.BoolOp .And (ra :: rest) pos) (tOf X.K Tb (ev C b))) : PE X (.BoolOp .And (e :: ra :: rest) pos) (tOf X.K Tb (ev C (.and a b))) := by
  refine PE.by fun σ H Q h => ⟨_, pe_andT ha hb, ?_⟩
  obtain ⟨β, α, st, env, o, en, h⟩ := h
  simp only [ev] at h
  show tOf X.K Tb (ev C a) σ H _
  refine tOf_bnd (S := fun α r H => Sat X.K Tb β α r H Q) o en h (fun _ _ z => z) (fun _ _ _ s h => h.step s) fun d st1 v α1 H1 _ s o1 e1 r h1 => ?_
  obtain ⟨k, st2, q2, h2⟩ := sat_bnd h1
  have e2 := truth_st q2
  subst e2
  refine ⟨k, tru_of o1 r q2, ?_⟩
  cases k with
  | true => exact ⟨β, α1, st2, env, o1, e1, h2⟩
  | false => exact h2.here o1 r
theorem snd_or {ra : Expr} {rest : List Expr} (ha : PE X e (tOf X.K Tb (ev C a))) (hb : PE X (.BoolOp .Or (ra :: rest) pos) (tOf X.K Tb (ev C b))) : PE X (.BoolOp .Or (e :: ra :: rest) pos) (tOf X.K Tb (ev C (.or a b))) := by
  refine PE.by fun σ H Q h => ⟨_, pe_orT ha hb, ?_⟩
  obtain ⟨β, α, st, env, o, en, h⟩ := h
  simp only [ev] at h
  show tOf X.K Tb (ev C a) σ H _
  refine tOf_bnd (S := fun α r H => Sat X.K Tb β α r H Q) o en h (fun _ _ z => z) (fun _ _ _ s h => h.step s) fun d st1 v α1 H1 _ s o1 e1 r h1 => ?_
  obtain ⟨k, st2, q2, h2⟩ := sat_bnd h1
  have e2 := truth_st q2
  subst e2
  refine ⟨k, tru_of o1 r q2, ?_⟩
  cases k with
  | true => exact h2.here o1 r
  | false => exact ⟨β, α1, st2, env, o1, e1, h2⟩
theorem snd_not (ha : PE X e (tOf X.K Tb (ev C a))) : PE X (.UnaryOp .Not e pos) (tOf X.K Tb (ev C (.not a))) := by
  refine PE.by fun σ H Q h => ⟨_, pe_notT ha, ?_⟩
  obtain ⟨β, α, st, env, o, en, h⟩ := h
  simp only [ev, bnd_assoc] at h
  show tOf X.K Tb (ev C a) σ H _
  refine tOf_bnd (S := fun α r H => Sat X.K Tb β α r H Q) o en h (fun _ _ z => z) (fun _ _ _ s h => h.step s) fun d st1 v α1 H1 _ s o1 e1 r h1 => ?_
  obtain ⟨k, st2, q2, h2⟩ := sat_bnd h1
  have e2 := truth_st q2
  subst e2
  exact ⟨k, tru_of o1 r q2, Sat.here h2 o1 rfl⟩
theorem snd_ite (hc : PT X e (tOfB X.K Tb fun env => bnd (ev C c env) truth)) (ha : PE X l (tOf X.K Tb (ev C a))) (hb : PE X r (tOf X.K Tb (ev C b))) : PE X (.IfExp e l r pos) (tOf X.K Tb (ev C (.ite c a b))) := by
  refine PE.by fun σ H Q h => ⟨_, pe_ifExp hc ha hb, ?_⟩
  have h' : tOf X.K Tb (fun env => bnd (bnd (ev C c env) truth) fun k => match k with | true => ev C a env | false => ev C b env) σ H Q := h
  refine tOfB.imp (testT (F := fun env k => match k with | true => ev C a env | false => ev C b env) h') fun k H1 h1 => ?_
  cases k with
  | true => exact h1
  | false => exact h1
/-! tests -/
theorem tst_and {ra : Expr} {rest : List Expr} (ha : PT X e (tOfB X.K Tb fun env => bnd (ev C a env) truth)) (hb : PW X (.BoolOp .And (ra :: rest) pos) (tOfB X.K Tb fun env => bnd (ev C b env) truth)) : PW X (.BoolOp .And (e :: ra :: rest) pos) (tOfB X.K Tb fun env => bnd (ev C (.and a b) env) truth) := by
  refine ⟨fun whole pins s σ H Q I h => (pw_and ha hb).run whole pins s σ H Q I ?_⟩
  have h' : tOfB X.K Tb (fun env => bnd (bnd (ev C a env) truth) fun k => match k with | true => bnd (ev C b env) truth | false => ret false) σ H Q := by
    refine cast ?_ h
    congr 1
    funext env
    simp only [ev]
    rw [bnd_assoc, bnd_assoc]
    congr 1
    funext x
    exact truth_and x (ev C b env)
  refine tOfB.imp (testB (F := fun env k => match k with | true => bnd (ev C b env) truth | false => ret false) h') fun k H1 h1 => ?_
  cases k with
  | true => exact h1
  | false =>
    obtain ⟨β2, α2, st2, env2, o2, en2, h2⟩ := h1
    exact SatB.here h2 o2
theorem tst_or {ra : Expr} {rest : List Expr} (ha : PT X e (tOfB X.K Tb fun env => bnd (ev C a env) truth)) (hb : PW X (.BoolOp .Or (ra :: rest) pos) (tOfB X.K Tb fun env => bnd (ev C b env) truth)) : PW X (.BoolOp .Or (e :: ra :: rest) pos) (tOfB X.K Tb fun env => bnd (ev C (.or a b) env) truth) := by
  refine ⟨fun whole pins s σ H Q I h => (pw_or ha hb).run whole pins s σ H Q I ?_⟩
  have h' : tOfB X.K Tb (fun env => bnd (bnd (ev C a env) truth) fun k => match k with | true => ret true | false => bnd (ev C b env) truth) σ H Q := by
    refine cast ?_ h
    congr 1
    funext env
    simp only [ev]
    rw [bnd_assoc, bnd_assoc]
    congr 1
    funext x
    exact truth_or x (ev C b env)
  refine tOfB.imp (testB (F := fun env k => match k with | true => ret true | false => bnd (ev C b env) truth) h') fun k H1 h1 => ?_
  cases k with
  | false => exact h1
  | true =>
    obtain ⟨β2, α2, st2, env2, o2, en2, h2⟩ := h1
    exact SatB.here h2 o2
theorem truth_bl (b : Bool) : truth (.bl b) = ret b := rfl
theorem tst_not (ha : PT X e (tOfB X.K Tb fun env => bnd (ev C a env) truth)) : PT X (.UnaryOp .Not e pos) (tOfB X.K Tb fun env => bnd (ev C (.not a) env) truth) := by
  refine PT.by fun σ H Q h => ⟨_, pt_not ha, ?_⟩
  have h' : tOfB X.K Tb (fun env => bnd (bnd (ev C a env) truth) fun k => ret (!k)) σ H Q := by
    refine cast ?_ h
    congr 1
    funext env
    simp only [ev]
    rw [bnd_assoc]
    rfl
  refine tOfB.imp (testB (F := fun env k => ret (!k)) h') fun k H1 h1 => ?_
  obtain ⟨β2, α2, st2, env2, o2, en2, h2⟩ := h1
  exact SatB.here h2 o2
/-! what a comparison gives is True or False -/
theorem cmpS_bl {o : Cmp} {x y d : D} {st st' : St} (h : cmpS o x y st = .ok d st') : ∃ k, d = .bl k ∧ st' = st := by
  cases o <;> simp only [cmpS, hasS] at h <;> (try split at h) <;> (try split at h) <;> first
    | (cases h; exact ⟨_, rfl, rfl⟩)
    | cases h
theorem deref_st {d d' : D} {st st' : St} (h : deref d st = .ok d' st') : st' = st := by
  cases d with
  | cell k =>
    simp only [deref] at h
    cases q : st[k]? with
    | none => rw [q] at h; cases h
    | some c =>
      rw [q] at h
      cases c <;> (cases h; rfl)
  | _ => cases h; rfl
theorem cmpD_bl {o : Cmp} {x y d : D} {st st' : St} (h : cmpD o x y st = .ok d st') : ∃ k, d = .bl k ∧ st' = st := by
  unfold cmpD bnd at h
  cases q1 : deref x st with
  | bad => rw [q1] at h; cases h
  | ok x1 st1 =>
    rw [q1] at h
    have e1 := deref_st q1
    subst e1
    simp only at h
    cases q2 : deref y st1 with
    | bad => rw [q2] at h; cases h
    | ok y1 st2 =>
      rw [q2] at h
      have e2 := deref_st q2
      subst e2
      exact cmpS_bl h
theorem tst_cmp (hu : X.A.units + 65 < cLine) (o : Cmp) (hm : behindInMarks o.op r = false) (ha : PE X l (tOf X.K Tb (ev C a))) (hb : PE X r (tOf X.K Tb (ev C b))) : PT X (.Compare l [o.op] [r] pos) (tOfB X.K Tb fun env => bnd (ev C (.cmp o a b) env) truth) := by
  refine PT.by fun σ H Q h => ⟨_, pt_cmpR (op_cmp (Tb := Tb) hu o) ha hb hm, ?_⟩
  obtain ⟨β, α, st, env, ok, e, h⟩ := h
  simp only [ev, bnd_assoc] at h
  show tOf X.K Tb (ev C a) σ H _
  refine tOf_bnd (S := fun α r H => SatB X.K Tb β α r H Q) ok e h (fun _ _ z => z) (fun _ _ _ s h => h.step s) fun d1 st1 v1 α1 H1 _ s1 o1 e1 r1 h1 => ?_
  refine tOf_bnd (S := fun α r H => SatB X.K Tb β α r H Q) o1 e1 h1 (fun _ _ z => z) (fun _ _ _ s h => h.step s) fun d2 st2 v2 α2 H2 _ s2 o2 e2 r2 h2 => ?_
  refine ⟨β, α2, st2, d1, d2, o2, s2.rep r1, r2, ?_⟩
  obtain ⟨d3, st3, q3, h3⟩ := satB_bnd h2
  obtain ⟨k, rfl, rfl⟩ := cmpD_bl q3
  rw [q3]
  intro v3 α3 H3 s3 o3 r3
  exact ⟨k, r3, (SatB.step h3 s3).here o3⟩
theorem tst_chain {e3 : Expr} (hu : X.A.units + 65 < cLine) (o p : Cmp) (hm : behindInMarks p.op e3 = false) (ha : PE X l (tOf X.K Tb (ev C a))) (hb : PE X r (tOf X.K Tb (ev C b))) (hc : PE X e3 (tOf X.K Tb (ev C c))) :
    PT X (.Compare l [o.op, p.op] [r, e3] pos) (tOfB X.K Tb fun env => bnd (ev C (.chain o p a b c) env) truth) := by
  refine PT.by fun σ H Q h => ⟨_, pt_chain (op_cmp (Tb := Tb) hu o) (op_cmp (Tb := Tb) hu p) ha hb hc (by simp only [lastMarks]; exact hm), ?_⟩
  obtain ⟨β, α, st, env, ok, e, h⟩ := h
  simp only [ev, bnd_assoc] at h
  show tOf X.K Tb (ev C a) σ H _
  refine tOf_bnd (S := fun α r H => SatB X.K Tb β α r H Q) ok e h (fun _ _ z => z) (fun _ _ _ s h => h.step s) fun d1 st1 v1 α1 H1 _ s1 o1 e1 r1 h1 => ?_
  refine tOf_bnd (S := fun α r H => SatB X.K Tb β α r H Q) o1 e1 h1 (fun _ _ z => z) (fun _ _ _ s h => h.step s) fun d2 st2 v2 α2 H2 _ s2 o2 e2 r2 h2 => ?_
  obtain ⟨d3, st3, q3, h3⟩ := satB_bnd h2
  obtain ⟨k, st4, q4, h4⟩ := satB_bnd h3
  obtain ⟨rfl, rfl⟩ := boolOf_ok q4
  refine ⟨β, α2, st2, d1, d2, o2, s2.rep r1, r2, ?_⟩
  rw [q3]
  intro v3 α3 H3 s3 o3 r3
  obtain rfl : v3 = .bl k := r3
  refine ⟨k, rfl, ?_⟩
  cases k with
  | true =>
    rw [if_pos rfl]
    simp only [bnd_assoc] at h4
    refine tOf_bnd (S := fun α r H => SatB X.K Tb β α r H Q) o3 (e2.mono s3.pre (s3.le β)) (SatB.step h4 s3) (fun _ _ z => z) (fun _ _ _ s h => h.step s) fun d5 st5 v5 α5 H5 _ s5 o5 e5 r5 h5 => ?_
    refine ⟨β, α5, st5, d2, d5, o5, s5.rep (s3.rep r2), r5, ?_⟩
    obtain ⟨d6, st6, q6, h6⟩ := satB_bnd h5
    obtain ⟨k6, rfl, rfl⟩ := cmpD_bl q6
    rw [q6]
    intro v6 α6 H6 s6 o6 r6
    exact ⟨k6, r6, (SatB.step h6 s6).here o6⟩
  | false =>
    rw [if_neg Bool.false_ne_true]
    exact ⟨false, rfl, SatB.here (SatB.step h4 s3) o3⟩
/-! subscripts -/
theorem snd_idx (hu : X.A.units + 65 < cLine) (hp : PlainIx r) (ha : PE X l (tOf X.K Tb (ev C a))) (hb : PE X r (tOf X.K Tb (ev C b))) : PE X (.Subscript l r pos) (tOf X.K Tb (ev C (.idx a b))) :=
  PE.by fun σ H Q h => ⟨_, pe_ix (ix_any (Tb := Tb) hu) ha hb hp, two (F := idxD) h⟩
theorem bound_some {d : D} {o : Option Int} (h : bound true d = some o) : ∃ i, d = .int i ∧ o = some i := by
  cases d with
  | int i => cases h; exact ⟨i, rfl, rfl⟩
  | _ => cases h
theorem bound_none {d : D} : bound false d = some none := by cases d <;> rfl
theorem slice_bad {x : D} {st : St} {hi : Option (Option Int)} : sliceD x none hi st = .bad := by
  unfold sliceD bnd
  cases deref x st with
  | bad => rfl
  | ok a st' => cases a <;> rfl
theorem slice_bad2 {x : D} {st : St} {lo : Option (Option Int)} : sliceD x lo none st = .bad := by
  unfold sliceD bnd
  cases deref x st with
  | bad => rfl
  | ok a st' => cases a <;> cases lo <;> rfl
/-- a part of a slice: left out, or an int -/
def PartOk (X : Cx) (Tb : List (Addr × Option Str)) (C : CallF) (o : Option Expr) (b : Bool) (m : E) : Prop := match o with
  | none => b = false ∧ m = .con .non
  | some e => b = true ∧ PE X e (tOf X.K Tb (ev C m))
def partV (b : Bool) (x : V) (w : Option Int) : Prop := match b with
  | false => w = none
  | true => ∃ i, x = .int i ∧ w = some i
theorem PO.by {X : Cx} {e : Option Expr} {t : TO} (h : ∀ σ H Q, t σ H Q → ∃ u, PO X e u ∧ u σ H Q) : PO X e t := ⟨fun pins s σ H Q I w => by
  obtain ⟨u, p, q⟩ := h σ H Q w
  exact p.run pins s σ H Q I q⟩
theorem po_of {o : Option Expr} {bl : Bool} (h : PartOk X Tb C o bl a) : PO X o (fun σ H Q => tOf X.K Tb (ev C a) σ H fun x H1 => ∃ w, partV bl x w ∧ Q w H1) := by
  cases o with
  | none =>
    obtain ⟨rfl, rfl⟩ := h
    refine PO.by fun σ H Q hw => ⟨_, po_none, ?_⟩
    obtain ⟨β, α, st, env, o, e, hw⟩ := hw
    obtain ⟨w, rfl, q⟩ := Sat.here (v := .non) hw o rfl
    exact q
  | some e =>
    obtain ⟨rfl, h⟩ := h
    refine PO.by fun σ H Q hw => ⟨_, po_some h, ?_⟩
    refine tOf.imp hw fun v H1 h1 => ?_
    obtain ⟨w, ⟨i, rfl, rfl⟩, q⟩ := h1
    exact ⟨i, rfl, q⟩
theorem bound_part {bl : Bool} {d : D} {w : Option Int} {K : PySem.W.Frag} {α : List Addr} {G : Hp} {x : V} (h : bound bl d = some w) (r : Rep K α G d x) : partV bl x w := by
  cases bl with
  | false => rw [bound_none] at h; cases h; rfl
  | true =>
    obtain ⟨i, rfl, rfl⟩ := bound_some h
    exact ⟨i, r, rfl⟩
theorem snd_slice {lo hi : Option Expr} {p2 : Pos} {bl bh : Bool} (ha : PE X l (tOf X.K Tb (ev C a))) (hl : PartOk X Tb C lo bl b) (hh : PartOk X Tb C hi bh c) : PE X (.Subscript l (.Slice lo hi none p2) pos) (tOf X.K Tb (ev C (.slice bl bh a b c))) := by
  refine PE.by fun σ H Q h => ⟨_, pe_slice (sl_any (Tb := Tb)) ha (po_of hl) (po_of hh), ?_⟩
  obtain ⟨β, α, st, env, o, e, h⟩ := h
  refine tOf_bnd (S := fun α r H => Sat X.K Tb β α r H Q) o e h (fun _ _ z => z) (fun _ _ _ s h => h.step s) fun d1 st1 v1 α1 H1 _ s1 o1 e1 r1 h1 => ?_
  refine tOf_bnd (S := fun α r H => Sat X.K Tb β α r H Q) o1 e1 h1 (fun _ _ z => z) (fun _ _ _ s h => h.step s) fun d2 st2 v2 α2 H2 _ s2 o2 e2 r2 h2 => ?_
  obtain ⟨w, hw⟩ : ∃ w, bound bl d2 = some w := by
    cases q : bound bl d2 with
    | some w => exact ⟨w, rfl⟩
    | none =>
      obtain ⟨d3, st3, _, h3⟩ := sat_bnd h2
      rw [q, slice_bad] at h3
      exact h3.elim
  refine ⟨w, bound_part hw r2, ?_⟩
  refine tOf_bnd (S := fun α r H => Sat X.K Tb β α r H Q) o2 e2 h2 (fun _ _ z => z) (fun _ _ _ s h => h.step s) fun d3 st3 v3 α3 H3 _ s3 o3 e3 r3 h3 => ?_
  obtain ⟨w2, hw2⟩ : ∃ w, bound bh d3 = some w := by
    cases q : bound bh d3 with
    | some w => exact ⟨w, rfl⟩
    | none => rw [q, slice_bad2] at h3; exact h3.elim
  rw [hw, hw2] at h3
  exact ⟨w2, bound_part hw2 r3, β, α3, st3, d1, o3, s3.rep (s2.rep r1), h3⟩
end
end Mp
end
section
set_option Elab.async false
set_option linter.all false
set_option maxRecDepth 100000
/-! Calls. -/
namespace Mp
open PySem PySem.Spec L2 PyProof.Rows
def isStar : Expr → Bool
  | .Starred _ _ => true
  | _ => false
theorem isStar_ne {e : Expr} (h : isStar e = false) : ∀ x p, e ≠ .Starred x p := fun x p z => by rw [z] at h; cases h
theorem no_star {env : PySem.Env} : ∀ {es : List Expr}, (es.all fun e => !isStar e) = true → ((starEach es env).all fun x => !x.1) = true
  | [], _ => rfl
  | e :: es, h => by
    rw [List.all_cons, Bool.and_eq_true] at h
    rw [star_cons (isStar_ne (by simpa using h.1)), List.all_cons, no_star h.2]
    rfl
theorem back_star {pos : Pos} {env : PySem.Env} {es : List Expr} (h : (es.all fun e => !isStar e) = true) : (backTo pos (starEach es env)).any (·.1) = false := by
  have h2 := no_star (env := env) h
  unfold backTo
  rw [List.any_map, List.any_eq_false]
  intro x hx
  have := List.all_eq_true.mp h2 x hx
  simpa using this
section
variable {X : Cx} {Tb : List (Addr × Option Str)} {C : CallF} {a b c : E} {e l r : Expr} {es : List Expr} {pos p : Pos} {x : Str}
/-- where a built-in is found -/
structure PrimAt (X : Cx) (x : Str) (v : Value) : Prop where
  gl : Gl X x
  at_ : (X.mg x = none ∧ bootBuiltins x = some v ∧ x ≠ "__name__") ∨ X.mg x = some v
  db : (x == ("__debug__" : Str)) = false
theorem PrimAt.ld {v : Value} (h : PrimAt X x v) {E : Value → Shared → Prop} {pins : List (Addr × Obj)} {s : Shared} {σ : L2.St} {H : Hp} {Q : Value → Shared → Prop} (I : Inv X pins σ H s) (q : Q v s) : wpAny (model X.prog X.w) X.A (eval (.Name x pos) X.env) Q E s := by
  rcases h.at_ with ⟨h1, h2, h3⟩ | h1
  · exact ld_blt I h.gl h1 h2 q h3 h.db
  · exact ld_glob I h.gl h1 q h.db
/-- f(e, ..) of a built-in -/
theorem pe_blt {v : Value} {rr : List V → Hp → VK → Prop} {t : TA} (hv : (∃ id, v = .builtin id) ∨ ∃ T, v = .type T) (hc : CallR X v rr) (hn : PrimAt X x v) (ha : PA X (e :: es) t) (hs : isStar e = false) (hss : (es.all fun e => !isStar e) = true) :
    PE X (.Call (.Name x p) (e :: es) [] pos) (tCB rr t) := by
  refine ⟨fun pins s σ H Q I h => ?_⟩
  refine wpAny_Call_Name_kw (hn.ld I ?_)
  rcases hv with ⟨id, rfl⟩ | ⟨T, rfl⟩
  · exact PyProof.Rows.callWith_builtin1 (thn (ha.run pos pins s σ H _ I h) fun us s1 ⟨vs, H1, I1, r1, q1⟩ => hc pins s1 σ H1 vs us Q I1 r1 q1) (star_cons (isStar_ne hs)) (back_star hss)
  · exact PyProof.Rows.callWith_type1 (thn (ha.run pos pins s σ H _ I h) fun us s1 ⟨vs, H1, I1, r1, q1⟩ => hc pins s1 σ H1 vs us Q I1 r1 q1) (star_cons (isStar_ne hs)) (back_star hss)
theorem prim_val (p : Prim) : (∃ id, p.val = .builtin id) ∨ ∃ T, p.val = .type T := by
  cases p <;> first
    | exact .inl ⟨_, rfl⟩
    | exact .inr ⟨_, rfl⟩
theorem snd_prim (hc : X.calm = true) (hu : X.A.units + 65 < cLine) (q : Prim) (hq : ∀ cs, q ≠ .isI cs) (hn : PrimAt X x q.val) (ha : PA X (e :: es) (tOfL X.K Tb fun env => bnd (ev C a env) listOf)) (hs : isStar e = false) (hss : (es.all fun e => !isStar e) = true) :
    PE X (.Call (.Name x p) (e :: es) [] pos) (tOf X.K Tb (ev C (.prim q a))) :=
  PE.by fun σ H Q h => ⟨_, pe_blt (prim_val q) (call_prim (Tb := Tb) hc hu q hq) hn ha hs hss, oneL (m := fun env => bnd (ev C a env) listOf) (F := fun l => primD q l) h⟩
/-! own defs -/
def spOf (K : PySem.W.Frag) (Tb : List (Addr × Option Str)) (g : List D → M D) (n : Nat) : Sp := fun vs H Q _ => ∃ β α st l, l.length = n ∧ Ok K Tb β α st H ∧ Reps K α (Mk (β ++ α) H) l vs ∧ Sat K Tb β α (g l st) H Q
/-- a def that may be called -/
structure FnT (P : Program) (w : World) (K : PySem.W.Frag) (mg : Str → Option Value) (base : Heap) (Tb : List (Addr × Option Str)) (k : Nat) (C : CallF) (x : Str) (i n : Nat) : Prop where
  at_ : ∃ f fd ps, mg x = some (.ref f) ∧ PySem.W.keepIn K (.ref f) = true ∧ FnOk P w K mg base CX0 k f fd ps (spOf K Tb (C i) n) ∧ L2.Binds K fd ps []
theorem pass_any {E : XK} : Passes CX0 X E := fun _ _ _ _ _ _ _ h => h.elim
theorem snd_call {k i n : Nat} (hf : FnT X.prog X.w X.K X.mg X.base Tb k C x i n) (hr : Room k X.A) (hg : Gl X x) (hdb : (x == ("__debug__" : Str)) = false) (ha : PA X (e :: es) (tOfL X.K Tb fun env => bnd (ev C a env) listOf)) (hs : isStar e = false) (hss : (es.all fun e => !isStar e) = true) (hn : n = es.length + 1)
    (hl : ∀ env st l st', bnd (ev C a env) listOf st = .ok l st' → l.length = es.length + 1) : PE X (.Call (.Name x p) (e :: es) [] pos) (tOf X.K Tb (ev C (.call i a))) := by
  obtain ⟨f, fd, ps, h1, h2, h3, h4⟩ := hf.at_
  refine PE.by fun σ H Q h => ⟨_, pe_call (E := fun _ _ _ => False) h3 hr hg h1 h2 h4 .nil pass_any ha hdb (star_cons (isStar_ne hs)) (back_star hss), ?_⟩
  show tOfL X.K Tb (fun env => bnd (ev C a env) listOf) σ H fun vs H1 => spOf X.K Tb (C i) n (vs ++ []) H1 Q _
  obtain ⟨β, α, st, env, o, en, h⟩ := h
  refine tOfL_bnd (m := fun env => bnd (ev C a env) listOf) (F := fun l => C i l) (S := fun α r H => Sat X.K Tb β α r H Q) o en h (fun _ _ z => z) (fun _ _ _ s h => h.step s) fun l st1 xs α1 H1 q s o1 e1 r h1 => ?_
  rw [List.append_nil]
  exact ⟨β, α1, st1, l, by rw [hn]; exact hl _ _ _ _ q, o1, r, h1⟩
theorem snd_call0 {k i : Nat} (hf : FnT X.prog X.w X.K X.mg X.base Tb k C x i 0) (hr : Room k X.A) (hg : Gl X x) (hdb : (x == ("__debug__" : Str)) = false) : PE X (.Call (.Name x p) [] [] pos) (tOf X.K Tb (ev C (.call i .nil))) := by
  obtain ⟨f, fd, ps, h1, h2, h3, h4⟩ := hf.at_
  refine PE.by fun σ H Q h => ⟨_, pe_call0 (E := fun _ _ _ => False) h3 hr hg h1 h2 h4 .nil pass_any hdb, ?_⟩
  obtain ⟨β, α, st, env, o, en, h⟩ := h
  exact ⟨β, α, st, [], rfl, o, rfl, h⟩
/-! isinstance -/
def clsName : Nat → String
  | 0 => "int"
  | 1 => "bool"
  | 2 => "str"
  | 3 => "tuple"
  | _ => "list"
def dTy : D → String
  | .non => "NoneType"
  | .bl _ => "bool"
  | .int _ => "int"
  | .str _ => "str"
  | .tup _ => "tuple"
  | .dct _ _ _ => "dict"
  | _ => "list"
theorem kit_tab : ∀ a ∈ (["NoneType", "bool", "int", "str", "tuple", "list", "dict"] : List String), ∀ c ∈ [0, 1, 2, 3, 4], kitB a (clsName c) = some (decide ((a, c) ∈ [("int", 0), ("bool", 0), ("bool", 1), ("str", 2), ("tuple", 3), ("list", 4)])) := by decide +kernel
theorem kit_d {d : D} (hd : ∀ l, d ≠ .scr l) {c : Nat} (hc : c < 5) (K : PySem.W.Frag) : PySem.W.kitOne K (.type (dTy d)) (.type (clsName c)) = some (kindOk d c) := by
  refine kit_ty ?_
  have key : ∀ a, a ∈ (["NoneType", "bool", "int", "str", "tuple", "list", "dict"] : List String) → kitB a (clsName c) = some (decide ((a, c) ∈ [("int", 0), ("bool", 0), ("bool", 1), ("str", 2), ("tuple", 3), ("list", 4)])) := fun a ha => kit_tab a ha c (by
    have : c = 0 ∨ c = 1 ∨ c = 2 ∨ c = 3 ∨ c = 4 := by omega
    rcases this with rfl | rfl | rfl | rfl | rfl <;> decide)
  have hc' : c = 0 ∨ c = 1 ∨ c = 2 ∨ c = 3 ∨ c = 4 := by omega
  cases d <;> first
    | exact absurd rfl (hd _)
    | (rcases hc' with rfl | rfl | rfl | rfl | rfl <;> (rw [key _ (by simp [dTy])]; rfl))
theorem kit_any {d : D} (hd : ∀ l, d ≠ .scr l) (K : PySem.W.Frag) : ∀ {cs : List Nat}, (∀ c ∈ cs, c < 5) → PySem.W.kitAny K (.type (dTy d)) (cs.map fun c => Value.type (clsName c)) = some (cs.any (kindOk d))
  | [], _ => rfl
  | c :: cs, h => by
    rw [List.map_cons, List.any_cons]
    refine kitAny_cons (kit_d hd (h c List.mem_cons_self) K) (fun e => ?_) fun e => ?_
    · rw [e, Bool.false_or]
      exact kit_any hd K fun c hc => h c (List.mem_cons_of_mem _ hc)
    · rw [e, Bool.true_or]
theorem ty_of {K : PySem.W.Frag} {β α : List Addr} {H : Hp} {d : D} {v : V} (hd : ∀ l, d ≠ .scr l) (ht : ∀ t ks vs, d ≠ .dct (t + 1) ks vs) (r : Vw K α (Mk (β ++ α) H) H d v) : TyX K H v (.type (dTy d)) := by
  cases d with
  | non => obtain rfl : v = .non := r; exact .base .non
  | bl b => obtain rfl : v = .bl b := r; exact .base (.bl b)
  | int i => obtain rfl : v = .int i := r; exact .base (.int i)
  | str s => obtain rfl : v = .str s := r; exact .base (.str s)
  | tup l =>
    obtain ⟨a, xs, rfl, h1, _⟩ := r
    exact .base (.tup (mk_some h1).2)
  | lst l =>
    obtain ⟨a, xs, rfl, h1, _⟩ := r
    exact .base (.lst h1)
  | scr l => exact absurd rfl (hd l)
  | cell k => exact r.elim
  | dct t ks vs =>
    obtain ⟨a, xs, rfl, h1, _⟩ := r
    cases t with
    | zero =>
      obtain ⟨kvs, h1, _⟩ := h1
      exact .base (.dK h1)
    | succ t => exact absurd rfl (ht t ks vs)
theorem sat_isI {K : PySem.W.Frag} {β α : List Addr} {st : St} {H : Hp} {d : D} {v : V} {cs : List Nat} {Q : VK} (o : Ok K Tb β α st H) (r : Rep K α (Mk (β ++ α) H) d v) (h : Sat K Tb β α (primD (.isI cs) [d] st) H Q) : ∃ e, (∀ l, e ≠ .scr l) ∧ TyX K H v (.type (dTy e)) ∧ Sat K Tb β α (.ok (.bl (cs.any (kindOk e))) st) H Q := by
  obtain ⟨e, hv, h⟩ := sat_deref o r h
  have hs : ∀ l, e ≠ .scr l := fun l z => by
    subst z
    exact h.elim
  have ht : ∀ t ks vs, e ≠ .dct (t + 1) ks vs := fun t ks vs z => by
    subst z
    exact h.elim
  refine ⟨e, hs, ty_of hs ht hv, ?_⟩
  cases e with
  | scr l => exact absurd rfl (hs l)
  | dct t ks vs =>
    cases t with
    | zero => exact h
    | succ t => exact absurd rfl (ht t ks vs)
  | _ => exact h
theorem ev_one (env : Env) : bnd (ev C (.cons a .nil) env) listOf = bnd (ev C a env) fun x => ret [x] := by
  simp only [ev, bnd_assoc]
  rfl
/-- a built-in class by its name -/
structure TyAt (X : Cx) (x : Str) (n : Nat) : Prop where
  gl : Gl X x
  mg : X.mg x = none
  bt : bootBuiltins x = some (.type (clsName n))
  nm : x ≠ "__name__"
  db : (x == ("__debug__" : Str)) = false
  lt : n < 5
theorem TyAt.pe {n : Nat} (h : TyAt X x n) : PE X (.Name x pos) (tC (.ty (clsName n))) := pe_bltn h.gl h.mg h.bt rfl h.nm h.db
theorem snd_isi {n : Nat} {t : Str} {pt : Pos} (hn : PrimAt X x (.builtin "isinstance")) (ht : TyAt X t n) (ha : PE X e (tOf X.K Tb (ev C a))) (hs : isStar e = false) :
    PE X (.Call (.Name x p) [e, .Name t pt] [] pos) (tOf X.K Tb (ev C (.prim (.isI [n]) (.cons a .nil)))) := by
  refine PE.by fun σ H Q h => ⟨_, pe_blt (.inl ⟨_, rfl⟩) call_isi hn (pa_cons ha (pa_cons ht.pe pa_nil rfl) (star_cons (isStar_ne hs))) hs rfl, ?_⟩
  show tOf X.K Tb (ev C a) σ H _
  have h' : tOf X.K Tb (fun env => bnd (ev C a env) fun x => primD (.isI [n]) [x]) σ H Q := by
    refine cast ?_ h
    congr 1
    funext env
    show bnd (bnd (ev C (.cons a .nil) env) listOf) _ = _
    rw [ev_one, bnd_assoc]
    rfl
  refine tOf.imp (one h') fun v H1 ⟨β, α, st, d, o, r, h1⟩ => ?_
  obtain ⟨d, hd, ht2, h2⟩ := sat_isI o r h1
  refine ⟨v, .ty (clsName n), _, _, _, rfl, .ty _, ht2, kit_d hd ht.lt X.K, ?_⟩
  have e2 : [n].any (kindOk d) = kindOk d n := by simp
  rw [e2] at h2
  exact h2.here o rfl
/-- names of classes, in a tuple -/
def TysAt (X : Cx) : List Expr → List Nat → Prop
  | [], [] => True
  | .Name x _ :: r, n :: ns => TyAt X x n ∧ TysAt X r ns
  | _, _ => False
theorem tys_pa : ∀ {ts : List Expr} {ns : List Nat}, TysAt X ts ns → PA X ts (fun _ H Q => Q (ns.map fun n => V.ty (clsName n)) H)
  | [], [], _ => PA.by fun σ H Q h => ⟨_, pa_nil, h⟩
  | .Name x _ :: r, n :: ns, h => PA.by fun σ H Q hq => ⟨_, pa_cons h.1.pe (tys_pa h.2) rfl, hq⟩
theorem tys_cls (ns : List Nat) : Paired ClsV (ns.map fun n => V.ty (clsName n)) (ns.map fun n => Value.type (clsName n)) := by
  induction ns with
  | nil => exact .nil
  | cons n ns ih => exact .cons (.ty _) ih
theorem tys_lt : ∀ {ts : List Expr} {ns : List Nat}, TysAt X ts ns → ∀ n ∈ ns, n < 5
  | [], [], _, _, h => absurd h (by simp)
  | .Name x _ :: r, n :: ns, h, m, hm => by
    rcases List.mem_cons.mp hm with rfl | hm
    · exact h.1.lt
    · exact tys_lt h.2 m hm
theorem snd_isiT {ns : List Nat} {ts : List Expr} {kt : Nat} {pt : Pos} (hn : PrimAt X x (.builtin "isinstance")) (ht : TysAt X ts ns) (hl : ns.length ≤ 30) (ha : PE X e (tOf X.K Tb (ev C a))) (hs : isStar e = false) :
    PE X (.Call (.Name x p) [e, .Tuple ts kt pt] [] pos) (tOf X.K Tb (ev C (.prim (.isI ns) (.cons a .nil)))) := by
  refine PE.by fun σ H Q h => ⟨_, pe_blt (.inl ⟨_, rfl⟩) call_isiT hn (pa_cons ha (pa_cons (pe_tup (tys_pa ht)) pa_nil rfl) (star_cons (isStar_ne hs))) hs rfl, ?_⟩
  show tOf X.K Tb (ev C a) σ H _
  have h' : tOf X.K Tb (fun env => bnd (ev C a env) fun x => primD (.isI ns) [x]) σ H Q := by
    refine cast ?_ h
    congr 1
    funext env
    show bnd (bnd (ev C (.cons a .nil) env) listOf) _ = _
    rw [ev_one, bnd_assoc]
    rfl
  refine tOf.imp (one h') fun v H1 ⟨β, α, st, d, o, r, h1⟩ => ?_
  refine ⟨by rw [List.length_map, sizeLine_eq]; omega, fun q hq => ?_⟩
  have o2 := o.laid (o := .tup (ns.map fun n => V.ty (clsName n))) hq
  have s2 : Stp α α H1 (upd H1 q (.tup (ns.map fun n => V.ty (clsName n)))) := Stp.laid hq
  obtain ⟨d, hd, ht2, h2⟩ := sat_isI o2 (s2.rep r) (h1.step s2)
  exact ⟨v, q, _, _, _, _, rfl, upd_same, tys_cls ns, ht2, kit_any hd X.K (tys_lt ht), h2.here o2 rfl⟩
/-! a list that changes -/
theorem nodup_at {γ : Type} {l : List γ} (h : l.Nodup) {i j : Nat} {x : γ} (a : l[i]? = some x) (b : l[j]? = some x) : i = j := by
  obtain ⟨hi, ei⟩ := List.getElem?_eq_some_iff.mp a
  obtain ⟨hj, ej⟩ := List.getElem?_eq_some_iff.mp b
  exact (List.getElem_inj h).mp (ei.trans ej.symm)
theorem tabOk_lst {H H1 : Hp} {p : Addr × Option Str} (h : TabOk H p) (e : ∀ b o, H b = some o → ¬ Trk o → H1 b = some o) : TabOk H1 p := by
  have nt : ∀ ps, ¬ Trk (.tbl ps) := fun ps z => by rcases z with ⟨_, z⟩ | ⟨_, z⟩ | ⟨_, z⟩ <;> cases z
  unfold TabOk at h ⊢
  split
  · rename_i q
    rw [q] at h
    obtain ⟨ps, h1, h2⟩ := h
    exact ⟨ps, e _ _ h1 (nt _), h2⟩
  · rename_i q z
    rw [z] at h
    obtain ⟨ps, h1, h2, h3⟩ := h
    refine ⟨ps, e _ _ h1 (nt _), h2, fun pos cv hc => ?_⟩
    obtain ⟨c, e1, e2⟩ := h3 pos cv hc
    exact ⟨c, e1, e _ _ e2 (fun z => by
      unfold LamX.CodeO at z
      rcases z with ⟨_, z⟩ | ⟨_, z⟩ | ⟨_, z⟩ <;> cases z)⟩
theorem mk_upd {av : List Addr} {H : Hp} {q : Addr} {o : HO} (h : q ∈ av) : Mk av (upd H q o) = Mk av H := by
  funext b
  unfold Mk
  split
  · rfl
  · rename_i hb
    exact upd_ne fun z => hb (z ▸ h)
theorem Ok.put {K : PySem.W.Frag} {β α : List Addr} {st : St} {H : Hp} {k : Nat} {q : Addr} {l : List D} {xs : List V} (o : Ok K Tb β α st H) (hk : α[k]? = some q) (r : Reps K α (Mk (β ++ α) H) l xs) :
    Ok K Tb β α (st.set k (.lst l)) (upd H q (.lst xs)) ∧ Stp α α H (upd H q (.lst xs)) := by
  have hq : q ∈ α := List.mem_of_getElem? hk
  have hqa : q ∈ β ++ α := List.mem_append_right _ hq
  obtain ⟨o0, hx0, hnt0⟩ := o.tracked hq
  have hkl : k < st.length := by rw [← o.len]; exact (List.getElem?_eq_some_iff.mp hk).1
  refine ⟨⟨o.nd, o.ap, fun b hb => ?_, by rw [List.length_set]; exact o.len, fun j a m e1 e2 => ?_, fun j a t ks vs e1 e2 => ?_, fun p hp => ?_⟩, ⟨List.prefix_rfl, fun _ h => .inl h, fun b u hb e _ => ?_, fun b ps hb e => ?_⟩⟩
  · obtain ⟨ys, e⟩ := o.bl b hb
    have : b ≠ q := fun z => o.ap q hq (z ▸ hb)
    exact ⟨ys, by rw [upd_ne this]; exact e⟩
  · rw [mk_upd hqa]
    by_cases hj : k = j
    · subst hj
      rw [hk] at e1
      cases e1
      rw [List.getElem?_set_self hkl] at e2
      cases e2
      exact ⟨xs, upd_same, r⟩
    · rw [List.getElem?_set_ne hj] at e2
      obtain ⟨ys, h1, h2⟩ := o.cells j a m e1 e2
      have hne : a ≠ q := fun z => by
        subst z
        exact hj (nodup_at o.nd hk e1)
      exact ⟨ys, by rw [upd_ne hne]; exact h1, h2⟩
  · rw [mk_upd hqa]
    by_cases hj : k = j
    · subst hj
      rw [List.getElem?_set_self hkl] at e2
      cases e2
    · rw [List.getElem?_set_ne hj] at e2
      obtain ⟨ys, h1, h2⟩ := o.dcells j a t ks vs e1 e2
      have hne : a ≠ q := fun z => by
        subst z
        exact hj (nodup_at o.nd hk e1)
      exact ⟨ys, h1.at_ (upd_ne hne), h2⟩
  · refine tabOk_lst (o.tabs p hp) fun b u e hn => ?_
    have : b ≠ q := fun z => by
      rw [z, hx0] at e
      cases e
      exact hn hnt0
    rw [upd_ne this]
    exact e
  · rw [upd_ne (fun z : b = q => hb (z ▸ hq))]
    exact e
  · exact ⟨ps, by rw [upd_ne (fun z : b = q => hb (z ▸ hq))]; exact e⟩
theorem Ok.putD {K : PySem.W.Frag} {β α : List Addr} {st : St} {H : Hp} {k : Nat} {q : Addr} {t : Nat} {ks vs : List D} {xs : List V} {ob : HO} (o : Ok K Tb β α st H) (hk : α[k]? = some q) (hd : DHo (upd H q ob) q t ks xs) (r : Reps K α (Mk (β ++ α) H) vs xs) :
    Ok K Tb β α (st.set k (.dct t ks vs)) (upd H q ob) ∧ Stp α α H (upd H q ob) := by
  have hq : q ∈ α := List.mem_of_getElem? hk
  have hqa : q ∈ β ++ α := List.mem_append_right _ hq
  obtain ⟨o0, hx0, hnt0⟩ := o.tracked hq
  have hkl : k < st.length := by rw [← o.len]; exact (List.getElem?_eq_some_iff.mp hk).1
  refine ⟨⟨o.nd, o.ap, fun b hb => ?_, by rw [List.length_set]; exact o.len, fun j a m e1 e2 => ?_, fun j a u is ws e1 e2 => ?_, fun p hp => ?_⟩, ⟨List.prefix_rfl, fun _ h => .inl h, fun b u hb e _ => ?_, fun b ps hb e => ?_⟩⟩
  · obtain ⟨ys, e⟩ := o.bl b hb
    have : b ≠ q := fun z => o.ap q hq (z ▸ hb)
    exact ⟨ys, by rw [upd_ne this]; exact e⟩
  · rw [mk_upd hqa]
    by_cases hj : k = j
    · subst hj
      rw [List.getElem?_set_self hkl] at e2
      cases e2
    · rw [List.getElem?_set_ne hj] at e2
      obtain ⟨ys, h1, h2⟩ := o.cells j a m e1 e2
      have hne : a ≠ q := fun z => by
        subst z
        exact hj (nodup_at o.nd hk e1)
      exact ⟨ys, by rw [upd_ne hne]; exact h1, h2⟩
  · rw [mk_upd hqa]
    by_cases hj : k = j
    · subst hj
      rw [hk] at e1
      cases e1
      rw [List.getElem?_set_self hkl] at e2
      cases e2
      exact ⟨xs, hd, r⟩
    · rw [List.getElem?_set_ne hj] at e2
      obtain ⟨ys, h1, h2⟩ := o.dcells j a u is ws e1 e2
      have hne : a ≠ q := fun z => by
        subst z
        exact hj (nodup_at o.nd hk e1)
      exact ⟨ys, h1.at_ (upd_ne hne), h2⟩
  · refine tabOk_lst (o.tabs p hp) fun b u e hn => ?_
    have : b ≠ q := fun z => by
      rw [z, hx0] at e
      cases e
      exact hn hnt0
    rw [upd_ne this]
    exact e
  · rw [upd_ne (fun z : b = q => hb (z ▸ hq))]
    exact e
  · exact ⟨ps, by rw [upd_ne (fun z : b = q => hb (z ▸ hq))]; exact e⟩
/-! append -/
theorem snd_app {apos cpos : Pos} {o : Expr} (ho : PE X o (tOf X.K Tb (ev C a))) (ha : PE X e (tOf X.K Tb (ev C b))) (hs : isStar e = false) (hbase : attributeBase o "append" X.env (eval o X.env) = eval o X.env) (hline : (apos.endLine == cpos.line) = true) :
    PE X (.Call (.Attribute o "append" apos) [e] [] cpos) (tOf X.K Tb (ev C (.meth .append a (.cons b .nil)))) := by
  have hst : starEach [e] X.env = (false, eval e X.env) :: starEach [] X.env := star_cons (isStar_ne hs)
  refine PE.by fun σ H Q h => ⟨_, pe_bm (es := []) PySem.F.plainAttrs_list PySem.F.slot_list_append PySem.F.type_list_append mt_append ho (pa_cons ha pa_nil hst) hbase (by rw [hst]; rfl) hline hst rfl, ?_⟩
  show tOf X.K Tb (ev C a) σ H _
  have h' : tOf X.K Tb (fun env => bnd (ev C a env) fun x => bnd (lstC x) fun _ => bnd (ev C b env) fun y => methD .append x [y]) σ H Q := by
    refine cast ?_ h
    congr 1
    funext env
    simp only [ev, bnd_assoc]
    rfl
  obtain ⟨β, α, st, env, ok, en, h⟩ := h'
  refine tOf_bnd (S := fun α r H => Sat X.K Tb β α r H Q) ok en h (fun _ _ z => z) (fun _ _ _ s h => h.step s) fun d1 st1 v1 α1 H1 _ s1 o1 e1 r1 h1 => ?_
  obtain ⟨_, stc, hc, h1c⟩ := sat_bnd h1
  clear h1
  have hcell : ∃ k l1, d1 = .cell k ∧ st1[k]? = some (.lst l1) ∧ stc = st1 := by
    cases d1 with
    | cell k =>
      simp only [lstC] at hc
      split at hc
      · rename_i l1 hl1
        cases hc
        exact ⟨k, l1, rfl, hl1, rfl⟩
      · cases hc
    | _ => cases hc
  obtain ⟨k, l1, rfl, hl1, rfl⟩ := hcell
  obtain ⟨q, rfl, hq⟩ := r1
  obtain ⟨xs1, hx1, _⟩ := o1.cells k q l1 hq hl1
  refine ⟨.inl ⟨rfl, xs1, SqL.of hx1⟩, ?_⟩
  show tOf X.K Tb (ev C b) σ H1 _
  refine tOf_bnd (S := fun α r H => Sat X.K Tb β α r H Q) o1 e1 h1c (fun _ _ z => z) (fun _ _ _ s h => h.step s) fun d2 st2 v2 α2 H2 _ s2 o2 e2 r2 h2 => ?_
  have hq2 := pre_get s2.pre hq
  have hl2 : ∃ l2, st2[k]? = some (.lst l2) := by
    cases z : st2[k]? with
    | none => simp only [methD, z] at h2; exact h2.elim
    | some c =>
      cases c with
      | lst l => exact ⟨l, rfl⟩
      | dct t ks vs => simp only [methD, z] at h2; exact h2.elim
  obtain ⟨l2, hs2⟩ := hl2
  obtain ⟨xs2, hx2, rx2⟩ := o2.cells k q l2 hq2 hs2
  simp only [methD, hs2] at h2
  split at h2
  · rename_i hlt
    have hlt' : l2.length < line := by simpa using hlt
    refine ⟨q, xs2, v2, rfl, rfl, hx2, by rw [rx2.length, ← line_eq]; exact hlt', ?_⟩
    obtain ⟨o3, s3⟩ := o2.put hq2 (rx2.append (Reps.one r2))
    exact (h2.step s3).here o3 rfl
  · exact h2.elim
end
end Mp
end
section
set_option Elab.async false
set_option linter.all false
set_option maxRecDepth 100000
set_option maxHeartbeats 2000000
/-! pop, extend. -/
namespace Mp
open PySem PySem.Spec PyProof.Rows L2
section
set_option maxRecDepth 8000
/-- a list grows by a tuple's items -/
theorem ext_tup (l : Addr) (xs : Array Value) (n : Nat) (b : Addr) (ys : Array Value) (m : Nat) (dd : Option Addr) (sl : Array (Option Value))
    (h1 : ¬(!xs.isEmpty && Builtin.List.listTooLong (xs.size + ys.size)) = true) (h2 : xs.size ≤ sizeLine) (h3 : xs.size + ys.size ≤ sizeLine + 1) :
    Meets (Builtin.«list.extend» ⟨[.ref l, .ref b], []⟩) (fun _ R s =>
      s.heap.get? l = some { cls := .type "list", dict := none, data := .seq xs n, slots := #[] } ∧
      s.heap.get? b = some { cls := .type "tuple", dict := dd, data := .seq ys m, slots := sl } ∧
      R (.ok (.ret Value.none)) { s with heap := s.heap.update l (Obj.mapSeq fun x => x ++ ys), toks := s.toks }) :=
  .of_wp fun prog w A R s h => by
    obtain ⟨hp, g, d, tk, os⟩ := s
    obtain ⟨hl, hb, h⟩ := h
    have f1 := AutoSeq1.idx_int
    have f2 := AutoSeq1.sub_tuple_tuple
    have f3 := AutoSeq1.sub_list_list
    have f4 := AutoSeq1.sub_tuple_list
    have f5 := AutoSeq1.sub_list_tuple
    have hz' : (xs ++ ys).size ≤ sizeLine + 1 := by
      rw [Array.size_append]
      exact h3
    wp_walk using (wpAny_updateSeq hl rfl (hz := h2) (_hz' := hz')), AutoSeq1.wpAny_loadPart' hl, AutoSeq1.wpAny_loadPart' hb
    exact ⟨_, rfl, h⟩
end
def rExtT : V → List V → Hp → VK → Prop := fun x vs H Q => ∃ l b xs zs, x = .ref l ∧ vs = [.ref b] ∧ H l = some (.lst xs) ∧ H b = some (.tup zs) ∧ xs.length + zs.length ≤ sizeLine ∧ Q .non (upd H l (.lst (xs ++ zs)))
theorem mt_extT {X : Cx} : MtM X "list.extend" rExtT := by
  intro pins s σ H x vs v us Q I rx rv h
  obtain ⟨l, b, xs, zs, rfl, rfl, hH, hB, hz, q⟩ := h
  cases rx
  obtain ⟨u, rfl, ru⟩ := rv.one
  cases ru
  obtain ⟨z, its, n, r, hl, e⟩ := I.lstM hH
  obtain ⟨z2, its2, r2, o, ho, hc, n2, hd⟩ := (show ObjOk X.prog X.w H s.heap b (.tup zs) from I.hok b _ hB)
  obtain ⟨oc, od, odt, osl⟩ := o
  cases hc
  cases hd
  have hl2 := r2.length
  have hsz : its.toArray.size + its2.toArray.size ≤ sizeLine := by
    rw [List.size_toArray, List.size_toArray]
    omega
  have hlong : ¬ (!its.toArray.isEmpty && Builtin.List.listTooLong (its.toArray.size + its2.toArray.size)) = true := by
    rw [notLongL hsz, Bool.and_false]
    exact Bool.false_ne_true
  refine call_meets PySem.F.slot_list_extend ⟨_, e, rfl⟩ PySem.F.entry_list_extend (PySem.F.args_list_extend_2 _ _) (ext_tup l its.toArray n b its2.toArray n2 od osl hlong (by rw [List.size_toArray]; omega) (by omega)) ⟨e, ho, ?_⟩
  refine ⟨.non, _, I.lset (its' := its ++ its2) hH e (by simp) (r.append r2) ?_, rfl, q⟩
  rw [List.length_append]
  omega
section
variable {X : Cx} {Tb : List (Addr × Option Str)} {C : CallF} {a b : E} {e : Expr} {pos : Pos}
theorem lstC_is {x : D} {st st' : St} {u : Unit} (h : lstC x st = .ok u st') : ∃ k l, x = .cell k ∧ st[k]? = some (.lst l) ∧ st' = st := by
  cases x with
  | cell k =>
    simp only [lstC] at h
    split at h
    · rename_i l hl
      cases h
      exact ⟨k, l, rfl, hl, rfl⟩
    · cases h
  | _ => cases h
theorem meth_lst {m : Meth} {k : Nat} {l : List D} {st st' : St} {d : D} (h : methD m (.cell k) l st = .ok d st') : ∃ xs, st[k]? = some (.lst xs) := by
  cases q : st[k]? with
  | none =>
    rcases l with _ | ⟨a, _ | ⟨b, r⟩⟩ <;> (try cases a) <;> cases m <;> first
      | (simp only [methD, q] at h; cases h)
      | (simp only [methD] at h; cases h)
      | cases h
  | some c =>
    cases c with
    | lst xs => exact ⟨xs, rfl⟩
    | dct t ks vs =>
      rcases l with _ | ⟨a, _ | ⟨b, r⟩⟩ <;> (try cases a) <;> cases m <;> first
        | (simp only [methD, q] at h; cases h)
        | (simp only [methD] at h; cases h)
        | cases h
theorem Reps.dropLast {K : PySem.W.Frag} {α : List Addr} {G : Hp} {l : List D} {xs : List V} (h : Reps K α G l xs) : Reps K α G l.dropLast xs.dropLast := by
  rw [List.dropLast_eq_take, List.dropLast_eq_take, h.length]
  exact h.take _
theorem Reps.erase {K : PySem.W.Frag} {α : List Addr} {G : Hp} : ∀ {l : List D} {xs : List V} (i : Nat), Reps K α G l xs → Reps K α G (l.eraseIdx i) (xs.eraseIdx i)
  | [], _, _, h => by
    cases h
    exact rfl
  | d :: r, _, 0, ⟨x, ys, e, h1, h2⟩ => by
    rw [e]
    exact h2
  | d :: r, _, i + 1, ⟨x, ys, e, h1, h2⟩ => by
    rw [e]
    exact ⟨x, ys.eraseIdx i, rfl, h1, Reps.erase i h2⟩
/-- x.pop() -/
theorem snd_pop {apos cpos : Pos} {o : Expr} (ho : PE X o (tOf X.K Tb (ev C a))) (hbase : attributeBase o "pop" X.env (eval o X.env) = eval o X.env) (hline : (apos.endLine == cpos.line) = true) :
    PE X (.Call (.Attribute o "pop" apos) [] [] cpos) (tOf X.K Tb (ev C (.meth .pop a .nil))) := by
  refine PE.by fun σ H Q h => ⟨_, pe_bm0 PySem.F.plainAttrs_list PySem.F.slot_list_pop PySem.F.type_list_pop mt_pop ho hbase hline, ?_⟩
  show tOf X.K Tb (ev C a) σ H _
  obtain ⟨β, α, st, env, ok, en, h⟩ := h
  replace h : Sat X.K Tb β α (bnd (ev C a env) (fun x => bnd (lstC x) fun _ => methD .pop x []) st) H Q := h
  refine tOf_bnd (S := fun α r H => Sat X.K Tb β α r H Q) ok en h (fun _ _ z => z) (fun _ _ _ s h => h.step s) fun d1 st1 v1 α1 H1 _ s1 o1 e1 r1 h1 => ?_
  obtain ⟨_, stc, hc, h2⟩ := sat_bnd h1
  obtain ⟨k, l, rfl, hl, rfl⟩ := lstC_is hc
  obtain ⟨q, rfl, hq⟩ := r1
  obtain ⟨xs, hx, rx⟩ := o1.cells k q l hq hl
  simp only [methD, hl] at h2
  split at h2
  · rename_i y hy
    have hlen := rx.length
    have hy' : l[l.length - 1]? = some y := by rw [← List.getLast?_eq_getElem?]; exact hy
    obtain ⟨z, hz, rz⟩ := rx.get hy'
    refine ⟨.inl ⟨rfl, xs, SqL.of hx⟩, ?_⟩
    refine ⟨q, xs, z, rfl, rfl, hx, by rw [hlen]; exact hz, ?_⟩
    obtain ⟨o3, s3⟩ := o1.put hq rx.dropLast
    exact (h2.step s3).here o3 (s3.rep rz)
  · exact h2.elim
/-- x.pop(i) -/
theorem snd_popAt {apos cpos : Pos} {o : Expr} (ho : PE X o (tOf X.K Tb (ev C a))) (ha : PE X e (tOf X.K Tb (ev C b))) (hs : isStar e = false) (hbase : attributeBase o "pop" X.env (eval o X.env) = eval o X.env) (hline : (apos.endLine == cpos.line) = true) :
    PE X (.Call (.Attribute o "pop" apos) [e] [] cpos) (tOf X.K Tb (ev C (.meth .popAt a (.cons b .nil)))) := by
  have hst : starEach [e] X.env = (false, eval e X.env) :: starEach [] X.env := star_cons (isStar_ne hs)
  refine PE.by fun σ H Q h => ⟨_, pe_bm (es := []) PySem.F.plainAttrs_list PySem.F.slot_list_pop PySem.F.type_list_pop mt_popAt ho (pa_cons ha pa_nil hst) hbase (by rw [hst]; rfl) hline hst rfl, ?_⟩
  show tOf X.K Tb (ev C a) σ H _
  have h' : tOf X.K Tb (fun env => bnd (ev C a env) fun x => bnd (lstC x) fun _ => bnd (ev C b env) fun y => methD .popAt x [y]) σ H Q := by
    refine cast ?_ h
    congr 1
    funext env
    simp only [ev, bnd_assoc]
    rfl
  obtain ⟨β, α, st, env, ok, en, h⟩ := h'
  refine tOf_bnd (S := fun α r H => Sat X.K Tb β α r H Q) ok en h (fun _ _ z => z) (fun _ _ _ s h => h.step s) fun d1 st1 v1 α1 H1 _ s1 o1 e1 r1 h1 => ?_
  obtain ⟨_, stc, hc, h1c⟩ := sat_bnd h1
  obtain ⟨k, l1, rfl, hl1, rfl⟩ := lstC_is hc
  obtain ⟨q, rfl, hq⟩ := r1
  obtain ⟨xs1, hx1, _⟩ := o1.cells k q l1 hq hl1
  refine ⟨.inl ⟨rfl, xs1, SqL.of hx1⟩, ?_⟩
  show tOf X.K Tb (ev C b) σ H1 _
  refine tOf_bnd (S := fun α r H => Sat X.K Tb β α r H Q) o1 e1 h1c (fun _ _ z => z) (fun _ _ _ s h => h.step s) fun d2 st2 v2 α2 H2 _ s2 o2 e2 r2 h2 => ?_
  have hq2 := pre_get s2.pre hq
  obtain ⟨dd, stq, hmq, _⟩ : ∃ dd stq, methD .popAt (.cell k) [d2] st2 = .ok dd stq ∧ True := by
    cases z : methD .popAt (.cell k) [d2] st2 with
    | bad => rw [z] at h2; exact h2.elim
    | ok dd stq => exact ⟨dd, stq, rfl, trivial⟩
  obtain ⟨l2, hs2⟩ := meth_lst hmq
  obtain ⟨xs2, hx2, rx2⟩ := o2.cells k q l2 hq2 hs2
  obtain ⟨i, rfl⟩ : ∃ i, d2 = .int i := by
    cases d2 with
    | int i => exact ⟨i, rfl⟩
    | _ => simp only [methD] at hmq; cases hmq
  obtain rfl : v2 = .int i := r2
  simp only [methD, hs2] at h2
  split at h2
  · rename_i j hj
    split at hj
    case isFalse => cases hj
    rename_i hlim
    have hlim := Nat.le_of_ble_eq_true hlim
    split at h2
    · rename_i y hy
      obtain ⟨z, hz, rz⟩ := rx2.get hy
      obtain ⟨g1, g2, g3, g4⟩ := ixN_seq (n := xs2.length) (i := i) (j := j) (by rw [rx2.length]; exact hj)
      have hline2 : xs2.length ≤ sizeLine := by rw [rx2.length, ← line_eq]; exact hlim
      have e63 : (sizeLine : Int) < 2 ^ 63 := by rw [sizeLine_eq]; decide
      refine ⟨q, xs2, i, j, z, rfl, rfl, hx2, by omega, by omega, g1, hz, ?_⟩
      · obtain ⟨o3, s3⟩ := o2.put hq2 (rx2.erase j)
        exact (h2.step s3).here o3 (s3.rep rz)
    · exact h2.elim
  · exact h2.elim
/-- x.extend(t) -/
theorem snd_ext {apos cpos : Pos} {o : Expr} (ho : PE X o (tOf X.K Tb (ev C a))) (ha : PE X e (tOf X.K Tb (ev C b))) (hs : isStar e = false) (hbase : attributeBase o "extend" X.env (eval o X.env) = eval o X.env) (hline : (apos.endLine == cpos.line) = true) :
    PE X (.Call (.Attribute o "extend" apos) [e] [] cpos) (tOf X.K Tb (ev C (.meth .extend a (.cons b .nil)))) := by
  have hst : starEach [e] X.env = (false, eval e X.env) :: starEach [] X.env := star_cons (isStar_ne hs)
  refine PE.by fun σ H Q h => ⟨_, pe_bm (es := []) PySem.F.plainAttrs_list PySem.F.slot_list_extend PySem.F.type_list_extend mt_extT ho (pa_cons ha pa_nil hst) hbase (by rw [hst]; rfl) hline hst rfl, ?_⟩
  show tOf X.K Tb (ev C a) σ H _
  have h' : tOf X.K Tb (fun env => bnd (ev C a env) fun x => bnd (lstC x) fun _ => bnd (ev C b env) fun y => methD .extend x [y]) σ H Q := by
    refine cast ?_ h
    congr 1
    funext env
    simp only [ev, bnd_assoc]
    rfl
  obtain ⟨β, α, st, env, ok, en, h⟩ := h'
  refine tOf_bnd (S := fun α r H => Sat X.K Tb β α r H Q) ok en h (fun _ _ z => z) (fun _ _ _ s h => h.step s) fun d1 st1 v1 α1 H1 _ s1 o1 e1 r1 h1 => ?_
  obtain ⟨_, stc, hc, h1c⟩ := sat_bnd h1
  obtain ⟨k, l1, rfl, hl1, rfl⟩ := lstC_is hc
  obtain ⟨q, rfl, hq⟩ := r1
  obtain ⟨xs1, hx1, _⟩ := o1.cells k q l1 hq hl1
  refine ⟨.inl ⟨rfl, xs1, SqL.of hx1⟩, ?_⟩
  show tOf X.K Tb (ev C b) σ H1 _
  refine tOf_bnd (S := fun α r H => Sat X.K Tb β α r H Q) o1 e1 h1c (fun _ _ z => z) (fun _ _ _ s h => h.step s) fun d2 st2 v2 α2 H2 _ s2 o2 e2 r2 h2 => ?_
  have hq2 := pre_get s2.pre hq
  obtain ⟨dd, stq, hmq, _⟩ : ∃ dd stq, methD .extend (.cell k) [d2] st2 = .ok dd stq ∧ True := by
    cases z : methD .extend (.cell k) [d2] st2 with
    | bad => rw [z] at h2; exact h2.elim
    | ok dd stq => exact ⟨dd, stq, rfl, trivial⟩
  obtain ⟨l2, hs2⟩ := meth_lst hmq
  obtain ⟨xs2, hx2, rx2⟩ := o2.cells k q l2 hq2 hs2
  obtain ⟨m, rfl⟩ : ∃ m, d2 = .tup m := by
    cases d2 with
    | tup m => exact ⟨m, rfl⟩
    | _ => simp only [methD] at hmq; cases hmq
  obtain ⟨t, ys, rfl, ht, ry⟩ := r2
  simp only [methD, hs2] at h2
  split at h2
  · rename_i hlen
    have hlen := Nat.le_of_ble_eq_true hlen
    refine ⟨q, t, xs2, ys, rfl, rfl, hx2, (mk_some ht).2, by rw [rx2.length, ry.length, ← line_eq]; exact hlen, ?_⟩
    obtain ⟨o3, s3⟩ := o2.put hq2 (rx2.append ry)
    exact (h2.step s3).here o3 rfl
  · exact h2.elim
end
end Mp
end
section
set_option Elab.async false
set_option linter.all false
set_option maxRecDepth 100000
set_option maxHeartbeats 1000000
/-! What is walked: lists, tuples, ranges, their numberings. -/
namespace Mp
open PySem PySem.Spec L2 PyProof.Rows
theorem meets_enum1 {v : Value} {o : Obj} {H : Heap → Prop} (B : Begins v o H) :
    Meets (Builtin.«enumerate.__new__» ⟨[.type "enumerate", v], []⟩) (fun _ R s => H s.heap ∧
      R (.ok (.ret (.ref (s.heap.push o).objs.size))) { s with heap := (s.heap.push o).push { cls := .type "enumerate", data := .fields #[.none, .bool false, .ref s.heap.objs.size, rawInt 0, .none, .none] } }) :=
  .of_wp fun prog w A R s h => by
    obtain ⟨hp, g, d, tk, os⟩ := s; obtain ⟨h1, h⟩ := h
    have hsub := sub_enumerate
    have q1 : ∀ {A' : Around} {E : Value → Shared → Prop} {Q : Value → Shared → Prop}, Q (.ref hp.objs.size) ⟨hp.push o, g, d, tk, os⟩ → wpAny (model prog w) A' (pyIter v) Q E ⟨hp, g, d, tk, os⟩ :=
      fun q => B.iter prog w _ _ ⟨hp, g, d, tk, os⟩ _ h1 q
    wp_walk using q1
    refine wpAny_stack_any fun st => wpAny_pure ?_
    split
    · rename_i c _ _ _ _ _
      cases (c == Value.type "enumerate")
      · wp_walk using q1
        exact ⟨_, rfl, h⟩
      · wp_walk using q1
        exact ⟨_, rfl, h⟩
    · wp_walk using q1
      exact ⟨_, rfl, h⟩
theorem call_enum1 {prog : Program} {w : World} {A : Around} {E : Value → Shared → Prop} {s : Shared} {v : Value} {o : Obj} {H : Heap → Prop} {Q : Value → Shared → Prop} (B : Begins v o H) (h1 : H s.heap)
    (h : ∀ h', IsEnum h' (s.heap.objs.size + 1) s.heap.objs.size 0 .none → h'.get? s.heap.objs.size = some o → h'.objs.size = s.heap.objs.size + 2 →
      (∀ b o, s.heap.get? b = some o → h'.get? b = some o) → Q (.ref (s.heap.objs.size + 1)) { s with heap := h' }) :
    wpAny (model prog w) A (call (.type "enumerate") [v]) Q E s := by
  refine callType_new F.called_enumerate (by decide) (F.typeCall_enumerate_1 _) (F.newCall_enumerate_1 _) (fun obj => F.args_object_init_2 obj _) F.entry_enumerate_new (meets_enum1 B) ⟨h1, ?_⟩
  have hz : (s.heap.push o).objs.size = s.heap.objs.size + 1 := Heap.size_push ..
  show _ ∧ _
  rw [hz]
  have he : IsEnum ((s.heap.push o).push { cls := .type "enumerate", data := .fields #[.none, .bool false, .ref s.heap.objs.size, rawInt 0, .none, .none] }) (s.heap.objs.size + 1) s.heap.objs.size 0 .none := by
    have := Heap.get?_push_size (s.heap.push o) (o := { cls := .type "enumerate", data := .fields #[.none, .bool false, .ref s.heap.objs.size, rawInt 0, .none, .none] }) rfl
    rw [hz] at this; exact this
  refine ⟨⟨_, he, rfl⟩, h _ he (Heap.get?_push_of_some _ (Heap.get?_push_size _ B.free)) (by rw [Heap.size_push, hz]) fun b o x => Heap.get?_push_of_some _ (Heap.get?_push_of_some _ x)⟩
/-- the tuple at a, each item in a new pair -/
def Itet (K : PySem.W.Frag) (a : Addr) : It :=
  ⟨fun i H => ∃ (xs : List V) (x : V), SqT K H a xs ∧ xs[i]? = some x, fun i H v H' => ∃ T x, v = .ref T ∧ H T = none ∧ H' = upd H T (.tup [.int (i : Nat), x]) ∧ ∀ xs, SqT K H a xs → xs[i]? = some x, fun i H => ∃ xs : List V, SqT K H a xs ∧ xs.length ≤ i⟩
theorem turn_enumT {P : Program} {w : World} {K : PySem.W.Frag} {elts : List Expr} {kk : Nat} {tpos : Pos} (a e it : Addr) (hat : a ≠ it) (hea : a ≠ e) :
    Turn P w K (.Tuple elts kk tpos) (Itet K a) [e, it] e (fun i h => (∃ old, IsEnum h e it ((i : Nat) : Int) old) ∧ h.IsTupleIter it a i ∧ e ≠ it) where
  mem := by simp
  obj := fun i h st b hb => by
    obtain ⟨⟨old, he⟩, ⟨o, ho, hc, hd⟩, _⟩ := st
    have e' : b = e ∨ b = it := by simpa using hb
    rcases e' with z | z
    · rw [z]; exact ⟨_, he, fun v q => nomatch q⟩
    · rw [z]; exact ⟨o, ho, fun v q => by rw [hd] at q; cases q⟩
  keep := fun i h h' st k => let ⟨⟨old, he⟩, hi, hne⟩ := st; ⟨⟨old, k e (by simp) _ he⟩, hi.at fun o q => k it (by simp) o q, hne⟩
  item := by
    intro X hP hw hK hc i pins s σ H E I hf st hg
    subst hP hw hK
    obtain ⟨⟨old, he⟩, hit, hne⟩ := st
    obtain ⟨xs, x, hq, hx⟩ := hg
    obtain ⟨its, rv, p, hz⟩ := I.tuple hq
    obtain ⟨u, hu, ru⟩ := rv.get hx
    have hel : e < s.heap.objs.size := Heap.lt_size he
    have hil : it < s.heap.objs.size := by obtain ⟨_, q, _⟩ := hit; exact Heap.lt_size q
    have D := Draws.tuple (prog := X.prog) (w := X.w) (A := X.A.in1) (I.ok.hd hc) it a hat its.toArray
    have hlt : i < its.toArray.size := by
      have h1 : i < xs.length := (List.getElem?_eq_some_iff.mp hx).1
      have h2 := rv.length
      simp only [List.size_toArray]
      omega
    refine wpAny_pyNext_enum_itemD D he ⟨hit, show s.heap.IsTuple a its.toArray from p⟩ hlt hne (by simp [hne, Ne.symm hea]) fun y h' tk hy ho hst' hT hsz hk => ?_
    have hyu : y = u := by
      have h1 : its[i]? = some y := by simpa using hy
      rw [hu] at h1
      exact (Option.some.inj h1).symm
    subst hyu
    refine ⟨_, rfl, wpAny_letOwnedTupleGo_enum (s := { s with heap := h', toks := tk + 1 }) ho fun h'' he' sb => ?_⟩
    have hT2 : h''.get? s.heap.objs.size = some { cls := .type "tuple", data := .seq #[.int i tk, y] } := (sb.2 _ (Nat.ne_of_gt hel)).trans hT
    have new : ObjOk X.prog X.w (upd H s.heap.objs.size (.tup [.int (i : Nat), x])) h'' s.heap.objs.size (.tup [.int (i : Nat), x]) :=
      ⟨by show 2 ≤ sizeLine; decide, [.int i tk, y], .cons ⟨_, rfl⟩ (.cons ru .nil), ⟨_, hT2, rfl, _, rfl⟩⟩
    have I1 : Inv X pins σ (upd H s.heap.objs.size (.tup [.int (i : Nat), x])) { s with heap := h'', toks := tk + 1 } :=
      I.turnedNew (ch := [e, it]) (fun b ob hb q => (sb.2 b (fun z => hb (by simp [z]))).trans (hk b ob (fun z => hb (by simp [z])) (fun z => hb (by simp [z])) q)) hf (Nat.le_refl _) new
    refine ⟨.ref s.heap.objs.size, _, I1, rfl, ⟨_, x, rfl, I.hok.fresh (Nat.le_refl _), rfl, fun ys hy => by rw [I.tuple_inj hy hq]; exact hx⟩, ⟨⟨y, ?_⟩, hst'.1.at fun o q => (sb.2 it (Ne.symm hne)).trans q, hne⟩, fun b hb => ?_⟩
    · have e1 : ((i + 1 : Nat) : Int) = (i : Int) + 1 := by omega
      rw [e1]; exact he'
    · have hb' : b < s.heap.objs.size := by
        have e' : b = e ∨ b = it := by simpa using hb
        rcases e' with z | z
        · rw [z]; exact hel
        · rw [z]; exact hil
      rw [upd_ne (Nat.ne_of_lt hb')]
      exact (hf b hb).1
  done := by
    intro X hP hw hK hc i pins s σ H E I hf st hg
    subst hP hw hK
    obtain ⟨⟨old, he⟩, hit, hne⟩ := st
    obtain ⟨xs, hq, hx⟩ := hg
    obtain ⟨its, rv, p, hz⟩ := I.tuple hq
    obtain ⟨f0, f1, f2, f3, f4, f5⟩ := hf it (by simp)
    have hl := rv.length
    have D : Draws X.prog X.w X.A.in1 it [it, a] i (fun _ _ => False) (fun j h => j = i ∧ h.IsTupleIter it a i ∧ h.IsTuple a its.toArray) :=
      { live := fun _ _ st => let ⟨o, ho, _⟩ := st.2.1; ⟨o, ho⟩
        frame := fun _ _ _ st hk => ⟨st.1, st.2.1.at fun o e => hk it (by simp) o e, st.2.2.at fun o e => hk a (by simp) o e⟩
        item := fun j s Q E hj st _ => absurd st.1 (Nat.ne_of_lt hj)
        done := fun s Q E st hE => wpAny_nextOf_tuple_end (I.ok.hd hc) st.2.1 st.2.2 (by simp; omega) hE }
    exact wpAny_pyNext_enum_endD D he ⟨rfl, hit, show s.heap.IsTuple a its.toArray from p⟩ fun h' eb => ⟨rfl, I.turned (t' := s.toks) (fun b o hb q => eb b o hb q) f0 f1 f3 f4 f5⟩
  self := fun A i s Q E st h => let ⟨⟨_, he⟩, _⟩ := st; wpAny_pyIter_enum he h
section
variable {X : Cx} {tg : Expr}
/-- a list or a tuple -/
def iSeq (K : PySem.W.Frag) (tl : TE) : TI := fun σ H R => tl σ H fun x H1 => ∃ a, x = .ref a ∧ ((∃ xs, SqL K H1 a xs ∧ R (Itl K a) H1) ∨ ∃ xs, SqT K H1 a xs ∧ R (Itt K a) H1)
theorem pi_seq {l : Expr} {tl : TE} (hl : PE X l tl) : PI X tg l (iSeq X.K tl) := by
  refine ⟨fun pins s σ H R I h => ?_⟩
  refine thn (hl.run pins s σ H _ I h) fun v s1 ⟨x, H1, I1, r1, q1⟩ => ?_
  obtain ⟨a, e, q⟩ := q1
  subst e
  obtain rfl : v = Value.ref a := r1
  have fin : ∀ {o : Obj} {J : It} {tn : Nat → Heap → Prop}, o.isFreed = false → R J H1 → tn 0 (s1.heap.push o) → Turn X.prog X.w X.K tg J [s1.heap.objs.size] s1.heap.objs.size tn → PIE X pins σ tg R (.ref s1.heap.objs.size) { s1 with heap := s1.heap.push o } := fun {o J tn} hf q st T => by
    refine ⟨s1.heap.objs.size, [s1.heap.objs.size], _, _, H1, rfl, I1.kept (t' := s1.toks) fun b o e => Heap.get?_push_of_some _ e, T, st, fun b hb => ?_, q⟩
    have e : b = s1.heap.objs.size := by simpa using hb
    subst e
    exact I1.fpOk (Nat.le_refl _) (I1.hok.fresh (Nat.le_refl _))
  rcases q with ⟨xs, hq, q⟩ | ⟨xs, hq, q⟩
  · obtain ⟨its, rv, p, hz⟩ := I1.list hq
    exact wpAny_pyIter_list p.isList (fin rfl q ⟨_, Heap.get?_push_size _ rfl, rfl, rfl⟩ (turn_list a _))
  · obtain ⟨its, rv, p, hz⟩ := I1.tuple hq
    exact wpAny_pyIter_tuple (show s1.heap.IsTuple a its.toArray from p) (fin rfl q ⟨_, Heap.get?_push_size _ rfl, rfl, rfl⟩ (turn_tuple a _))
def iEnums (K : PySem.W.Frag) (ta : TA) : TI := fun σ H R => ta σ H fun vs H1 => ∃ a, vs = [.ref a] ∧ ((∃ xs, SqL K H1 a xs ∧ R (Ite K a) H1) ∨ ∃ xs, SqT K H1 a xs ∧ R (Itet K a) H1)
theorem pi_enums {e : Expr} {ta : TA} {p pos tpos : Pos} {elts : List Expr} {kk : Nat} (hg : Gl X "enumerate") (hm : X.mg "enumerate" = none) (ha : PA X [e] ta) (hs : starEach [e] X.env = [(false, eval e X.env)]) :
    PI X (.Tuple elts kk tpos) (.Call (.Name "enumerate" p) [e] [] pos) (iEnums X.K ta) := by
  refine ⟨fun pins s σ H R I h => ?_⟩
  refine Call_ (ld_blt I hg hm boot_enumerate (PyProof.Rows.callWith_type1 (thn (ha.run pos pins s σ H _ I h) fun us s1 ⟨vs, H1, I1, r1, q1⟩ => ?_) hs rfl))
  obtain ⟨a, ex, q⟩ := q1
  subst ex
  cases r1 with
  | cons r rr =>
    cases rr
    cases r
    have fin : ∀ {h' : Heap} {J : It} {tn : Nat → Heap → Prop}, (∀ b o, s1.heap.get? b = some o → h'.get? b = some o) → R J H1 → tn 0 h' → Turn X.prog X.w X.K (.Tuple elts kk tpos) J [s1.heap.objs.size + 1, s1.heap.objs.size] (s1.heap.objs.size + 1) tn →
        PIE X pins σ (.Tuple elts kk tpos) R (.ref (s1.heap.objs.size + 1)) { s1 with heap := h' } := fun {h' J tn} hk q st T => by
      have I2 : Inv X pins σ H1 { s1 with heap := h' } := I1.kept (t' := s1.toks) hk
      refine ⟨s1.heap.objs.size + 1, [s1.heap.objs.size + 1, s1.heap.objs.size], _, _, H1, rfl, I2, T, st, fun b hb => ?_, q⟩
      have e' : b = s1.heap.objs.size + 1 ∨ b = s1.heap.objs.size := by simpa using hb
      have hle : s1.heap.objs.size ≤ b := by
        rcases e' with z | z
        · rw [z]; exact Nat.le_add_right _ _
        · rw [z]; exact Nat.le_refl _
      exact I1.fpOk hle (I1.hok.fresh hle)
    rcases q with ⟨xs, hq, q⟩ | ⟨xs, hq, q⟩
    · obtain ⟨its, rv, p', hz⟩ := I1.list hq
      refine call_enumerate_list p'.isList fun h' he hit hsz hk => wpAny_pyIter_enum he ?_
      exact fin hk q ⟨⟨.none, he⟩, hit, Nat.succ_ne_self _⟩ (turn_enum a (s1.heap.objs.size + 1) s1.heap.objs.size)
    · obtain ⟨its, rv, p', hz⟩ := I1.tuple hq
      have ht : s1.heap.IsTuple a its.toArray := p'
      have hlt : a < s1.heap.objs.size := by obtain ⟨_, q, _⟩ := ht; exact Heap.lt_size q
      refine call_enum1 (begins_tuple a its.toArray) ht fun h' he hit hsz hk => wpAny_pyIter_enum he ?_
      have h1 : a ≠ s1.heap.objs.size := Nat.ne_of_lt hlt
      have h2 : a ≠ s1.heap.objs.size + 1 := Nat.ne_of_lt (Nat.lt_succ_of_lt hlt)
      exact fin hk q ⟨⟨.none, he⟩, ⟨_, hit, rfl, rfl⟩, Nat.succ_ne_self _⟩ (turn_enumT a (s1.heap.objs.size + 1) s1.heap.objs.size h1 h2)
end
end Mp
end
section
set_option Elab.async false
set_option linter.all false
set_option maxRecDepth 100000
/-! What is walked, by its items. -/
namespace Mp
open PySem PySem.Spec L2 PyProof.Rows
mutual
theorem D.same_eq : ∀ a b : D, D.same a b = true → a = b
  | a, b, h => by
    cases a <;> cases b <;> simp only [D.same] at h <;> first
      | rfl
      | (cases h; done)
      | (simp only [Bool.and_eq_true] at h; obtain ⟨h0, h1, h2⟩ := h; rw [eq_of_beq h0, D.sames_eq _ _ h1, D.sames_eq _ _ h2])
      | (rw [D.sames_eq _ _ h])
      | (rw [eq_of_beq h])
theorem D.sames_eq : ∀ a b : List D, D.sames a b = true → a = b
  | [], [], _ => rfl
  | [], _ :: _, h => by simp only [D.sames] at h; cases h
  | _ :: _, [], h => by simp only [D.sames] at h; cases h
  | a :: r, b :: s, h => by
    simp only [D.sames, Bool.and_eq_true] at h
    rw [D.same_eq a b h.1, D.sames_eq r s h.2]
end
mutual
theorem D.same_refl : ∀ a : D, D.same a a = true
  | .non => rfl
  | .bl a => by simp only [D.same, beq_self_eq_true]
  | .int a => by simp only [D.same, beq_self_eq_true]
  | .str a => by simp only [D.same, beq_self_eq_true]
  | .tup a => by simp only [D.same]; exact D.sames_refl a
  | .lst a => by simp only [D.same]; exact D.sames_refl a
  | .scr a => by simp only [D.same, beq_self_eq_true]
  | .cell a => by simp only [D.same, beq_self_eq_true]
  | .dct t a b => by
    simp only [D.same, beq_self_eq_true, Bool.true_and, Bool.and_eq_true]
    exact ⟨D.sames_refl a, D.sames_refl b⟩
theorem D.sames_refl : ∀ a : List D, D.sames a a = true
  | [] => rfl
  | a :: r => by simp only [D.sames, D.same_refl a, D.sames_refl r, Bool.and_self]
end
theorem chk_st {g : Option (Nat × List D)} {st st' : St} {u : Unit} (h : chk g st = .ok u st') : st' = st := by
  unfold chk at h
  split at h
  · cases h; rfl
  · split at h
    · split at h
      · cases h; rfl
      · cases h
    · cases h
theorem chk_ok {g : Option (Nat × List D)} {st st' : St} {u : Unit} (h : chk g st = .ok u st') : chk g st = .ok () st := by
  have e := chk_st h
  subst e
  exact h
theorem chk_cell {k : Nat} {l : List D} {st : St} (h : chk (some (k, l)) st = .ok () st) : st[k]? = some (.lst l) := by
  unfold chk at h
  simp only at h
  split at h
  · rename_i m q
    split at h
    · rename_i e
      rw [q, D.sames_eq _ _ e]
    · cases h
  · cases h
theorem chk_of {k : Nat} {l : List D} {st : St} (h : st[k]? = some (.lst l)) : chk (some (k, l)) st = .ok () st := by
  unfold chk
  simp only [h, D.sames_refl]
section
variable {K : PySem.W.Frag} {Tb : List (Addr × Option Str)} {β β' α α1 : List Addr} {st st1 : St} {H H1 : Hp}
/-- as Stp, but for the lists at β -/
structure StpW (β α α' : List Addr) (H H' : Hp) : Prop where
  pre : α <+: α'
  new : ∀ a ∈ α', a ∈ α ∨ H a = none
  keep : ∀ b o, b ∉ β → b ∉ α → H b = some o → NoTbl o → H' b = some o
  free : ∀ c, c ∉ α → H' c = none → H c = none
theorem Stp.w (a : Stp α α1 H H1) (β : List Addr) : StpW β α α1 H H1 := ⟨a.pre, a.new, fun b o _ h e n => a.keep b o h e n, fun c hc h => a.free hc h⟩
theorem StpW.old (a : StpW β α α1 H H1) {c : Addr} (hc : c ∉ α) {o : HO} (h : H c = some o) : c ∉ α1 := fun z => by
  rcases a.new c z with y | y
  · exact hc y
  · rw [h] at y
    cases y
theorem StpW.then {α2 : List Addr} {H2 : Hp} (a : StpW β α α1 H H1) (b : Stp α1 α2 H1 H2) : StpW β α α2 H H2 where
  pre := a.pre.trans b.pre
  new := fun c hc => by
    by_cases hα : c ∈ α
    · exact .inl hα
    · rcases b.new c hc with h | h
      · exact a.new c h
      · exact .inr (a.free c hα h)
  keep := fun c o hb hc h n => b.keep c o (a.old hc h) (a.keep c o hb hc h n) n
  free := fun c hc h => by
    by_cases h1 : c ∈ α1
    · exact (a.new c h1).resolve_left hc
    · exact a.free c hc (b.free h1 h)
theorem StpW.put {D : Addr} {o : HO} (a : StpW β α α1 H H1) (hD : D ∈ β) : StpW β α α1 H (upd H1 D o) where
  pre := a.pre
  new := a.new
  keep := fun b u hb hc h n => by rw [upd_ne (fun z : b = D => hb (z ▸ hD))]; exact a.keep b u hb hc h n
  free := fun c hc h => by
    by_cases h1 : c = D
    · rw [h1, upd_same] at h; cases h
    · rw [upd_ne h1] at h; exact a.free c hc h
def WalkD (K : PySem.W.Frag) (Tb : List (Addr × Option Str)) (β α : List Addr) (H : Hp) (J : It) (l : List D) (g : Option (Nat × List D)) : Prop :=
  ∀ β' α1 st1 H1, (∀ b ∈ β', b ∈ β ∨ H b = none) → StpW β α α1 H H1 → Ok K Tb β' α1 st1 H1 → chk g st1 = .ok () st1 →
    (∀ i, i < l.length → J.go i H1) ∧ J.stop l.length H1 ∧ ∀ i x H2, i < l.length → J.yld i H1 x H2 → ∃ d, l[i]? = some d ∧ Ok K Tb β' α1 st1 H2 ∧ Stp α1 α1 H1 H2 ∧ Rep K α1 (Mk (β' ++ α1) H2) d x
def SatS (K : PySem.W.Frag) (Tb : List (Addr × Option Str)) (β α : List Addr) (r : Res Src) (H : Hp) (R : It → Hp → Prop) : Prop := match r with
  | .ok (l, g) st' => ∀ J α' H', Stp α α' H H' → Ok K Tb β α' st' H' → chk g st' = .ok () st' → WalkD K Tb β α' H' J l g → R J H'
  | .bad => False
def tItr (K : PySem.W.Frag) (Tb : List (Addr × Option Str)) (m : Env → M Src) : TI := fun σ H R => ∃ β α st env, Ok K Tb β α st H ∧ EnvOk K α (Mk (β ++ α) H) env σ ∧ SatS K Tb β α (m env st) H R
theorem SatS.step {r : Res Src} {R : It → Hp → Prop} (h : SatS K Tb β α r H R) (s : Stp α α1 H H1) : SatS K Tb β α1 r H1 R := by
  cases r with
  | ok p st' => exact fun J α' H' s' o c w => h J α' H' (s.trans s') o c w
  | bad => exact h
theorem SatS.here {l : List D} {g : Option (Nat × List D)} {R : It → Hp → Prop} {J : It} (h : SatS K Tb β α (.ok (l, g) st) H R) (o : Ok K Tb β α st H) (c : chk g st = .ok () st) (w : WalkD K Tb β α H J l g) : R J H := h J α H (Stp.refl α H) o c w
theorem StpW.le' (a : StpW β α α1 H H1) (hb : ∀ b ∈ β', b ∈ β ∨ H b = none) : LeG (Mk (β ++ α) H) (Mk (β' ++ α1) H1) := fun b o e n => by
  obtain ⟨hn, e⟩ := mk_some e
  have h1 : b ∉ β := fun z => hn (List.mem_append_left _ z)
  have h2 : b ∉ α := fun z => hn (List.mem_append_right _ z)
  rw [mk_out fun z => ?_]
  · exact a.keep b o h1 h2 e n
  · rcases List.mem_append.mp z with z | z
    · rcases hb b z with y | y
      · exact h1 y
      · rw [e] at y; cases y
    · exact a.old h2 e z
theorem tItr.imp {m : Env → M Src} {σ : L2.St} {R R' : It → Hp → Prop} (h : tItr K Tb m σ H R) (i : ∀ J H, R J H → R' J H) : tItr K Tb m σ H R' := by
  obtain ⟨β, α, st, env, o, e, h⟩ := h
  refine ⟨β, α, st, env, o, e, ?_⟩
  cases q : m env st with
  | bad => rw [q] at h; exact h
  | ok p st' =>
    rw [q] at h
    exact fun J α' H' s' o c w => i _ _ (h J α' H' s' o c w)
theorem PI.by {X : Cx} {tg it : Expr} {t : TI} (h : ∀ σ H R, t σ H R → ∃ u, PI X tg it u ∧ u σ H R) : PI X tg it t := ⟨fun pins s σ H R I w => by
  obtain ⟨u, p, q⟩ := h σ H R w
  exact p.run pins s σ H R I q⟩
theorem srcOf_src (s : Src) (st : St) : srcOf (srcD s) st = .ok s st := by
  obtain ⟨l, g⟩ := s
  cases g with
  | none => rfl
  | some p => rfl
theorem satS_bnd {γ : Type} {m : M γ} {F : γ → M Src} {R : It → Hp → Prop} (h : SatS K Tb β α (bnd m F st) H R) : ∃ a st', m st = .ok a st' ∧ SatS K Tb β α (F a st') H R := by
  unfold bnd at h
  split at h
  · exact ⟨_, _, by assumption, h⟩
  · exact h.elim
/-! the walks -/
theorem walkD_tup {a : Addr} {xs : List V} {l : List D} {g : Option (Nat × List D)} (h1 : SqT K (Mk (β ++ α) H) a xs) (h2 : Reps K α (Mk (β ++ α) H) l xs) : WalkD K Tb β α H (Itt K a) l g := by
  intro β' α1 st1 H1 hb s o c
  have le := s.le' hb
  have t1 : SqT K H1 a xs := (le.trans LeG.mk).sqT h1
  have r1 := Reps.mono s.pre le l xs h2
  have hl := h2.length
  refine ⟨fun i hi => ⟨xs, xs[i], t1, by simp [show i < xs.length by omega]⟩, ⟨xs, t1, by omega⟩, fun i x H2 hi y => ?_⟩
  obtain ⟨rfl, y⟩ := y
  obtain ⟨d, e1, e2⟩ := r1.getV (y xs t1)
  exact ⟨d, e1, o, Stp.refl _ _, e2⟩
theorem walkD_lst {a : Addr} {xs : List V} {l : List D} {g : Option (Nat × List D)} (h1 : Mk (β ++ α) H a = some (.lst xs)) (h2 : Reps K α (Mk (β ++ α) H) l xs) : WalkD K Tb β α H (Itl K a) l g := by
  intro β' α1 st1 H1 hb s o c
  have le := s.le' hb
  have t1 : SqL K H1 a xs := .inl (.inl (mk_some (le _ _ h1 noT_lst)).2)
  have r1 := Reps.mono s.pre le l xs h2
  have hl := h2.length
  refine ⟨fun i hi => ⟨xs, xs[i], t1, by simp [show i < xs.length by omega]⟩, ⟨xs, t1, by omega⟩, fun i x H2 hi y => ?_⟩
  obtain ⟨rfl, y⟩ := y
  obtain ⟨d, e1, e2⟩ := r1.getV (y xs t1)
  exact ⟨d, e1, o, Stp.refl _ _, e2⟩
theorem walkD_cell {a : Addr} {k : Nat} {l : List D} (hk : α[k]? = some a) : WalkD K Tb β α H (Itl K a) l (some (k, l)) := by
  intro β' α1 st1 H1 hb s o c
  have hc := chk_cell c
  obtain ⟨xs, h1, h2⟩ := o.cells k a l (pre_get s.pre hk) hc
  have t1 : SqL K H1 a xs := .inl (.inl h1)
  have hl := h2.length
  refine ⟨fun i hi => ⟨xs, xs[i], t1, by simp [show i < xs.length by omega]⟩, ⟨xs, t1, by omega⟩, fun i x H2 hi y => ?_⟩
  obtain ⟨rfl, y⟩ := y
  obtain ⟨d, e1, e2⟩ := h2.getV (y xs t1)
  exact ⟨d, e1, o, Stp.refl _ _, e2⟩
theorem upto_get {lo : Int} {n i : Nat} (h : i < n) : (upto lo n)[i]? = some (.int (lo + (i : Nat))) := by
  unfold upto
  rw [List.getElem?_map, List.getElem?_range h]
  rfl
theorem upto_len {lo : Int} {n : Nat} : (upto lo n).length = n := by unfold upto; simp
theorem walkD_rng {lo : Int} {n : Nat} {g : Option (Nat × List D)} : WalkD K Tb β α H (Itr lo n) (upto lo n) g := by
  intro β' α1 st1 H1 hb s o c
  rw [upto_len]
  refine ⟨fun i hi => hi, Nat.le_refl _, fun i x H2 hi y => ?_⟩
  obtain ⟨rfl, rfl⟩ := y
  exact ⟨_, upto_get hi, o, Stp.refl _ _, rfl⟩
theorem numbered_len : ∀ (k : Nat) (l : List D), (numbered k l).length = l.length
  | _, [] => rfl
  | k, _ :: r => by rw [numbered, List.length_cons, List.length_cons, numbered_len (k + 1) r]
theorem numbered_get : ∀ (k : Nat) (l : List D) (i : Nat) (d : D), l[i]? = some d → (numbered k l)[i]? = some (.tup [.int ((k + i : Nat) : Int), d])
  | _, [], i, d, h => by simp at h
  | k, x :: r, 0, d, h => by
    cases h
    rfl
  | k, x :: r, i + 1, d, h => by
    rw [numbered, List.getElem?_cons_succ, numbered_get (k + 1) r i d h]
    congr 4
    omega
/-- a new pair -/
theorem pair_new {T : Addr} {i : Nat} {d : D} {x : V} (o : Ok K Tb β' α1 st1 H1) (hT : H1 T = none) (r : Rep K α1 (Mk (β' ++ α1) H1) d x) :
    Ok K Tb β' α1 st1 (upd H1 T (.tup [.int (i : Nat), x])) ∧ Stp α1 α1 H1 (upd H1 T (.tup [.int (i : Nat), x])) ∧ Rep K α1 (Mk (β' ++ α1) (upd H1 T (.tup [.int (i : Nat), x]))) (.tup [.int ((0 + i : Nat) : Int), d]) (.ref T) := by
  refine ⟨o.laid hT, Stp.laid hT, laid_tup hT o ⟨.int (i : Nat), [x], rfl, ?_, x, [], rfl, r, rfl⟩⟩
  show V.int (i : Nat) = V.int _
  rw [Nat.zero_add]
theorem walkD_enumT {a : Addr} {xs : List V} {l : List D} {g : Option (Nat × List D)} (h1 : SqT K (Mk (β ++ α) H) a xs) (h2 : Reps K α (Mk (β ++ α) H) l xs) : WalkD K Tb β α H (Itet K a) (numbered 0 l) g := by
  intro β' α1 st1 H1 hb s o c
  have le := s.le' hb
  have t1 : SqT K H1 a xs := (le.trans LeG.mk).sqT h1
  have r1 := Reps.mono s.pre le l xs h2
  have hl := h2.length
  rw [numbered_len]
  refine ⟨fun i hi => ⟨xs, xs[i], t1, by simp [show i < xs.length by omega]⟩, ⟨xs, t1, by omega⟩, fun i v H2 hi y => ?_⟩
  obtain ⟨T, x, rfl, hT, rfl, y⟩ := y
  obtain ⟨d, e1, e2⟩ := r1.getV (y xs t1)
  obtain ⟨k1, k2, k3⟩ := pair_new (i := i) o hT e2
  exact ⟨_, numbered_get 0 l i d e1, k1, k2, k3⟩
theorem walkD_enumL {a : Addr} {xs : List V} {l : List D} {g : Option (Nat × List D)} (h1 : Mk (β ++ α) H a = some (.lst xs)) (h2 : Reps K α (Mk (β ++ α) H) l xs) : WalkD K Tb β α H (Ite K a) (numbered 0 l) g := by
  intro β' α1 st1 H1 hb s o c
  have le := s.le' hb
  have t1 : SqL K H1 a xs := .inl (.inl (mk_some (le _ _ h1 noT_lst)).2)
  have r1 := Reps.mono s.pre le l xs h2
  have hl := h2.length
  rw [numbered_len]
  refine ⟨fun i hi => ⟨xs, xs[i], t1, by simp [show i < xs.length by omega]⟩, ⟨xs, t1, by omega⟩, fun i v H2 hi y => ?_⟩
  obtain ⟨T, x, rfl, hT, rfl, y⟩ := y
  obtain ⟨d, e1, e2⟩ := r1.getV (y xs t1)
  obtain ⟨k1, k2, k3⟩ := pair_new (i := i) o hT e2
  exact ⟨_, numbered_get 0 l i d e1, k1, k2, k3⟩
theorem walkD_enumC {a : Addr} {k : Nat} {l : List D} (hk : α[k]? = some a) : WalkD K Tb β α H (Ite K a) (numbered 0 l) (some (k, l)) := by
  intro β' α1 st1 H1 hb s o c
  have hc := chk_cell c
  obtain ⟨xs, h1, r1⟩ := o.cells k a l (pre_get s.pre hk) hc
  have t1 : SqL K H1 a xs := .inl (.inl h1)
  have hl := r1.length
  rw [numbered_len]
  refine ⟨fun i hi => ⟨xs, xs[i], t1, by simp [show i < xs.length by omega]⟩, ⟨xs, t1, by omega⟩, fun i v H2 hi y => ?_⟩
  obtain ⟨T, x, rfl, hT, rfl, y⟩ := y
  obtain ⟨d, e1, e2⟩ := r1.getV (y xs t1)
  obtain ⟨k1, k2, k3⟩ := pair_new (i := i) o hT e2
  exact ⟨_, numbered_get 0 l i d e1, k1, k2, k3⟩
end
/-! the rules -/
section
variable {X : Cx} {Tb : List (Addr × Option Str)} {C : CallF} {a b : E} {e l r tg : Expr} {pos p : Pos}
theorem items_st {d : D} {st st' : St} {s : Src} {f : D → List D → Src} (h : bnd (deref d) (fun e => bnd (opt (items e)) fun l => ret (f d l)) st = .ok s st') : st' = st := by
  simp only [bnd] at h
  cases q3 : deref d st with
  | bad => rw [q3] at h; cases h
  | ok d' st2 =>
    have := deref_st q3
    subst this
    rw [q3] at h
    simp only at h
    cases q4 : items d' with
    | none => rw [q4] at h; cases h
    | some l => rw [q4] at h; cases h; rfl
theorem itemsD_st {k : Itk} {l : List D} {st st' : St} {s : Src} (h : itemsD k l st = .ok s st') : st' = st := by
  unfold itemsD at h
  split at h
  · exact items_st (f := fun d l => (l, guardOf d l)) h
  · split at h
    · cases h; rfl
    · cases h
  · split at h
    · cases h; rfl
    · cases h
  · exact items_st (f := fun d l => (numbered 0 l, guardOf d l)) h
  · cases h
theorem itr_chain {k : Itk} {a : E} {σ : L2.St} {H : Hp} {R : It → Hp → Prop} (h : tItr X.K Tb (fun env => bnd (ev C (.itr k a) env) srcOf) σ H R) :
    tOfL X.K Tb (fun env => bnd (ev C a env) listOf) σ H fun vs H1 => ∃ β α st l s, itemsD k l st = .ok s st ∧ Ok X.K Tb β α st H1 ∧ Reps X.K α (Mk (β ++ α) H1) l vs ∧ SatS X.K Tb β α (.ok s st) H1 R := by
  obtain ⟨β, α, st, env, o, en, h⟩ := h
  simp only [ev] at h
  rw [bnd_assoc] at h
  refine tOfL_bnd (m := fun env => bnd (ev C a env) listOf) (F := fun l => bnd (bnd (itemsD k l) fun s => ret (srcD s)) srcOf) (S := fun α r H => SatS X.K Tb β α r H R) o en h (fun _ _ z => z) (fun _ _ _ s h => h.step s) fun l st1 xs α1 H1 _ s o1 e1 r h1 => ?_
  simp only [bnd_assoc] at h1
  obtain ⟨sr, st2, q2, h2⟩ := satS_bnd h1
  have e2 : st2 = st1 := itemsD_st q2
  subst e2
  refine ⟨β, α1, st2, l, sr, q2, o1, r, ?_⟩
  have h3 : SatS X.K Tb β α1 (srcOf (srcD sr) st2) H1 R := h2
  rw [srcOf_src] at h3
  exact h3
theorem items_seq {d : D} {st : St} {s : Src} {f : List D → List D} (h : bnd (deref d) (fun e => bnd (opt (items e)) fun l => ret (f l, guardOf d l)) st = .ok s st) :
    (∃ l, d = .tup l ∧ s = (f l, none)) ∨ (∃ l, d = .lst l ∧ s = (f l, none)) ∨ ∃ k l, d = .cell k ∧ st[k]? = some (.lst l) ∧ s = (f l, some (k, l)) := by
  cases d with
  | tup l => cases h; exact .inl ⟨l, rfl, rfl⟩
  | lst l => cases h; exact .inr (.inl ⟨l, rfl, rfl⟩)
  | cell k =>
    simp only [bnd, deref] at h
    cases q : st[k]? with
    | none => rw [q] at h; cases h
    | some c =>
      cases c with
      | lst l =>
        rw [q] at h
        cases h
        exact .inr (.inr ⟨k, l, rfl, q, rfl⟩)
      | dct t ks vs =>
        rw [q] at h
        cases h
  | _ => cases h
theorem snd_itr_seq (hl : PE X l (tOf X.K Tb (ev C a))) : PI X tg l (tItr X.K Tb fun env => bnd (ev C (.itr .seq (.cons a .nil)) env) srcOf) := by
  refine PI.by fun σ H R h => ⟨_, pi_seq hl, ?_⟩
  have h1 := itr_chain h
  show tOf X.K Tb (ev C a) σ H _
  obtain ⟨β, α, st, env, o, en, h1⟩ := h1
  replace h1 : SatL X.K Tb β α (bnd (ev C (.cons a .nil) env) listOf st) H _ := h1
  rw [ev_one] at h1
  refine tOf_bnd (S := fun α r H => SatL X.K Tb β α r H _) o en h1 (fun _ _ z => z) (fun _ _ _ s h => h.step s) fun d st1 v α1 H1 _ s o1 e1 r h2 => ?_
  obtain ⟨β2, α2, st2, l2, sr, q, o2, r2, h3⟩ := SatL.here h2 o1 (Reps.one r)
  obtain ⟨x, hx, r5⟩ : ∃ d2, l2 = [d2] ∧ Rep X.K α2 (Mk (β2 ++ α2) H1) d2 v := by
    cases l2 with
    | nil => cases r2
    | cons d2 rest =>
      obtain ⟨y, ys, e, k1, k2⟩ := r2
      cases e
      cases rest with
      | nil => exact ⟨d2, rfl, k1⟩
      | cons _ _ => obtain ⟨_, _, e, _⟩ := k2; cases e
  clear r2
  subst hx
  have r2 := r5
  clear r5
  rcases items_seq (f := id) q with ⟨l, rfl, rfl⟩ | ⟨l, rfl, rfl⟩ | ⟨k, l, rfl, hk, rfl⟩
  · obtain ⟨p, xs, rfl, k1, k2⟩ := r2
    exact ⟨p, rfl, .inr ⟨xs, LeG.mk.sqT (.inl (.inl k1)), h3.here o2 rfl (walkD_tup (.inl (.inl k1)) k2)⟩⟩
  · obtain ⟨p, xs, rfl, k1, k2⟩ := r2
    exact ⟨p, rfl, .inl ⟨xs, .inl (.inl (mk_some k1).2), h3.here o2 rfl (walkD_lst k1 k2)⟩⟩
  · obtain ⟨p, rfl, k1⟩ := r2
    obtain ⟨xs, k2, _⟩ := o2.cells k p l k1 hk
    exact ⟨p, rfl, .inl ⟨xs, .inl (.inl k2), h3.here o2 (chk_of hk) (walkD_cell k1)⟩⟩
theorem snd_itr_enum {elts : List Expr} {kk : Nat} {tpos : Pos} (hg : Gl X "enumerate") (hm : X.mg "enumerate" = none) (hs : isStar e = false) (ha : PE X e (tOf X.K Tb (ev C a))) :
    PI X (.Tuple elts kk tpos) (.Call (.Name "enumerate" p) [e] [] pos) (tItr X.K Tb fun env => bnd (ev C (.itr .enum (.cons a .nil)) env) srcOf) := by
  refine PI.by fun σ H R h => ⟨_, pi_enums hg hm (pa_cons ha pa_nil (star_cons (isStar_ne hs))) (star_cons (isStar_ne hs)), ?_⟩
  have h1 := itr_chain h
  show tOf X.K Tb (ev C a) σ H _
  obtain ⟨β, α, st, env, o, en, h1⟩ := h1
  replace h1 : SatL X.K Tb β α (bnd (ev C (.cons a .nil) env) listOf st) H _ := h1
  rw [ev_one] at h1
  refine tOf_bnd (S := fun α r H => SatL X.K Tb β α r H _) o en h1 (fun _ _ z => z) (fun _ _ _ s h => h.step s) fun d st1 v α1 H1 _ s o1 e1 r h2 => ?_
  obtain ⟨β2, α2, st2, l2, sr, q, o2, r2, h3⟩ := SatL.here h2 o1 (Reps.one r)
  obtain ⟨x, hx, r5⟩ : ∃ d2, l2 = [d2] ∧ Rep X.K α2 (Mk (β2 ++ α2) H1) d2 v := by
    cases l2 with
    | nil => cases r2
    | cons d2 rest =>
      obtain ⟨y, ys, e, k1, k2⟩ := r2
      cases e
      cases rest with
      | nil => exact ⟨d2, rfl, k1⟩
      | cons _ _ => obtain ⟨_, _, e, _⟩ := k2; cases e
  clear r2
  subst hx
  have r2 := r5
  clear r5
  rcases items_seq (f := numbered 0) q with ⟨l, rfl, rfl⟩ | ⟨l, rfl, rfl⟩ | ⟨k, l, rfl, hk, rfl⟩
  · obtain ⟨p, xs, rfl, k1, k2⟩ := r2
    exact ⟨p, rfl, .inr ⟨xs, LeG.mk.sqT (.inl (.inl k1)), h3.here o2 rfl (walkD_enumT (.inl (.inl k1)) k2)⟩⟩
  · obtain ⟨p, xs, rfl, k1, k2⟩ := r2
    exact ⟨p, rfl, .inl ⟨xs, .inl (.inl (mk_some k1).2), h3.here o2 rfl (walkD_enumL k1 k2)⟩⟩
  · obtain ⟨p, rfl, k1⟩ := r2
    obtain ⟨xs, k2, _⟩ := o2.cells k p l k1 hk
    exact ⟨p, rfl, .inl ⟨xs, .inl (.inl k2), h3.here o2 (chk_of hk) (walkD_enumC k1)⟩⟩
theorem rangeOk_is {i : Int} (h : rangeOk i = true) : -(2 ^ 62) ≤ i ∧ i < 2 ^ 62 := by
  unfold rangeOk at h
  simp only [Bool.and_eq_true, decide_eq_true_eq] at h
  exact h
theorem snd_itr_rng1 (hg : Gl X "range") (hm : X.mg "range" = none) (hs : isStar e = false) (ha : PE X e (tOf X.K Tb (ev C a))) :
    PI X tg (.Call (.Name "range" p) [e] [] pos) (tItr X.K Tb fun env => bnd (ev C (.itr .range1 (.cons a .nil)) env) srcOf) := by
  refine PI.by fun σ H R h => ⟨_, pi_range1 hg hm (pa_cons ha pa_nil (star_cons (isStar_ne hs))) (star_cons (isStar_ne hs)), ?_⟩
  have h1 := itr_chain h
  show tOf X.K Tb (ev C a) σ H _
  obtain ⟨β, α, st, env, o, en, h1⟩ := h1
  replace h1 : SatL X.K Tb β α (bnd (ev C (.cons a .nil) env) listOf st) H _ := h1
  rw [ev_one] at h1
  refine tOf_bnd (S := fun α r H => SatL X.K Tb β α r H _) o en h1 (fun _ _ z => z) (fun _ _ _ s h => h.step s) fun d st1 v α1 H1 _ s o1 e1 r h2 => ?_
  obtain ⟨β2, α2, st2, l2, sr, q, o2, r2, h3⟩ := SatL.here h2 o1 (Reps.one r)
  obtain ⟨x, hx, r5⟩ : ∃ d2, l2 = [d2] ∧ Rep X.K α2 (Mk (β2 ++ α2) H1) d2 v := by
    cases l2 with
    | nil => cases r2
    | cons d2 rest =>
      obtain ⟨y, ys, e, k1, k2⟩ := r2
      cases e
      cases rest with
      | nil => exact ⟨d2, rfl, k1⟩
      | cons _ _ => obtain ⟨_, _, e, _⟩ := k2; cases e
  clear r2
  subst hx
  cases x with
  | int n =>
    obtain rfl : v = .int n := r5
    simp only [itemsD] at q
    split at q
    · rename_i hr
      cases q
      obtain ⟨b1, b2⟩ := rangeOk_is hr
      exact ⟨n, rfl, b1, b2, h3.here o2 rfl walkD_rng⟩
    · cases q
  | _ => cases q
theorem ev_two (env : Env) : bnd (ev C (.cons a (.cons b .nil)) env) listOf = bnd (ev C a env) fun x => bnd (ev C b env) fun y => ret [x, y] := by
  simp only [ev, bnd_assoc]
  rfl
theorem snd_itr_rng2 (hg : Gl X "range") (hm : X.mg "range" = none) (hs : isStar e = false) (hs2 : isStar r = false) (ha : PE X e (tOf X.K Tb (ev C a))) (hb : PE X r (tOf X.K Tb (ev C b))) :
    PI X tg (.Call (.Name "range" p) [e, r] [] pos) (tItr X.K Tb fun env => bnd (ev C (.itr .range2 (.cons a (.cons b .nil))) env) srcOf) := by
  have st2 : starEach [r] X.env = (false, eval r X.env) :: starEach [] X.env := star_cons (isStar_ne hs2)
  have st1 : starEach [e, r] X.env = (false, eval e X.env) :: starEach [r] X.env := star_cons (isStar_ne hs)
  refine PI.by fun σ H R h => ⟨_, pi_range2 hg hm (pa_cons ha (pa_cons hb pa_nil st2) st1) (by rw [st1, st2]; rfl) st2, ?_⟩
  have h1 := itr_chain h
  show tOf X.K Tb (ev C a) σ H fun x H1 => tOf X.K Tb (ev C b) σ H1 _
  obtain ⟨β, α, st, env, o, en, h1⟩ := h1
  replace h1 : SatL X.K Tb β α (bnd (ev C (.cons a (.cons b .nil)) env) listOf st) H _ := h1
  rw [ev_two] at h1
  refine tOf_bnd (S := fun α r H => SatL X.K Tb β α r H _) o en h1 (fun _ _ z => z) (fun _ _ _ s h => h.step s) fun d st1 v α1 H1 _ s o1 e1 r h2 => ?_
  refine tOf_bnd (S := fun α r H => SatL X.K Tb β α r H _) o1 e1 h2 (fun _ _ z => z) (fun _ _ _ s h => h.step s) fun d2 st2 v2 α2 H2 _ s2 o2 e2 r2 h2 => ?_
  obtain ⟨β3, α3, st3, l3, sr, q, o3, r3, h3⟩ := SatL.here h2 o2 (xs := [v, v2]) ⟨v, [v2], rfl, s2.rep r, v2, [], rfl, r2, rfl⟩
  obtain ⟨x, y, hx, r4, r5⟩ : ∃ d d2, l3 = [d, d2] ∧ Rep X.K α3 (Mk (β3 ++ α3) H2) d v ∧ Rep X.K α3 (Mk (β3 ++ α3) H2) d2 v2 := by
    cases l3 with
    | nil => cases r3
    | cons d2 rest =>
      obtain ⟨y, ys, e, k1, k2⟩ := r3
      cases e
      cases rest with
      | nil => cases k2
      | cons d3 rest =>
        obtain ⟨y, ys, e, k3, k2⟩ := k2
        cases e
        cases rest with
        | nil => exact ⟨d2, d3, rfl, k1, k3⟩
        | cons _ _ => obtain ⟨_, _, e, _⟩ := k2; cases e
  clear r3
  subst hx
  cases x with
  | int i =>
    cases y with
    | int j =>
      obtain rfl : v = .int i := r4
      obtain rfl : v2 = .int j := r5
      simp only [itemsD] at q
      split at q
      · rename_i hr
        cases q
        rw [Bool.and_eq_true] at hr
        obtain ⟨b1, b2⟩ := rangeOk_is hr.1
        obtain ⟨b3, b4⟩ := rangeOk_is hr.2
        exact ⟨i, j, rfl, ⟨b1, b2, b3, b4⟩, h3.here o3 rfl walkD_rng⟩
      · cases q
    | _ => cases q
  | _ => cases q
end
end Mp
end
section
set_option Elab.async false
set_option linter.all false
set_option maxRecDepth 100000
/-! Targets; list comprehensions. -/
namespace Mp
open PySem PySem.Spec L2 PyProof.Rows
theorem wipe_get (σ : L2.St) (j : Nat) : ∀ vs : List Nat, (wipe σ vs)[j]? = if j ∈ vs then σ[j]?.map (fun _ => none) else σ[j]?
  | [] => by simp [wipe]
  | v :: vs => by
    unfold wipe
    by_cases hv : v = j
    · subst hv
      rw [if_pos List.mem_cons_self]
      by_cases hl : v < (wipe σ vs).length
      · rw [List.getElem?_set_self hl]
        rw [wipe_length] at hl
        rw [List.getElem?_eq_getElem hl]
        rfl
      · rw [List.getElem?_eq_none (by simpa using hl)]
        rw [wipe_length] at hl
        rw [List.getElem?_eq_none (by omega)]
        rfl
    · rw [List.getElem?_set_ne hv, wipe_get σ j vs]
      by_cases hj : j ∈ vs
      · rw [if_pos hj, if_pos (List.mem_cons_of_mem _ hj)]
      · rw [if_neg hj, if_neg (fun z => (List.mem_cons.mp z).elim (fun e => hv e.symm) hj)]
theorem wipe_set {σ : L2.St} {i : Nat} {v : Option V} {vs : List Nat} (h : i ∈ vs) : wipe (σ.set i v) vs = wipe σ vs := by
  apply List.ext_getElem?
  intro j
  rw [wipe_get, wipe_get]
  by_cases hj : j ∈ vs
  · rw [if_pos hj, if_pos hj]
    by_cases hij : i = j
    · subst hij
      by_cases hl : i < σ.length
      · rw [List.getElem?_set_self hl, List.getElem?_eq_getElem hl]; rfl
      · rw [List.getElem?_eq_none (by rw [List.length_set]; omega), List.getElem?_eq_none (by omega)]
    · rw [List.getElem?_set_ne hij]
  · rw [if_neg hj, if_neg hj, List.getElem?_set_ne (fun e : i = j => hj (e ▸ h))]
theorem wipe_wipe {σ : L2.St} {vs ws : List Nat} (h : ∀ i ∈ ws, i ∈ vs) : wipe (wipe σ ws) vs = wipe σ vs := by
  apply List.ext_getElem?
  intro j
  rw [wipe_get, wipe_get, wipe_get]
  by_cases hj : j ∈ vs
  · rw [if_pos hj, if_pos hj]
    by_cases hw : j ∈ ws
    · rw [if_pos hw]; cases σ[j]? <;> rfl
    · rw [if_neg hw]
  · rw [if_neg hj, if_neg hj, if_neg fun z => hj (h j z)]
theorem wipe_sub {σ σ' : L2.St} {vs ws : List Nat} (h : ∀ i ∈ ws, i ∈ vs) (e : wipe σ' ws = wipe σ ws) : wipe σ' vs = wipe σ vs := by
  rw [← wipe_wipe (σ := σ') h, ← wipe_wipe (σ := σ) h, e]
section
variable {K : PySem.W.Frag} {Tb : List (Addr × Option Str)} {β α : List Addr} {G : Hp}
def setV : List Nat → List V → L2.St → L2.St
  | i :: r, v :: s, σ => setV r s (σ.set i (some v))
  | _, _, σ => σ
theorem setV_wipe {vs : List Nat} : ∀ {l : List Nat} {xs : List V} {σ : L2.St}, (∀ i ∈ l, i ∈ vs) → wipe (setV l xs σ) vs = wipe σ vs
  | [], _, _, _ => by simp [setV]
  | _ :: _, [], _, _ => by simp [setV]
  | i :: r, v :: s, σ, h => by
    rw [setV, setV_wipe fun j hj => h j (List.mem_cons_of_mem _ hj), wipe_set (h i List.mem_cons_self)]
theorem setAll_env : ∀ {l : List Nat} {s : List D} {xs : List V} {env env' : Env} {σ : L2.St}, setAll l s env = some env' → Reps K α G s xs → EnvOk K α G env σ → EnvOk K α G env' (setV l xs σ) ∧ xs.length = l.length
  | [], [], xs, env, env', σ, h, r, e => by
    cases h
    cases r
    exact ⟨e, rfl⟩
  | [], _ :: _, _, _, _, _, h, _, _ => by cases h
  | _ :: _, [], _, _, _, _, h, _, _ => by cases h
  | i :: r, d :: s, _, env, env', σ, h, ⟨x, ys, e1, h1, h2⟩, e => by
    subst e1
    have h : setAll r s (env.set i (some d)) = some env' := h
    obtain ⟨k1, k2⟩ := setAll_env (xs := ys) (σ := σ.set i (some x)) h h2 (e.set i h1)
    exact ⟨k1, by rw [List.length_cons, List.length_cons, k2]⟩
/-- a target takes a value -/
def gOf (K : PySem.W.Frag) (Tb : List (Addr × Option Str)) (p : Pat) : TG := fun v σ H Q => ∃ β α st env d env', Ok K Tb β α st H ∧ EnvOk K α (Mk (β ++ α) H) env σ ∧ Rep K α (Mk (β ++ α) H) d v ∧ p.bind d env = some env' ∧
  ∀ σ', wipe σ' p.slots = wipe σ p.slots → EnvOk K α (Mk (β ++ α) H) env' σ' → Q σ' H
end
section
variable {X : Cx} {Tb : List (Addr × Option Str)}
/-- a name that may be stored -/
structure NmOk (X : Cx) (x : Str) (i : Nat) : Prop where
  at_ : X.N[i]? = some x
  loc : Loc X.env.scope x
  fn : X.fn x = true ∨ X.env.scope.names.lookup x = some .local
def NmsOk (X : Cx) : List Expr → List Nat → Prop
  | [], [] => True
  | .Name x _ :: r, i :: l => NmOk X x i ∧ NmsOk X r l
  | _, _ => False
def PatOk (X : Cx) (tg : Expr) (p : Pat) : Prop := match tg, p with
  | .Name x _, .one i => NmOk X x i
  | .Tuple es _ _, .tup l => NmsOk X es l
  | _, _ => False
theorem PG.by {X : Cx} {e : Expr} {t : TG} (h : ∀ v σ H Q, t v σ H Q → ∃ u, PG X e u ∧ u v σ H Q) : PG X e t := ⟨fun pins s σ H v u Q I r w => by
  obtain ⟨t', p, q⟩ := h v σ H Q w
  exact p.run pins s σ H v u Q I r q⟩
def gAll : List Nat → TGs
  | [] => gNil
  | i :: r => gCons (gName i) (gAll r)
theorem gAll_of : ∀ {l : List Nat} {xs : List V} {σ : L2.St} {H : Hp} {Q : L2.St → Hp → Prop}, xs.length = l.length → Q (setV l xs σ) H → gAll l xs σ H Q
  | [], [], _, _, _, _, q => ⟨rfl, q⟩
  | [], _ :: _, _, _, _, h, _ => by simp at h
  | _ :: _, [], _, _, _, h, _ => by simp at h
  | i :: r, v :: s, σ, H, Q, h, q => ⟨v, s, rfl, gAll_of (by simpa using h) q⟩
theorem nms_pgs (hN : X.N.Nodup) : ∀ {es : List Expr} {l : List Nat}, NmsOk X es l → PGs X es (gAll l) ∧ (assignEach es X.env).length = l.length ∧ (assignEach es X.env).findIdx? (·.1) = none
  | [], [], _ => ⟨pgs_nil, rfl, rfl⟩
  | .Name x _ :: r, i :: l, h => by
    obtain ⟨h1, h2⟩ := h
    obtain ⟨k1, k2, k3⟩ := nms_pgs hN h2
    refine ⟨pgs_cons (pg_name hN h1.at_ h1.loc h1.fn) k1 rfl, ?_, ?_⟩
    · show (assignEach r X.env).length + 1 = l.length + 1
      rw [k2]
    · show List.findIdx? (·.1) ((false, _) :: assignEach r X.env) = none
      rw [List.findIdx?_cons, k3]
      rfl
theorem snd_pat {tg : Expr} {p : Pat} (hc : X.calm = true) (hN : X.N.Nodup) (h : PatOk X tg p) : PG X tg (gOf X.K Tb p) := by
  unfold PatOk at h
  split at h
  · rename_i x _ i
    refine PG.by fun v σ H Q hw => ⟨_, pg_name hN h.at_ h.loc h.fn, ?_⟩
    obtain ⟨β, α, st, env, d, env', o, e, r, hb, q⟩ := hw
    cases hb
    exact q _ (wipe_set (by simp [Pat.slots])) (e.set i r)
  · rename_i es k pos l
    obtain ⟨k1, k2, k3⟩ := nms_pgs hN h
    refine PG.by fun v σ H Q hw => ⟨_, pg_tup (n := l.length) hc k1 k2 k3, ?_⟩
    obtain ⟨β, α, st, env, d, env', o, e, r, hb, q⟩ := hw
    cases d with
    | tup s =>
      obtain ⟨a, xs, rfl, h1, h2⟩ := r
      obtain ⟨q1, q2⟩ := setAll_env hb h2 e
      exact ⟨a, xs, rfl, LeG.mk.sqT (.inl (.inl h1)), q2, gAll_of q2 (q _ (setV_wipe fun j hj => hj) q1)⟩
    | _ => cases hb
  · exact h.elim
end
/-! list comprehensions -/
section
variable {K : PySem.W.Frag} {Tb : List (Addr × Option Str)} {β α α1 : List Addr} {st st1 : St} {H H1 : Hp}
theorem Stp.put_new {c : Addr} {o : HO} (a : Stp α α1 H H1) (hc : H c = none) : Stp α α1 H (upd H1 c o) where
  pre := a.pre
  new := a.new
  keep := fun b u hb e n => by rw [upd_ne (ne_of_none e hc)]; exact a.keep b u hb e n
  tbl := fun b ps hb e => by
    obtain ⟨ps', q⟩ := a.tbl b ps hb e
    exact ⟨ps', by rw [upd_ne (ne_of_none e hc)]; exact q⟩
/-- a list that is being made joins the lists that must stand -/
theorem Ok.more {D : Addr} {xs : List V} (o : Ok K Tb β α st H) (hD : H D = none) : Ok K Tb (D :: β) α st (upd H D (.lst xs)) := by
  have o1 := o.laid (o := .lst xs) hD
  have le : ∀ (b : Addr) (u : HO), Mk (β ++ α) H b = some u → NoTbl u → Mk (D :: β ++ α) (upd H D (.lst xs)) b = some u := fun b u e n => by
    obtain ⟨hb, e⟩ := mk_some e
    have hbD : b ≠ D := ne_of_none e hD
    have hb2 : b ∉ D :: β ++ α := fun z => (List.mem_cons.mp z).elim hbD hb
    exact (mk_out hb2).trans ((upd_ne hbD).trans e)
  refine ⟨o1.nd, fun a ha hb => ?_, fun b hb => ?_, o1.len, fun k a l e1 e2 => ?_, fun k a t ks vs e1 e2 => ?_, o1.tabs⟩
  · rcases List.mem_cons.mp hb with z | z
    · obtain ⟨ys, e, _⟩ := o.tracked ha
      rw [z, hD] at e
      cases e
    · exact o1.ap a ha z
  · rcases List.mem_cons.mp hb with z | z
    · exact ⟨xs, by rw [z, upd_same]⟩
    · exact o1.bl b z
  · obtain ⟨ys, h1, h2⟩ := o.cells k a l e1 e2
    have hne : ∀ b o, H b = some o → b ≠ D := fun b o e => ne_of_none e hD
    refine ⟨ys, by rw [upd_ne (hne _ _ h1)]; exact h1, Reps.mono List.prefix_rfl (fun b u e n => ?_) l ys h2⟩
    obtain ⟨hb, e⟩ := mk_some e
    have hbD := hne _ _ e
    have hb2 : b ∉ D :: β ++ α := fun z => (List.mem_cons.mp z).elim hbD hb
    exact (mk_out hb2).trans ((upd_ne hbD).trans e)
  · obtain ⟨ys, h1, h2⟩ := o.dcells k a t ks vs e1 e2
    exact ⟨ys, h1.le fun b u e _ => by rw [upd_ne (ne_of_none e hD)]; exact e, Reps.mono List.prefix_rfl le vs ys h2⟩
/-- a list in the making grows -/
theorem Ok.grow {D : Addr} {xs : List V} (o : Ok K Tb β α st H) (hD : D ∈ β) : Ok K Tb β α st (upd H D (.lst xs)) := by
  obtain ⟨ys, hy⟩ := o.bl D hD
  have hm : D ∈ β ++ α := List.mem_append_left _ hD
  refine ⟨o.nd, o.ap, fun b hb => ?_, o.len, fun k a l e1 e2 => ?_, fun k a t ks vs e1 e2 => ?_, fun p hp => ?_⟩
  · by_cases hb2 : b = D
    · exact ⟨xs, by rw [hb2, upd_same]⟩
    · obtain ⟨zs, e⟩ := o.bl b hb
      exact ⟨zs, by rw [upd_ne hb2]; exact e⟩
  · rw [mk_upd hm]
    obtain ⟨zs, h1, h2⟩ := o.cells k a l e1 e2
    exact ⟨zs, by rw [upd_ne (fun z : a = D => o.ap a (List.mem_of_getElem? e1) (z ▸ hD))]; exact h1, h2⟩
  · rw [mk_upd hm]
    obtain ⟨zs, h1, h2⟩ := o.dcells k a t ks vs e1 e2
    exact ⟨zs, h1.at_ (upd_ne (fun z : a = D => o.ap a (List.mem_of_getElem? e1) (z ▸ hD))), h2⟩
  · refine tabOk_lst (o.tabs p hp) fun b u e hn => ?_
    have : b ≠ D := fun z => by
      rw [z, hy] at e
      cases e
      exact hn (.inl ⟨_, rfl⟩)
    exact (upd_ne this).trans e
/-- the list is made -/
theorem Ok.less {D : Addr} (o : Ok K Tb (D :: β) α st H) : Ok K Tb β α st H where
  nd := o.nd
  ap := fun a ha hb => o.ap a ha (List.mem_cons_of_mem _ hb)
  bl := fun b hb => o.bl b (List.mem_cons_of_mem _ hb)
  len := o.len
  cells := fun k a l e1 e2 => by
    obtain ⟨ys, h1, h2⟩ := o.cells k a l e1 e2
    exact ⟨ys, h1, Reps.mono List.prefix_rfl (LeG.mk_sub fun b hb => List.mem_cons_of_mem _ hb) l ys h2⟩
  dcells := fun k a t ks vs e1 e2 => by
    obtain ⟨ys, h1, h2⟩ := o.dcells k a t ks vs e1 e2
    exact ⟨ys, h1, Reps.mono List.prefix_rfl (LeG.mk_sub fun b hb => List.mem_cons_of_mem _ hb) vs ys h2⟩
  tabs := o.tabs
end
section
variable {X : Cx} {Tb : List (Addr × Option Str)} {C : CallF}
theorem tOf_mk {K : PySem.W.Frag} {β α : List Addr} {st : St} {H : Hp} {σ : L2.St} {env : Env} {m : Env → M D} {Q : VK} (o : Ok K Tb β α st H) (e : EnvOk K α (Mk (β ++ α) H) env σ) (h : Sat K Tb β α (m env st) H Q) : tOf K Tb m σ H Q := ⟨β, α, st, env, o, e, h⟩
theorem tOfB_mk {K : PySem.W.Frag} {β α : List Addr} {st : St} {H : Hp} {σ : L2.St} {env : Env} {m : Env → M Bool} {Q : Bool → Hp → Prop} (o : Ok K Tb β α st H) (e : EnvOk K α (Mk (β ++ α) H) env σ) (h : SatB K Tb β α (m env st) H Q) : tOfB K Tb m σ H Q := ⟨β, α, st, env, o, e, h⟩
theorem tItr_mk {K : PySem.W.Frag} {β α : List Addr} {st : St} {H : Hp} {σ : L2.St} {env : Env} {m : Env → M Src} {R : It → Hp → Prop} (o : Ok K Tb β α st H) (e : EnvOk K α (Mk (β ++ α) H) env σ) (h : SatS K Tb β α (m env st) H R) : tItr K Tb m σ H R := ⟨β, α, st, env, o, e, h⟩
/-- a clause's test -/
def tTst (K : PySem.W.Frag) (Tb : List (Addr × Option Str)) (m : Env → M D) : TT := tOfB K Tb fun env => bnd (m env) truth
theorem satL_bnd {K : PySem.W.Frag} {β α : List Addr} {st : St} {H : Hp} {γ : Type} {m : M γ} {F : γ → M (List D)} {Q : List V → Hp → Prop} (h : SatL K Tb β α (bnd m F st) H Q) : ∃ a st', m st = .ok a st' ∧ SatL K Tb β α (F a st') H Q := by
  unfold bnd at h
  split at h
  · exact ⟨_, _, by assumption, h⟩
  · exact h.elim
theorem bnd_ok {γ δ : Type} {m : M γ} {F : γ → M δ} {st st' : St} {d : δ} (h : bnd m F st = .ok d st') : ∃ a st1, m st = .ok a st1 ∧ F a st1 = .ok d st' := by
  unfold bnd at h
  split at h
  · exact ⟨_, _, by assumption, h⟩
  · cases h
theorem bnd_eq {γ δ : Type} {m : M γ} {F : γ → M δ} {st st1 : St} {a : γ} (h : m st = .ok a st1) : bnd m F st = F a st1 := by
  unfold bnd
  rw [h]
theorem opt_ok {γ : Type} {o : Option γ} {st st' : St} {a : γ} (h : opt o st = .ok a st') : o = some a ∧ st' = st := by
  cases o with
  | none => cases h
  | some b => cases h; exact ⟨rfl, rfl⟩
/-- the reading of a comprehension, told by its evaluation. E: the element's evaluation and reading -/
theorem lc_tell {p : Pat} {c e : Env → M D} {wi : Env → M Src} {vs : List Nat} (hv : vs = p.slots) {σ : L2.St} {H : Hp} {Q : VK}
    (h : tOf X.K Tb (fun env => bnd (wi env) fun s => bnd (compL p c e (wipeE env p.slots) s.2 s.1) retLst) σ H Q) :
    tLc (tItr X.K Tb wi) (gOf X.K Tb p) (tTst X.K Tb c) (tOf X.K Tb e) vs σ H Q := by
  subst hv
  obtain ⟨β, α, st, env, o, en, h⟩ := h
  refine ⟨β, α, st, env, o, en, ?_⟩
  obtain ⟨⟨l, g⟩, st1, q1, h⟩ := sat_bnd h
  rw [q1]
  intro J α1 H1 s1 o1 hc walk D hD
  obtain ⟨L, stF, qF, h⟩ := sat_bnd h
  simp only at qF
  have hL : lenOk L = true := by
    unfold retLst at h
    split at h
    · assumption
    · exact h.elim
  have h : Sat X.K Tb β α (.ok (.lst L) stF) H Q := by
    unfold retLst at h
    rw [hL] at h
    exact h
  have hLs : L.length ≤ sizeLine := lenOk_le hL
  have en1 : EnvOk X.K α1 (Mk (β ++ α1) H1) env σ := en.mono s1.pre (s1.le β)
  -- what holds ahead of turn i
  let Pv : Nat → Hp → Prop := fun i H2 => ∃ α2 st2 acc xs ys, Stp α1 α2 H1 H2 ∧ Ok X.K Tb (D :: β) α2 st2 H2 ∧ chk g st2 = .ok () st2 ∧ H2 D = some (.lst xs) ∧ Reps X.K α2 (Mk (D :: β ++ α2) H2) acc xs ∧ compL p c e (wipeE env p.slots) g (l.drop i) st2 = .ok ys stF ∧ L = acc ++ ys
  have hnew : ∀ b ∈ D :: β, b ∈ β ∨ H1 b = none := fun b hb => (List.mem_cons.mp hb).elim (fun z => .inr (z ▸ hD)) .inl
  have h0 : Pv 0 (upd H1 D (.lst [])) := ⟨α1, st1, [], [], L, Stp.laid hD, o1.more hD, hc, upd_same, rfl, qF, rfl⟩
  refine ⟨fun i m H2 => m = l.length - i ∧ i ≤ l.length ∧ Pv i H2, ⟨l.length, by simp, Nat.zero_le _, h0⟩, ?_⟩
  rintro i m H2 ⟨rfl, hi, α2, st2, acc, xs, ys, s2, o2, c2, hx, ra, qr, eL⟩
  obtain ⟨wg, ws, wy⟩ := walk (D :: β) α2 st2 H2 hnew (s2.w β) o2 c2
  by_cases hlt : i < l.length
  · refine .inr ⟨wg i hlt, Pv (i + 1), fun H' p' => ⟨l.length - (i + 1), by omega, rfl, hlt, p'⟩, fun x H3 y => ?_⟩
    obtain ⟨d, hd, o3, s3, r3⟩ := wy i x H3 hlt y
    have hdrop : l.drop i = d :: l.drop (i + 1) := by
      rw [List.drop_eq_getElem_cons hlt]
      congr 1
      rw [List.getElem?_eq_getElem hlt] at hd
      exact Option.some.inj hd
    rw [hdrop] at qr
    unfold compL at qr
    obtain ⟨env', st2, qb0, qr1⟩ := bnd_ok qr
    obtain ⟨qb, e3⟩ := opt_ok qb0
    rw [e3] at qr1
    clear qr qb0 e3 st2
    have s13 : Stp α1 α2 H1 H3 := s2.trans s3
    have enw : EnvOk X.K α2 (Mk (D :: β ++ α2) H3) (wipeE env p.slots) (wipe σ p.slots) := (EnvOk.wipe en1 p.slots).mono s13.pre ((s13.w β).le' hnew)
    refine ⟨D :: β, α2, st2, wipeE env p.slots, d, env', o3, enw, r3, qb, fun σ' hw e' => ⟨by rw [hw, wipe_wipe fun _ h => h], ?_⟩⟩
    refine tOfB_mk o3 e' ?_
    obtain ⟨b, st4, q4, qr2⟩ := bnd_ok qr1
    rw [q4]
    intro α4 H4 s4 o4
    have s14 : Stp α1 α4 H1 H4 := s13.trans s4
    have hx4 : H4 D = some (.lst xs) ∧ Reps X.K α4 (Mk (D :: β ++ α4) H4) acc xs := by
      have hDα : D ∉ α2 := fun z => o2.ap D z List.mem_cons_self
      have h3 : H3 D = some (.lst xs) := s3.keep D _ hDα hx noT_lst
      exact ⟨s4.keep D _ hDα h3 noT_lst, s4.reps (s3.reps ra)⟩
    cases b with
    | false =>
      obtain ⟨_, st5, q5, qr3⟩ := bnd_ok qr2
      have e5 := chk_st q5
      rw [e5] at q5 qr3
      exact ⟨α4, st4, acc, xs, ys, s14, o4, chk_ok q5, hx4.1, hx4.2, qr3, eL⟩
    | true =>
      obtain ⟨y, st5, q5, qr3⟩ := bnd_ok qr2
      refine tOf_mk o4 (e'.mono s4.pre (s4.le (D :: β))) ?_
      rw [q5]
      intro v α5 H5 s5 o5 r5
      obtain ⟨_, st6, q6, qr4⟩ := bnd_ok qr3
      have e6 := chk_st q6
      rw [e6] at q6 qr4
      obtain ⟨ys', st7, q7, qr5⟩ := bnd_ok qr4
      cases qr5
      have hDα4 : D ∉ α4 := fun z => o4.ap D z List.mem_cons_self
      have hx5 : H5 D = some (.lst xs) := s5.keep D _ hDα4 hx4.1 noT_lst
      have ra5 : Reps X.K α5 (Mk (D :: β ++ α5) H5) acc xs := s5.reps hx4.2
      have hlen : xs.length < sizeLine := by
        rw [ra5.length]
        rw [eL, List.length_append, List.length_cons] at hLs
        omega
      refine ⟨xs, hx5, hlen, α5, st5, acc ++ [y], xs ++ [v], ys', (s14.trans s5).put_new hD, o5.grow List.mem_cons_self, chk_ok q6, upd_same, ?_, q7, by rw [eL, List.append_assoc]; rfl⟩
      rw [mk_upd (List.mem_append_left _ List.mem_cons_self)]
      exact ra5.append (Reps.one r5)
  · have e : i = l.length := by omega
    subst e
    rw [List.drop_length] at qr
    cases qr
    rw [List.append_nil] at eL
    subst eL
    refine .inl ⟨ws, ?_⟩
    have s02 := s1.trans s2
    refine h (.ref D) α2 H2 s02 o2.less ⟨D, xs, rfl, ?_, Reps.mono List.prefix_rfl (LeG.mk_sub fun b hb => List.mem_cons_of_mem _ hb) _ _ ra⟩
    rw [mk_out fun z => ?_]
    · exact hx
    · rcases List.mem_append.mp z with z | z
      · obtain ⟨_, q⟩ := o1.bl D z
        rw [hD] at q
        cases q
      · exact o2.ap D z List.mem_cons_self
end
end Mp
end
section
set_option Elab.async false
set_option linter.all false
set_option maxRecDepth 100000
/-! List comprehensions of two clauses. -/
namespace Mp
open PySem PySem.Spec L2 PyProof.Rows
section
variable {X : Cx} {Tb : List (Addr × Option Str)} {C : CallF}
theorem lc2_tell {p q : Pat} {c d e : Env → M D} {wi wi1 : Env → M Src} {vs vs1 : List Nat} (hv : vs = p.slots ++ q.slots) (hv1 : vs1 = q.slots) {σ : L2.St} {H : Hp} {Q : VK}
    (h : tOf X.K Tb (fun env => bnd (wi env) fun s => bnd (compJ p c (fun env => bnd (wi1 env) fun s => compL q d e (wipeE env q.slots) s.2 s.1) (wipeE env (p.slots ++ q.slots)) s.2 s.1) retLst) σ H Q) :
    tLc2 (tItr X.K Tb wi) (gOf X.K Tb p) (tTst X.K Tb c) (tItr X.K Tb wi1) (gOf X.K Tb q) (tTst X.K Tb d) (tOf X.K Tb e) vs vs1 σ H Q := by
  subst hv hv1
  obtain ⟨β, α, st, env, o, en, h⟩ := h
  refine ⟨β, α, st, env, o, en, ?_⟩
  obtain ⟨⟨l, g⟩, st1, q1, h⟩ := sat_bnd h
  rw [q1]
  intro J α1 H1 s1 o1 hc walk D hD
  obtain ⟨L, stF, qF, h⟩ := sat_bnd h
  simp only at qF
  have hL : lenOk L = true := by
    unfold retLst at h
    split at h
    · assumption
    · exact h.elim
  have h : Sat X.K Tb β α (.ok (.lst L) stF) H Q := by
    unfold retLst at h
    rw [hL] at h
    exact h
  have hLs : L.length ≤ sizeLine := lenOk_le hL
  have en1 : EnvOk X.K α1 (Mk (β ++ α1) H1) env σ := en.mono s1.pre (s1.le β)
  generalize hel : (fun env => bnd (wi1 env) fun s => compL q d e (wipeE env q.slots) s.2 s.1) = el at qF
  generalize hew : wipeE env (p.slots ++ q.slots) = ew at qF
  -- what holds ahead of turn i
  let Pv : Nat → Hp → Prop := fun i H2 => ∃ α2 st2 acc xs ys, Stp α1 α2 H1 H2 ∧ Ok X.K Tb (D :: β) α2 st2 H2 ∧ chk g st2 = .ok () st2 ∧ H2 D = some (.lst xs) ∧ Reps X.K α2 (Mk (D :: β ++ α2) H2) acc xs ∧ compJ p c el ew g (l.drop i) st2 = .ok ys stF ∧ L = acc ++ ys
  have hnew : ∀ b ∈ D :: β, b ∈ β ∨ H1 b = none := fun b hb => (List.mem_cons.mp hb).elim (fun z => .inr (z ▸ hD)) .inl
  have h0 : Pv 0 (upd H1 D (.lst [])) := ⟨α1, st1, [], [], L, Stp.laid hD, o1.more hD, hc, upd_same, rfl, qF, rfl⟩
  refine ⟨fun i m H2 => m = l.length - i ∧ i ≤ l.length ∧ Pv i H2, ⟨l.length, by simp, Nat.zero_le _, h0⟩, ?_⟩
  rintro i m H2 ⟨rfl, hi, α2, st2, acc, xs, ys, s2, o2, c2, hx, ra, qr, eL⟩
  obtain ⟨wg, ws, wy⟩ := walk (D :: β) α2 st2 H2 hnew (s2.w β) o2 c2
  by_cases hlt : i < l.length
  · refine .inr ⟨wg i hlt, Pv (i + 1), fun H' p' => ⟨l.length - (i + 1), by omega, rfl, hlt, p'⟩, fun x H3 y => ?_⟩
    obtain ⟨dd, hd, o3, s3, r3⟩ := wy i x H3 hlt y
    have hdrop : l.drop i = dd :: l.drop (i + 1) := by
      rw [List.drop_eq_getElem_cons hlt]
      congr 1
      rw [List.getElem?_eq_getElem hlt] at hd
      exact Option.some.inj hd
    rw [hdrop] at qr
    unfold compJ at qr
    obtain ⟨env', st3, qb0, qr1⟩ := bnd_ok qr
    obtain ⟨qb, e3⟩ := opt_ok qb0
    rw [e3] at qr1
    clear qr qb0 e3 st3
    have s13 : Stp α1 α2 H1 H3 := s2.trans s3
    have enw : EnvOk X.K α2 (Mk (D :: β ++ α2) H3) ew (wipe σ (p.slots ++ q.slots)) := by
      rw [← hew]
      exact (EnvOk.wipe en1 _).mono s13.pre ((s13.w β).le' hnew)
    refine ⟨D :: β, α2, st2, ew, dd, env', o3, enw, r3, qb, fun σ' hw e' => ⟨by rw [wipe_sub (fun j hj => List.mem_append_left _ hj) hw, wipe_wipe fun _ h => h], ?_⟩⟩
    refine tOfB_mk o3 e' ?_
    obtain ⟨b, st4, q4, qr2⟩ := bnd_ok qr1
    rw [q4]
    intro α4 H4 s4 o4
    have s14 : Stp α1 α4 H1 H4 := s13.trans s4
    have hx4 : H4 D = some (.lst xs) ∧ Reps X.K α4 (Mk (D :: β ++ α4) H4) acc xs := by
      have hDα : D ∉ α2 := fun z => o2.ap D z List.mem_cons_self
      have h3 : H3 D = some (.lst xs) := s3.keep D _ hDα hx noT_lst
      exact ⟨s4.keep D _ hDα h3 noT_lst, s4.reps (s3.reps ra)⟩
    cases b with
    | false =>
      obtain ⟨_, st5, q5, qr3⟩ := bnd_ok qr2
      have e5 := chk_st q5
      rw [e5] at q5 qr3
      exact ⟨α4, st4, acc, xs, ys, s14, o4, chk_ok q5, hx4.1, hx4.2, qr3, eL⟩
    | true =>
      obtain ⟨y1, stI, q5, qr3⟩ := bnd_ok qr2
      obtain ⟨_, st6, q6, qr4⟩ := bnd_ok qr3
      have e6 := chk_st q6
      rw [e6] at q6 qr4
      have q6 := chk_ok q6
      obtain ⟨ys', st7, q7, qr5⟩ := bnd_ok qr4
      cases qr5
      rw [← hel] at q5
      obtain ⟨⟨l1, g1⟩, st5, q50, q51⟩ := bnd_ok q5
      simp only at q51
      have e4 : EnvOk X.K α4 (Mk (D :: β ++ α4) H4) env' σ' := e'.mono s4.pre (s4.le (D :: β))
      refine tItr_mk o4 e4 ?_
      rw [q50]
      intro J1 α5 H5 s5 o5 hc5 walk1
      have s15 : Stp α1 α5 H1 H5 := s14.trans s5
      have e5 : EnvOk X.K α5 (Mk (D :: β ++ α5) H5) env' σ' := e4.mono s5.pre (s5.le (D :: β))
      have hDα4 : D ∉ α4 := fun z => o4.ap D z List.mem_cons_self
      have hx5 : H5 D = some (.lst xs) := s5.keep D _ hDα4 hx4.1 noT_lst
      have ra5 : Reps X.K α5 (Mk (D :: β ++ α5) H5) acc xs := s5.reps hx4.2
      let Pv1 : Nat → Hp → Prop := fun j H6 => ∃ α6 st6 acc1 xs1 ys1, Stp α1 α6 H1 H6 ∧ StpW (D :: β) α5 α6 H5 H6 ∧ Ok X.K Tb (D :: β) α6 st6 H6 ∧ chk g1 st6 = .ok () st6 ∧ H6 D = some (.lst xs1) ∧ Reps X.K α6 (Mk (D :: β ++ α6) H6) acc1 xs1 ∧ compL q d e (wipeE env' q.slots) g1 (l1.drop j) st6 = .ok ys1 stI ∧ acc ++ y1 = acc1 ++ ys1
      have h10 : Pv1 0 H5 := ⟨α5, st5, acc, xs, y1, s15, (Stp.refl α5 H5).w _, o5, hc5, hx5, ra5, q51, rfl⟩
      refine ⟨fun j k H6 => k = l1.length - j ∧ j ≤ l1.length ∧ Pv1 j H6, ⟨l1.length, by simp, Nat.zero_le _, h10⟩, ?_⟩
      rintro j k H6 ⟨rfl, hj, α6, st6', acc1, xs1, ys1, s16, s56, o6, c6, hx6, ra6, qr6, eL1⟩
      obtain ⟨wg1, ws1, wy1⟩ := walk1 (D :: β) α6 st6' H6 (fun b hb => .inl hb) s56 o6 c6
      by_cases hlt1 : j < l1.length
      · refine .inr ⟨wg1 j hlt1, Pv1 (j + 1), fun H' p' => ⟨l1.length - (j + 1), by omega, rfl, hlt1, p'⟩, fun x1 H7 yy => ?_⟩
        obtain ⟨d1, hd1, o7, s7, r7⟩ := wy1 j x1 H7 hlt1 yy
        have hdrop1 : l1.drop j = d1 :: l1.drop (j + 1) := by
          rw [List.drop_eq_getElem_cons hlt1]
          congr 1
          rw [List.getElem?_eq_getElem hlt1] at hd1
          exact Option.some.inj hd1
        rw [hdrop1] at qr6
        unfold compL at qr6
        obtain ⟨env2, st8, qb0, qr7⟩ := bnd_ok qr6
        obtain ⟨qb2, e8⟩ := opt_ok qb0
        rw [e8] at qr7
        clear qr6 qb0 e8 st8
        have s57 : StpW (D :: β) α5 α6 H5 H7 := s56.then s7
        have enw2 : EnvOk X.K α6 (Mk (D :: β ++ α6) H7) (wipeE env' q.slots) (wipe σ' q.slots) := (EnvOk.wipe e5 _).mono s57.pre (s57.le' fun b hb => .inl hb)
        refine ⟨D :: β, α6, st6', wipeE env' q.slots, d1, env2, o7, enw2, r7, qb2, fun σ3 hw3 e7 => ⟨by rw [hw3, wipe_wipe fun _ h => h], ?_⟩⟩
        refine tOfB_mk o7 e7 ?_
        obtain ⟨b2, st9, q9, qr8⟩ := bnd_ok qr7
        rw [q9]
        intro α9 H9 s9 o9
        have s19 : Stp α1 α9 H1 H9 := (s16.trans s7).trans s9
        have s59 : StpW (D :: β) α5 α9 H5 H9 := s57.then s9
        have hDα6 : D ∉ α6 := fun z => o6.ap D z List.mem_cons_self
        have hx9 : H9 D = some (.lst xs1) := s9.keep D _ hDα6 (s7.keep D _ hDα6 hx6 noT_lst) noT_lst
        have ra9 : Reps X.K α9 (Mk (D :: β ++ α9) H9) acc1 xs1 := s9.reps (s7.reps ra6)
        cases b2 with
        | false =>
          obtain ⟨_, st10, q10, qr9⟩ := bnd_ok qr8
          have e10 := chk_st q10
          rw [e10] at q10 qr9
          exact ⟨α9, st9, acc1, xs1, ys1, s19, s59, o9, chk_ok q10, hx9, ra9, qr9, eL1⟩
        | true =>
          obtain ⟨y2, st10, q10, qr9⟩ := bnd_ok qr8
          refine tOf_mk o9 (e7.mono s9.pre (s9.le (D :: β))) ?_
          rw [q10]
          intro v α11 H11 s11 o11 r11
          obtain ⟨_, st12, q12, qr10⟩ := bnd_ok qr9
          have e12 := chk_st q12
          rw [e12] at q12 qr10
          obtain ⟨ys2, st13, q13, qr11⟩ := bnd_ok qr10
          cases qr11
          have hDα9 : D ∉ α9 := fun z => o9.ap D z List.mem_cons_self
          have hx11 : H11 D = some (.lst xs1) := s11.keep D _ hDα9 hx9 noT_lst
          have ra11 : Reps X.K α11 (Mk (D :: β ++ α11) H11) acc1 xs1 := s11.reps ra9
          have hlen : xs1.length < sizeLine := by
            rw [ra11.length]
            have z : L = acc1 ++ (y2 :: ys2) ++ ys' := by rw [eL, ← eL1, List.append_assoc]
            rw [z, List.length_append, List.length_append, List.length_cons] at hLs
            omega
          refine ⟨xs1, hx11, hlen, α11, st10, acc1 ++ [y2], xs1 ++ [v], ys2, (s19.trans s11).put_new hD, (s59.then s11).put List.mem_cons_self, o11.grow List.mem_cons_self, chk_ok q12, upd_same, ?_, q13, by rw [eL1, List.append_assoc]; rfl⟩
          rw [mk_upd (List.mem_append_left _ List.mem_cons_self)]
          exact ra11.append (Reps.one r11)
      · have ej : j = l1.length := by omega
        subst ej
        rw [List.drop_length] at qr6
        cases qr6
        rw [List.append_nil] at eL1
        refine .inl ⟨ws1, α6, _, acc1, xs1, ys', s16, o6, q6, hx6, ra6, q7, ?_⟩
        rw [eL, ← eL1, List.append_assoc]
  · have e : i = l.length := by omega
    subst e
    rw [List.drop_length] at qr
    cases qr
    rw [List.append_nil] at eL
    subst eL
    refine .inl ⟨ws, ?_⟩
    have s02 := s1.trans s2
    refine h (.ref D) α2 H2 s02 o2.less ⟨D, xs, rfl, ?_, Reps.mono List.prefix_rfl (LeG.mk_sub fun b hb => List.mem_cons_of_mem _ hb) _ _ ra⟩
    rw [mk_out fun z => ?_]
    · exact hx
    · rcases List.mem_append.mp z with z | z
      · obtain ⟨_, q⟩ := o1.bl D z
        rw [hD] at q
        cases q
      · exact o2.ap D z List.mem_cons_self
end
end Mp
end
section
set_option Elab.async false
set_option linter.all false
set_option maxRecDepth 100000
/-! Generator expressions: the frame. -/
namespace Mp
open PySem PySem.Spec L2 PyProof.Rows
structure GenOk (N : List Str) (sc scope : Scope) (own : List (Str × Nat)) : Prop where
  blk : BlkOk N sc scope own
  co : scope.isCoroutine = false
  cell : ∀ y ∈ scope.names, y.2 ≠ .cell
  dot : scope.names.lookup (".0" : Str) = some NameKind.local
/-- the context of a generator expression's frame -/
def gcx (X : Cx) (A : Around) (s : Shared) (H : Hp) (cenv : PySem.Env) (fp : List Addr) (pn : List (Addr × Obj)) : Cx := { X with A := A, s_0 := s, H_0 := H, env := cenv, outer := X.stack, stack := cenv :: X.stack, ex := fp, fn := fun _ => false, pn := pn, xe := fun _ _ => False }
/-- awake again: only the table of generators has changed -/
structure Woke (s s' : Shared) : Prop where
  heap : s'.heap = s.heap
  os : s'.os = s.os
  bare : AllBare s'.gens
theorem Inv.woke {X : Cx} {pins : List (Addr × Obj)} {σ : L2.St} {H : Hp} {s s' : Shared} (I : Inv X pins σ H s) (w : Woke s s') : Inv X pins σ H s' := by
  obtain ⟨h1, h2, h3⟩ := w
  exact ⟨I.ok, h2.trans I.os, h3, by rw [h1]; exact I.base, by rw [h1]; exact I.loc, by rw [h1]; exact I.cell, I.free, I.freeC, by rw [h1]; exact I.pin, by rw [h1]; exact I.hok, I.len⟩
section
variable {X : Cx} {pins : List (Addr × Obj)} {σ : L2.St} {H : Hp} {s s' : Shared}
theorem gen_start {A : Around} {scope : Scope} {own : List (Str × Nat)} {fp : List Addr} {code it : Value} {h' : Heap} (I : Inv X pins σ H s) (hA : A.handled = none) (hfr : A.frames = some (genEnv scope (cloFrom X.env.cells scope.names []) s.heap.objs.size code builtinsNs X.env :: X.stack))
    (ok : GenOk X.N X.env.scope scope own) (hN : X.N.Nodup) (hfp : ∀ b ∈ fp, FpOk X pins H b ∧ b < s.heap.objs.size)
    (hn : h'.Ns s.heap.objs.size (fun y => if y = ".0" then some it else none)) (kp : ∀ b o, s.heap.get? b = some o → h'.get? b = some o)
    (hs : s'.heap = h') (hos : s'.os = s.os) (hb : AllBare s'.gens) {pn : List (Addr × Obj)} (hpn : ∀ p ∈ pn, s.heap.objs.size < p.1 ∧ h'.get? p.1 = some p.2 ∧ ∀ v, p.2.data ≠ .cell v) :
    Inv (gcx X A s H (genEnv scope (cloFrom X.env.cells scope.names []) s.heap.objs.size code builtinsNs X.env) fp pn) [] (wipe σ (own.map (·.2))) H s' := by
  have hfree : ∀ y ∈ scope.names, y.2 = .free → ∃ c, X.env.cells.lookup y.1 = some c := fun y hy e => by
    rcases ok.blk.free y hy e with k | k
    · exact I.ok.has _ (.inl k)
    · exact I.ok.has _ (.inr k)
  have cm : ∀ {y c}, (y, c) ∈ cloFrom X.env.cells scope.names [] → X.env.cells.lookup y = some c ∧ c < s.heap.objs.size := fun {y c} hm => by
    rcases cloFrom_mem hm with hm | ⟨h1, rfl⟩
    · cases hm
    · obtain ⟨c, hc⟩ := hfree _ h1 rfl
      rw [hc]
      obtain ⟨w, z⟩ := I.cell _ _ hc
      exact ⟨rfl, z.lt⟩
  have look : ∀ {y}, scope.names.lookup y = some .free → ∃ c, (cloFrom X.env.cells scope.names []).lookup y = some c ∧ X.env.cells.lookup y = some c := fun {y} hl => by
    have hy : (y, NameKind.free) ∈ scope.names := PySem.mem_of_lookup hl
    obtain ⟨c', e'⟩ := mem_lookup (cloFrom_has (cells := X.env.cells) (acc := []) hy)
    exact ⟨c', e', (cm (PySem.mem_of_lookup e')).1⟩
  generalize hcenv : genEnv scope (cloFrom X.env.cells scope.names []) s.heap.objs.size code builtinsNs X.env = cenv at hfr ⊢
  have hL : cenv.locals = s.heap.objs.size := by rw [← hcenv]; rfl
  have hcl : cenv.cells = cloFrom X.env.cells scope.names [] := by rw [← hcenv]; rfl
  have hsc : cenv.scope = scope := by rw [← hcenv]; rfl
  have hframe : cenv.frame = some cenv.locals := by rw [← hcenv]; rfl
  subst hs
  have okB : (gcx X A s H cenv fp pn).Ok := by
    refine ⟨I.ok.mod, by show cenv.scope.kind = _; rw [hsc]; exact ok.blk.kind, by show cenv.globals = _; rw [← hcenv]; exact I.ok.glob, by show cenv.builtins = _; rw [← hcenv]; rfl, by show s.heap.objs.size ≤ cenv.locals; rw [hL]; exact Nat.le_refl _,
      fun y z c e1 e2 => ?_, fun y hy => ?_, fun y c z e => (by cases z), fun _ => hA, hfr, .inr ⟨rfl, hframe⟩, fun b hb => ⟨?_, fun y c e z => ?_⟩, I.bs, Nat.le_trans I.ok.bsz I.sz, fun b o e hb => ?_, fun b hb z => ?_, I.stack, I.stkFree⟩
    · have e1 : cenv.cells.lookup y = some c := e1
      have e2 : cenv.cells.lookup z = some c := e2
      rw [hcl] at e1 e2
      exact I.ok.inj y z c (cm (PySem.mem_of_lookup e1)).1 (cm (PySem.mem_of_lookup e2)).1
    · have hy : cenv.scope.names.lookup y = some .cell ∨ cenv.scope.names.lookup y = some .free := hy
      rw [hsc] at hy
      show ∃ c, cenv.cells.lookup y = some c
      rw [hcl]
      rcases hy with hy | hy
      · exact absurd rfl (ok.cell _ (PySem.mem_of_lookup hy))
      · obtain ⟨c, h1, _⟩ := look hy
        exact ⟨c, h1⟩
    · show b ≠ cenv.locals
      rw [hL]; exact Nat.ne_of_lt (hfp b hb).2
    · have e : cenv.cells.lookup y = some c := e
      rw [hcl] at e
      exact (hfp b hb).1.2.2.2.2.1 y c (cm (PySem.mem_of_lookup e)).1 z
    · rcases (hfp b hb).1.2.2.2.1 with z | z
      · exact I.ok.noex b o e z
      · exact absurd (Nat.lt_of_lt_of_le (Heap.lt_size e) (Nat.le_trans I.ok.bsz z)) (Nat.lt_irrefl _)
    · rcases List.mem_cons.mp (I.stkSub b z) with z | z
      · exact (hfp b hb).1.2.1 z
      · exact (hfp b hb).1.2.2.1 z
  refine ⟨okB, hos, hb, Un.kept kp, ⟨_, by show Heap.Ns _ cenv.locals _; rw [hL]; exact hn, fun i y av e1 e2 e3 => ?_⟩, fun y c e => ?_, ?_, fun y c e => ?_, fun p hp => ?_, I.hok.kept kp, by rw [wipe_length]; exact I.len⟩
  · obtain ⟨e2, hne⟩ := wipe_some e2
    have e3 : Vis cenv.scope y := e3
    rw [hsc] at e3
    have no : ∀ k, scope.names.lookup y = some k → ¬ (k = .local ∨ k = .cell) := fun k hk hh => by
      rcases ok.blk.own _ (PySem.mem_of_lookup hk) hh with e' | e'
      · obtain ⟨p, hp, hpy⟩ := List.mem_map.mp e'
        have e4 := ok.blk.ix p hp
        have : p.1 = y := hpy
        rw [this] at e4
        exact hne (List.mem_map.mpr ⟨p, hp, nodup_ix hN e4 e1⟩)
      · exact e' (List.mem_of_getElem? e1)
    have hfr : scope.names.lookup y = some .free := by
      rcases e3 with e3 | e3 | e3
      · exact absurd (.inl rfl) (no _ e3)
      · exact absurd (.inr rfl) (no _ e3)
      · exact e3
    obtain ⟨m, hnm, hl⟩ := I.loc
    have hvis : Vis X.env.scope y := (ok.blk.free _ (PySem.mem_of_lookup hfr) rfl).elim (fun k => .inr (.inl k)) (fun k => .inr (.inr k))
    obtain ⟨w, r, q⟩ := hl i y av e1 e2 hvis
    refine ⟨w, r, .inr ⟨.inr (by show cenv.scope.names.lookup y = _; rw [hsc]; exact hfr), ?_⟩⟩
    obtain ⟨c, h1, h2⟩ := look hfr
    rcases q with ⟨k, _⟩ | ⟨_, c', e', z⟩
    · have k : X.env.scope.names.lookup y = some .local := k
      rcases ok.blk.free _ (PySem.mem_of_lookup hfr) rfl with k' | k' <;> rw [show X.env.scope.names.lookup y = _ from k'] at k <;> cases k
    · rw [h2] at e'; cases e'
      exact ⟨c, by show cenv.cells.lookup y = _; rw [hcl]; exact h1, z.keeps kp⟩
  · have e : cenv.cells.lookup y = some c := e
    rw [hcl] at e
    obtain ⟨w, z⟩ := I.cell y c (cm (PySem.mem_of_lookup e)).1
    exact ⟨w, z.keeps kp⟩
  · show H cenv.locals = none
    rw [hL]; exact I.hok.fresh (Nat.le_refl _)
  · have e : cenv.cells.lookup y = some c := e
    rw [hcl] at e
    exact I.freeC y c (cm (PySem.mem_of_lookup e)).1
  · have hp : p ∈ pn := by
      have hp : p ∈ pn ++ [] := hp
      simpa using hp
    obtain ⟨h1, h2, h3⟩ := hpn p hp
    refine ⟨h2, I.hok.fresh (Nat.le_of_lt h1), ?_, ?_, h3⟩
    · show p.1 ≠ cenv.locals
      rw [hL]
      exact Nat.ne_of_gt h1
    · intro z
      rcases List.mem_cons.mp (I.stkSub p.1 z) with z | z
      · exact absurd (Nat.lt_trans (z ▸ I.lt) h1) (Nat.lt_irrefl _)
      · exact I.nofs (Nat.le_of_lt h1) z
end
theorem over_comp0 {A : Around} {elt : Expr} {gs : List Comprehension} {scope : Scope} {pos : Pos} {it acc : Value} {env : PySem.Env} : A.over (.compLoop (.GeneratorExp elt gs scope pos) 0 it acc env) [] = A.deeper env := by
  first
    | rfl
    | (obtain ⟨hd, d, fr, gs, u⟩ := A; simp [Around.over, Around.deeper, marksOver, frameCount, unitsOf, envsOf, guardsOf, pushEnvs, pushGuards, Code.envs, Code.env?, Code.isFrame, Code.guards, Code.isGuard, Code.weight, Code.frames, Code.isCreation, Code.isCaller, Code.cUnits])
theorem over_compS {A : Around} {elt : Expr} {gs : List Comprehension} {scope : Scope} {pos : Pos} {it acc : Value} {env : PySem.Env} : A.over (.compStart (.GeneratorExp elt gs scope pos) 0 it acc env) [] = A.deeper env := by
  first
    | rfl
    | (obtain ⟨hd, d, fr, gs, u⟩ := A; simp [Around.over, Around.deeper, marksOver, frameCount, unitsOf, envsOf, guardsOf, pushEnvs, pushGuards, Code.envs, Code.env?, Code.isFrame, Code.guards, Code.isGuard, Code.weight, Code.frames, Code.isCreation, Code.isCaller, Code.cUnits])
end Mp
end
section
set_option Elab.async false
set_option linter.all false
set_option maxRecDepth 100000
set_option maxHeartbeats 1000000
/-! Generator expressions of one clause. -/
namespace Mp
open PySem PySem.Spec L2 PyProof.Rows
section
variable {G : Cx} {A : Around} {elt tg iter : Expr} {ifs : List Expr} {scope : Scope} {pos : Pos} {it : Addr} {fp : List Addr} {tn : Nat → Heap → Prop} {J : It} {g : TG} {tt : TT} {te : TE} {vs : List Nat} {σ : L2.St} {al : Bool} {QE QS : Hp → Prop}
def gR (G : Cx) (QE : Hp → Prop) : GenEnd := fun _ _ r s => r = .ok .next ∧ ∃ H σ', Inv G [] σ' H s ∧ QE H
def gY (G : Cx) (al : Bool) (QS : Hp → Prop) : Protocol := fun _ _ v s kap => ∃ k H σ', v = .bool k ∧ Inv G [] σ' H s ∧ ((k = al ∧ ∀ s', Woke s s' → kap (.send .none) s') ∨ (k ≠ al ∧ QS H))
/-- what a turn is to bring -/
def gTurns (J : It) (g : TG) (tt : TT) (te : TE) (vs : List Nat) (σ : L2.St) (al : Bool) (QE QS : Hp → Prop) (W : Nat → Nat → Hp → Prop) : Prop := ∀ i m H, W i m H →
  (J.stop i H ∧ QE H) ∨ (J.go i H ∧ ∃ Nx : Hp → Prop, (∀ H', Nx H' → ∃ m', m' < m ∧ W (i + 1) m' H') ∧ ∀ x H', J.yld i H x H' → g x (wipe σ vs) H' fun σ2 H2 => wipe σ2 vs = wipe σ vs ∧ tt σ2 H2 fun b H3 =>
    if b = true then te σ2 H3 fun y H4 => ∃ k, y = .bl k ∧ ((k = al ∧ Nx H4) ∨ (k ≠ al ∧ QS H4)) else Nx H3)
theorem segF {α β : Type} {M : Model} {R : GenEnd} {Y : Protocol} {n : Nat} {s₀ s : Shared} {c : Code} {fs : List Frame} {m : Sem α} {K : α → Sem β} {K' : β → Sem PySem.Fin} {H' : Value → Sem PySem.Fin} {gd lv} {Q : α → Shared → Prop}
    (h : wpAny M (A.over c fs) m Q (fun _ _ => False) s) (hQ : ∀ a s', Q a s' → Seg M A R Y n s₀ c ((K a).wrap K' H' gd lv) fs s') : Seg M A R Y n s₀ c ((m >>= K).wrap K' H' gd lv) fs s :=
  seg_bind_wrap (wpAny_mono h hQ fun _ _ z => False.elim z)
theorem segG {α β : Type} {M : Model} {R : GenEnd} {Y : Protocol} {n : Nat} {s₀ s : Shared} {c : Code} {fs : List Frame} {m : Sem α} {K : α → Sem β} {K' : β → Sem PySem.Fin} {H' : Value → Sem PySem.Fin} {gd lv} {Q : α → Shared → Prop} {A1 : Around} (hov : A.over c fs = A1)
    (h : wpAny M A1 m Q (fun _ _ => False) s) (hQ : ∀ a s', Q a s' → Seg M A R Y n s₀ c ((K a).wrap K' H' gd lv) fs s') : Seg M A R Y n s₀ c ((m >>= K).wrap K' H' gd lv) fs s := segF (by rw [hov]; exact h) hQ
theorem noxG {α : Type} {M : Model} {A : Around} {t : Sem α} {Q : α → Shared → Prop} {xe : Value → Shared → Prop} {s : Shared} (hx : xe = fun _ _ => False) (h : wpAny M A t Q xe s) : wpAny M A t Q (fun _ _ => False) s := hx ▸ h
theorem seg_g1 (hA : A.deeper G.env = G.A) (T : Turn G.prog G.w G.K tg J fp it tn) (hc : G.calm = true) (hxe : G.xe = fun _ _ => False) (hpn : ∀ p ∈ G.pn, p.1 ∉ fp) (hex : G.ex = fp) (hexs : ∀ b ∈ fp, b ∉ G.fs)
    (pg : PG G tg g) (pt : PTs G ifs tt) (pe : PE G elt te) (hco : G.env.scope.isCoroutine = false) {W : Nat → Nat → Hp → Prop} (turn : gTurns J g tt te vs σ al QE QS W) :
    ∀ (m n i : Nat) (s₀ s : Shared) (H : Hp), m < n → W i m H → Inv G [] (wipe σ vs) H s → tn i s.heap → (∀ b ∈ fp, H b = none) →
      Seg (model G.prog G.w) A (gR G QE) (gY G al QS) n s₀ (.compLoop (.GeneratorExp elt [⟨tg, iter, ifs, 0⟩] scope pos) 0 (.ref it) .none G.env)
        ((model G.prog G.w).den (.compLoop (.GeneratorExp elt [⟨tg, iter, ifs, 0⟩] scope pos) 0 (.ref it) .none G.env)) [] s := by
  have hov : ∀ c, c = Code.compLoop (.GeneratorExp elt [⟨tg, iter, ifs, 0⟩] scope pos) 0 (.ref it) .none G.env → A.over c [] = G.A := fun c e => by rw [e, over_comp0]; exact hA
  have stat : ∀ {σ' : L2.St} {H' : Hp} {s' : Shared}, Inv G [] σ' H' s' → (∀ b ∈ fp, H' b = none) → ∀ b ∈ fp, FpOk G [] H' b := fun {σ' H' s'} I' hn b hb =>
    ⟨hn b hb, (I'.ok.exf b (by rw [hex]; exact hb)).1, hexs b hb, .inl (by rw [hex]; exact hb), fun x c e => (I'.ok.exf b (by rw [hex]; exact hb)).2 x c e, fun p hp z => hpn p (by simpa using hp) (z ▸ hb)⟩
  intro m
  induction m using Nat.strongRecOn with
  | ind m ih =>
    intro n i s₀ s H hn w I st nf
    show Seg _ A _ _ _ s₀ _ ((compTurn (.GeneratorExp elt [⟨tg, iter, ifs, 0⟩] scope pos) 0 (.ref it) .none G.env).onRaise (leaving G.env)) [] s
    rw [compTurn_gen, Sem.onRaise_eq_wrap]
    refine seg_bind_wrap (wpAny_standAt ?_)
    rcases turn i m H w with ⟨stop, qe⟩ | ⟨go, Nx, hNx, step⟩
    · refine segG (hov _ rfl) (T.done G rfl rfl rfl hc i [] s _ H (fun _ _ => False) I (stat I nf) st stop) fun r s1 ⟨hr, I1⟩ => ?_
      subst hr
      exact seg_end (.ok .next) ⟨rfl, H, _, I1, qe⟩
    · refine segG (hov _ rfl) (T.item G rfl rfl rfl hc i [] s _ H (fun _ _ => False) I (stat I nf) st go) fun r s1 ⟨u, hr, h1⟩ => ?_
      subst hr
      refine segG (hov _ rfl) h1 fun _ s2 ⟨x, H2, I2, r2, y2, st2, n2⟩ => ?_
      have I2' := I2.pinned (stat I2 n2) (T.obj _ _ st2)
      refine segG (hov _ rfl) (noxG hxe (pg.run _ s2 _ H2 x u _ I2' r2 (step x H2 y2))) fun _ s3 ⟨σ3, H3, I3, hw3, q3⟩ => ?_
      refine segG (hov _ rfl) (noxG hxe (pt.run _ s3 σ3 H3 _ I3 q3)) fun b s4 ⟨H4, I4, q4⟩ => ?_
      have back : ∀ {s' : Shared} {H' : Hp}, Inv G ([] ++ pinsAt fp s2.heap) σ3 H' s' → Inv G [] (wipe σ vs) H' s' ∧ tn (i + 1) s'.heap ∧ ∀ b ∈ fp, H' b = none := fun {s' H'} I' => by
        have pin' : ∀ b ∈ fp, ∀ o, s2.heap.get? b = some o → s'.heap.get? b = some o ∧ H' b = none := fun b hb o e =>
          let z := I'.pin (b, o) (List.mem_append_right _ (List.mem_append_right _ (mem_pinsAt hb e)))
          ⟨z.1, z.2.1⟩
        have hl : (wipe σ vs).length = σ3.length := by rw [← hw3, wipe_length]
        refine ⟨(I'.unpinned (pins := [])).weak hl (fun j v e => ?_), T.keep _ _ _ st2 fun b hb o e => (pin' b hb o e).1, fun b hb => ?_⟩
        · rw [← hw3] at e
          exact (wipe_some e).1
        · obtain ⟨o, e, _⟩ := T.obj _ _ st2 b hb
          exact (pin' b hb o e).2
      cases b with
      | false =>
        simp only [Bool.false_eq_true, if_false] at q4 ⊢
        obtain ⟨m', hm, w'⟩ := hNx H4 q4
        obtain ⟨k1, k2, k3⟩ := back I4
        exact seg_again rfl (ih m' hm n (i + 1) s₀ s4 H4 (by omega) w' k1 k2 k3)
      | true =>
        simp only [if_true] at q4 ⊢
        have hy : ∀ v, yieldOut G.env v = yieldValue v := fun v => by simp only [yieldOut, hco, Bool.false_eq_true, if_false]
        simp only [hy]
        rw [Sem.bind_eq_wrap', Sem.bind_eq_wrap', Sem.wrap_wrap, Sem.wrap_wrap]
        refine seg_wrap ?_
        rw [hov _ rfl]
        refine wpAny_mono (noxG hxe (pe.run _ s4 σ3 H4 _ I4 q4)) (fun z s5 ⟨yv, H5, I5, r5, k, ek, q5⟩ => ?_) fun _ _ z => False.elim z
        subst ek
        obtain rfl : z = .bool k := r5
        obtain ⟨n, rfl⟩ : ∃ n', n = n' + 1 := ⟨n - 1, by omega⟩
        obtain ⟨k1, k2, k3⟩ := back I5
        refine seg_at (seg_yield rfl rfl rfl ⟨k, H5, _, rfl, k1, ?_⟩)
        rcases q5 with ⟨e, nx⟩ | ⟨e, qs⟩
        · refine .inl ⟨e, fun s' wk => ?_⟩
          obtain ⟨m', hm, w'⟩ := hNx H5 nx
          exact seg_again rfl (ih m' hm n (i + 1) s' s' H5 (by omega) w' (Inv.woke k1 wk) (by rw [wk.heap]; exact k2) k3)
        · exact .inr ⟨e, qs⟩
/-- the generator's start -/
theorem seg_gS {gs : List Comprehension} {R : GenEnd} {Y : Protocol} {n : Nat} {s₀ s : Shared} {cenv : PySem.Env} {P : Program} {w : World} (hself : ∀ (A : Around) (Q : Value → Shared → Prop) (E : Value → Shared → Prop), Q (.ref it) s → wpAny (model P w) A (pyIter (.ref it)) Q E s)
    (hg : ∃ ip, (clausesOf (.GeneratorExp elt gs scope pos))[0]? = some ip ∧ ip.is_async = 0)
    (loop : Seg (model P w) A R Y n s₀ (.compLoop (.GeneratorExp elt gs scope pos) 0 (.ref it) .none cenv) ((model P w).den (.compLoop (.GeneratorExp elt gs scope pos) 0 (.ref it) .none cenv)) [] s) :
    Seg (model P w) A R Y n s₀ (.compStart (.GeneratorExp elt gs scope pos) 0 (.ref it) .none cenv) ((model P w).den (.compStart (.GeneratorExp elt gs scope pos) 0 (.ref it) .none cenv)) [] s := by
  obtain ⟨ip, hip, has⟩ := hg
  show Seg _ A _ _ _ s₀ _ ((compStart (.GeneratorExp elt gs scope pos) 0 (.ref it) .none cenv).onRaise (leaving cenv)) [] s
  unfold compStart
  rw [Sem.onRaise_eq_wrap, hip]
  have e0 : ((some ip).elim false fun x => x.is_async != 0) = false := by simp [has]
  simp only [e0]
  show Seg _ A _ _ _ s₀ _ ((ask >>= _).wrap _ _ _ _) [] s
  refine seg_bind_wrap (wpAny_askSetting ?_)
  split
  · exact seg_again rfl loop
  · first
      | exact seg_bind_wrap (wpAny_rule (seg_bind_wrap (wpAny_standAt (seg_bind_wrap (hself _ _ _ (seg_again rfl loop))))))
      | (refine seg_bind_wrap (wpAny_rule ?_); show Seg _ A _ _ _ s₀ _ ((standAt ip.iter.pos >>= _).wrap _ _ _ _) [] s; exact seg_bind_wrap (wpAny_standAt (seg_bind_wrap (hself _ _ _ (seg_again rfl loop)))))
end
/-! the consumer -/
/-- the generator at a sleeps (or has not begun): so it goes on -/
def Sleep (G : Cx) (A : Around) (al : Bool) (QE QS : Hp → Prop) (a : Addr) (og : Obj) (g n : Nat) (s : Shared) : Prop :=
  s.heap.get? a = some og ∧ s.heap.NoLimit ∧ AllBare s.gens ∧ ∃ gs, s.gens[g]? = some gs ∧ ∀ s', Woke s s' → gs.Goes (model G.prog G.w) A.in1 (gR G QE) (gY G al QS) n (.send .none) s'
section
variable {G : Cx} {A : Around} {al : Bool} {QE QS : Hp → Prop} {a : Addr} {g : Nat} {og : Obj}
theorem bare_setGen {s : Shared} {g : Nat} {gs : GenState} (h : AllBare s.gens) (hb : gs.bare = true) : AllBare (s.setGen g gs).gens := by
  intro x hx
  have hx : x ∈ s.gens.setIfInBounds g gs := hx
  obtain ⟨i, hi, rfl⟩ := Array.mem_iff_getElem.mp hx
  have hi' : i < s.gens.size := by rwa [Array.size_setIfInBounds] at hi
  rw [Array.getElem_setIfInBounds hi']
  split
  · exact hb
  · exact h _ (Array.getElem_mem hi')
theorem isGen_keep {h h' : Heap} {a : Addr} {g : Nat} (x : h.IsGen a g) (k : ∀ o, h.get? a = some o → h'.get? a = some o) : h'.IsGen a g := by
  obtain ⟨o, nm, qn, ho, r⟩ := x
  exact ⟨o, nm, qn, k o ho, r⟩
/-- one wake -/
theorem wake {n : Nat} {s : Shared} {Q : Option Value → Shared → Prop} {E : Value → Shared → Prop} (hh : A.handled = none) (hd : A.depth < recursionLimit) (sl : Sleep G A al QE QS a og g n s)
    (hog : ∀ h : Heap, h.get? a = some og → h.IsGen a g) (hgk : ∀ (H : Hp) (σ' : L2.St) (s' : Shared), Inv G [] σ' H s' → s'.heap.get? a = some og ∧ s'.heap.NoLimit)
    (hend : ∀ s' H σ', Inv G [] σ' H s' → QE H → Q none s')
    (hyld : ∀ s' H σ' k, Inv G [] σ' H s' → ((k = al ∧ ∃ m, n = m + 1 ∧ Sleep G A al QE QS a og g m s') ∨ (k ≠ al ∧ QS H)) → Q (some (.bool k)) s') : wpAny (model G.prog G.w) A (pyNext (.ref a)) Q E s := by
  obtain ⟨hg0, hl, hb, gs, hgs, hgo⟩ := sl
  have hg := hog _ hg0
  have hlt : g < s.gens.size := (Array.getElem?_eq_some_iff.mp hgs).1
  refine GenW.wpAny_gsz (n := g + 1) hlt ?_
  refine wpAny_pyNext_genexpQ (n := n) (P := fun n s₀ s₁ => ∃ H σ', Inv G [] σ' H s₁ ∧ QE H) hh hl hd hg hgs (hgo _ ⟨rfl, rfl, bare_setGen hb rfl⟩) (fun v s₁ gs' hbare hY => ?_) (fun s₁ hP h' hk => ?_)
  · obtain ⟨k, H, σ', rfl, I, hc⟩ := hY
    intro hsz
    have hsz1 : g < s₁.gens.size := by
      have : g + 1 ≤ (s₁.setGen g gs').gens.size := hsz
      rw [GenW.setGen_size] at this
      exact this
    have hbare1 : AllBare (s₁.setGen g gs').gens := bare_setGen I.bare hbare
    have wk : Woke s₁ (s₁.setGen g gs') := ⟨rfl, rfl, hbare1⟩
    refine hyld _ H σ' k (Inv.woke I wk) ?_
    rcases hc with ⟨e, hc⟩ | ⟨e, hc⟩
    · refine .inl ⟨e, ?_⟩
      obtain ⟨h1, h2⟩ := hgk H σ' s₁ I
      cases n with
      | zero => exact (hc s₁ ⟨rfl, rfl, I.bare⟩).elim
      | succ m =>
        refine ⟨m, rfl, h1, h2, hbare1, gs', ?_, fun s' w' => hc s' ⟨w'.heap, w'.os, w'.bare⟩⟩
        show (s₁.gens.setIfInBounds g gs')[g]? = some gs'
        simp [hsz1]
    · exact .inr ⟨e, hc⟩
  · obtain ⟨H, σ', I, q⟩ := hP
    intro _
    have I2 : Inv G [] σ' H { s₁ with heap := h' } := I.kept (t' := s₁.toks) hk
    exact hend _ H σ' (Inv.woke I2 ⟨rfl, rfl, bare_setGen I.bare rfl⟩) q
theorem all_loop (hh : A.handled = none) (hd : A.depth < recursionLimit) {R : Result → Shared → Prop} (hog : ∀ h : Heap, h.get? a = some og → h.IsGen a g) (hgk : ∀ (H : Hp) (σ' : L2.St) (s' : Shared), Inv G [] σ' H s' → s'.heap.get? a = some og ∧ s'.heap.NoLimit)
    (hend : ∀ s' H σ', Inv G [] σ' H s' → QE H → R (.ok (.ret (.bool true))) s') (hstop : ∀ s' H σ', Inv G [] σ' H s' → QS H → R (.ok (.ret (.bool false))) s') :
    ∀ (n : Nat) (s : Shared), Sleep G A.in1 true QE QS a og g n s → codeAny (model G.prog G.w) A (.builtin "all.loop" ⟨[.ref a], []⟩) R s := by
  intro n
  induction n with
  | zero =>
    intro s sl
    refine codeAny_builtin F.entry_all_loop ?_
    rw [Around.under_plainId F.plain_all_loop _]
    show wpAny _ A.in1 (pyNext (.ref a) >>= _) _ _ s
    refine wpAny_bind (wake hh hd sl hog hgk (fun s' H σ' I q => ?_) (fun s' H σ' k I q => ?_))
    · exact wpAny_bind (wpAny_rule (wpAny_pure (hend s' H σ' I q)))
    · rcases q with ⟨_, m, e, _⟩ | ⟨e, qs⟩
      · cases e
      · refine wpAny_bind (wpAny_holding (wpAny_truthy_bool ?_))
        refine wpAny_bind (wpAny_letGo ?_)
        obtain rfl : k = false := by cases k <;> simp_all
        simp only [Bool.false_eq_true, if_false]
        exact wpAny_bind (wpAny_rule (wpAny_pure (hstop s' H σ' I qs)))
  | succ n ih =>
    intro s sl
    refine codeAny_builtin F.entry_all_loop ?_
    rw [Around.under_plainId F.plain_all_loop _]
    show wpAny _ A.in1 (pyNext (.ref a) >>= _) _ _ s
    refine wpAny_bind (wake hh hd sl hog hgk (fun s' H σ' I q => ?_) (fun s' H σ' k I q => ?_))
    · exact wpAny_bind (wpAny_rule (wpAny_pure (hend s' H σ' I q)))
    · refine wpAny_bind (wpAny_holding (wpAny_truthy_bool ?_))
      refine wpAny_bind (wpAny_letGo ?_)
      rcases q with ⟨rfl, m, e, sl'⟩ | ⟨e, qs⟩
      · cases e
        simp only [if_true]
        exact wpAny_pure ⟨plainId_quiet F.plain_all_loop _, ih s' sl'⟩
      · obtain rfl : k = false := by cases k <;> simp_all
        simp only [Bool.false_eq_true, if_false]
        exact wpAny_bind (wpAny_rule (wpAny_pure (hstop s' H σ' I qs)))
theorem any_loop (hh : A.handled = none) (hd : A.depth < recursionLimit) {R : Result → Shared → Prop} (hog : ∀ h : Heap, h.get? a = some og → h.IsGen a g) (hgk : ∀ (H : Hp) (σ' : L2.St) (s' : Shared), Inv G [] σ' H s' → s'.heap.get? a = some og ∧ s'.heap.NoLimit)
    (hend : ∀ s' H σ', Inv G [] σ' H s' → QE H → R (.ok (.ret (.bool false))) s') (hstop : ∀ s' H σ', Inv G [] σ' H s' → QS H → R (.ok (.ret (.bool true))) s') :
    ∀ (n : Nat) (s : Shared), Sleep G A.in1 false QE QS a og g n s → codeAny (model G.prog G.w) A (.builtin "any.loop" ⟨[.ref a], []⟩) R s := by
  intro n
  induction n with
  | zero =>
    intro s sl
    refine codeAny_builtin F.entry_any_loop ?_
    rw [Around.under_plainId F.plain_any_loop _]
    show wpAny _ A.in1 (pyNext (.ref a) >>= _) _ _ s
    refine wpAny_bind (wake hh hd sl hog hgk (fun s' H σ' I q => ?_) (fun s' H σ' k I q => ?_))
    · exact wpAny_bind (wpAny_rule (wpAny_pure (hend s' H σ' I q)))
    · rcases q with ⟨_, m, e, _⟩ | ⟨e, qs⟩
      · cases e
      · refine wpAny_bind (wpAny_holding (wpAny_truthy_bool ?_))
        refine wpAny_bind (wpAny_letGo ?_)
        obtain rfl : k = true := by cases k <;> simp_all
        simp only [if_true]
        exact wpAny_bind (wpAny_rule (wpAny_pure (hstop s' H σ' I qs)))
  | succ n ih =>
    intro s sl
    refine codeAny_builtin F.entry_any_loop ?_
    rw [Around.under_plainId F.plain_any_loop _]
    show wpAny _ A.in1 (pyNext (.ref a) >>= _) _ _ s
    refine wpAny_bind (wake hh hd sl hog hgk (fun s' H σ' I q => ?_) (fun s' H σ' k I q => ?_))
    · exact wpAny_bind (wpAny_rule (wpAny_pure (hend s' H σ' I q)))
    · refine wpAny_bind (wpAny_holding (wpAny_truthy_bool ?_))
      refine wpAny_bind (wpAny_letGo ?_)
      rcases q with ⟨rfl, m, e, sl'⟩ | ⟨e, qs⟩
      · cases e
        simp only [Bool.false_eq_true, if_false]
        exact wpAny_pure ⟨plainId_quiet F.plain_any_loop _, ih s' sl'⟩
      · obtain rfl : k = true := by cases k <;> simp_all
        simp only [if_true]
        exact wpAny_bind (wpAny_rule (wpAny_pure (hstop s' H σ' I qs)))
/-- all(..), any(..) of a generator -/
theorem call_gen (al : Bool) (hh : A.handled = none) (hd : A.depth < recursionLimit) {n : Nat} {s : Shared} {Q : Value → Shared → Prop} {E : Value → Shared → Prop} (hog : ∀ h : Heap, h.get? a = some og → h.IsGen a g) (hgk : ∀ (H : Hp) (σ' : L2.St) (s' : Shared), Inv G [] σ' H s' → s'.heap.get? a = some og ∧ s'.heap.NoLimit)
    (hend : ∀ s' H σ', Inv G [] σ' H s' → QE H → Q (.bool al) s') (hstop : ∀ s' H σ', Inv G [] σ' H s' → QS H → Q (.bool (!al)) s') (sl : Sleep G A.in1 al QE QS a og g n s) :
    wpAny (model G.prog G.w) A (call (.builtin (if al then "all" else "any")) [.ref a]) Q E s := by
  cases al with
  | true =>
    rw [if_pos rfl]
    refine call_function_tree F.kind_all F.plain_all F.entry_all (F.args_all1 _) ?_
    unfold Builtin.«all»
    refine wpAny_bind (m := oneArg "all" _) (wpAny_pure ?_)
    refine wpAny_bind (wpAny_pyIter_gen (hog _ sl.1) ?_)
    exact wpAny_pure ⟨plainId_quiet F.plain_all_loop _, all_loop hh hd hog hgk hend hstop n s sl⟩
  | false =>
    rw [if_neg Bool.false_ne_true]
    refine call_function_tree F.kind_any F.plain_any F.entry_any (F.args_any1 _) ?_
    unfold Builtin.«any»
    refine wpAny_bind (m := oneArg "any" _) (wpAny_pure ?_)
    refine wpAny_bind (wpAny_pyIter_gen (hog _ sl.1) ?_)
    exact wpAny_pure ⟨plainId_quiet F.plain_any_loop _, any_loop hh hd hog hgk hend hstop n s sl⟩
end
end Mp
end
section
set_option Elab.async false
set_option linter.all false
set_option maxRecDepth 100000
set_option maxHeartbeats 1000000
/-! all(..), any(..) of a generator expression: the rule. -/
namespace Mp
open PySem PySem.Spec L2 PyProof.Rows GxR
/-- a generator expression of any clauses: its making (after PyProof.GenArm, which tells it for one) -/
theorem eval_genN (elt target iter : Expr) (ifs : List Expr) (gs : List Comprehension) (scope : Scope) (pos : Pos) (env : PySem.Env) (hco : scope.isCoroutine = false) :
    eval (.GeneratorExp elt (⟨target, iter, ifs, 0⟩ :: gs) scope pos) env = (do
      let x ← eval iter env
      standAt iter.pos
      let x ← genFold iter env x
      let it ← holding [x] (pyIter x)
      enterFrame
      let cl ← closureFor scope env
      let code ← genexprCode env pos (env.qual ++ "<genexpr>") scope
      let bi ← builtinsFor env.globals env.builtins
      let cenv ← newFunctionEnv scope env.globals cl [(".0", it)] (env.qual ++ "<genexpr>.") none code none bi
      newGenerator (.compStart (.GeneratorExp elt (⟨target, iter, ifs, 0⟩ :: gs) scope pos) 0 it .none cenv) "<genexpr>" (env.qual ++ "<genexpr>")) := by
  rw [arm_eval_GeneratorExp]
  simp only [hco, Bool.false_eq_true, if_false]
  cases iter <;> rfl
theorem make_genN {M : Model} {A : Around} {E : Value → Shared → Prop} {s : Shared} {env : PySem.Env} {elt target iter : Expr} {ifs : List Expr} {gs : List Comprehension} {scope : Scope} {cl : List (Str × Addr)} {pos : Pos} {Q : Value → Shared → Prop}
    (hco : scope.isCoroutine = false) (hclos : closureFor scope env = pure cl) (hcell : ∀ y ∈ scope.names, y.2 ≠ .cell) (h0 : scope.names.lookup (".0" : Str) = some NameKind.local) (hkind : scope.kind = .function)
    (hroom : A.depth < recursionLimit)
    (h : wpAny M A (eval iter env) (fun xv s₁ => wpAny M A (pyIter xv) (fun it s₂ => s₂.heap.NoLimit ∧
      wpAny M A (genexprCode env pos (env.qual ++ "<genexpr>") scope) (fun code s₃ => wpAny M A (builtinsFor env.globals env.builtins) (fun bi s₄ =>
        ∀ h', h'.Ns s₄.heap.objs.size (fun y => if y = ".0" then some it else none) → Heap.SameBut s₄.heap.objs.size (s₄.heap.push { cls := .type "frame", data := .dict #[] }) h' →
          Q (.ref h'.objs.size) { s₄ with
            gens := s₄.gens.push (.fresh (.compStart (.GeneratorExp elt (⟨target, iter, ifs, 0⟩ :: gs) scope pos) 0 it .none (genEnv scope cl s₄.heap.objs.size code bi env))),
            toks := s₄.toks + 1 + 1 + 1,
            heap := h'.push { cls := .type "generator", data := .fields #[.int s₄.gens.size 0, .str "<genexpr>" (s₄.toks + 1), .str (env.qual ++ "<genexpr>") (s₄.toks + 1 + 1)] } }) E s₃) E s₂) E s₁) E s)
    (hs : ∀ x, genFold iter env x = pure x) :
    wpAny M A (eval (.GeneratorExp elt (⟨target, iter, ifs, 0⟩ :: gs) scope pos) env) Q E s := by
  rw [eval_genN _ _ _ _ _ _ _ _ hco, hclos]
  refine wpAny_bind (wpAny_mono h (fun xv s₁ h₁ => ?_) fun _ _ e => e)
  refine wpAny_bind (wpAny_standAt ?_)
  refine wpAny_bind (wpAny_of_eq (hs xv) ?_)
  refine wpAny_bind (wpAny_holding (wpAny_mono h₁ (fun it s₂ h₂ => ?_) fun _ _ e => e))
  refine wpAny_bind (wpAny_enterFrame h₂.1 hroom ?_)
  refine wpAny_bind (wpAny_pure ?_)
  refine wpAny_bind (wpAny_mono h₂.2 (fun code s₃ h₃ => ?_) fun _ _ e => e)
  refine wpAny_bind (wpAny_mono h₃ (fun bi s₄ h₄ => ?_) fun _ _ e => e)
  have hbinds : ∀ y ∈ ([((".0" : Str), it)] : List (Str × Value)), scope.names.lookup y.1 = some NameKind.local := by
    intro y hy
    rcases List.mem_cons.mp hy with rfl | hy
    · exact h0
    · cases hy
  refine wpAny_bind (wpAny_newFunctionEnv hcell hbinds (fun h' hn' hs' => ?_) hkind)
  have e : (fun y : Str => ([((".0" : Str), it)] : List (Str × Value)).reverse.lookup y) = fun y : Str => if y = (".0" : Str) then some it else none := by
    funext y
    by_cases hy : y = ".0"
    · subst hy; simp
    · have : (y == (".0" : Str)) = false := by simpa using hy
      simp [List.lookup, this, hy]
  rw [e] at hn'
  simp only [newGenerator, newFields]
  refine wpAny_bind (wpAny_newGen (wpAny_bind (wpAny_mkText (wpAny_bind (wpAny_mkText (wpAny_newObj_type ?_ (by size_fits)))))))
  exact h₄ h' hn' hs'
/-- the frame's environment, its context -/
abbrev gEnv (X : Cx) (scope : Scope) (C : Addr) (code : Value) : PySem.Env := genEnv scope (cloFrom X.env.cells scope.names []) C code builtinsNs X.env
abbrev gC (X : Cx) (scope : Scope) (s : Shared) (H : Hp) (C : Addr) (code : Value) (fp : List Addr) (pn : List (Addr × Obj)) : Cx := gcx X (X.A.in1.in1.deeper (gEnv X scope C code)) s H (gEnv X scope C code) fp pn
section
variable {X : Cx} {elt tg iter : Expr} {ifs : List Expr} {gs : List Comprehension} {scope : Scope} {own : List (Str × Nat)} {gpos p pos : Pos} {wi : TI} {g : TG} {tt : TT} {te : TE} {al : Bool} {c P : Addr} {x : Str} {k : Nat}
def tGen (P : Addr) (wi : TI) (g : TG) (tt : TT) (te : TE) (vs : List Nat) (al : Bool) : TE := fun σ H Q => wi σ H fun J H1 => TabG H1 P ∧ ∀ H2, Tabbed P H1 H2 → ∃ W : Nat → Nat → Hp → Prop, (∃ m, W 0 m H2) ∧ gTurns J g tt te vs σ al (fun H => Q (.bl al) H) (fun H => Q (.bl (!al)) H) W
/-- the generator is made: it sleeps -/
theorem gen_make {pins : List (Addr × Obj)} {s : Shared} {σ : L2.St} {H : Hp} {R : It → Hp → Prop} {Q' : Value → Shared → Prop} (hr : Room k X.A) (TB : TabB X.base X.mg c P) (hcode : X.env.code = .ref c) (ok : GenOk X.N X.env.scope scope own) (hN : X.N.Nodup) (hi : PI X tg iter wi)
    (hs : ∀ v, genFold iter X.env v = pure v) (I : Inv X pins σ H s) (h : wi σ H fun J H1 => TabG H1 P ∧ R J H1)
    (hQ : ∀ (s3 : Shared) (H1 H3 : Hp) (J : It) (fp : List Addr) (it : Addr) (tn : Nat → Heap → Prop) (code : Value) (a : Addr) (og : Obj) (g : Nat) (s5 : Shared), Tabbed P H1 H3 → R J H1 → Inv X pins σ H3 s3 → Turn X.prog X.w X.K tg J fp it tn → (∀ b ∈ fp, FpOk X pins H3 b) → (∀ b ∈ fp, b ≠ a) →
      (∀ s', Woke s5 s' → Inv (gC X scope s3 H3 s3.heap.objs.size code fp [(a, og)]) [] (wipe σ (own.map (·.2))) H3 s' ∧ tn 0 s'.heap) → s5.heap.get? a = some og → (∀ h : Heap, h.get? a = some og → h.IsGen a g) → AllBare s5.gens → s5.heap.NoLimit →
      s5.gens[g]? = some (.fresh (.compStart (.GeneratorExp elt (⟨tg, iter, ifs, 0⟩ :: gs) scope gpos) 0 (.ref it) .none (gEnv X scope s3.heap.objs.size code))) → Q' (.ref a) s5) :
    wpAny (model X.prog X.w) X.A (eval (.GeneratorExp elt (⟨tg, iter, ifs, 0⟩ :: gs) scope gpos) X.env) Q' X.xe s := by
  have hfree : ∀ y ∈ scope.names, y.2 = .free → ∃ c, X.env.cells.lookup y.1 = some c := fun y hy e => by
    rcases ok.blk.free y hy e with k | k
    · exact I.ok.has _ (.inl k)
    · exact I.ok.has _ (.inr k)
  refine make_genN ok.co (closure_ok hfree) ok.cell ok.dot ok.blk.kind hr.depth ?_ hs
  refine thn (hi.run pins s σ H _ I h) fun xv s1 hx => thn hx fun itv s2 h2 => ?_
  obtain ⟨it, fp, tn, J, H2, e, I2, T, st2, f2, ⟨ps, hP, ht⟩, q⟩ := h2
  subst e
  refine ⟨I2.nolimit, ?_⟩
  have hPs : s2.heap.get? P = some { cls := .none, data := .fields ps } := I2.hok P _ hP
  have cd : PySem.W.CodeHd s2.heap c P := TB.code.keeps fun b u e => I2.bk b u e
  have cont : ∀ (code : Value) (s3 : Shared) (H3 : Hp), Tabbed P H2 H3 → Inv X pins σ H3 s3 → (∀ b o, b ≠ P → s2.heap.get? b = some o → s3.heap.get? b = some o) →
      wpAny (model X.prog X.w) X.A (builtinsFor X.env.globals X.env.builtins) (fun bi s₄ =>
        ∀ h', h'.Ns s₄.heap.objs.size (fun y => if y = ".0" then some (.ref it) else none) → Heap.SameBut s₄.heap.objs.size (s₄.heap.push { cls := .type "frame", data := .dict #[] }) h' →
          Q' (.ref h'.objs.size) { s₄ with
            gens := s₄.gens.push (.fresh (.compStart (.GeneratorExp elt (⟨tg, iter, ifs, 0⟩ :: gs) scope gpos) 0 (.ref it) .none (genEnv scope (cloFrom X.env.cells scope.names []) s₄.heap.objs.size code bi X.env))),
            toks := s₄.toks + 1 + 1 + 1,
            heap := h'.push { cls := .type "generator", data := .fields #[.int s₄.gens.size 0, .str "<genexpr>" (s₄.toks + 1), .str (X.env.qual ++ "<genexpr>") (s₄.toks + 1 + 1)] } }) X.xe s3 := by
    intro code s3 H3 hT I3 kp
    obtain ⟨bm, ob, e1, e2, e3, e4, e5, e6, e7, e8⟩ := TB.bm
    refine wpAny_builtinsFor (m := X.mg) (by rw [I3.ok.glob]; exact I3.mod.glob.keeps I3.bk) e1 e2 (I3.bk _ _ e5) e6 e7 e8 ?_
    intro h' hn' hs'
    have hsz : h'.objs.size = s3.heap.objs.size + 1 := by rw [hs'.1, Heap.size_push]
    have keep' : ∀ b o, s3.heap.get? b = some o → h'.get? b = some o := fun b o e => hs'.extBut b o (Nat.ne_of_lt (Heap.lt_size e)) (Heap.get?_push_of_some _ e)
    have fpl : ∀ b ∈ fp, b < s3.heap.objs.size := fun b hb => by
      obtain ⟨o, e, _⟩ := T.obj _ _ st2 b hb
      have hbP : b ≠ P := fun z => by rw [z] at hb; have := (f2 P hb).1; rw [hP] at this; cases this
      exact Heap.lt_size (kp b o hbP e)
    have fpo : ∀ b ∈ fp, FpOk X pins H3 b := fun b hb => by
      have hbP : b ≠ P := fun z => by rw [z] at hb; have := (f2 P hb).1; rw [hP] at this; cases this
      exact ⟨by rw [hT.2 b hbP]; exact (f2 b hb).1, (f2 b hb).2⟩
    generalize hog : ({ cls := .type "generator", data := .fields #[.int s3.gens.size 0, .str "<genexpr>" (s3.toks + 1), .str (X.env.qual ++ "<genexpr>") (s3.toks + 1 + 1)] } : Obj) = og
    have hget : (h'.push og).get? h'.objs.size = some og := Heap.get?_push_size _ (by rw [← hog]; rfl)
    have hbare : AllBare (s3.gens.push (.fresh (.compStart (.GeneratorExp elt (⟨tg, iter, ifs, 0⟩ :: gs) scope gpos) 0 (.ref it) .none (genEnv scope (cloFrom X.env.cells scope.names []) s3.heap.objs.size code builtinsNs X.env)))) := I3.bare.push rfl
    refine hQ s3 H2 H3 J fp it tn code h'.objs.size og s3.gens.size _ hT q I3 T fpo (fun b hb z => ?_) (fun s' wk => ⟨?_, ?_⟩) hget (fun h e => ?_) hbare ?_ ?_
    · have := fpl b hb
      rw [z, hsz] at this
      exact absurd this (Nat.not_lt.mpr (Nat.le_succ _))
    · refine gen_start (A := X.A.in1.in1.deeper (gEnv X scope s3.heap.objs.size code)) I3 hr.hd (Around.frames_deeper (A := X.A.in1.in1) I3.ok.frames) ok hN (fun b hb => ⟨fpo b hb, fpl b hb⟩) (hn'.push og) (fun b o e => Heap.get?_push_of_some _ (keep' b o e)) wk.heap wk.os wk.bare (fun pp hp => ?_)
      have hp : pp = (h'.objs.size, og) := by simpa using hp
      subst hp
      refine ⟨by show _ < h'.objs.size; rw [hsz]; exact Nat.lt_succ_self _, hget, fun v z => ?_⟩
      have z : og.data = .cell v := z
      rw [← hog] at z
      cases z
    · rw [wk.heap]
      refine T.keep _ _ _ st2 fun b hb o e => ?_
      have hbP : b ≠ P := fun z => by rw [z] at hb; have := (f2 P hb).1; rw [hP] at this; cases this
      exact Heap.get?_push_of_some _ (keep' b o (kp b o hbP e))
    · exact ⟨og, _, _, e, by rw [← hog], by rw [← hog], by rw [← hog]⟩
    · exact I3.nolimit.keeps fun b o e => Heap.get?_push_of_some _ (keep' b o e)
    · exact Array.getElem?_push_size ..
  cases hf : codeAmong gpos ps.toList with
  | none =>
    refine wpAny_genexprCodeX hcode (cd.code hPs ht) (cd.tab hPs) hf fun c' h' tk hx hge hlt hco' _ htab' _ => ?_
    obtain ⟨o1, vs, f1, tf, fl, tg', inF, tx, tt, op, _, _, _, _, _, _, _, _, _, htr, _⟩ := hco'
    have hk : ∀ b o, b ≠ P → s2.heap.get? b = some o → h'.get? b = some o := fun b o hb e => hx b o hb e
    exact cont _ { s2 with heap := h', toks := tk } _ ⟨⟨_, upd_same, htr⟩, fun b hb => upd_ne hb⟩ (inv_tab (g' := s2.gens) (d' := s2.drawn) I2 hP hk htab'.2 I2.bare) hk
  | some cv =>
    refine wpAny_genexprCode_hit hcode (cd.code hPs ht) hf ?_
    exact cont cv s2 H2 ⟨⟨ps, hP, ht⟩, fun _ _ => rfl⟩ I2 fun b o _ e => e
/-- all(..), any(..) -/
theorem pe_gen (hc : X.calm = true) (hr : Room k X.A) (hb : PrimAt X x (.builtin (if al then "all" else "any"))) (TB : TabB X.base X.mg c P) (hcode : X.env.code = .ref c) (ok : GenOk X.N X.env.scope scope own) (hN : X.N.Nodup) (hi : PI X tg iter wi)
    (hg : ∀ (s : Shared) (H : Hp) (C : Addr) (code : Value) (fp : List Addr) (pn : List (Addr × Obj)), PG (gC X scope s H C code fp pn) tg g) (ht : ∀ (s : Shared) (H : Hp) (C : Addr) (code : Value) (fp : List Addr) (pn : List (Addr × Obj)), PTs (gC X scope s H C code fp pn) ifs tt)
    (he : ∀ (s : Shared) (H : Hp) (C : Addr) (code : Value) (fp : List Addr) (pn : List (Addr × Obj)), PE (gC X scope s H C code fp pn) elt te) (hs : ∀ v, genFold iter X.env v = pure v) :
    PE X (.Call (.Name x p) [.GeneratorExp elt [⟨tg, iter, ifs, 0⟩] scope gpos] [] pos) (tGen P wi g tt te (own.map (·.2)) al) := by
  refine ⟨fun pins s σ H Q I h => ?_⟩
  have he' : starEach [.GeneratorExp elt [⟨tg, iter, ifs, 0⟩] scope gpos] X.env = (false, eval (.GeneratorExp elt [⟨tg, iter, ifs, 0⟩] scope gpos) X.env) :: starEach [] X.env := rfl
  refine wpAny_Call_Name_kw (hb.ld I ?_)
  refine PyProof.Rows.callWith_builtin1 ?_ he' (by rfl)
  rw [he']
  show wpAny _ _ (spliced ((false, eval (.GeneratorExp elt [⟨tg, iter, ifs, 0⟩] scope gpos) X.env) :: backTo pos (starEach [] X.env))) _ _ s
  refine Calls.spliced_cons (gen_make hr TB hcode ok hN hi hs I h fun s3 H1 H3 J fp it tn code a og gg s5 hT q I3 T fpo hfa hw hget hog hbare hl hgs => ?_)
  refine Calls.spliced_nil ?_
  obtain ⟨W, ⟨m0, w0⟩, turn⟩ := q H3 hT
  have fin : ∀ {b : Bool} {s' : Shared} {H' : Hp} {σ' : L2.St}, Inv (gC X scope s3 H3 s3.heap.objs.size code fp [(a, og)]) [] σ' H' s' → Q (.bl b) H' → EP X pins σ Q (.bool b) s' := fun {b s' H' σ'} I' q' =>
    ⟨.bl b, H', I3.call' (ch := fp) I'.os I'.base I'.hok I'.bare fun b hb => ⟨(fpo b hb).2.2.2.1, (fpo b hb).2.1, (fpo b hb).2.2.2.2.1, (fpo b hb).2.2.2.2.2⟩, rfl, q'⟩
  refine call_gen (G := gC X scope s3 H3 s3.heap.objs.size code fp [(a, og)]) (QE := fun H => Q (.bl al) H) (QS := fun H => Q (.bl (!al)) H) (n := m0 + 1) al hr.hd hr.depth hog (fun H' σ' s' I' => ⟨(I'.pin (a, og) (List.mem_append_left _ List.mem_cons_self)).1, I'.nolimit⟩) (fun s' H' σ' I' qe => fin I' qe) (fun s' H' σ' I' qs => fin I' qs) ?_
  refine ⟨hget, hl, hbare, _, hgs, fun s' wk => ⟨rfl, ?_⟩⟩
  obtain ⟨I5, st5⟩ := hw s' wk
  refine seg_gS (P := X.prog) (w := X.w) (fun A Q E q => T.self A 0 s' Q E st5 q) ⟨_, rfl, rfl⟩ ?_
  refine seg_g1 (G := gC X scope s3 H3 s3.heap.objs.size code fp [(a, og)]) rfl T hc rfl (fun p hp z => ?_) rfl (fun b hb z => ?_) (hg _ _ _ _ _ _) (ht _ _ _ _ _ _) (he _ _ _ _ _ _) ok.co turn m0 (m0 + 1) 0 s' s' H3 (Nat.lt_succ_self _) w0 I5 st5 (fun b hb => (fpo b hb).1)
  · have hp : p ∈ [(a, og)] := hp
    have hp : p = (a, og) := List.mem_singleton.mp hp
    rw [hp] at z
    exact hfa a z rfl
  · rcases List.mem_cons.mp (I3.stkSub b z) with z | z
    · exact (fpo b hb).2.1 z
    · exact (fpo b hb).2.2.1 z
end
end Mp
end
section
set_option Elab.async false
set_option linter.all false
set_option maxRecDepth 100000
set_option maxHeartbeats 1000000
/-! Generator expressions of two clauses. -/
namespace Mp
open PySem PySem.Spec L2 PyProof.Rows GxR
theorem compTurn_g2out (elt t0 i0 t1 i1 : Expr) (ifs0 ifs1 : List Expr) (scope : Scope) (pos : Pos) (it acc : Value) (env : PySem.Env) :
    compTurn (.GeneratorExp elt [⟨t0, i0, ifs0, 0⟩, ⟨t1, i1, ifs1, 0⟩] scope pos) 0 it acc env = (do
      standAt i0.pos
      match ← pyNext it with
      | none => pure (.done .next)
      | some v =>
        letOwnedTupleGo t0 it v
        assign t0 env v
        let mut ok := true
        for c in ifs0 do
          if ok then ok ← isTrue c env (eval c env)
        if ok then
          let x ← eval i1 env
          standAt i1.pos
          let x ← foldedSetIterable i1 env x
          let _ ← runOwn (.compStart (.GeneratorExp elt [⟨t0, i0, ifs0, 0⟩, ⟨t1, i1, ifs1, 0⟩] scope pos) 1 (← holding [x] (pyIter x)) acc env) env
        again (.compLoop (.GeneratorExp elt [⟨t0, i0, ifs0, 0⟩, ⟨t1, i1, ifs1, 0⟩] scope pos) 0 it acc env)) := by rfl
theorem compTurn_g2in (elt t0 i0 t1 i1 : Expr) (ifs0 ifs1 : List Expr) (scope : Scope) (pos : Pos) (it acc : Value) (env : PySem.Env) :
    compTurn (.GeneratorExp elt [⟨t0, i0, ifs0, 0⟩, ⟨t1, i1, ifs1, 0⟩] scope pos) 1 it acc env = (do
      standAt i1.pos
      match ← pyNext it with
      | none => pure (.done .next)
      | some v =>
        letOwnedTupleGo t1 it v
        assign t1 env v
        let mut ok := true
        for c in ifs1 do
          if ok then ok ← isTrue c env (eval c env)
        if ok then
          (do let v ← eval elt env; standAt elt.pos; let _ ← yieldOut env v)
        again (.compLoop (.GeneratorExp elt [⟨t0, i0, ifs0, 0⟩, ⟨t1, i1, ifs1, 0⟩] scope pos) 1 it acc env)) := by rfl
section
variable {G : Cx} {A : Around} {elt tg iter tg1 iter1 : Expr} {ifs ifs1 : List Expr} {scope : Scope} {pos : Pos} {it it1 : Addr} {fp fp1 : List Addr} {tn tn1 : Nat → Heap → Prop} {J J1 : It} {g g1 : TG} {tt tt1 : TT} {te : TE} {wi1 : TI} {vs vs1 : List Nat} {σ : L2.St} {al : Bool} {QE QS : Hp → Prop}
/-- the turns of the second clause; the third number of W: how much is handed out at most -/
def gTurnsIn (J1 : It) (g1 : TG) (tt1 : TT) (te : TE) (vs1 : List Nat) (σ2 : L2.St) (al : Bool) (Nx : Nat → Hp → Prop) (QS : Hp → Prop) (W1 : Nat → Nat → Nat → Hp → Prop) : Prop := ∀ j k f H, W1 j k f H →
  (J1.stop j H ∧ Nx f H) ∨ (J1.go j H ∧ ∃ Nx1 : Nat → Hp → Prop, (∀ f' H', Nx1 f' H' → ∃ k', k' < k ∧ W1 (j + 1) k' f' H') ∧ ∀ x H', J1.yld j H x H' → g1 x (wipe σ2 vs1) H' fun σ3 H5 => wipe σ3 vs1 = wipe σ2 vs1 ∧ tt1 σ3 H5 fun b H6 =>
    if b = true then te σ3 H6 fun y H7 => ∃ q, y = .bl q ∧ ((q = al ∧ ∃ f', f' < f ∧ Nx1 f' H7) ∨ (q ≠ al ∧ QS H7)) else ∃ f', f' ≤ f ∧ Nx1 f' H6)
def gTurns2 (J : It) (g : TG) (tt : TT) (wi1 : TI) (g1 : TG) (tt1 : TT) (te : TE) (vs vs1 : List Nat) (σ : L2.St) (al : Bool) (QE QS : Hp → Prop) (W : Nat → Nat → Nat → Hp → Prop) : Prop := ∀ i m f H, W i m f H →
  (J.stop i H ∧ QE H) ∨ (J.go i H ∧ ∃ Nx : Nat → Hp → Prop, (∀ f' H', Nx f' H' → ∃ m', m' < m ∧ W (i + 1) m' f' H') ∧ ∀ x H', J.yld i H x H' → g x (wipe σ vs) H' fun σ2 H2 => wipe σ2 vs = wipe σ vs ∧ tt σ2 H2 fun b H3 =>
    if b = true then wi1 σ2 H3 fun J1 H4 => ∃ W1 : Nat → Nat → Nat → Hp → Prop, (∃ k f', f' ≤ f ∧ W1 0 k f' H4) ∧ gTurnsIn J1 g1 tt1 te vs1 σ2 al Nx QS W1 else ∃ f', f' ≤ f ∧ Nx f' H3)
/-- the second clause's loop -/
theorem seg_g2in {fs : List Frame} {pins : List (Addr × Obj)} {σ2 : L2.St} (hov : A.over (.compLoop (.GeneratorExp elt [⟨tg, iter, ifs, 0⟩, ⟨tg1, iter1, ifs1, 0⟩] scope pos) 1 (.ref it1) .none G.env) fs = G.A) (hsp : splitAtGen fs = none) (hgd : fs.any Frame.guarded = false)
    (T1 : Turn G.prog G.w G.K tg1 J1 fp1 it1 tn1) (hc : G.calm = true) (hxe : G.xe = fun _ _ => False) (hf1 : ∀ b ∈ fp1, ∀ H : Hp, H b = none → FpOk G pins H b)
    (pg1 : PG G tg1 g1) (pt1 : PTs G ifs1 tt1) (pe : PE G elt te) (hco : G.env.scope.isCoroutine = false) {W1 : Nat → Nat → Nat → Hp → Prop} {Nx : Nat → Hp → Prop} (turn1 : gTurnsIn J1 g1 tt1 te vs1 σ2 al Nx QS W1)
    (hinv : ∀ (σ' : L2.St) (H' : Hp) (s' : Shared) (q : List (Addr × Obj)), Inv G (pins ++ q) σ' H' s' → ∃ H σ'', Inv G [] σ'' H s' ∧ H = H')
    (hend : ∀ (n f : Nat) (s₀ s : Shared) (H : Hp), f < n → Nx f H → Inv G pins (wipe σ2 vs1) H s → Seg (model G.prog G.w) A (gR G QE) (gY G al QS) n s₀ (.compLoop (.GeneratorExp elt [⟨tg, iter, ifs, 0⟩, ⟨tg1, iter1, ifs1, 0⟩] scope pos) 1 (.ref it1) .none G.env) (leafOf (.ok .next)) fs s) :
    ∀ (k n f j : Nat) (s₀ s : Shared) (H : Hp), f < n → W1 j k f H → Inv G pins (wipe σ2 vs1) H s → tn1 j s.heap → (∀ b ∈ fp1, H b = none) →
      Seg (model G.prog G.w) A (gR G QE) (gY G al QS) n s₀ (.compLoop (.GeneratorExp elt [⟨tg, iter, ifs, 0⟩, ⟨tg1, iter1, ifs1, 0⟩] scope pos) 1 (.ref it1) .none G.env)
        ((model G.prog G.w).den (.compLoop (.GeneratorExp elt [⟨tg, iter, ifs, 0⟩, ⟨tg1, iter1, ifs1, 0⟩] scope pos) 1 (.ref it1) .none G.env)) fs s := by
  intro k
  induction k using Nat.strongRecOn with
  | ind k ih =>
    intro n f j s₀ s H hn w I st nf
    show Seg _ A _ _ _ s₀ _ ((compTurn (.GeneratorExp elt [⟨tg, iter, ifs, 0⟩, ⟨tg1, iter1, ifs1, 0⟩] scope pos) 1 (.ref it1) .none G.env).onRaise _) fs s
    rw [compTurn_g2in, Sem.onRaise_eq_wrap]
    refine seg_bind_wrap (wpAny_standAt ?_)
    rcases turn1 j k f H w with ⟨stop, nx⟩ | ⟨go, Nx1, hNx, step⟩
    · refine segG hov (T1.done G rfl rfl rfl hc j pins s _ H (fun _ _ => False) I (fun b hb => hf1 b hb H (nf b hb)) st stop) fun r s1 ⟨hr, I1⟩ => ?_
      subst hr
      exact hend n f s₀ s1 H hn nx I1
    · refine segG hov (T1.item G rfl rfl rfl hc j pins s _ H (fun _ _ => False) I (fun b hb => hf1 b hb H (nf b hb)) st go) fun r s1 ⟨u, hr, h1⟩ => ?_
      subst hr
      refine segG hov h1 fun _ s2 ⟨x, H2, I2, r2, y2, st2, n2⟩ => ?_
      have I2' := I2.pinned (fun b hb => hf1 b hb H2 (n2 b hb)) (T1.obj _ _ st2)
      refine segG hov (noxG hxe (pg1.run _ s2 _ H2 x u _ I2' r2 (step x H2 y2))) fun _ s3 ⟨σ3, H3, I3, hw3, q3⟩ => ?_
      refine segG hov (noxG hxe (pt1.run _ s3 σ3 H3 _ I3 q3)) fun b s4 ⟨H4, I4, q4⟩ => ?_
      have back : ∀ {s' : Shared} {H' : Hp}, Inv G (pins ++ pinsAt fp1 s2.heap) σ3 H' s' → Inv G pins (wipe σ2 vs1) H' s' ∧ tn1 (j + 1) s'.heap ∧ ∀ b ∈ fp1, H' b = none := fun {s' H'} I' => by
        have pin' : ∀ b ∈ fp1, ∀ o, s2.heap.get? b = some o → s'.heap.get? b = some o ∧ H' b = none := fun b hb o e =>
          let z := I'.pin (b, o) (List.mem_append_right _ (List.mem_append_right _ (mem_pinsAt hb e)))
          ⟨z.1, z.2.1⟩
        have hl : (wipe σ2 vs1).length = σ3.length := by rw [← hw3, wipe_length]
        refine ⟨(I'.unpinned (pins := pins)).weak hl (fun j v e => ?_), T1.keep _ _ _ st2 fun b hb o e => (pin' b hb o e).1, fun b hb => ?_⟩
        · rw [← hw3] at e
          exact (wipe_some e).1
        · obtain ⟨o, e, _⟩ := T1.obj _ _ st2 b hb
          exact (pin' b hb o e).2
      cases b with
      | false =>
        simp only [Bool.false_eq_true, if_false] at q4 ⊢
        obtain ⟨f', hf', q4⟩ := q4
        obtain ⟨k', hk, w'⟩ := hNx f' H4 q4
        obtain ⟨k1, k2, k3⟩ := back I4
        exact seg_again rfl (ih k' hk n f' (j + 1) s₀ s4 H4 (by omega) w' k1 k2 k3)
      | true =>
        simp only [if_true] at q4 ⊢
        have hy : ∀ v, yieldOut G.env v = yieldValue v := fun v => by simp only [yieldOut, hco, Bool.false_eq_true, if_false]
        simp only [hy]
        rw [Sem.bind_eq_wrap', Sem.bind_eq_wrap', Sem.wrap_wrap, Sem.wrap_wrap]
        refine seg_wrap ?_
        rw [hov]
        refine wpAny_mono (noxG hxe (pe.run _ s4 σ3 H4 _ I4 q4)) (fun z s5 ⟨yv, H5, I5, r5, q, ek, q5⟩ => ?_) fun _ _ z => False.elim z
        subst ek
        obtain rfl : z = .bool q := r5
        obtain ⟨n, rfl⟩ : ∃ n', n = n' + 1 := ⟨n - 1, by omega⟩
        obtain ⟨Hx, σx, Ix, ex⟩ := hinv _ _ _ _ I5
        subst ex
        obtain ⟨k1, k2, k3⟩ := back I5
        refine seg_at (seg_yield hsp rfl hgd ⟨q, Hx, _, rfl, Ix, ?_⟩)
        rcases q5 with ⟨e, f', hf', nx⟩ | ⟨e, qs⟩
        · refine .inl ⟨e, fun s' wk => ?_⟩
          obtain ⟨k', hk, w'⟩ := hNx f' Hx nx
          exact seg_again rfl (ih k' hk n f' (j + 1) s' s' Hx (by omega) w' (Inv.woke k1 wk) (by rw [wk.heap]; exact k2) k3)
        · exact .inr ⟨e, qs⟩
theorem seg_gS1 {gs : List Comprehension} {R : GenEnd} {Y : Protocol} {n : Nat} {s₀ s : Shared} {cenv : PySem.Env} {P : Program} {w : World} {fs : List Frame} (hself : ∀ (A : Around) (Q : Value → Shared → Prop) (E : Value → Shared → Prop), Q (.ref it) s → wpAny (model P w) A (pyIter (.ref it)) Q E s)
    (hg : ∃ ip, (clausesOf (.GeneratorExp elt gs scope pos))[1]? = some ip ∧ ip.is_async = 0)
    (loop : Seg (model P w) A R Y n s₀ (.compLoop (.GeneratorExp elt gs scope pos) 1 (.ref it) .none cenv) ((model P w).den (.compLoop (.GeneratorExp elt gs scope pos) 1 (.ref it) .none cenv)) fs s) :
    Seg (model P w) A R Y n s₀ (.compStart (.GeneratorExp elt gs scope pos) 1 (.ref it) .none cenv) ((model P w).den (.compStart (.GeneratorExp elt gs scope pos) 1 (.ref it) .none cenv)) fs s := by
  obtain ⟨ip, hip, has⟩ := hg
  show Seg _ A _ _ _ s₀ _ ((compStart (.GeneratorExp elt gs scope pos) 1 (.ref it) .none cenv).onRaise _) fs s
  unfold compStart
  rw [Sem.onRaise_eq_wrap, hip]
  have e0 : ((some ip).elim false fun x => x.is_async != 0) = false := by simp [has]
  simp only [e0]
  show Seg _ A _ _ _ s₀ _ ((ask >>= _).wrap _ _ _ _) fs s
  refine seg_bind_wrap (wpAny_askSetting ?_)
  split
  · exact seg_again rfl loop
  · first
      | exact seg_bind_wrap (wpAny_rule (seg_bind_wrap (wpAny_standAt (seg_bind_wrap (hself _ _ _ (seg_again rfl loop))))))
      | (refine seg_bind_wrap (wpAny_rule ?_); show Seg _ A _ _ _ s₀ _ ((standAt ip.iter.pos >>= _).wrap _ _ _ _) fs s; exact seg_bind_wrap (wpAny_standAt (seg_bind_wrap (hself _ _ _ (seg_again rfl loop)))))
theorem seg_g2 (hA : A.deeper G.env = G.A) (T : Turn G.prog G.w G.K tg J fp it tn) (hc : G.calm = true) (hxe : G.xe = fun _ _ => False) (hpn : ∀ p ∈ G.pn, p.1 ∉ fp) (hex : G.ex = fp) (hexs : ∀ b ∈ fp, b ∉ G.fs)
    (pg : PG G tg g) (pt : PTs G ifs tt) (pi1 : PI G tg1 iter1 wi1) (pg1 : PG G tg1 g1) (pt1 : PTs G ifs1 tt1) (pe : PE G elt te) (hco : G.env.scope.isCoroutine = false) (hs1 : ∀ x, foldedSetIterable iter1 G.env x = pure x) (hv : ∀ i ∈ vs1, i ∈ vs) {W : Nat → Nat → Nat → Hp → Prop} (turn : gTurns2 J g tt wi1 g1 tt1 te vs vs1 σ al QE QS W) :
    ∀ (m n f i : Nat) (s₀ s : Shared) (H : Hp), f < n → W i m f H → Inv G [] (wipe σ vs) H s → tn i s.heap → (∀ b ∈ fp, H b = none) →
      Seg (model G.prog G.w) A (gR G QE) (gY G al QS) n s₀ (.compLoop (.GeneratorExp elt [⟨tg, iter, ifs, 0⟩, ⟨tg1, iter1, ifs1, 0⟩] scope pos) 0 (.ref it) .none G.env)
        ((model G.prog G.w).den (.compLoop (.GeneratorExp elt [⟨tg, iter, ifs, 0⟩, ⟨tg1, iter1, ifs1, 0⟩] scope pos) 0 (.ref it) .none G.env)) [] s := by
  have hov : ∀ c, c = Code.compLoop (.GeneratorExp elt [⟨tg, iter, ifs, 0⟩, ⟨tg1, iter1, ifs1, 0⟩] scope pos) 0 (.ref it) .none G.env → A.over c [] = G.A := fun c e => by rw [e, over_comp0]; exact hA
  have stat : ∀ {σ' : L2.St} {H' : Hp} {s' : Shared}, Inv G [] σ' H' s' → (∀ b ∈ fp, H' b = none) → ∀ b ∈ fp, FpOk G [] H' b := fun {σ' H' s'} I' hn b hb =>
    ⟨hn b hb, (I'.ok.exf b (by rw [hex]; exact hb)).1, hexs b hb, .inl (by rw [hex]; exact hb), fun x c e => (I'.ok.exf b (by rw [hex]; exact hb)).2 x c e, fun p hp z => hpn p (by simpa using hp) (z ▸ hb)⟩
  intro m
  induction m using Nat.strongRecOn with
  | ind m ih =>
    intro n f i s₀ s H hn w I st nf
    show Seg _ A _ _ _ s₀ _ ((compTurn (.GeneratorExp elt [⟨tg, iter, ifs, 0⟩, ⟨tg1, iter1, ifs1, 0⟩] scope pos) 0 (.ref it) .none G.env).onRaise (leaving G.env)) [] s
    rw [compTurn_g2out, Sem.onRaise_eq_wrap]
    refine seg_bind_wrap (wpAny_standAt ?_)
    rcases turn i m f H w with ⟨stop, qe⟩ | ⟨go, Nx, hNx, step⟩
    · refine segG (hov _ rfl) (T.done G rfl rfl rfl hc i [] s _ H (fun _ _ => False) I (stat I nf) st stop) fun r s1 ⟨hr, I1⟩ => ?_
      subst hr
      exact seg_end (.ok .next) ⟨rfl, H, _, I1, qe⟩
    · refine segG (hov _ rfl) (T.item G rfl rfl rfl hc i [] s _ H (fun _ _ => False) I (stat I nf) st go) fun r s1 ⟨u, hr, h1⟩ => ?_
      subst hr
      refine segG (hov _ rfl) h1 fun _ s2 ⟨x, H2, I2, r2, y2, st2, n2⟩ => ?_
      have I2' := I2.pinned (stat I2 n2) (T.obj _ _ st2)
      refine segG (hov _ rfl) (noxG hxe (pg.run _ s2 _ H2 x u _ I2' r2 (step x H2 y2))) fun _ s3 ⟨σ3, H3, I3, hw3, q3⟩ => ?_
      refine segG (hov _ rfl) (noxG hxe (pt.run _ s3 σ3 H3 _ I3 q3)) fun b s4 ⟨H4, I4, q4⟩ => ?_
      have hl3 : (wipe σ vs).length = σ3.length := by rw [← hw3, wipe_length]
      have back : ∀ {s' : Shared} {H' : Hp} {σ' : L2.St}, Inv G ([] ++ pinsAt fp s2.heap) σ' H' s' → (wipe σ vs).length = σ'.length → (∀ j v, (wipe σ vs)[j]? = some (some v) → σ'[j]? = some (some v)) → Inv G [] (wipe σ vs) H' s' ∧ tn (i + 1) s'.heap ∧ ∀ b ∈ fp, H' b = none := fun {s' H' σ'} I' hl hk => by
        have pin' : ∀ b ∈ fp, ∀ o, s2.heap.get? b = some o → s'.heap.get? b = some o ∧ H' b = none := fun b hb o e =>
          let z := I'.pin (b, o) (List.mem_append_right _ (List.mem_append_right _ (mem_pinsAt hb e)))
          ⟨z.1, z.2.1⟩
        refine ⟨(I'.unpinned (pins := [])).weak hl hk, T.keep _ _ _ st2 fun b hb o e => (pin' b hb o e).1, fun b hb => ?_⟩
        obtain ⟨o, e, _⟩ := T.obj _ _ st2 b hb
        exact (pin' b hb o e).2
      cases b with
      | false =>
        simp only [Bool.false_eq_true, if_false] at q4 ⊢
        obtain ⟨f', hf', q4⟩ := q4
        obtain ⟨m', hm, w'⟩ := hNx f' H4 q4
        obtain ⟨k1, k2, k3⟩ := back I4 hl3 (fun j v e => by rw [← hw3] at e; exact (wipe_some e).1)
        exact seg_again rfl (ih m' hm n f' (i + 1) s₀ s4 H4 (by omega) w' k1 k2 k3)
      | true =>
        simp only [if_true] at q4 ⊢
        have hp1 := noxG hxe (pi1.run _ s4 σ3 H4 _ I4 q4)
        rw [hxe] at hp1
        refine segG (hov _ rfl) hp1 fun xv s5 hx => ?_
        refine seg_bind_wrap (wpAny_standAt ?_)
        refine seg_bind_wrap (wpAny_of_eq (hs1 xv) ?_)
        refine segG (hov _ rfl) (wpAny_holding hx) fun itv s6 h6 => ?_
        obtain ⟨it1, fp1, tn1, J1, H6, e1, I6, T1, st6, f6, W1, ⟨k0, f0, hf0, w0⟩, turn1⟩ := h6
        subst e1
        refine seg_call fun p => ?_
        refine seg_gS1 (P := G.prog) (w := G.w) (fun A Q E q => T1.self A 0 s6 Q E st6 q) ⟨_, rfl, rfl⟩ ?_
        refine seg_g2in (σ2 := σ3) (vs1 := vs1) ((GenW.over_loop rfl rfl).trans (hov _ rfl)) rfl rfl T1 hc hxe (fun b hb H hH => ⟨hH, (f6 b hb).2⟩) pg1 pt1 pe hco turn1 (fun σ' H' s' q I' => ⟨H', σ', I'.pins_of fun p hp => I'.pin p (List.mem_append_left _ (by simpa using hp)), rfl⟩) (fun n' f' s₀' s' H' hn' nx I' => ?_)
          k0 n f0 0 s₀ s6 H6 (by omega) w0 (I6.weak (wipe_length _ _) fun j v e => (wipe_some e).1) st6 (fun b hb => (f6 b hb).1)
        obtain ⟨m', hm, w'⟩ := hNx f' H' nx
        obtain ⟨k1, k2, k3⟩ := back I' (hl3.trans (wipe_length σ3 vs1).symm) (fun j v e => by
          rw [← hw3] at e
          obtain ⟨e1, e2⟩ := wipe_some e
          rw [wipe_out fun z => e2 (hv j z)]
          exact e1)
        exact seg_leaf (.ok .next) (seg_again rfl (ih m' hm n' f' (i + 1) s₀' s' H' hn' w' k1 k2 k3))
end
end Mp
end
section
set_option Elab.async false
set_option linter.all false
set_option maxRecDepth 100000
set_option maxHeartbeats 1000000
/-! Generator expressions: two clauses as a rule; readings by evaluation. -/
namespace Mp
open PySem PySem.Spec L2 PyProof.Rows GxR
section
variable {X : Cx} {elt tg iter tg1 iter1 : Expr} {ifs ifs1 : List Expr} {scope : Scope} {own : List (Str × Nat)} {gpos p pos : Pos} {wi wi1 : TI} {g g1 : TG} {tt tt1 : TT} {te : TE} {al : Bool} {c P : Addr} {x : Str} {k : Nat} {vs1 : List Nat}
def tGen2 (P : Addr) (wi : TI) (g : TG) (tt : TT) (wi1 : TI) (g1 : TG) (tt1 : TT) (te : TE) (vs vs1 : List Nat) (al : Bool) : TE := fun σ H Q => wi σ H fun J H1 => TabG H1 P ∧ ∀ H2, Tabbed P H1 H2 → ∃ W : Nat → Nat → Nat → Hp → Prop, (∃ m f, W 0 m f H2) ∧ gTurns2 J g tt wi1 g1 tt1 te vs vs1 σ al (fun H => Q (.bl al) H) (fun H => Q (.bl (!al)) H) W
theorem pe_gen2 (hc : X.calm = true) (hr : Room k X.A) (hb : PrimAt X x (.builtin (if al then "all" else "any"))) (TB : TabB X.base X.mg c P) (hcode : X.env.code = .ref c) (ok : GenOk X.N X.env.scope scope own) (hN : X.N.Nodup) (hi : PI X tg iter wi)
    (hg : ∀ (s : Shared) (H : Hp) (C : Addr) (code : Value) (fp : List Addr) (pn : List (Addr × Obj)), PG (gC X scope s H C code fp pn) tg g) (ht : ∀ (s : Shared) (H : Hp) (C : Addr) (code : Value) (fp : List Addr) (pn : List (Addr × Obj)), PTs (gC X scope s H C code fp pn) ifs tt)
    (hi1 : ∀ (s : Shared) (H : Hp) (C : Addr) (code : Value) (fp : List Addr) (pn : List (Addr × Obj)), PI (gC X scope s H C code fp pn) tg1 iter1 wi1)
    (hg1 : ∀ (s : Shared) (H : Hp) (C : Addr) (code : Value) (fp : List Addr) (pn : List (Addr × Obj)), PG (gC X scope s H C code fp pn) tg1 g1) (ht1 : ∀ (s : Shared) (H : Hp) (C : Addr) (code : Value) (fp : List Addr) (pn : List (Addr × Obj)), PTs (gC X scope s H C code fp pn) ifs1 tt1)
    (he : ∀ (s : Shared) (H : Hp) (C : Addr) (code : Value) (fp : List Addr) (pn : List (Addr × Obj)), PE (gC X scope s H C code fp pn) elt te) (hs : ∀ v, genFold iter X.env v = pure v) (hs1 : ∀ env x, foldedSetIterable iter1 env x = pure x) (hv : ∀ i ∈ vs1, i ∈ own.map (·.2)) :
    PE X (.Call (.Name x p) [.GeneratorExp elt [⟨tg, iter, ifs, 0⟩, ⟨tg1, iter1, ifs1, 0⟩] scope gpos] [] pos) (tGen2 P wi g tt wi1 g1 tt1 te (own.map (·.2)) vs1 al) := by
  refine ⟨fun pins s σ H Q I h => ?_⟩
  have he' : starEach [.GeneratorExp elt [⟨tg, iter, ifs, 0⟩, ⟨tg1, iter1, ifs1, 0⟩] scope gpos] X.env = (false, eval (.GeneratorExp elt [⟨tg, iter, ifs, 0⟩, ⟨tg1, iter1, ifs1, 0⟩] scope gpos) X.env) :: starEach [] X.env := rfl
  refine wpAny_Call_Name_kw (hb.ld I ?_)
  refine PyProof.Rows.callWith_builtin1 ?_ he' (by rfl)
  rw [he']
  show wpAny _ _ (spliced ((false, eval (.GeneratorExp elt [⟨tg, iter, ifs, 0⟩, ⟨tg1, iter1, ifs1, 0⟩] scope gpos) X.env) :: backTo pos (starEach [] X.env))) _ _ s
  refine Calls.spliced_cons (gen_make hr TB hcode ok hN hi hs I h fun s3 H1 H3 J fp it tn code a og gg s5 hT q I3 T fpo hfa hw hget hog hbare hl hgs => ?_)
  refine Calls.spliced_nil ?_
  obtain ⟨W, ⟨m0, f0, w0⟩, turn⟩ := q H3 hT
  have fin : ∀ {b : Bool} {s' : Shared} {H' : Hp} {σ' : L2.St}, Inv (gC X scope s3 H3 s3.heap.objs.size code fp [(a, og)]) [] σ' H' s' → Q (.bl b) H' → EP X pins σ Q (.bool b) s' := fun {b s' H' σ'} I' q' =>
    ⟨.bl b, H', I3.call' (ch := fp) I'.os I'.base I'.hok I'.bare fun b hb => ⟨(fpo b hb).2.2.2.1, (fpo b hb).2.1, (fpo b hb).2.2.2.2.1, (fpo b hb).2.2.2.2.2⟩, rfl, q'⟩
  refine call_gen (G := gC X scope s3 H3 s3.heap.objs.size code fp [(a, og)]) (QE := fun H => Q (.bl al) H) (QS := fun H => Q (.bl (!al)) H) (n := f0 + 1) al hr.hd hr.depth hog (fun H' σ' s' I' => ⟨(I'.pin (a, og) (List.mem_append_left _ List.mem_cons_self)).1, I'.nolimit⟩) (fun s' H' σ' I' qe => fin I' qe) (fun s' H' σ' I' qs => fin I' qs) ?_
  refine ⟨hget, hl, hbare, _, hgs, fun s' wk => ⟨rfl, ?_⟩⟩
  obtain ⟨I5, st5⟩ := hw s' wk
  refine seg_gS (P := X.prog) (w := X.w) (fun A Q E q => T.self A 0 s' Q E st5 q) ⟨_, rfl, rfl⟩ ?_
  refine seg_g2 (G := gC X scope s3 H3 s3.heap.objs.size code fp [(a, og)]) rfl T hc rfl (fun p hp z => ?_) rfl (fun b hb z => ?_) (hg _ _ _ _ _ _) (ht _ _ _ _ _ _) (hi1 _ _ _ _ _ _) (hg1 _ _ _ _ _ _) (ht1 _ _ _ _ _ _) (he _ _ _ _ _ _) ok.co (hs1 _) hv turn m0 (f0 + 1) f0 0 s' s' H3 (Nat.lt_succ_self _) w0 I5 st5 (fun b hb => (fpo b hb).1)
  · have hp : p ∈ [(a, og)] := hp
    have hp : p = (a, og) := List.mem_singleton.mp hp
    rw [hp] at z
    exact hfa a z rfl
  · rcases List.mem_cons.mp (I3.stkSub b z) with z | z
    · exact (fpo b hb).2.1 z
    · exact (fpo b hb).2.2.1 z
end
/-! readings -/
section
variable {K : PySem.W.Frag} {Tb : List (Addr × Option Str)} {β α : List Addr} {st : St} {H H1 : Hp} {P : Addr}
/-- the table at P has grown -/
theorem Ok.tabbed (o : Ok K Tb β α st H) (hP : (P, none) ∈ Tb) (hq : ∀ q, (P, some q) ∉ Tb) (t : Tabbed P H H1) : Ok K Tb β α st H1 ∧ Stp α α H H1 := by
  obtain ⟨ps, h0, _⟩ : TabG H P := o.tabs _ hP
  have hne : ∀ b u, H b = some u → (∀ q, u ≠ .tbl q) → H1 b = some u := fun b u e n => by
    rw [t.2 b fun z => ?_]
    · exact e
    · rw [z, h0] at e
      exact n _ (Option.some.inj e).symm
  have le : LeG (Mk (β ++ α) H) (Mk (β ++ α) H1) := fun b u e n => by
    obtain ⟨hb, e⟩ := mk_some e
    rw [mk_out hb]
    exact hne b u e n
  refine ⟨⟨o.nd, o.ap, fun b hb => ?_, o.len, fun k a l e1 e2 => ?_, fun k a u ks vs e1 e2 => ?_, fun p hp => ?_⟩, ⟨List.prefix_rfl, fun _ h => .inl h, fun b u _ e n => hne b u e n, fun b qs _ e => ?_⟩⟩
  · obtain ⟨xs, e⟩ := o.bl b hb
    exact ⟨xs, hne b _ e fun q z => by cases z⟩
  · obtain ⟨xs, h1, h2⟩ := o.cells k a l e1 e2
    exact ⟨xs, hne a _ h1 (fun q z => by cases z), Reps.mono List.prefix_rfl le l xs h2⟩
  · obtain ⟨xs, h1, h2⟩ := o.dcells k a u ks vs e1 e2
    exact ⟨xs, h1.le fun b o e n => hne b o e n, Reps.mono List.prefix_rfl le vs xs h2⟩
  · have hp' := o.tabs p hp
    obtain ⟨pa, pq⟩ := p
    cases pq with
    | none =>
      by_cases h1 : pa = P
      · rw [h1]
        exact t.1
      · obtain ⟨qs, e1, e2⟩ : TabG H pa := hp'
        exact ⟨qs, by rw [t.2 pa h1]; exact e1, e2⟩
    | some q =>
      have h1 : pa ≠ P := fun z => hq q (by rw [← z]; exact hp)
      obtain ⟨qs, e1, e2, e3⟩ : LamX.TabS H pa q := hp'
      refine ⟨qs, by rw [t.2 pa h1]; exact e1, e2, fun pos cv hc => ?_⟩
      obtain ⟨c, k1, k2⟩ := e3 pos cv hc
      exact ⟨c, k1, hne c _ k2 fun q z => by unfold LamX.CodeO at z; cases z⟩
  · by_cases h1 : b = P
    · obtain ⟨ps', e', _⟩ := t.1
      exact ⟨ps', by rw [h1]; exact e'⟩
    · exact ⟨qs, by rw [t.2 b h1]; exact e⟩
end
section
variable {X : Cx} {Tb : List (Addr × Option Str)} {P : Addr}
theorem boolOf_bnd {m : M D} {st st' : St} {b : Bool} (h : bnd m boolOf st = .ok b st') : m st = .ok (.bl b) st' := by
  obtain ⟨d, st1, q, h⟩ := bnd_ok h
  obtain ⟨rfl, rfl⟩ := boolOf_ok h
  exact q
theorem gen_tell {p : Pat} {c e : Env → M D} {wi : Env → M Src} {vs : List Nat} {al : Bool} (hP : (P, none) ∈ Tb) (hq : ∀ q, (P, some q) ∉ Tb) (hv : vs = p.slots) {σ : L2.St} {H : Hp} {Q : VK}
    (h : tOf X.K Tb (fun env => bnd (wi env) fun s => bnd (genL al p c (fun env => bnd (e env) boolOf) (wipeE env p.slots) s.2 s.1) fun b => ret (.bl b)) σ H Q) :
    tGen P (tItr X.K Tb wi) (gOf X.K Tb p) (tTst X.K Tb c) (tOf X.K Tb e) vs al σ H Q := by
  subst hv
  obtain ⟨β, α, st, env, o, en, h⟩ := h
  refine ⟨β, α, st, env, o, en, ?_⟩
  obtain ⟨⟨l, g⟩, st1, q1, h⟩ := sat_bnd h
  rw [q1]
  intro J α1 H1 s1 o1 hc walk
  refine ⟨o1.tabs _ hP, fun Ht hT => ?_⟩
  obtain ⟨ot, sT⟩ := o1.tabbed hP hq hT
  obtain ⟨bF, stF, qF, h⟩ := sat_bnd h
  simp only at qF
  have en1 : EnvOk X.K α1 (Mk (β ++ α1) H1) env σ := en.mono s1.pre (s1.le β)
  generalize hew : wipeE env p.slots = ew at qF
  let Pv : Nat → Hp → Prop := fun i H2 => ∃ α2 st2, Stp α1 α2 H1 H2 ∧ Ok X.K Tb β α2 st2 H2 ∧ chk g st2 = .ok () st2 ∧ genL al p c (fun env => bnd (e env) boolOf) ew g (l.drop i) st2 = .ok bF stF
  refine ⟨fun i m H2 => m = l.length - i ∧ i ≤ l.length ∧ Pv i H2, ⟨l.length, by simp, Nat.zero_le _, α1, st1, sT, ot, hc, qF⟩, ?_⟩
  rintro i m H2 ⟨rfl, hi, α2, st2, s2, o2, c2, qr⟩
  obtain ⟨wg, ws, wy⟩ := walk β α2 st2 H2 (fun b hb => .inl hb) (s2.w β) o2 c2
  by_cases hlt : i < l.length
  · refine .inr ⟨wg i hlt, Pv (i + 1), fun H' p' => ⟨l.length - (i + 1), by omega, rfl, hlt, p'⟩, fun x H3 y => ?_⟩
    obtain ⟨d, hd, o3, s3, r3⟩ := wy i x H3 hlt y
    have hdrop : l.drop i = d :: l.drop (i + 1) := by
      rw [List.drop_eq_getElem_cons hlt]
      congr 1
      rw [List.getElem?_eq_getElem hlt] at hd
      exact Option.some.inj hd
    rw [hdrop] at qr
    unfold genL at qr
    obtain ⟨env', st3, qb0, qr1⟩ := bnd_ok qr
    obtain ⟨qb, e3⟩ := opt_ok qb0
    rw [e3] at qr1
    clear qr qb0 e3 st3
    have s13 : Stp α1 α2 H1 H3 := s2.trans s3
    have enw : EnvOk X.K α2 (Mk (β ++ α2) H3) ew (wipe σ p.slots) := by
      rw [← hew]
      exact (EnvOk.wipe en1 p.slots).mono s13.pre (s13.le β)
    refine ⟨β, α2, st2, ew, d, env', o3, enw, r3, qb, fun σ' hw e' => ⟨by rw [hw, wipe_wipe fun _ h => h], ?_⟩⟩
    refine tOfB_mk o3 e' ?_
    obtain ⟨b, st4, q4, qr2⟩ := bnd_ok qr1
    rw [q4]
    intro α4 H4 s4 o4
    have s14 : Stp α1 α4 H1 H4 := s13.trans s4
    cases b with
    | false =>
      obtain ⟨_, st5, q5, qr3⟩ := bnd_ok qr2
      have e5 := chk_st q5
      rw [e5] at q5 qr3
      exact ⟨α4, st4, s14, o4, chk_ok q5, qr3⟩
    | true =>
      obtain ⟨y, st5, q5, qr3⟩ := bnd_ok qr2
      refine tOf_mk o4 (e'.mono s4.pre (s4.le β)) ?_
      rw [boolOf_bnd q5]
      intro v α5 H5 s5 o5 r5
      obtain rfl : v = .bl y := r5
      refine ⟨y, rfl, ?_⟩
      by_cases hy : y = al
      · rw [if_pos hy] at qr3
        obtain ⟨_, st6, q6, qr4⟩ := bnd_ok qr3
        have e6 := chk_st q6
        rw [e6] at q6 qr4
        exact .inl ⟨hy, α5, st5, s14.trans s5, o5, chk_ok q6, qr4⟩
      · rw [if_neg hy] at qr3
        cases qr3
        refine .inr ⟨hy, ?_⟩
        have hya : bF = !al := by cases bF <;> cases al <;> simp_all
        rw [← hya]
        exact h (.bl bF) α5 H5 (s1.trans (s14.trans s5)) o5 rfl
  · have e : i = l.length := by omega
    subst e
    rw [List.drop_length] at qr
    cases qr
    exact .inl ⟨ws, h (.bl al) α2 H2 (s1.trans s2) o2 rfl⟩
end
end Mp
end
section
set_option Elab.async false
set_option linter.all false
set_option maxRecDepth 100000
set_option maxHeartbeats 1000000
/-! Generator expressions of two clauses: the reading by evaluation. -/
namespace Mp
open PySem PySem.Spec L2 PyProof.Rows GxR
/-- how much is handed out at most -/
def genF (p : Pat) (c : Env → M D) (e : Env → M Bool) (cnt : Env → St → Nat) (env : Env) : List D → St → Nat
  | [], _ => 0
  | x :: r, st => match p.bind x env with
    | none => 0
    | some env' => match bnd (c env') truth st with
      | .bad => 0
      | .ok false st1 => genF p c e cnt env r st1
      | .ok true st1 => cnt env' st1 + match e env' st1 with
        | .ok _ st2 => genF p c e cnt env r st2
        | .bad => 0
def cntOf (wi : Env → M Src) (env : Env) (st : St) : Nat := match wi env st with
  | .ok s _ => s.1.length
  | .bad => 0
section
variable {X : Cx} {Tb : List (Addr × Option Str)} {P : Addr}
theorem gen2_tell {p q : Pat} {c d e : Env → M D} {wi wi1 : Env → M Src} {vs vs1 : List Nat} {al : Bool} (hP : (P, none) ∈ Tb) (hq : ∀ q, (P, some q) ∉ Tb) (hv : vs = p.slots ++ q.slots) (hv1 : vs1 = q.slots) {σ : L2.St} {H : Hp} {Q : VK}
    (h : tOf X.K Tb (fun env => bnd (wi env) fun s => bnd (genL al p c (fun env => bnd (wi1 env) fun s => genL al q d (fun env => bnd (e env) boolOf) (wipeE env q.slots) s.2 s.1) (wipeE env (p.slots ++ q.slots)) s.2 s.1) fun b => ret (.bl b)) σ H Q) :
    tGen2 P (tItr X.K Tb wi) (gOf X.K Tb p) (tTst X.K Tb c) (tItr X.K Tb wi1) (gOf X.K Tb q) (tTst X.K Tb d) (tOf X.K Tb e) vs vs1 al σ H Q := by
  subst hv hv1
  obtain ⟨β, α, st, env, o, en, h⟩ := h
  refine ⟨β, α, st, env, o, en, ?_⟩
  obtain ⟨⟨l, g⟩, st1, q1, h⟩ := sat_bnd h
  rw [q1]
  intro J α1 H1 s1 o1 hc walk
  refine ⟨o1.tabs _ hP, fun Ht hT => ?_⟩
  obtain ⟨ot, sT⟩ := o1.tabbed hP hq hT
  obtain ⟨bF, stF, qF, h⟩ := sat_bnd h
  simp only at qF
  have en1 : EnvOk X.K α1 (Mk (β ++ α1) H1) env σ := en.mono s1.pre (s1.le β)
  generalize hew : wipeE env (p.slots ++ q.slots) = ew at qF
  generalize hel : (fun env => bnd (wi1 env) fun s => genL al q d (fun env => bnd (e env) boolOf) (wipeE env q.slots) s.2 s.1) = el at qF
  let Pv : Nat → Nat → Hp → Prop := fun i f H2 => ∃ α2 st2, Stp α1 α2 H1 H2 ∧ Ok X.K Tb β α2 st2 H2 ∧ chk g st2 = .ok () st2 ∧ genL al p c el ew g (l.drop i) st2 = .ok bF stF ∧ f = genF p c el (cntOf wi1) ew (l.drop i) st2
  refine ⟨fun i m f H2 => m = l.length - i ∧ i ≤ l.length ∧ Pv i f H2, ⟨l.length, _, by simp, Nat.zero_le _, α1, st1, sT, ot, hc, qF, rfl⟩, ?_⟩
  rintro i m f H2 ⟨rfl, hi, α2, st2, s2, o2, c2, qr, hf⟩
  obtain ⟨wg, ws, wy⟩ := walk β α2 st2 H2 (fun b hb => .inl hb) (s2.w β) o2 c2
  by_cases hlt : i < l.length
  · refine .inr ⟨wg i hlt, Pv (i + 1), fun f' H' p' => ⟨l.length - (i + 1), by omega, rfl, hlt, p'⟩, fun x H3 y => ?_⟩
    obtain ⟨dd, hd, o3, s3, r3⟩ := wy i x H3 hlt y
    have hdrop : l.drop i = dd :: l.drop (i + 1) := by
      rw [List.drop_eq_getElem_cons hlt]
      congr 1
      rw [List.getElem?_eq_getElem hlt] at hd
      exact Option.some.inj hd
    rw [hdrop] at qr hf
    unfold genL at qr
    unfold genF at hf
    obtain ⟨env', st3, qb0, qr1⟩ := bnd_ok qr
    obtain ⟨qb, e3⟩ := opt_ok qb0
    rw [e3] at qr1
    clear qr qb0 e3 st3
    rw [qb] at hf
    simp only at hf
    have s13 : Stp α1 α2 H1 H3 := s2.trans s3
    have enw : EnvOk X.K α2 (Mk (β ++ α2) H3) ew (wipe σ (p.slots ++ q.slots)) := by
      rw [← hew]
      exact (EnvOk.wipe en1 _).mono s13.pre (s13.le β)
    refine ⟨β, α2, st2, ew, dd, env', o3, enw, r3, qb, fun σ' hw e' => ⟨by rw [wipe_sub (fun j hj => List.mem_append_left _ hj) hw, wipe_wipe fun _ h => h], ?_⟩⟩
    refine tOfB_mk o3 e' ?_
    obtain ⟨b, st4, q4, qr2⟩ := bnd_ok qr1
    rw [q4] at hf ⊢
    intro α4 H4 s4 o4
    have s14 : Stp α1 α4 H1 H4 := s13.trans s4
    cases b with
    | false =>
      obtain ⟨_, st5, q5, qr3⟩ := bnd_ok qr2
      have e5 := chk_st q5
      rw [e5] at q5 qr3
      exact ⟨f, Nat.le_refl _, α4, st4, s14, o4, chk_ok q5, qr3, hf⟩
    | true =>
      obtain ⟨y1, stI, q5, qr3⟩ := bnd_ok qr2
      simp only [q5] at hf
      have q5' := q5
      rw [← hel] at q5'
      obtain ⟨⟨l1, g1⟩, st5, q50, q51⟩ := bnd_ok q5'
      simp only at q51
      have hcnt : cntOf wi1 env' st4 = l1.length := by unfold cntOf; rw [q50]
      rw [hcnt] at hf
      have e4 : EnvOk X.K α4 (Mk (β ++ α4) H4) env' σ' := e'.mono s4.pre (s4.le β)
      refine tItr_mk o4 e4 ?_
      rw [q50]
      intro J1 α5 H5 s5 o5 hc5 walk1
      have s15 : Stp α1 α5 H1 H5 := s14.trans s5
      have e5 : EnvOk X.K α5 (Mk (β ++ α5) H5) env' σ' := e4.mono s5.pre (s5.le β)
      generalize hF : genF p c el (cntOf wi1) ew (l.drop (i + 1)) stI = F at hf
      let Pv1 : Nat → Nat → Hp → Prop := fun j f H6 => ∃ α6 st6, Stp α5 α6 H5 H6 ∧ Ok X.K Tb β α6 st6 H6 ∧ chk g1 st6 = .ok () st6 ∧ genL al q d (fun env => bnd (e env) boolOf) (wipeE env' q.slots) g1 (l1.drop j) st6 = .ok y1 stI ∧ f = (l1.length - j) + F
      refine ⟨fun j k f H6 => k = l1.length - j ∧ j ≤ l1.length ∧ Pv1 j f H6, ⟨l1.length, l1.length + F, by omega, by simp, Nat.zero_le _, α5, st5, Stp.refl _ _, o5, hc5, q51, by simp⟩, ?_⟩
      rintro j k f1 H6 ⟨rfl, hj, α6, st6, s56, o6, c6, qr6, hf1⟩
      obtain ⟨wg1, ws1, wy1⟩ := walk1 β α6 st6 H6 (fun b hb => .inl hb) (s56.w β) o6 c6
      by_cases hlt1 : j < l1.length
      · refine .inr ⟨wg1 j hlt1, Pv1 (j + 1), fun f' H' p' => ⟨l1.length - (j + 1), by omega, rfl, hlt1, p'⟩, fun x1 H7 yy => ?_⟩
        obtain ⟨d1, hd1, o7, s7, r7⟩ := wy1 j x1 H7 hlt1 yy
        have hdrop1 : l1.drop j = d1 :: l1.drop (j + 1) := by
          rw [List.drop_eq_getElem_cons hlt1]
          congr 1
          rw [List.getElem?_eq_getElem hlt1] at hd1
          exact Option.some.inj hd1
        rw [hdrop1] at qr6
        unfold genL at qr6
        obtain ⟨env2, st8, qb0, qr7⟩ := bnd_ok qr6
        obtain ⟨qb2, e8⟩ := opt_ok qb0
        rw [e8] at qr7
        clear qr6 qb0 e8 st8
        have s57 : Stp α5 α6 H5 H7 := s56.trans s7
        have enw2 : EnvOk X.K α6 (Mk (β ++ α6) H7) (wipeE env' q.slots) (wipe σ' q.slots) := (EnvOk.wipe e5 _).mono s57.pre (s57.le β)
        refine ⟨β, α6, st6, wipeE env' q.slots, d1, env2, o7, enw2, r7, qb2, fun σ3 hw3 e7 => ⟨by rw [hw3, wipe_wipe fun _ h => h], ?_⟩⟩
        refine tOfB_mk o7 e7 ?_
        obtain ⟨b2, st9, q9, qr8⟩ := bnd_ok qr7
        rw [q9]
        intro α9 H9 s9 o9
        have s59 : Stp α5 α9 H5 H9 := s57.trans s9
        cases b2 with
        | false =>
          obtain ⟨_, st10, q10, qr9⟩ := bnd_ok qr8
          have e10 := chk_st q10
          rw [e10] at q10 qr9
          exact ⟨(l1.length - (j + 1)) + F, by omega, α9, st9, s59, o9, chk_ok q10, qr9, rfl⟩
        | true =>
          obtain ⟨y2, st10, q10, qr9⟩ := bnd_ok qr8
          refine tOf_mk o9 (e7.mono s9.pre (s9.le β)) ?_
          rw [boolOf_bnd q10]
          intro v α11 H11 s11 o11 r11
          obtain rfl : v = .bl y2 := r11
          refine ⟨y2, rfl, ?_⟩
          by_cases hy : y2 = al
          · rw [if_pos hy] at qr9
            obtain ⟨_, st12, q12, qr10⟩ := bnd_ok qr9
            have e12 := chk_st q12
            rw [e12] at q12 qr10
            exact .inl ⟨hy, (l1.length - (j + 1)) + F, by omega, α11, st10, s59.trans s11, o11, chk_ok q12, qr10, rfl⟩
          · rw [if_neg hy] at qr9
            cases qr9
            rw [if_neg hy] at qr3
            cases qr3
            refine .inr ⟨hy, ?_⟩
            have hya : bF = !al := by cases bF <;> cases al <;> simp_all
            rw [← hya]
            exact h (.bl bF) α11 H11 (s1.trans (s15.trans (s59.trans s11))) o11 rfl
      · have ej : j = l1.length := by omega
        subst ej
        rw [List.drop_length] at qr6
        cases qr6
        rw [if_pos rfl] at qr3
        obtain ⟨_, st12, q12, qr10⟩ := bnd_ok qr3
        have e12 := chk_st q12
        rw [e12] at q12 qr10
        refine .inl ⟨ws1, α6, _, s15.trans s56, o6, chk_ok q12, qr10, ?_⟩
        rw [hF, hf1]
        omega
  · have e : i = l.length := by omega
    subst e
    rw [List.drop_length] at qr
    cases qr
    exact .inl ⟨ws, h (.bl al) α2 H2 (s1.trans s2) o2 rfl⟩
end
end Mp
end
section
set_option Elab.async false
set_option linter.all false
set_option maxRecDepth 100000
set_option maxHeartbeats 1000000
/-! sorted(e, key=lambda x: (len(x), x)). -/
namespace Mp
open PySem PySem.Spec L2 PyProof.Rows LamX
/-! the lambda's making, one table at a time -/
section
variable {X : Cx} {pins : List (Addr × Obj)} {σ : L2.St} {H : Hp} {s : Shared}
theorem lam_make1 {c P : Addr} {params : Arguments} {body : Expr} {scope : Scope} {pos : Pos} {E : Value → Shared → Prop} {Q : Value → Shared → Prop} (I : Inv X pins σ H s) (TB : LamX.TabB X.base X.mg c P) (hcode : X.env.code = .ref c)
    (hT : TabS H P (X.env.qual ++ "<lambda>")) (hdef : defaultsOf params X.env = ([], [])) (hfree : ∀ y ∈ scope.names, y.2 = .free → ∃ c, X.env.cells.lookup y.1 = some c)
    (h : ∀ (f c' : Addr) (pm ctv : Value) (H1 : Hp) (s' : Shared), Inv X pins σ H1 s' → (∀ b o, b ≠ P → H b = some o → H1 b = some o) → TabS H1 P (X.env.qual ++ "<lambda>") →
      s'.heap.get? f = some (PySem.W.kla_obj "<lambda>" (X.env.qual ++ "<lambda>") params body scope (cloFrom X.env.cells scope.names []) pm c' ctv) → H1 f = none → H1 c' = some (CodeO c' (X.env.qual ++ "<lambda>")) → Q (.ref f) s') :
    wpAny (model X.prog X.w) X.A (eval (.Lambda params body scope pos) X.env) Q E s := by
  obtain ⟨ps, hP, ht, ha⟩ := hT
  refine PySem.W.kla_eval hdef ?_
  have bP : s.heap.BuiltinsAt X.mg P := TB.bm.keeps I.bk
  have hP' : s.heap.get? P = some { cls := .none, data := .fields ps } := I.hok P _ hP
  cases hc : codeAmong pos ps.toList with
  | none =>
    refine PySem.W.kla_makeFunction (mg := X.mg) (c := c) (P := P) (ps := ps) (closure_ok hfree) I.ok.glob (I.mod.glob.keeps I.bk) hcode (TB.code.keeps I.bk) hP' ht hc TB.gP bP fun c' ctv h' tk hx hge hlt hrec htb => ?_
    obtain ⟨c2, oc, vs, t, e2, hoc, hd, hv⟩ := hrec
    cases e2
    have hsz : s.heap.objs.size ≤ h'.objs.size := Nat.le_trans hge (Nat.le_of_lt hlt)
    have nC : H c' = none := I.hok.fresh hge
    have I1 := inv_table (t' := tk) (more := #[rawInt pos.line, rawInt pos.col, .ref c']) (h' := h'.push (PySem.W.kla_obj "<lambda>" (X.env.qual ++ "<lambda>") params body scope (cloFrom X.env.cells scope.names []) ((X.mg "__name__").getD .none) c' ctv)) I hP
      (fun b o hb e => Heap.get?_push_of_some _ (hx b o hb e)) (Heap.get?_push_of_some _ htb) hge ⟨oc, vs, t, Heap.get?_push_of_some _ hoc, hd, hv⟩
    have hE : ∀ b o, b ≠ P → H b = some o → upd (upd H P (.tbl (ps ++ #[rawInt pos.line, rawInt pos.col, .ref c']))) c' (CodeO c' (X.env.qual ++ "<lambda>")) b = some o := fun b o hb e => by
      rw [upd_ne (ne_of_none e nC), upd_ne hb]
      exact e
    have eL : (ps ++ #[rawInt pos.line, rawInt pos.col, .ref c']).toList = ps.toList ++ [rawInt pos.line, rawInt pos.col, .ref c'] := by simp
    refine h h'.objs.size c' ((X.mg "__name__").getD .none) ctv _ _ I1 hE ?_ (Heap.get?_push_size _ rfl) ?_ upd_same
    · refine ⟨_, by rw [upd_ne (ne_of_none hP nC), upd_same], by rw [eL]; exact PySem.TriplesOk_snoc _ _ _ _ ht, fun p' cv hcv => ?_⟩
      rw [eL] at hcv
      rcases among_app _ ht hcv with z | z
      · obtain ⟨c0, e1, e2⟩ := ha p' cv z
        have : c0 ≠ P := fun q => by
          rw [q, hP] at e2
          exact codeO_ne ps (Option.some.inj e2).symm
        exact ⟨c0, e1, hE _ _ this e2⟩
      · exact ⟨c', z, upd_same⟩
    · have n1 : h'.objs.size ≠ c' := Nat.ne_of_gt hlt
      have n2 : h'.objs.size ≠ P := Nat.ne_of_gt (Nat.lt_of_lt_of_le (Heap.lt_size hP') hsz)
      rw [upd_ne n1, upd_ne n2]
      exact I.hok.fresh hsz
  | some cv =>
    obtain ⟨c', e, hco⟩ := ha pos cv hc
    subst e
    refine PySem.W.kla_makeFunctionHit (mg := X.mg) (c := c) (P := P) (ps := ps) (closure_ok hfree) I.ok.glob (I.mod.glob.keeps I.bk) hcode (TB.code.keeps I.bk) hP' ht hc bP fun ctv h' tk hx hsz => ?_
    have I1 : Inv X pins σ H { s with heap := h'.push (PySem.W.kla_obj "<lambda>" (X.env.qual ++ "<lambda>") params body scope (cloFrom X.env.cells scope.names []) ((X.mg "__name__").getD .none) c' ctv), toks := tk } := I.kept fun b o e => Heap.get?_push_of_some _ (hx b o e)
    exact h h'.objs.size c' ((X.mg "__name__").getD .none) ctv H _ I1 (fun _ _ _ e => e) ⟨ps, hP, ht, ha⟩ (Heap.get?_push_size _ rfl) (I.hok.fresh hsz) hco
end
/-! the key -/
/-- lambda x: (len(x), x) -/
structure KeyLam (params : Arguments) (body : Expr) (scope : Scope) : Prop where
  ex : ∃ (x : Str) (p0 p1 p2 p3 p4 p5 : Pos) (k : Nat), params = ⟨[], [⟨x, none, p0⟩], none, [], [], none, []⟩ ∧ body = .Tuple [.Call (.Name "len" p1) [.Name x p2] [] p3, .Name x p4] k p5 ∧ scope.names.lookup x = some .local ∧ (x == ("__debug__" : Str)) = false
  kind : scope.kind = .function
  co : scope.isCoroutine = false
  gen : scope.isGenerator = false
  len : scope.names.lookup ("len" : Str) = some .globalImplicit
  names : ∀ y ∈ scope.names, y.2 ≠ .cell ∧ y.2 ≠ .free
theorem bind1 {q x : Str} {p0 : Pos} {body : Expr} {scope : Scope} {cl : List (Str × Addr)} {pm ctv v : Value} {c' : Addr} : bindArgs (PySem.W.kla_fn "<lambda>" q ⟨[], [⟨x, none, p0⟩], none, [], [], none, []⟩ body scope cl pm (.ref c') ctv) ⟨[v], []⟩ = pure [(x, v)] := by
  unfold bindArgs
  have e : List.lookup x [(x, v)] = some v := by simp
  simp [e, seqItems?, pure_bind]
  rfl
theorem key_run {prog : Program} {w : World} {A : Around} {E : Value → Shared → Prop} {s : Shared} {f c' t : Addr} {q : Str} {params : Arguments} {body : Expr} {scope : Scope} {cl : List (Str × Addr)} {pm ctv : Value} {mg mb : Str → Option Value} {vals : Array Value} {ds : List PyData}
    (L : KeyLam params body scope) (hroom : A.depth < recursionLimit) (ho : s.heap.get? f = some (PySem.W.kla_obj "<lambda>" q params body scope cl pm c' ctv)) (hcd : s.heap.CodeRec (.ref c') q) (lim : s.heap.NoLimit)
    (hg : s.heap.Ns mainGlobals mg) (hm : mg "len" = none) (hb : s.heap.Ns builtinsNs mb) (hv : mb "len" = some (.builtin "len")) (ht : IsTup s.heap t vals) (hsz : vals.size ≤ sizeLine) (hr : ReadsAll s.heap vals.toList ds []) :
    wpAny (model prog w) A (call (.ref f) [.ref t]) (PySem.W.KeyPure (.tuple [.int (vals.size : Nat), .tuple ds]) s) E s := by
  obtain ⟨x, p0, p1, p2, p3, p4, p5, k, rfl, rfl, hx, hd⟩ := L.ex
  refine wpAny_call (codeAny_mono (R := fun r s' => match r with
    | .ok (.ret u) => PySem.W.KeyPure (.tuple [.int (vals.size : Nat), .tuple ds]) s u s'
    | _ => False) (PySem.W.kla_callFunE hroom ho rfl L.co L.gen rfl hcd ?_) fun r s' hq => ?_)
  · refine wpAny_of_eq bind1 ?_
    refine wpAny_newFunctionEnv (fun y hy => (L.names y hy).1) (fun y hy => ?_) (fun h₁ hns hsb => ⟨lim.fresh _ hsb, ?_⟩) L.kind
    · rw [List.mem_singleton.mp hy]
      exact hx
    have kp : ∀ b o, s.heap.get? b = some o → h₁.get? b = some o := fun b o e => hsb.extBut b o (Nat.ne_of_lt (Heap.lt_size e)) (Heap.get?_push_of_some _ e)
    generalize hce : newEnv scope s.heap.objs.size mainGlobals cl (q ++ ".<locals>.") (some f) (.ref c') none builtinsNs = cenv
    have hsc : cenv.scope = scope := by rw [← hce]; rfl
    have hlo : cenv.locals = s.heap.objs.size := by rw [← hce]; rfl
    have hgl : cenv.globals = mainGlobals := by rw [← hce]; rfl
    have hbl : cenv.builtins = builtinsNs := by rw [← hce]; rfl
    have hbound : (fun y : Str => ([(x, Value.ref t)] : List (Str × Value)).reverse.lookup y) x = some (.ref t) := by simp
    have name : ∀ {A' : Around} {E' : Value → Shared → Prop} {Q' : Value → Shared → Prop} {s2 : Shared} {p : Pos}, (∀ b o, h₁.get? b = some o → s2.heap.get? b = some o) → Q' (.ref t) s2 → wpAny (model prog w) A' (eval (.Name x p) cenv) Q' E' s2 := fun {A' E' Q' s2 p} hk hq => by
      refine wpAny_Name (wpAny_loadName_local (by rw [hsc]; exact L.kind) (show cenv.scope.names.lookup x = some .local by rw [hsc]; exact hx) (by rw [hlo]; exact hns.keeps hk) hbound hq) hd
    refine PySem.W.kla_codeExpr ?_
    refine Tuple_ ?_
    show wpAny _ _ (spliced ((false, eval (.Call (.Name "len" p1) [.Name x p2] [] p3) cenv) :: (false, eval (.Name x p4) cenv) :: [])) _ _ _
    have hlen : (vals.size : Int) < 2 ^ 63 := by have := line31; omega
    refine Calls.spliced_cons ?_
    refine wpAny_Call_Name_kw (Calls.Name_function_global (by rw [hsc]; exact L.kind) (show cenv.scope.names.lookup _ = _ by rw [hsc]; exact L.len) (Calls.loadGlobal_builtin (by rw [hgl]; exact hg.keeps kp) hm (by rw [hbl]; exact hb.keeps kp) hv ?_))
    refine PyProof.Rows.callWith_builtin1 ?_ rfl rfl
    show wpAny _ _ (spliced ((false, eval (.Name x p2) cenv) :: [])) _ _ _
    refine Calls.spliced_cons (name (fun _ _ e => e) (Calls.spliced_nil ?_))
    have ht1 : IsTup h₁ t vals := by
      obtain ⟨o, e, r⟩ := ht
      exact ⟨o, kp _ _ e, r⟩
    refine len_tuple (by exact ht1) hlen ?_
    refine Calls.spliced_cons (name (fun _ _ e => e) (Calls.spliced_nil ?_))
    refine wpAny_newTuple ?_ (by show 2 ≤ sizeLine; rw [sizeLine_eq]; decide)
    refine ⟨_, _, rfl, fun b o e => Heap.get?_push_of_some _ (kp b o e), ?_⟩
    obtain ⟨ot, eo, ec, n, ed⟩ := ht
    refine .tuple (Heap.get?_push_size _ rfl) rfl rfl (.cons (as := []) (bs := []) (.int _ _) (.cons (as := []) (bs := []) ?_ .nil))
    exact .tuple (Heap.get?_push_of_some _ (kp _ _ eo)) ec ed (ReadsAll.keeps (fun b o e => Heap.get?_push_of_some _ (kp b o e)) hr)
  · cases r with
    | error e => exact hq.elim
    | ok fl =>
      cases fl with
      | ret u => exact hq
      | _ => exact hq.elim
/-! the order -/
theorem int_is {d : D} (h : isInt d = true) : ∃ i, d = .int i := by
  cases d with
  | int i => exact ⟨i, rfl⟩
  | _ => cases h
theorem alikes_int : ∀ {l m : List D}, l.all isInt = true → m.all isInt = true → D.alikes l m = true
  | [], _, _, _ => by simp [D.alikes]
  | _ :: _, [], _, _ => by simp [D.alikes]
  | a :: r, b :: s, h, k => by
    rw [List.all_cons, Bool.and_eq_true] at h k
    obtain ⟨i, rfl⟩ := int_is h.1
    obtain ⟨j, rfl⟩ := int_is k.1
    simp only [D.alikes, D.alike, Bool.true_and]
    exact alikes_int h.2 k.2
theorem eqs_int_symm : ∀ {l m : List D}, l.all isInt = true → m.all isInt = true → D.eqs l m = D.eqs m l
  | [], [], _, _ => rfl
  | [], _ :: _, _, _ => by simp [D.eqs]
  | _ :: _, [], _, _ => by simp [D.eqs]
  | a :: r, b :: s, h, k => by
    rw [List.all_cons, Bool.and_eq_true] at h k
    obtain ⟨i, rfl⟩ := int_is h.1
    obtain ⟨j, rfl⟩ := int_is k.1
    simp only [D.eqs, D.eq, eqs_int_symm h.2 k.2]
    rw [Bool.beq_comm]
theorem lts_eqs : ∀ {l m : List D}, l.all isInt = true → m.all isInt = true → D.eqs l m = true → D.lts l m = false
  | [], [], _, _, _ => by simp [D.lts]
  | [], _ :: _, _, _, e => by simp [D.eqs] at e
  | _ :: _, [], _, _, e => by simp [D.eqs] at e
  | a :: r, b :: s, h, k, e => by
    rw [List.all_cons, Bool.and_eq_true] at h k
    simp only [D.eqs, Bool.and_eq_true] at e
    rw [D.lts, if_pos e.1]
    exact lts_eqs h.2 k.2 e.2
/-- the key as data -/
def keyD (d : D) : D := match d with
  | .tup l => .tup [.int (l.length : Nat), .tup l]
  | d => d
theorem keyD_alike {a b : D} (ha : ∃ l, a = .tup l ∧ l.all isInt = true) (hb : ∃ l, b = .tup l ∧ l.all isInt = true) : D.alike (keyD a) (keyD b) = true := by
  obtain ⟨l, rfl, h1⟩ := ha
  obtain ⟨m, rfl, h2⟩ := hb
  simp only [keyD, D.alike, D.alikes, alikes_int h1 h2, Bool.and_self]
theorem lts_two {i j : Int} {x y : D} : D.lts [.int i, x] [.int j, y] = if i = j then (if D.eq x y = true then false else D.lt x y) else decide (i < j) := by
  rw [D.lts]
  by_cases h : i = j
  · have e : D.eq (.int i) (.int j) = true := by simp [D.eq, h]
    rw [if_pos e, if_pos h, D.lts]
    by_cases k : D.eq x y = true
    · rw [if_pos k, if_pos k]; simp [D.lts]
    · rw [if_neg k, if_neg k]
  · have e : ¬ D.eq (.int i) (.int j) = true := by simp [D.eq, h]
    rw [if_neg e, if_neg h, D.lt]
theorem leLen_key {a b : D} (ha : ∃ l, a = .tup l ∧ l.all isInt = true) (hb : ∃ l, b = .tup l ∧ l.all isInt = true) : leD (keyD a) (keyD b) = leLen a b := by
  obtain ⟨l, rfl, h1⟩ := ha
  obtain ⟨m, rfl, h2⟩ := hb
  show (!D.lt (.tup [.int (m.length : Nat), .tup m]) (.tup [.int (l.length : Nat), .tup l])) = if l.length = m.length then !D.lt (.tup m) (.tup l) else decide (l.length < m.length)
  rw [D.lt, lts_two, D.lt]
  by_cases e : l.length = m.length
  · rw [if_pos (by omega), if_pos e]
    by_cases q : D.eqs m l = true
    · have q' : D.eq (.tup m) (.tup l) = true := by simp only [D.eq]; exact q
      rw [if_pos q', lts_eqs h2 h1 q]
    · have q' : ¬ D.eq (.tup m) (.tup l) = true := by simp only [D.eq]; exact q
      rw [if_neg q']
  · rw [if_neg (by omega), if_neg e]
    by_cases hlt : l.length < m.length
    · rw [decide_eq_true hlt, decide_eq_false (by omega)]
      rfl
    · rw [decide_eq_false hlt, decide_eq_true (by omega)]
      rfl
theorem isort_len {l : List D} (h : ∀ d ∈ l, ∃ m, d = .tup m ∧ m.all isInt = true) : l.mergeSort (PySem.W.dataLe false fun d => (keyD d).py) = isort leLen l := by
  rw [← isort_merge (total_py fun d => (keyD d).py)]
  refine isort_congr fun a ha b hb => ?_
  rw [← leLen_key (h a ha) (h b hb)]
  unfold leD
  rw [D.lt_py _ _ (keyD_alike (h b hb) (h a ha)), PySem.W.dataLe_eq]
  rfl
/-! the rule -/
section
variable {K : PySem.W.Frag} {Tb : List (Addr × Option Str)} {β α : List Addr} {st : St} {H H1 : Hp} {P : Addr} {q : Str}
theorem Ok.lamb (o : Ok K Tb β α st H) (hP : (P, some q) ∈ Tb) (hq : ∀ z, (P, z) ∈ Tb → z = some q) (hk : ∀ b u, b ≠ P → H b = some u → H1 b = some u) (t : TabS H1 P q) : Ok K Tb β α st H1 ∧ Stp α α H H1 := by
  obtain ⟨ps, h0, _⟩ : TabS H P q := o.tabs _ hP
  have hne : ∀ b u, H b = some u → (∀ q, u ≠ .tbl q) → H1 b = some u := fun b u e n => hk b u (fun z => by
    rw [z, h0] at e
    exact n _ (Option.some.inj e).symm) e
  have le : LeG (Mk (β ++ α) H) (Mk (β ++ α) H1) := fun b u e n => by
    obtain ⟨hb, e⟩ := mk_some e
    rw [mk_out hb]
    exact hne b u e n
  refine ⟨⟨o.nd, o.ap, fun b hb => ?_, o.len, fun k a l e1 e2 => ?_, fun k a u ks vs e1 e2 => ?_, fun p hp => ?_⟩, ⟨List.prefix_rfl, fun _ h => .inl h, fun b u _ e n => hne b u e n, fun b qs _ e => ?_⟩⟩
  · obtain ⟨xs, e⟩ := o.bl b hb
    exact ⟨xs, hne b _ e fun q z => by cases z⟩
  · obtain ⟨xs, h1, h2⟩ := o.cells k a l e1 e2
    exact ⟨xs, hne a _ h1 (fun q z => by cases z), Reps.mono List.prefix_rfl le l xs h2⟩
  · obtain ⟨xs, h1, h2⟩ := o.dcells k a u ks vs e1 e2
    exact ⟨xs, h1.le fun b o e n => hne b o e n, Reps.mono List.prefix_rfl le vs xs h2⟩
  · have hp' := o.tabs p hp
    obtain ⟨pa, pq⟩ := p
    by_cases h1 : pa = P
    · subst h1
      rw [hq pq hp]
      exact t
    · cases pq with
      | none =>
        obtain ⟨qs, e1, e2⟩ : GxR.TabG H pa := hp'
        exact ⟨qs, hk _ _ h1 e1, e2⟩
      | some q' =>
        obtain ⟨qs, e1, e2, e3⟩ : LamX.TabS H pa q' := hp'
        refine ⟨qs, hk _ _ h1 e1, e2, fun pos cv hc => ?_⟩
        obtain ⟨c, k1, k2⟩ := e3 pos cv hc
        exact ⟨c, k1, hne c _ k2 fun q z => by unfold LamX.CodeO at z; cases z⟩
  · by_cases h1 : b = P
    · obtain ⟨ps', e', _⟩ := t
      exact ⟨ps', by rw [h1]; exact e'⟩
    · exact ⟨qs, hk _ _ h1 e⟩
theorem reads_ints {h : Heap} {G : Hp} : ∀ {m : List D} {ys : List V} {us : List Value}, m.all isInt = true → Reps K α G m ys → Vals ys us → ReadsAll h us (D.pys m) []
  | [], _, _, _, r, v => by
    cases r
    cases v
    rw [D.pys]
    exact .nil
  | d :: m, _, _, hi, ⟨y, ys, e, h1, h2⟩, v => by
    subst e
    rw [List.all_cons, Bool.and_eq_true] at hi
    obtain ⟨i, rfl⟩ := int_is hi.1
    cases v with
    | cons r rr =>
      obtain rfl : y = .int i := h1
      obtain ⟨t, rfl⟩ := r
      rw [D.pys, D.py]
      exact .cons (as := []) (bs := []) (.int i t) (reads_ints hi.2 h2 rr)
theorem shps_int : ∀ {m : List D}, m.all isInt = true → D.shps 0 m = true
  | [], _ => by simp [D.shps]
  | d :: m, h => by
    rw [List.all_cons, Bool.and_eq_true] at h
    obtain ⟨i, rfl⟩ := int_is h.1
    simp [D.shps, D.shp, shps_int h.2]
end
section
variable {X : Cx} {Tb : List (Addr × Option Str)} {C : CallF} {a : E} {e : Expr} {pos p : Pos}
theorem sortLenOk_is {l : List D} (h : sortLenOk l = true) : ∀ d ∈ l, ∃ m, d = .tup m ∧ m.all isInt = true := fun d hd => by
  have := List.all_eq_true.mp h d hd
  cases d with
  | tup m => exact ⟨m, rfl, this⟩
  | _ => cases this
theorem snd_sortLen {c P : Addr} {params : Arguments} {body : Expr} {lsc : Scope} {lpos kpos : Pos} (hu : X.A.units + 65 < cLine) (hdp : X.A.depth < recursionLimit) (TB : LamX.TabB X.base X.mg c P) (hcode : X.env.code = .ref c)
    (hP : (P, some (X.env.qual ++ "<lambda>")) ∈ Tb) (hq : ∀ z, (P, z) ∈ Tb → z = some (X.env.qual ++ "<lambda>")) (hn : PrimAt X "sorted" (.builtin "sorted")) (hlen : X.mg "len" = none) (L : KeyLam params body lsc) (hs : isStar e = false) (ha : PE X e (tOf X.K Tb (ev C a))) :
    PE X (.Call (.Name "sorted" p) [e] [⟨some "key", .Lambda params body lsc lpos, kpos⟩] pos) (tOf X.K Tb (ev C (.sortLen a))) := by
  refine ⟨fun pins s σ H Q I h => ?_⟩
  have h1 := one (F := sortLenD) h
  have hst : starEach [e] X.env = (false, eval e X.env) :: starEach [] X.env := star_cons (isStar_ne hs)
  refine wpAny_Call_Name_kw (hn.ld I ?_)
  refine PyProof.Rows.callWith_kw (thn ((pa_cons ha pa_nil hst).run pos pins s σ H (fun vs H1 => ∃ x, vs = [x] ∧ ∃ β α st a, Ok X.K Tb β α st H1 ∧ Rep X.K α (Mk (β ++ α) H1) a x ∧ Sat X.K Tb β α (sortLenD a st) H1 Q) I (h1.imp fun v H1 q => ⟨v, rfl, q⟩)) fun us s1 ⟨vs, H1, I1, r1, x, ex, β, α, st, d, o1, rd, hsat⟩ => ?_)
    (by rw [hst]; rfl) (by rw [hst]; rfl) (by rfl) (by rfl)
  subst ex
  show wpAny _ _ (evalAll ((do let v ← eval (.Lambda params body lsc lpos) X.env; standAt pos; pure v) :: [])) _ _ s1
  have hdef : defaultsOf params X.env = ([], []) := by
    obtain ⟨x, p0, p1, p2, p3, p4, p5, k, rfl, rfl, hx, hd⟩ := L.ex
    rfl
  refine wpAny_evalAll_cons (wpAny_bind (lam_make1 I1 TB hcode (o1.tabs _ hP) hdef (fun y hy z => absurd z (L.names y hy).2) fun f c' pm ctv H2 s2 I2 hk hT2 hf hfn hco => wpAny_bind (wpAny_standAt (wpAny_pure (wpAny_evalAll_nil ?_)))))
  show wpAny _ _ (call (.builtin "sorted") us [("key", .ref f)]) _ _ s2
  obtain ⟨o2, st2⟩ := o1.lamb hP hq hk hT2
  have rd2 := st2.rep (β := β) rd
  have hsat2 := hsat.step st2
  obtain ⟨d', vw, hsat3⟩ := sat_deref o2 rd2 hsat2
  clear hsat hsat2
  cases d' <;> (try exact hsat3.elim)
  rename_i l
  simp only at hsat3
  split at hsat3
  · rename_i hok
    obtain ⟨ad, xs, rfl, e1, e2⟩ := vw
    obtain ⟨u, rfl, ru⟩ := vals1 r1
    cases ru
    obtain ⟨its, rv, pl, hz⟩ := I2.list (SqL.of e1)
    have hsh := sortLenOk_is hok
    have hz' : l.length ≤ sizeLine := by rw [← e2.length]; exact hz
    have kk : ∀ d ∈ l, ∃ m : List D, d = .tup m ∧ m.all isInt = true ∧ (keyD d).py = .tuple [.int (m.length : Nat), .tuple (D.pys m)] := fun d hd => by
      obtain ⟨m, rfl, hm⟩ := hsh d hd
      exact ⟨m, rfl, hm, by simp only [keyD, D.py, D.pys]⟩
    refine PySem.W.sorted_key_data (β := D) (b := false) (bs := l) (vs := its) (R := fun u d => ∃ x, RelV x u ∧ Rep X.K α (Mk (β ++ α) H2) d x) (fun d => (keyD d).py) pl.isList (vals_each rv e2) ?_ (.inl fun k hk => ?_) hz' (fun d hd => ?_) (ksk_s1 _ _) (fun _ => ksk_l1 _ _) (fun _ => ksk_t1 _ _) (fun v d hR hd h tk kp => ?_) (fun out cc h' tk kp _ hget hl ho => ?_)
    · intro k hk k' hk'
      obtain ⟨d, hd, rfl⟩ := List.mem_map.mp hk
      obtain ⟨d', hd', rfl⟩ := List.mem_map.mp hk'
      exact D.alike_py _ _ (keyD_alike (hsh d hd) (hsh d' hd'))
    · obtain ⟨d, hd, rfl⟩ := List.mem_map.mp hk
      obtain ⟨m, _, _, em⟩ := kk d hd
      exact ⟨_, _, em⟩
    · obtain ⟨m, rfl, hm⟩ := hsh d hd
      have hs2 : D.shp 2 (keyD (.tup m)) = true := by simp [keyD, D.shp, D.shps, shps_int hm]
      have := (D.shp_lay 2 _ hs2).2
      omega
    · obtain ⟨xd, rxd, rdd⟩ := hR
      obtain ⟨m, rfl, hm, em⟩ := kk d hd
      obtain ⟨t, ys, rfl, ht, hy⟩ := rdd
      cases rxd
      obtain ⟨its2, rv2, p2, hz2⟩ := I2.tuple (LeG.mk.sqT (.inl (.inl ht)))
      have htup : IsTup s2.heap t its2.toArray := p2
      rw [em]
      obtain ⟨⟨oc, cvs, tok, hoc, hdc, hvc⟩, _, _⟩ := I2.hok c' _ hco
      obtain ⟨mb, hb1, hb2⟩ := I2.mod.blt
      have hl2 := rv2.length
      have key := key_run (prog := X.prog) (w := X.w) (A := X.A.in1.in1) (E := fun _ _ => False) (s := { s2 with heap := h, toks := tk }) (vals := its2.toArray) (ds := D.pys m) L hdp (kp _ _ hf) ⟨c', oc, cvs, tok, rfl, kp _ _ hoc, hdc, hvc⟩ (I2.nolimit.keeps kp) ((I2.mod.glob.keeps I2.bk).keeps kp) hlen ((hb1.keeps I2.bk).keeps kp)
        ((hb2 "len" (by decide)).trans PySem.boot_len) (by obtain ⟨o, e, r⟩ := htup; exact ⟨o, kp _ _ e, r⟩) (by rw [List.size_toArray, ← hl2]; exact hz2) (by exact reads_ints hm hy rv2)
      have e3 : its2.toArray.size = m.length := by rw [List.size_toArray, ← hl2, hy.length]
      rw [e3] at key
      exact key
    · rw [isort_len hsh] at ho
      obtain ⟨zs, q1, q2⟩ := each_vals ho
      have hl2 : zs.length ≤ sizeLine := by rw [q2.length, length_isort]; exact hz'
      have hfr : H2 (s2.heap.objs.size + 1) = none := I2.hok.fresh (Nat.le_succ _)
      exact ⟨.ref _, upd H2 (s2.heap.objs.size + 1) (.lst zs), I2.laid (t' := tk) kp (Nat.le_succ _) ⟨hl2, out, cc, q1, hget⟩, rfl, hsat3.newLst o2 hfr q2⟩
  · exact hsat3.elim
end
end Mp
end
section
set_option Elab.async false
set_option linter.all false
set_option maxRecDepth 100000
set_option maxHeartbeats 1000000
/-! Statements. -/
namespace Mp
open PySem PySem.Spec L2 PyProof.Rows
section
variable {K : PySem.W.Frag} {Tb : List (Addr × Option Str)} {β α α1 : List Addr} {st st1 : St} {H H1 : Hp} {σ : L2.St}
/-- a new list that may change -/
theorem Ok.cell {l : List D} {xs : List V} {p : Addr} (o : Ok K Tb β α st H) (hp : H p = none) (r : Reps K α (Mk (β ++ α) H) l xs) :
    Ok K Tb β (α ++ [p]) (st ++ [.lst l]) (upd H p (.lst xs)) ∧ Stp α (α ++ [p]) H (upd H p (.lst xs)) := by
  have hpa : p ∉ α := fun z => by obtain ⟨_, e, _⟩ := o.tracked z; rw [hp] at e; cases e
  have hpb : p ∉ β := fun z => by obtain ⟨_, e⟩ := o.bl p z; rw [hp] at e; cases e
  have s : Stp α (α ++ [p]) H (upd H p (.lst xs)) := by
    refine ⟨List.prefix_append _ _, fun a ha => ?_, (Stp.laid hp).keep, (Stp.laid hp).tbl⟩
    rcases List.mem_append.mp ha with z | z
    · exact .inl z
    · rw [List.mem_singleton.mp z]; exact .inr hp
  refine ⟨⟨List.nodup_append.mpr ⟨o.nd, List.pairwise_singleton _ _, fun a ha b hb => by rw [List.mem_singleton.mp hb]; exact fun z => hpa (z ▸ ha)⟩, fun a ha => ?_, fun b hb => ?_, by rw [List.length_append, List.length_append, o.len]; rfl, fun k a m e1 e2 => ?_, fun k a t ks vs e1 e2 => ?_, fun q hq => tabOk_ext (o.tabs q hq) fun b u e => by rw [upd_ne (ne_of_none e hp)]; exact e⟩, s⟩
  · rcases List.mem_append.mp ha with z | z
    · exact o.ap a z
    · rw [List.mem_singleton.mp z]; exact hpb
  · obtain ⟨ys, e⟩ := o.bl b hb
    exact ⟨ys, by rw [upd_ne (ne_of_none e hp)]; exact e⟩
  · by_cases hk : k < α.length
    · rw [List.getElem?_append_left hk] at e1
      rw [List.getElem?_append_left (by rw [← o.len]; exact hk)] at e2
      obtain ⟨ys, h1, h2⟩ := o.cells k a m e1 e2
      exact ⟨ys, by rw [upd_ne (ne_of_none h1 hp)]; exact h1, s.reps h2⟩
    · have hk2 : k = α.length := by
        have := (List.getElem?_eq_some_iff.mp e1).1
        rw [List.length_append, List.length_singleton] at this
        omega
      subst hk2
      rw [List.getElem?_append_right (Nat.le_refl _), Nat.sub_self] at e1
      rw [o.len, List.getElem?_append_right (Nat.le_refl _), Nat.sub_self] at e2
      cases e1
      cases e2
      exact ⟨xs, upd_same, s.reps r⟩
  · have hk : k < α.length := by
      have := (List.getElem?_eq_some_iff.mp e1).1
      rw [List.length_append, List.length_singleton] at this
      rcases Nat.lt_or_ge k α.length with z | z
      · exact z
      · have hk2 : k = α.length := by omega
        subst hk2
        rw [o.len, List.getElem?_append_right (Nat.le_refl _), Nat.sub_self] at e2
        cases e2
    rw [List.getElem?_append_left hk] at e1
    rw [List.getElem?_append_left (by rw [← o.len]; exact hk)] at e2
    obtain ⟨ys, h1, h2⟩ := o.dcells k a t ks vs e1 e2
    exact ⟨ys, h1.le fun b u e _ => by rw [upd_ne (ne_of_none e hp)]; exact e, s.reps h2⟩
/-- a new dict that may change -/
theorem Ok.cellD {t : Nat} {ob : HO} {p : Addr} (o : Ok K Tb β α st H) (hp : H p = none) (hd : DHo (upd H p ob) p t [] []) :
    Ok K Tb β (α ++ [p]) (st ++ [.dct t [] []]) (upd H p ob) ∧ Stp α (α ++ [p]) H (upd H p ob) := by
  have hpa : p ∉ α := fun z => by obtain ⟨_, e, _⟩ := o.tracked z; rw [hp] at e; cases e
  have hpb : p ∉ β := fun z => by obtain ⟨_, e⟩ := o.bl p z; rw [hp] at e; cases e
  have s : Stp α (α ++ [p]) H (upd H p ob) := by
    refine ⟨List.prefix_append _ _, fun a ha => ?_, (Stp.laid hp).keep, (Stp.laid hp).tbl⟩
    rcases List.mem_append.mp ha with z | z
    · exact .inl z
    · rw [List.mem_singleton.mp z]; exact .inr hp
  have old : ∀ {k : Nat} {a : Addr}, (α ++ [p])[k]? = some a → k < α.length ∨ k = α.length := fun {k a} e1 => by
    have := (List.getElem?_eq_some_iff.mp e1).1
    rw [List.length_append, List.length_singleton] at this
    omega
  refine ⟨⟨List.nodup_append.mpr ⟨o.nd, List.pairwise_singleton _ _, fun a ha b hb => by rw [List.mem_singleton.mp hb]; exact fun z => hpa (z ▸ ha)⟩, fun a ha => ?_, fun b hb => ?_, by rw [List.length_append, List.length_append, o.len]; rfl, fun k a m e1 e2 => ?_, fun k a u ks vs e1 e2 => ?_, fun q hq => tabOk_ext (o.tabs q hq) fun b u e => by rw [upd_ne (ne_of_none e hp)]; exact e⟩, s⟩
  · rcases List.mem_append.mp ha with z | z
    · exact o.ap a z
    · rw [List.mem_singleton.mp z]; exact hpb
  · obtain ⟨ys, e⟩ := o.bl b hb
    exact ⟨ys, by rw [upd_ne (ne_of_none e hp)]; exact e⟩
  · rcases old e1 with hk | hk
    · rw [List.getElem?_append_left hk] at e1
      rw [List.getElem?_append_left (by rw [← o.len]; exact hk)] at e2
      obtain ⟨ys, h1, h2⟩ := o.cells k a m e1 e2
      exact ⟨ys, by rw [upd_ne (ne_of_none h1 hp)]; exact h1, s.reps h2⟩
    · subst hk
      rw [o.len, List.getElem?_append_right (Nat.le_refl _), Nat.sub_self] at e2
      cases e2
  · rcases old e1 with hk | hk
    · rw [List.getElem?_append_left hk] at e1
      rw [List.getElem?_append_left (by rw [← o.len]; exact hk)] at e2
      obtain ⟨ys, h1, h2⟩ := o.dcells k a u ks vs e1 e2
      exact ⟨ys, h1.le fun b u e _ => by rw [upd_ne (ne_of_none e hp)]; exact e, s.reps h2⟩
    · subst hk
      rw [List.getElem?_append_right (Nat.le_refl _), Nat.sub_self] at e1
      rw [o.len, List.getElem?_append_right (Nat.le_refl _), Nat.sub_self] at e2
      cases e1
      cases e2
      exact ⟨[], hd, rfl⟩
end
section
variable {X : Cx} {Tb : List (Addr × Option Str)} {C : CallF} {a b c : E} {e l r : Expr} {pos : Pos}
theorem snd_newC {es : List Expr} (h : PA X es (tOfL X.K Tb fun env => bnd (ev C a env) listOf)) : PE X (.List es pos) (tOf X.K Tb (ev C (.newC a))) := by
  refine PE.by fun σ H Q h2 => ⟨_, pe_lst h, ?_⟩
  obtain ⟨β, α, st, env, o, e, h2⟩ := h2
  show tOfL X.K Tb _ σ H _
  refine tOfL_bnd (m := fun env => bnd (ev C a env) listOf) (S := fun α r H => Sat X.K Tb β α r H Q) o e h2 (fun _ _ z => z) (fun _ _ _ s h => h.step s) fun l st1 xs α1 H1 _ s o1 e1 r h1 => ?_
  unfold newCell at h1
  split at h1
  · rename_i hl
    refine ⟨by rw [r.length]; exact lenOk_le hl, fun p hp => ?_⟩
    obtain ⟨o2, s2⟩ := o1.cell hp r
    refine h1 (.ref p) _ _ s2 o2 ⟨p, rfl, ?_⟩
    rw [← o1.len, List.getElem?_append_right (Nat.le_refl _), Nat.sub_self]
    rfl
  · exact h1.elim
end
section
variable {X : Cx} {Tb : List (Addr × Option Str)} {C : CallF} {pos : Pos}
/-- {} -/
theorem snd_newD : PE X (.Dict [] [] pos) (tOf X.K Tb (ev C (.newD 0))) := by
  refine PE.by fun σ H Q h => ⟨_, pe_dnewK, ?_⟩
  obtain ⟨β, α, st, env, o, e, h⟩ := h
  intro p hp
  have hd : DHo (upd H p (.dK [])) p 0 [] [] := ⟨[], upd_same, rfl, rfl⟩
  obtain ⟨o2, s2⟩ := o.cellD hp hd
  have h : Sat X.K Tb β α (newDict 0 st) H Q := h
  refine h (.ref p) _ _ s2 o2 ⟨p, rfl, ?_⟩
  rw [← o.len, List.getElem?_append_right (Nat.le_refl _), Nat.sub_self]
  rfl
end
/-! ### readings of statements -/
def SatO (K : PySem.W.Frag) (Tb : List (Addr × Option Str)) (β α : List Addr) (o : Out) (n : Nat) (H : Hp) (Dn : Ends) : Prop := match o with
  | .next env' st' => ∀ σ' α' H', Stp α α' H H' → Ok K Tb β α' st' H' → EnvOk K α' (Mk (β ++ α') H') env' σ' → Dn.nx σ' H'
  | .ret d st' => ∀ v α' H', Stp α α' H H' → Ok K Tb β α' st' H' → Rep K α' (Mk (β ++ α') H') d v → Dn.rt v H'
  | .bad => False
def tEx (K : PySem.W.Frag) (Tb : List (Addr × Option Str)) (m : Env → St → Out) : TS := fun Dn σ H => ∃ β α st env, Ok K Tb β α st H ∧ EnvOk K α (Mk (β ++ α) H) env σ ∧ SatO K Tb β α (m env st) σ.length H Dn
section
variable {K : PySem.W.Frag} {Tb : List (Addr × Option Str)} {β α α1 : List Addr} {st st1 : St} {H H1 : Hp} {σ : L2.St} {n : Nat}
theorem SatO.step {o : Out} {Dn : Ends} (h : SatO K Tb β α o n H Dn) (s : Stp α α1 H H1) : SatO K Tb β α1 o n H1 Dn := by
  cases o with
  | next env st' => exact fun σ' α' H' s' o e => h σ' α' H' (s.trans s') o e
  | ret d st' => exact fun v α' H' s' o r => h v α' H' (s.trans s') o r
  | bad => exact h
theorem SatO.here {env : Env} {Dn : Ends} (h : SatO K Tb β α (.next env st) n H Dn) (o : Ok K Tb β α st H) (e : EnvOk K α (Mk (β ++ α) H) env σ) : Dn.nx σ H := h σ α H (Stp.refl α H) o e
theorem satO_run {γ : Type} {m : M γ} {f : γ → St → Out} {Dn : Ends} (h : SatO K Tb β α (run' m st f) n H Dn) : ∃ a st', m st = .ok a st' ∧ SatO K Tb β α (f a st') n H Dn := by
  unfold run' at h
  split at h
  · exact ⟨_, _, by assumption, h⟩
  · exact h.elim
theorem tEx_mk {m : Env → St → Out} {Dn : Ends} {env : Env} (o : Ok K Tb β α st H) (e : EnvOk K α (Mk (β ++ α) H) env σ) (h : SatO K Tb β α (m env st) n H Dn) : tEx K Tb m Dn σ H := by
  refine ⟨β, α, st, env, o, e, ?_⟩
  cases q : m env st with
  | next env' st' => rw [q] at h; exact h
  | ret d st' => rw [q] at h; exact h
  | bad => rw [q] at h; exact h
/-- an expression, then what follows -/
theorem run_E {m : Env → M D} {f : Env → D → St → Out} {Dn : Ends} (h : tEx K Tb (fun env st => run' (m env) st (f env)) Dn σ H) :
    tOf K Tb m σ H fun x H1 => ∃ β α st env d, Ok K Tb β α st H1 ∧ EnvOk K α (Mk (β ++ α) H1) env σ ∧ Rep K α (Mk (β ++ α) H1) d x ∧ SatO K Tb β α (f env d st) σ.length H1 Dn := by
  obtain ⟨β, α, st, env, o, e, h⟩ := h
  refine tOf_mk o e ?_
  obtain ⟨d, st', q, h1⟩ := satO_run h
  rw [q]
  exact fun v α1 H1 s o1 r => ⟨β, α1, st', env, d, o1, e.mono s.pre (s.le β), r, h1.step s⟩
theorem run_L {m : Env → M (List D)} {f : Env → List D → St → Out} {Dn : Ends} (h : tEx K Tb (fun env st => run' (m env) st (f env)) Dn σ H) :
    tOfL K Tb m σ H fun xs H1 => ∃ β α st env l, Ok K Tb β α st H1 ∧ EnvOk K α (Mk (β ++ α) H1) env σ ∧ Reps K α (Mk (β ++ α) H1) l xs ∧ SatO K Tb β α (f env l st) σ.length H1 Dn := by
  obtain ⟨β, α, st, env, o, e, h⟩ := h
  refine ⟨β, α, st, env, o, e, ?_⟩
  obtain ⟨l, st', q, h1⟩ := satO_run h
  rw [q]
  exact fun v α1 H1 s o1 r => ⟨β, α1, st', env, l, o1, e.mono s.pre (s.le β), r, h1.step s⟩
theorem run_B {m : Env → M Bool} {f : Env → Bool → St → Out} {Dn : Ends} (h : tEx K Tb (fun env st => run' (m env) st (f env)) Dn σ H) :
    tOfB K Tb m σ H fun b H1 => ∃ β α st env, Ok K Tb β α st H1 ∧ EnvOk K α (Mk (β ++ α) H1) env σ ∧ SatO K Tb β α (f env b st) σ.length H1 Dn := by
  obtain ⟨β, α, st, env, o, e, h⟩ := h
  refine tOfB_mk o e ?_
  obtain ⟨b, st', q, h1⟩ := satO_run h
  rw [q]
  exact fun α1 H1 s o1 => ⟨β, α1, st', env, o1, e.mono s.pre (s.le β), h1.step s⟩
end
/-! ### the statements -/
section
variable {X : Cx} {Tb : List (Addr × Option Str)} {C : CallF} {a b c : S} {e : Expr} {x : E} {stm : Stmt} {rest : List Stmt} {pos : Pos}
theorem PSs.by {X : Cx} {e : List Stmt} {t : TS} (h : ∀ D σ H, t D σ H → ∃ u, PSs X e u ∧ u D σ H) : PSs X e t := ⟨fun pins s σ H D I w => by
  obtain ⟨u, p, q⟩ := h D σ H w
  exact p.run pins s σ H D I q⟩
theorem snd_skip {stm : Stmt} (h : PS X stm tNext) : PS X stm (tEx X.K Tb (exec C .skip)) := by
  refine PS.by fun Dn σ H hw => ⟨_, h, ?_⟩
  obtain ⟨β, α, st, env, o, e, hw⟩ := hw
  exact SatO.here hw o e
theorem snd_snil : PSs X [] (tEx X.K Tb (exec C .skip)) := by
  refine PSs.by fun Dn σ H hw => ⟨_, pss_nil, ?_⟩
  obtain ⟨β, α, st, env, o, e, hw⟩ := hw
  exact SatO.here hw o e
theorem snd_scons (h1 : PS X stm (tEx X.K Tb (exec C a))) (h2 : PSs X rest (tEx X.K Tb (exec C b))) : PSs X (stm :: rest) (tEx X.K Tb (exec C (.seq a b))) := by
  refine PSs.by fun Dn σ H hw => ⟨_, pss_cons h1 h2, ?_⟩
  obtain ⟨β, α, st, env, o, e, hw⟩ := hw
  refine tEx_mk (n := σ.length) o e ?_
  simp only [exec] at hw
  cases q : exec C a env st with
  | next env2 st2 =>
    rw [q] at hw
    intro σ' α' H' s o' e'
    exact tEx_mk (n := σ.length) o' e' (SatO.step hw s)
  | ret d st2 =>
    rw [q] at hw
    exact hw
  | bad =>
    rw [q] at hw
    exact hw
theorem snd_sone (h1 : PS X stm (tEx X.K Tb (exec C a))) : PSs X [stm] (tEx X.K Tb (exec C a)) :=
  PSs.by fun Dn σ H hw => ⟨_, pss_one h1, hw⟩
theorem snd_asg {p : Pat} {tg : Expr} (hc : X.calm = true) (hN : X.N.Nodup) (hp : PatOk X tg p) (he : PE X e (tOf X.K Tb (ev C x))) (hs : swapsWithSole [tg] e pos.line X.env = pure false) (hw : swappedStores [tg] e X.env = pure none) (h1 : (assignEach [tg] X.env).map (·.2) = [assign tg X.env]) :
    PS X (.Assign [tg] e pos) (tEx X.K Tb (exec C (.asg p x))) := by
  refine PS.by fun Dn σ H h => ⟨_, ps_asg he (snd_pat (Tb := Tb) hc hN hp) hs hw h1, ?_⟩
  simp only [exec] at h
  refine tOf.imp (run_E (m := ev C x) (f := fun env d st => match p.bind d env with | some env' => .next env' st | none => .bad) h) fun v H1 ⟨β, α, st, env, d, o, en, r, hO⟩ => ?_
  split at hO
  · rename_i env' q
    exact ⟨β, α, st, env, d, env', o, en, r, q, fun σ' _ e' => hO.here o e'⟩
  · exact hO.elim
/-- the same by a comprehension on the name's own line -/
theorem snd_asgLc {i : Nat} {y : Str} {py : Pos} {e : Expr} {te : TE} (hps : PS X (.Assign [.Name y py] e pos) (tAsg te (gName i))) (hte : ∀ σ H Q, tOf X.K Tb (ev C x) σ H Q → te σ H Q) : PS X (.Assign [.Name y py] e pos) (tEx X.K Tb (exec C (.asg (.one i) x))) := by
  refine PS.by fun Dn σ H h => ⟨_, hps, ?_⟩
  simp only [exec] at h
  refine hte _ _ _ (tOf.imp (run_E (m := ev C x) (f := fun env d st => match (Pat.one i).bind d env with | some env' => .next env' st | none => .bad) h) fun v H1 ⟨β, α, st, env, d, o, en, r, hO⟩ => ?_)
  exact hO.here o (en.set i r)
theorem snd_par2 {i j : Nat} {y z : Str} {ea eb : Expr} {py pz pt : Pos} {kt k2 : Nat} {pt2 : Pos} (hc : X.calm = true) (hN : X.N.Nodup) (hi : X.N[i]? = some y) (hj : X.N[j]? = some z) (hij : i ≠ j)
    (hy : X.env.scope.names.lookup y = some .local) (hz : X.env.scope.names.lookup z = some .local) (ha : PA X [ea, eb] (tOfL X.K Tb fun env => bnd (ev C x env) listOf))
    (hw : swappedStores [.Tuple [.Name y py, .Name z pz] kt pt] (.Tuple [ea, eb] k2 pt2) X.env = pure (some [y, z])) (hs : swapsWithSole [.Tuple [.Name y py, .Name z pz] kt pt] (.Tuple [ea, eb] k2 pt2) pos.line X.env = pure false) :
    PS X (.Assign [.Tuple [.Name y py, .Name z pz] kt pt] (.Tuple [ea, eb] k2 pt2) pos) (tEx X.K Tb (exec C (.par [i, j] x))) := by
  refine PS.by fun Dn σ H h => ⟨_, ps_par hc hN hi hj hij hy hz ha hw hs, ?_⟩
  simp only [exec] at h
  refine tOfL.imp (run_L (m := fun env => bnd (ev C x env) listOf) (f := fun env l st => match setAll [i, j] l env with | some env' => .next env' st | none => .bad) h) fun vs H1 ⟨β, α, st, env, l, o, en, r, hO⟩ => ?_
  split at hO
  · rename_i env' q
    obtain ⟨k1, k2⟩ := setAll_env q r en
    match vs, k2, k1 with
    | [v, w], _, k1 => exact ⟨v, w, rfl, hO.here o k1⟩
  · exact hO.elim
theorem snd_par3 {i j k : Nat} {y z u : Str} {ea eb ec : Expr} {py pz pu pt : Pos} {kt k2 : Nat} {pt2 : Pos} (hc : X.calm = true) (hN : X.N.Nodup) (hi : X.N[i]? = some y) (hj : X.N[j]? = some z) (hk : X.N[k]? = some u) (hij : i ≠ j) (hik : i ≠ k) (hjk : j ≠ k)
    (hy : X.env.scope.names.lookup y = some .local) (hz : X.env.scope.names.lookup z = some .local) (hu : X.env.scope.names.lookup u = some .local) (ha : PA X [ea, eb, ec] (tOfL X.K Tb fun env => bnd (ev C x env) listOf))
    (hw : swappedStores [.Tuple [.Name y py, .Name z pz, .Name u pu] kt pt] (.Tuple [ea, eb, ec] k2 pt2) X.env = pure (some [y, z, u])) (hs : swapsWithSole [.Tuple [.Name y py, .Name z pz, .Name u pu] kt pt] (.Tuple [ea, eb, ec] k2 pt2) pos.line X.env = pure false) :
    PS X (.Assign [.Tuple [.Name y py, .Name z pz, .Name u pu] kt pt] (.Tuple [ea, eb, ec] k2 pt2) pos) (tEx X.K Tb (exec C (.par [i, j, k] x))) := by
  refine PS.by fun Dn σ H h => ⟨_, ps_par3 hc hN hi hj hk hij hik hjk hy hz hu ha hw hs, ?_⟩
  simp only [exec] at h
  refine tOfL.imp (run_L (m := fun env => bnd (ev C x env) listOf) (f := fun env l st => match setAll [i, j, k] l env with | some env' => .next env' st | none => .bad) h) fun vs H1 ⟨β, α, st, env, l, o, en, r, hO⟩ => ?_
  split at hO
  · rename_i env' q
    obtain ⟨k1, k2⟩ := setAll_env q r en
    match vs, k2, k1 with
    | [v, w, w2], _, k1 => exact ⟨v, w, w2, rfl, hO.here o k1⟩
  · exact hO.elim
theorem snd_drop (he : PE X e (tOf X.K Tb (ev C x))) (hs : swapsWith e none pos.line X.env = pure false) : PS X (.Expr e pos) (tEx X.K Tb (exec C (.drop x))) := by
  refine PS.by fun Dn σ H h => ⟨_, ps_expr he hs, ?_⟩
  simp only [exec] at h
  exact tOf.imp (run_E (m := ev C x) (f := fun env d st => .next env st) h) fun v H1 ⟨β, α, st, env, d, o, en, r, hO⟩ => hO.here o en
theorem snd_ret (he : PE X e (tOf X.K Tb (ev C x))) : PS X (.Return (some e) pos) (tEx X.K Tb (exec C (.ret x))) := by
  refine PS.by fun Dn σ H h => ⟨_, ps_ret he, ?_⟩
  simp only [exec] at h
  exact tOf.imp (run_E (m := ev C x) (f := fun env d st => .ret d st) h) fun v H1 ⟨β, α, st, env, d, o, en, r, hO⟩ => hO v α H1 (Stp.refl _ _) o r
theorem snd_retN : PS X (.Return none pos) (tEx X.K Tb (exec C (.ret (.con .non)))) := by
  refine PS.by fun Dn σ H h => ⟨_, ps_retN, ?_⟩
  obtain ⟨β, α, st, env, o, en, h⟩ := h
  exact h .non α H (Stp.refl _ _) o rfl
theorem snd_never {stm : Stmt} : PS X stm (tEx X.K Tb (exec C .never)) := by
  refine PS.by fun Dn σ H h => ⟨_, ps_never, ?_⟩
  obtain ⟨β, α, st, env, o, en, h⟩ := h
  exact h
theorem snd_if {p q : List Stmt} (hx : PT X e (tOfB X.K Tb fun env => bnd (ev C x env) truth)) (ha : PSs X p (tEx X.K Tb (exec C a))) (hb : PSs X q (tEx X.K Tb (exec C b))) : PS X (.If e p q pos) (tEx X.K Tb (exec C (.ite x a b))) := by
  refine PS.by fun Dn σ H h => ⟨_, ps_if hx ha hb, ?_⟩
  simp only [exec] at h
  refine tOfB.imp (run_B (m := fun env => bnd (ev C x env) truth) (f := fun env k st => match k with | true => exec C a env st | false => exec C b env st) h) fun k H1 ⟨β, α, st, env, o, en, hO⟩ => ?_
  cases k with
  | true => exact tEx_mk o en hO
  | false => exact tEx_mk o en hO
end
end Mp
end
section
set_option Elab.async false
set_option linter.all false
set_option maxRecDepth 100000
set_option maxHeartbeats 1000000
/-! Stores into lists; loops; defs. -/
namespace Mp
open PySem PySem.Spec L2 PyProof.Rows
section
variable {X : Cx} {Tb : List (Addr × Option Str)} {C : CallF} {b : S} {e eo ei : Expr} {x xo xi : E} {stm : Stmt} {pos sp : Pos}
/-- a store: of a list, of a dict -/
def rSetX : TSet := fun o i v H Q => rSetL o i v H Q ∨ ∃ p H4, o = .ref p ∧ DPut H p i v H4 ∧ Q H4
theorem set_any (hu : X.A.units + 65 < cLine) : PSet X rSetX := by
  intro pins s σ H o i v ov iv u Q I ro ri rv h
  rcases h with h | ⟨p, H4, rfl, g, q⟩
  · exact set_list pins s σ H o i v ov iv u Q I ro ri rv h
  · cases ro
    exact d_setItem (by omega) I g ri rv fun s4 I4 => ⟨H4, I4, q⟩
theorem snd_setIdx (hu : X.A.units + 65 < cLine) (ho : PE X eo (tOf X.K Tb (ev C xo))) (hi : PE X ei (tOf X.K Tb (ev C xi))) (he : PE X e (tOf X.K Tb (ev C x))) (hs : swapsWithSole [.Subscript eo ei sp] e pos.line X.env = pure false) (hw : swappedStores [.Subscript eo ei sp] e X.env = pure none) (h1 : (assignEach [.Subscript eo ei sp] X.env).map (·.2) = [assign (.Subscript eo ei sp) X.env])
    (ha : ∀ v, assign (.Subscript eo ei sp) X.env v = (do
      let ov ← holding [v] (eval eo X.env)
      let iv ← holding [v, ov] (eval ei X.env)
      standAt sp
      holding [v, ov, iv] (setItem ov iv v)
      release [v, ov, iv] [])) : PS X (.Assign [.Subscript eo ei sp] e pos) (tEx X.K Tb (exec C (.setIdx xo xi x))) := by
  refine PS.by fun Dn σ H h => ⟨_, ps_asg he (pg_sub ho hi (set_any hu) ha) hs hw h1, ?_⟩
  obtain ⟨β, α, st, env, o, en, h⟩ := h
  simp only [exec] at h
  obtain ⟨u, stF, q, hO⟩ := satO_run h
  obtain ⟨d1, st1, q1, q⟩ := bnd_ok q
  obtain ⟨d2, st2, q2, q⟩ := bnd_ok q
  obtain ⟨d3, st3, q3, q⟩ := bnd_ok q
  refine tOf_mk o en ?_
  rw [q1]
  intro v1 α1 H1 s1 o1 r1
  have en1 := en.mono s1.pre (s1.le β)
  show tOf X.K Tb (ev C xo) σ H1 _
  refine tOf_mk o1 en1 ?_
  rw [q2]
  intro v2 α2 H2 s2 o2 r2
  have en2 := en1.mono s2.pre (s2.le β)
  refine tOf_mk o2 en2 ?_
  rw [q3]
  intro v3 α3 H3 s3 o3 r3
  have en3 := en2.mono s3.pre (s3.le β)
  have r1' := s3.rep (s2.rep r1)
  have r2' := s3.rep r2
  cases d2 <;> first
    | (cases q; done)
    | skip
  rename_i k
  obtain ⟨p, rfl, hk⟩ := r2'
  rcases o3.mem_of hk with ⟨l, xs, hl, hx, rx⟩ | ⟨t, ks, vs, xs, hl, hx, rx⟩
  · simp only [setAt, hl, setLst] at q
    cases d3 <;> first
      | (cases q; done)
      | skip
    rename_i i
    obtain rfl : v3 = .int i := r3
    cases hj : ixN l.length i with
    | none => simp only [hj] at q; cases q
    | some j =>
      simp only [hj] at q
      cases q
      refine .inl ⟨p, xs, i, j, rfl, rfl, hx, by rw [rx.length]; exact hj, ?_⟩
      obtain ⟨o4, s4⟩ := o3.put hk (rx.set j r1')
      exact hO σ α3 _ (((s1.trans s2).trans s3).trans s4) o4 (en3.mono s4.pre (s4.le β))
  · simp only [setAt, hl, setDct] at q
    split at q
    · rename_i hc
      rw [Bool.and_eq_true] at hc
      cases q
      have hlen : ks.length < sizeLine := by
        rw [← line_eq]
        exact Nat.le_of_ble_eq_true hc.2
      obtain ⟨ob, xs', g1, g2, g3, g4⟩ := dho_put hx rx hc.1 (Rep.mono List.prefix_rfl LeG.mk _ _ r3) r1' hlen
      refine .inr ⟨p, _, rfl, g1, ?_⟩
      obtain ⟨o4, s4⟩ := o3.putD hk (g3 _ upd_same) g4
      exact hO σ α3 _ (((s1.trans s2).trans s3).trans s4) o4 (en3.mono s4.pre (s4.le β))
    · cases q
/-- for -/
theorem snd_for {p : Pat} {tg iter : Expr} {body : List Stmt} (hxe : X.xe = fun _ _ => False) (hc : X.calm = true) (hN : X.N.Nodup) (hp : PatOk X tg p) (hi : PI X tg iter (tItr X.K Tb fun env => bnd (ev C x env) srcOf)) (hb : PSs X body (tEx X.K Tb (exec C b)))
    (hs : ∀ v, foldedSetIterable iter X.env v = pure v) : PS X (.For tg iter body [] pos) (tEx X.K Tb (exec C (.for_ p x b))) := by
  refine PS.by fun Dn σ H h => ⟨_, ps_for (by rw [hxe]; exact PassesOwn.never) hc hi (snd_pat (Tb := Tb) hc hN hp) hb hs, ?_⟩
  obtain ⟨β, α, st, env, o, en, h⟩ := h
  simp only [exec] at h
  obtain ⟨⟨l, g⟩, st1, q, hO⟩ := satO_run h
  simp only at hO
  refine ⟨β, α, st, env, o, en, ?_⟩
  simp only [q]
  intro J α1 H1 s1 o1 hc1 walk
  have en1 := en.mono s1.pre (s1.le β)
  have hO1 := hO.step s1
  generalize hoF : forL p (exec C b) g l env st1 = oF at hO1
  let Pv : Nat → L2.St → Hp → Prop := fun i σ2 H2 => ∃ α2 st2 env2, Stp α1 α2 H1 H2 ∧ Ok X.K Tb β α2 st2 H2 ∧ EnvOk X.K α2 (Mk (β ++ α2) H2) env2 σ2 ∧ chk g st2 = .ok () st2 ∧ forL p (exec C b) g (l.drop i) env2 st2 = oF
  refine ⟨fun i m σ2 H2 => m = l.length - i ∧ i ≤ l.length ∧ Pv i σ2 H2, ⟨l.length, by simp, Nat.zero_le _, α1, st1, env, Stp.refl _ _, o1, en1, hc1, hoF⟩, ?_⟩
  rintro i m σ2 H2 ⟨rfl, hi, α2, st2, env2, s2, o2, en2, c2, qr⟩
  obtain ⟨wg, ws, wy⟩ := walk β α2 st2 H2 (fun b hb => .inl hb) (s2.w β) o2 c2
  by_cases hlt : i < l.length
  · refine .inr ⟨wg i hlt, Pv (i + 1), fun σ' H' p' => ⟨l.length - (i + 1), by omega, rfl, hlt, p'⟩, fun v H3 y => ?_⟩
    obtain ⟨d, hd, o3, s3, r3⟩ := wy i v H3 hlt y
    have hdrop : l.drop i = d :: l.drop (i + 1) := by
      rw [List.drop_eq_getElem_cons hlt]
      congr 1
      rw [List.getElem?_eq_getElem hlt] at hd
      exact Option.some.inj hd
    rw [hdrop] at qr
    unfold forL at qr
    cases qb : p.bind d env2 with
    | none =>
      rw [qb] at qr
      simp only at qr
      subst qr
      exact hO1.elim
    | some env' =>
      rw [qb] at qr
      simp only at qr
      refine ⟨β, α2, st2, env2, d, env', o3, en2.mono s3.pre (s3.le β), r3, qb, fun σ' _ e' => ?_⟩
      refine tEx_mk (n := σ'.length) o3 e' ?_
      have s23 := s2.trans s3
      cases qx : exec C b env' st2 with
      | next env3 st3 =>
        rw [qx] at qr
        simp only at qr
        intro σ4 α4 H4 s4 o4 e4
        unfold run' at qr
        cases qc : chk g st3 with
        | bad =>
          rw [qc] at qr
          simp only at qr
          subst qr
          exact hO1.elim
        | ok u st4 =>
          rw [qc] at qr
          have := chk_st qc
          rw [this] at qc qr
          exact ⟨α4, st3, env3, s23.trans s4, o4, e4, qc, qr⟩
      | ret dv st3 =>
        rw [qx] at qr
        simp only at qr
        subst qr
        intro v4 α4 H4 s4 o4 r4
        exact hO1 v4 α4 H4 (s23.trans s4) o4 r4
      | bad =>
        rw [qx] at qr
        simp only at qr
        subst qr
        exact hO1
  · have e : i = l.length := by omega
    subst e
    rw [List.drop_length] at qr
    unfold forL at qr
    subst qr
    exact .inl ⟨ws, hO1 σ2 α2 H2 s2 o2 en2⟩
/-- while -/
theorem snd_while {body : List Stmt} (hxe : X.xe = fun _ _ => False) (hx : PT X e (tOfB X.K Tb fun env => bnd (ev C x env) truth)) (hb : PSs X body (tEx X.K Tb (exec C b))) : PS X (.While e body [] pos) (tEx X.K Tb (exec C (.while_ x b))) := by
  refine PS.by fun Dn σ H h => ⟨_, ps_while (by rw [hxe]; exact PassesOwn.never) hx hb, ?_⟩
  obtain ⟨β, α, st, env, o, en, h⟩ := h
  simp only [exec] at h
  generalize hn : (1000 : Nat) = n at h
  clear hn
  let Pv : Nat → L2.St → Hp → Prop := fun m σ2 H2 => ∃ α2 st2 env2, Stp α α2 H H2 ∧ Ok X.K Tb β α2 st2 H2 ∧ EnvOk X.K α2 (Mk (β ++ α2) H2) env2 σ2 ∧ SatO X.K Tb β α2 (whileL (ev C x) (exec C b) m env2 st2) σ.length H2 Dn
  refine ⟨Pv, ⟨n, α, st, env, Stp.refl _ _, o, en, h⟩, ?_⟩
  rintro m σ2 H2 ⟨α2, st2, env2, s2, o2, en2, hO⟩
  cases m with
  | zero => exact hO.elim
  | succ m =>
    unfold whileL at hO
    obtain ⟨k, st3, qk, hO⟩ := satO_run hO
    refine tOfB_mk o2 en2 ?_
    rw [qk]
    intro α3 H3 s3 o3
    have en3 := en2.mono s3.pre (s3.le β)
    have hO3 := hO.step s3
    cases k with
    | false => exact hO3.here o3 en3
    | true =>
      refine ⟨fun σ' H' => Pv m σ' H', fun σ' H' p' => ⟨m, Nat.lt_succ_self _, p'⟩, ?_⟩
      refine tEx_mk (n := σ2.length) o3 en3 ?_
      simp only at hO3
      cases qx : exec C b env2 st3 with
      | next env4 st4 =>
        rw [qx] at hO3
        intro σ4 α4 H4 s4 o4 e4
        exact ⟨α4, st4, env4, (s2.trans s3).trans s4, o4, e4, hO3.step s4⟩
      | ret dv st4 =>
        rw [qx] at hO3
        exact hO3
      | bad =>
        rw [qx] at hO3
        exact hO3
end
/-! ### defs -/
section
variable {K : PySem.W.Frag} {α : List Addr} {G G' : Hp} {n : Nat}
mutual
theorem Rep.low (hn : n ≤ α.length) (hG : LeG G G') : ∀ (d : D) (v : V), D.low n d = true → Rep K α G d v → Rep K (α.take n) G' d v
  | .non, _, _, h => h
  | .bl _, _, _, h => h
  | .int _, _, _, h => h
  | .str _, _, _, h => h
  | .tup l, _, z, ⟨a, xs, e, h1, h2⟩ => ⟨a, xs, e, hG _ _ h1 noT_tup, Reps.low hn hG l xs (by simpa [D.low] using z) h2⟩
  | .dct t ks vs, _, z, ⟨a, xs, e, h1, h2⟩ => ⟨a, xs, e, h1.le hG, Reps.low hn hG vs xs (by simp only [D.low, Bool.and_eq_true] at z; exact z.2) h2⟩
  | .lst l, _, z, ⟨a, xs, e, h1, h2⟩ => ⟨a, xs, e, hG _ _ h1 noT_lst, Reps.low hn hG l xs (by simpa [D.low] using z) h2⟩
  | .scr _, _, _, ⟨a, e, h1⟩ => ⟨a, e, hG.sqL h1⟩
  | .cell k, _, z, ⟨a, e, h1⟩ => by
    have hk : k < n := by
      simp only [D.low] at z
      exact Nat.le_of_ble_eq_true z
    exact ⟨a, e, by rw [List.getElem?_take_of_lt hk]; exact h1⟩
theorem Reps.low (hn : n ≤ α.length) (hG : LeG G G') : ∀ (l : List D) (xs : List V), D.lows n l = true → Reps K α G l xs → Reps K (α.take n) G' l xs
  | [], _, _, h => h
  | d :: r, _, z, ⟨x, ys, e, h1, h2⟩ => by
    simp only [D.lows, Bool.and_eq_true] at z
    exact ⟨x, ys, e, Rep.low hn hG d x z.1 h1, Reps.low hn hG r ys z.2 h2⟩
end
end
section
variable {K : PySem.W.Frag} {Tb : List (Addr × Option Str)} {β α α1 : List Addr} {st st1 : St} {H H1 : Hp}
theorem take_pre (h : α <+: α1) : α1.take α.length = α := by
  obtain ⟨t, rfl⟩ := h
  rw [List.take_append_of_le_length (Nat.le_refl _), List.take_length]
/-- a def's own lists are let go -/
theorem Ok.leave (o : Ok K Tb β α1 st1 H1) (s : Stp α α1 H H1) (hl : (st1.take α.length).all (Cell.low α.length) = true) : Ok K Tb β α (st1.take α.length) H1 ∧ Stp α α H H1 := by
  have hp := take_pre s.pre
  have hsub : ∀ a ∈ α, a ∈ α1 := fun a ha => s.pre.subset ha
  have hlen : α.length ≤ α1.length := s.pre.length_le
  have le : LeG (Mk (β ++ α1) H1) (Mk (β ++ α) H1) := LeG.mk_sub fun b hb => (List.mem_append.mp hb).elim (fun z => List.mem_append_left _ z) fun z => List.mem_append_right _ (hsub b z)
  refine ⟨⟨o.nd.sublist s.pre.sublist, fun a ha => o.ap a (hsub a ha), o.bl, ?_, fun k a l e1 e2 => ?_, fun k a t ks vs e1 e2 => ?_, o.tabs⟩, ⟨List.prefix_rfl, fun _ h => .inl h, s.keep, s.tbl⟩⟩
  · rw [List.length_take, ← o.len]
    exact (Nat.min_eq_left hlen).symm
  · have hk : k < α.length := (List.getElem?_eq_some_iff.mp e1).1
    have hc : (st1.take α.length)[k]? = some (.lst l) := e2
    rw [List.getElem?_take_of_lt hk] at e2
    obtain ⟨xs, h1, h2⟩ := o.cells k a l (pre_get s.pre e1) e2
    have hlow : D.lows α.length l = true := by
      have := List.all_eq_true.mp hl (.lst l) (List.mem_of_getElem? hc)
      exact this
    have := Reps.low (K := K) hlen le l xs hlow h2
    rw [hp] at this
    exact ⟨xs, h1, this⟩
  · have hk : k < α.length := (List.getElem?_eq_some_iff.mp e1).1
    have hc : (st1.take α.length)[k]? = some (.dct t ks vs) := e2
    rw [List.getElem?_take_of_lt hk] at e2
    obtain ⟨xs, h1, h2⟩ := o.dcells k a t ks vs (pre_get s.pre e1) e2
    have hlow : D.lows α.length vs = true := by
      have := List.all_eq_true.mp hl (.dct t ks vs) (List.mem_of_getElem? hc)
      simp only [Cell.low, Bool.and_eq_true] at this
      exact this.2
    have := Reps.low (K := K) hlen le vs xs hlow h2
    rw [hp] at this
    exact ⟨xs, h1, this⟩
theorem sat_leave {d : D} {v : V} {Q : VK} (o0 : Ok K Tb β α st H) (o : Ok K Tb β α1 st1 H1) (s : Stp α α1 H H1) (r : Rep K α1 (Mk (β ++ α1) H1) d v) (h : Sat K Tb β α (Mp.leave st.length d st1) H Q) : Q v H1 := by
  have hlen : α.length ≤ α1.length := s.pre.length_le
  have hp := take_pre s.pre
  have hsub : ∀ a ∈ α, a ∈ α1 := fun a ha => s.pre.subset ha
  have le : LeG (Mk (β ++ α1) H1) (Mk (β ++ α) H1) := LeG.mk_sub fun b hb => (List.mem_append.mp hb).elim (fun z => List.mem_append_left _ z) fun z => List.mem_append_right _ (hsub b z)
  unfold Mp.leave at h
  rw [← o0.len] at h
  split at h
  · rename_i hl
    obtain ⟨o2, s2⟩ := o.leave s hl
    have key : ∀ d', D.low α.length d' = true → Rep K α1 (Mk (β ++ α1) H1) d' v → Rep K α (Mk (β ++ α) H1) d' v := fun d' hd' r' => by
      have := Rep.low (K := K) hlen le d' v hd' r'
      rw [hp] at this
      exact this
    split at h
    · rename_i k
      split at h
      · rename_i hk
        exact h v α H1 s2 o2 (key _ (by simp only [D.low]; exact hk) r)
      · rename_i hk
        split at h
        · rename_i l hst
          split at h
          · rename_i hlow
            obtain ⟨a, rfl, ha⟩ := r
            obtain ⟨xs, h1, h2⟩ := o.cells k a l ha hst
            refine h (.ref a) α H1 s2 o2 ⟨a, xs, rfl, ?_, ?_⟩
            · rw [mk_out fun z => ?_]
              · exact h1
              · rcases List.mem_append.mp z with z | z
                · exact o.ap a (List.mem_of_getElem? ha) z
                · obtain ⟨j, ej⟩ := List.getElem?_of_mem z
                  have hj : j < α.length := (List.getElem?_eq_some_iff.mp ej).1
                  have := nodup_at o.nd ha (pre_get s.pre ej)
                  subst this
                  have hk' : Nat.blt k α.length = true := by
                    unfold Nat.blt
                    exact Nat.ble_eq_true_of_le hj
                  rw [hk'] at hk
                  cases hk
            · have := Reps.low (K := K) hlen le l xs hlow h2
              rw [hp] at this
              exact this
          · exact h.elim
        · rename_i t ks vs hst
          split at h
          · rename_i hlow
            rw [Bool.and_eq_true] at hlow
            obtain ⟨a, rfl, ha⟩ := r
            obtain ⟨xs, h1, h2⟩ := o.dcells k a t ks vs ha hst
            refine h (.ref a) α H1 s2 o2 ⟨a, xs, rfl, h1.at_ ?_, ?_⟩
            · refine mk_out fun z => ?_
              rcases List.mem_append.mp z with z | z
              · exact o.ap a (List.mem_of_getElem? ha) z
              · obtain ⟨j, ej⟩ := List.getElem?_of_mem z
                have hj : j < α.length := (List.getElem?_eq_some_iff.mp ej).1
                have := nodup_at o.nd ha (pre_get s.pre ej)
                subst this
                have hk' : Nat.blt k α.length = true := by
                  unfold Nat.blt
                  exact Nat.ble_eq_true_of_le hj
                rw [hk'] at hk
                cases hk
            · have := Reps.low (K := K) hlen le vs xs hlow.2 h2
              rw [hp] at this
              exact this
          · exact h.elim
        · exact h.elim
    · split at h
      · rename_i hd
        exact h v α H1 s2 o2 (key _ hd r)
      · exact h.elim
  · exact h.elim
theorem start_env {N : List Str} {l : List D} {vs : List V} {ns : Nat} (r : Reps K α (Mk (β ++ α) H) l vs) (hn : ns = N.length) (hl : l.length ≤ ns) : EnvOk K α (Mk (β ++ α) H) (l.map some ++ List.replicate (ns - l.length) none) (L2.start N vs) := by
  have hv := r.length
  refine ⟨?_, fun i d e => ?_⟩
  · unfold L2.start
    rw [List.length_append, List.length_append, List.length_map, List.length_map, List.length_replicate, List.length_replicate, hv, hn]
  · by_cases hi : i < l.length
    · rw [List.getElem?_append_left (by rw [List.length_map]; exact hi), List.getElem?_map] at e
      cases q : l[i]? with
      | none => rw [q] at e; cases e
      | some d' =>
        rw [q] at e
        cases e
        obtain ⟨x, hx, rx⟩ := r.get q
        refine ⟨x, ?_, rx⟩
        unfold L2.start
        rw [List.getElem?_append_left (by rw [List.length_map, hv]; exact hi), List.getElem?_map, hx]
        rfl
    · rw [List.getElem?_append_right (by rw [List.length_map]; omega), List.getElem?_replicate] at e
      split at e <;> cases e
end
end Mp
end
section
set_option Elab.async false
set_option linter.all false
set_option maxRecDepth 100000
set_option maxHeartbeats 1000000
/-! From Python's text to the evaluator's. -/
namespace Mp
open PySem PySem.Spec L2 PyProof.Rows
/-- what is known of a def's names -/
structure Tx where
  N : List Str
  fs : List (Str × Nat × Nat)
  cs : List (Str × D)
  /-- built-ins that no global hides -/
  bl : List Str
  /-- built-ins that were imported -/
  im : List (Str × Prim)
structure Sc where
  sc : Scope
  fn : Str → Bool
def slot (x : Str) : List Str → Nat → Option Nat
  | [], _ => none
  | y :: r, i => if x == y then some i else slot x r (i + 1)
def isLocal (sc : Scope) (x : Str) : Bool := sc.names.lookup x == some .local
def isLoc (sc : Scope) (x : Str) : Bool := sc.names.lookup x == some .local || sc.names.lookup x == some .cell
def isVis (sc : Scope) (x : Str) : Bool := isLoc sc x || sc.names.lookup x == some .free
def isGl (sc : Scope) (x : Str) : Bool := sc.names.lookup x == some .globalImplicit
def dunder (x : Str) : Bool := x == "__debug__" || x == "__classdict__" || x == "__name__"
def trNm (t : Tx) (q : Sc) (x : Str) : Option Nat := if isLoc q.sc x && (q.fn x || isLocal q.sc x) then slot x t.N 0 else none
def trNms (t : Tx) (q : Sc) : List Expr → Option (List Nat)
  | [] => some []
  | .Name x _ :: r => match trNm t q x, trNms t q r with
    | some i, some l => some (i :: l)
    | _, _ => none
  | _ => none
def trPat (t : Tx) (q : Sc) : Expr → Option Pat
  | .Name x _ => (trNm t q x).map .one
  | .Tuple es _ _ => (trNms t q es).map .tup
  | _ => none
def trL (f : Expr → Option E) : List Expr → Option E
  | [] => some .nil
  | e :: es => match isStar e, f e, trL f es with
    | false, some a, some b => some (.cons a b)
    | _, _, _ => none
def isSet : Expr → Bool
  | .Set _ _ _ => true
  | _ => false
def isLst : Expr → Bool
  | .List _ _ => true
  | _ => false
def isTup : Expr → Bool
  | .Tuple _ _ _ => true
  | _ => false
/-- its test is its value's truth, or is told by parts -/
def tOk : Expr → Bool
  | .IfExp _ _ _ _ => false
  | .NamedExpr _ _ _ => false
  | _ => true
def plainIx : Expr → Bool
  | .Slice _ _ _ _ => false
  | _ => true
/-- what stands ahead of a method's name -/
def plainO : Expr → Bool
  | .Name _ _ => true
  | .Subscript _ _ _ => true
  | _ => false
def blt (t : Tx) (q : Sc) (x : Str) : Bool := isGl q.sc x && t.bl.contains x
def trI (t : Tx) (q : Sc) (f : Expr → Option E) (tg iter : Expr) : Option E := match iter with
  | .Call (.Name x _) [a] [] _ =>
    if x == "range" then match blt t q "range", isStar a, f a with
      | true, false, some a => some (.itr .range1 (.cons a .nil))
      | _, _, _ => none
    else if x == "enumerate" then match blt t q "enumerate", isTup tg, isStar a, f a with
      | true, true, false, some a => some (.itr .enum (.cons a .nil))
      | _, _, _, _ => none
    else (f iter).map fun a => .itr .seq (.cons a .nil)
  | .Call (.Name x _) [a, b] [] _ =>
    if x == "range" then match blt t q "range", isStar a, isStar b, f a, f b with
      | true, false, false, some a, some b => some (.itr .range2 (.cons a (.cons b .nil)))
      | _, _, _, _, _ => none
    else (f iter).map fun a => .itr .seq (.cons a .nil)
  | _ => if isSet iter then none else (f iter).map fun a => .itr .seq (.cons a .nil)
def trIfs (f : Expr → Option E) : List Expr → Option E
  | [] => some (.con (.bl true))
  | [c] => if tOk c then f c else none
  | _ => none
def trBin : Operator → Option Bin
  | .Add => some .add
  | .Sub => some .sub
  | .Mult => some .mul
  | .FloorDiv => some .fdiv
  | .Mod => some .mod
  | .Pow => some .pow
  | _ => none
def trCmp : CmpOp → Cmp
  | .Eq => .eq
  | .NotEq => .ne
  | .Lt => .lt
  | .LtE => .le
  | .Gt => .gt
  | .GtE => .ge
  | .In => .mem
  | .NotIn => .nmem
  | .Is => .is
  | .IsNot => .isn
/-- built-ins by name -/
def prims : List (Str × Prim) := [("len", .len), ("tuple", .tuple), ("list", .list), ("sorted", .sorted), ("min", .min), ("max", .max), ("sum", .sum), ("int", .int)]
def clss : List (Str × Nat) := [("int", 0), ("bool", 1), ("str", 2), ("tuple", 3), ("list", 4)]
def trCls (t : Tx) (q : Sc) (x : Str) : Option Nat := if blt t q x then clss.lookup x else none
def trClss (t : Tx) (q : Sc) : List Expr → Option (List Nat)
  | [] => some []
  | .Name x _ :: r => match trCls t q x, trClss t q r with
    | some i, some l => some (i :: l)
    | _, _ => none
  | _ => none
def ownOf (N : List Str) (l : List Nat) : List (Str × Nat) := l.map fun i => (N.getD i "", i)
def genC (N : List Str) (sc scope : Scope) (own : List (Str × Nat)) : Bool := blkC N sc scope own && !scope.isCoroutine && scope.names.all (fun y => y.2 != .cell) && scope.names.lookup (".0" : Str) == some .local
def keyC (params : Arguments) (body : Expr) (scope : Scope) : Bool := match params, body with
  | ⟨[], [⟨x, none, _⟩], none, [], [], none, []⟩, .Tuple [.Call (.Name l _) [.Name y _] [] _, .Name z _] _ _ =>
    l == "len" && x == y && x == z && isLocal scope x && !(x == "__debug__") && decide (scope.kind = .function) && !scope.isCoroutine && !scope.isGenerator && isGl scope "len" && scope.names.all fun y => y.2 != .cell && y.2 != .free
  | _, _ => false
/-- a list's method with one argument -/
def trMeth (a : Str) : Option Meth := if a == "append" then some .append else if a == "pop" then some .popAt else if a == "extend" then some .extend else none
/-- what a comprehension gathers: an empty display is a list that will change -/
def trElt (f : Expr → Option E) (e : Expr) : Option E := match e with
  | .List [] _ => some (.newC .nil)
  | e => f e
abbrev Rec := Nat → Nat → Sc → Expr → Option E
/-- a comprehension's block -/
def blkSc (q : Sc) (scope : Scope) : Sc := ⟨relS scope q.sc, fun x => scope.names.lookup x == some .cell⟩
def genSc (scope : Scope) : Sc := ⟨scope, fun _ => false⟩
def trComp (t : Tx) (R : Rec) (md g : Nat) (q : Sc) (elt : Expr) (gs : List Comprehension) (scope : Scope) : Option E := match gs with
  | [⟨tg, iter, ifs, 0⟩] => match trPat t (blkSc q scope) tg, trI t q (R md g q) tg iter, trIfs (R md g (blkSc q scope)) ifs, trElt (R md g (blkSc q scope)) elt with
    | some p, some s, some c, some e => if blkC t.N q.sc scope (ownOf t.N p.slots) then some (.comp p s c e) else none
    | _, _, _, _ => none
  | [⟨tg, iter, ifs, 0⟩, ⟨tg1, iter1, ifs1, 0⟩] => match trPat t (blkSc q scope) tg, trI t q (R md g q) tg iter, trIfs (R md g (blkSc q scope)) ifs, trPat t (blkSc q scope) tg1, trI t (blkSc q scope) (R md g (blkSc q scope)) tg1 iter1, trIfs (R md g (blkSc q scope)) ifs1, trElt (R md g (blkSc q scope)) elt with
    | some p, some s, some c, some p1, some s1, some d, some e => if blkC t.N q.sc scope (ownOf t.N (p.slots ++ p1.slots)) then some (.comp2 p s c p1 s1 d e) else none
    | _, _, _, _, _, _, _ => none
  | _ => none
def trGen (t : Tx) (R : Rec) (md g : Nat) (q : Sc) (al : Bool) (elt : Expr) (gs : List Comprehension) (scope : Scope) : Option E := match md, g, gs with
  | 1, g + 1, [⟨tg, iter, ifs, 0⟩] => match trPat t (genSc scope) tg, trI t q (R 1 (g + 1) q) tg iter, trIfs (R 0 g (genSc scope)) ifs, R 0 g (genSc scope) elt with
    | some p, some s, some c, some e => if genC t.N q.sc scope (ownOf t.N p.slots) && !isLst iter then some (.gen al p s c e) else none
    | _, _, _, _ => none
  | 1, g + 1, [⟨tg, iter, ifs, 0⟩, ⟨tg1, iter1, ifs1, 0⟩] => match trPat t (genSc scope) tg, trI t q (R 1 (g + 1) q) tg iter, trIfs (R 0 g (genSc scope)) ifs, trPat t (genSc scope) tg1, trI t (genSc scope) (R 0 g (genSc scope)) tg1 iter1, trIfs (R 0 g (genSc scope)) ifs1, R 0 g (genSc scope) elt with
    | some p, some s, some c, some p1, some s1, some d, some e => if genC t.N q.sc scope (ownOf t.N (p.slots ++ p1.slots)) && !isLst iter then some (.gen2 al p s c p1 s1 d e) else none
    | _, _, _, _, _, _, _ => none
  | _, _, _ => none
def trBool (f : Expr → Option E) (k : E → E → E) : List Expr → Option E
  | [] => none
  | [a] => if tOk a then f a else none
  | a :: r => match tOk a, f a, trBool f k r with
    | true, some x, some y => some (k x y)
    | _, _, _ => none
def trPart (f : Expr → Option E) : Option Expr → Option (Bool × E)
  | none => some (false, .con .non)
  | some e => (f e).map fun x => (true, x)
def trConst : Const → Option D
  | .none => some .non
  | .bool b => some (.bl b)
  | .int i => some (.int i)
  | .str s => some (.str s)
  | _ => none
def nameOf : Expr → Option Str
  | .Name x _ => some x
  | _ => none
/-- tuple(range(..)), list(range(..)) -/
def trRng (t : Tx) (q : Sc) (f : Expr → Option E) (x : Str) (args : List Expr) : Option E := match args with
  | [.Call (.Name r _) [a] [] _] => if (x == "tuple" || x == "list") && t.bl.contains x && r == "range" && blt t q "range" && !isStar a then (f a).map (.rng1 (x == "tuple")) else none
  | [.Call (.Name r _) [a, b] [] _] => if (x == "tuple" || x == "list") && t.bl.contains x && r == "range" && blt t q "range" && !isStar a && !isStar b then (match f a, f b with
    | some a, some b => some (.rng2 (x == "tuple") a b)
    | _, _ => none) else none
  | _ => none
/-- a call f(..) -/
def trCall (t : Tx) (R : Rec) (md g : Nat) (q : Sc) (x : Str) (args : List Expr) : Option E := match isGl q.sc x && !dunder x, t.fs.lookup x with
  | false, _ => none
  | true, some (i, n) => if args.length = n then (trL (R md g q) args).map (.call i) else none
  | true, none => match trRng t q (R md g q) x args with
   | some e => some e
   | none => match args with
    | [] => none
    | [.GeneratorExp elt gs scope _] => if t.bl.contains x then (if x == "all" then trGen t R md g q true elt gs scope else if x == "any" then trGen t R md g q false elt gs scope else none) else none
    | [e, .Name c _] => if x == "isinstance" && t.bl.contains x then (match isStar e, R md g q e, trCls t q c with
        | false, some a, some i => some (.prim (.isI [i]) (.cons a .nil))
        | _, _, _ => none) else (match (if t.bl.contains x then prims.lookup x else t.im.lookup x), trL (R md g q) args with
        | some p, some a => some (.prim p a)
        | _, _ => none)
    | [e, .Tuple cs _ _] => if x == "isinstance" && t.bl.contains x then (match isStar e, R md g q e, trClss t q cs with
        | false, some a, some l => if l.length ≤ 30 then some (.prim (.isI l) (.cons a .nil)) else none
        | _, _, _ => none) else none
    | args => match (if t.bl.contains x then prims.lookup x else t.im.lookup x), trL (R md g q) args with
      | some p, some a => some (.prim p a)
      | _, _ => none
def trE (t : Tx) : Nat → Rec
  | 0, _, _, _, _ => none
  | n + 1, md, g, q, e => match e with
    | .Name x _ => if dunder x then none else if isVis q.sc x then (slot x t.N 0).map .var else if isGl q.sc x then (t.cs.lookup x).map .con else none
    | .Constant c _ _ => (trConst c).map .con
    | .Tuple es _ _ => (trL (trE t n md g q) es).map .tup
    | .List es _ => (trL (trE t n md g q) es).map .lst
    | .BinOp l op r _ => match trBin op, trE t n md g q l, trE t n md g q r with
      | some o, some a, some b => some (.bin o a b)
      | _, _, _ => none
    | .UnaryOp op x _ => match op with
      | .USub => (trE t n md g q x).map .neg
      | .Not => if tOk x then (trE t n md g q x).map .not else none
      | _ => none
    | .BoolOp op es _ => match op with
      | .And => trBool (trE t n md g q) .and es
      | .Or => trBool (trE t n md g q) .or es
    | .Compare l ops rs _ => match ops, rs with
      | [o], [r] => match isSet r, trE t n md g q l, trE t n md g q r with
        | false, some a, some b => some (.cmp (trCmp o) a b)
        | _, _, _ => none
      | [o, p], [r, r2] => match isSet r2, trE t n md g q l, trE t n md g q r, trE t n md g q r2 with
        | false, some a, some b, some c => some (.chain (trCmp o) (trCmp p) a b c)
        | _, _, _, _ => none
      | _, _ => none
    | .IfExp c a b _ => match tOk c, trE t n md g q c, trE t n md g q a, trE t n md g q b with
      | true, some c, some a, some b => some (.ite c a b)
      | _, _, _, _ => none
    | .Call fe args kws pos => match fe, kws with
      | .Name x _, [] => trCall t (trE t n) md g q x args
      | .Name x _, [⟨some kn, .Lambda params body lsc _, _⟩] => match args with
        | [e] => if x == "sorted" && kn == "key" && decide (md = 2) && blt t q "sorted" && t.bl.contains "len" && !isStar e && keyC params body lsc then (trE t n md g q e).map .sortLen else none
        | _ => none
      | .Attribute o a apos, [] => match args with
        | [] => if a == "pop" && plainO o && apos.endLine == pos.line then (trE t n md g q o).map fun x => .meth .pop x .nil else none
        | [e] => if plainO o && apos.endLine == pos.line && !isStar e then (match trMeth a, trE t n md g q o, trE t n md g q e with
            | some m, some x, some y => some (.meth m x (.cons y .nil))
            | _, _, _ => none) else none
        | _ => none
      | _, _ => none
    | .Subscript a ix _ => match ix with
      | .Slice lo hi none _ => match trE t n md g q a, trPart (trE t n md g q) lo, trPart (trE t n md g q) hi with
        | some a, some (bl, l), some (bh, h) => some (.slice bl bh a l h)
        | _, _, _ => none
      | i => if plainIx i then (match trE t n md g q a, trE t n md g q i with
        | some a, some i => some (.idx a i)
        | _, _ => none) else none
    | .ListComp elt gs scope _ => trComp t (trE t n) md g q elt gs scope
    | .Dict [] [] _ => some (.newD 0)
    | _ => none
/-! ### what is known where -/
structure Glb (P : Program) (w : World) (K : PySem.W.Frag) (mg : Str → Option Value) (base : Heap) (t : Tx) (Tb : List (Addr × Option Str)) (k : Nat) (C : CallF) : Prop where
  fs : ∀ x i n, t.fs.lookup x = some (i, n) → FnT P w K mg base Tb k C x i n
  cs : ∀ x d, t.cs.lookup x = some d → ∃ u v, mg x = some u ∧ RelV v u ∧ ∀ (K : PySem.W.Frag) (α : List Addr) (G : Hp), Rep K α G d v
  bl : ∀ x, t.bl.contains x = true → mg x = none
  im : ∀ x p, t.im.lookup x = some p → mg x = some p.val ∧ ∀ cs, p ≠ .isI cs
/-- the running code's table -/
def Cod (X : Cx) (Tb : List (Addr × Option Str)) (md : Nat) : Prop := match md with
  | 1 => ∃ c P, X.env.code = .ref c ∧ GxR.TabB X.base X.mg c P ∧ (P, none) ∈ Tb ∧ ∀ q, (P, some q) ∉ Tb
  | 2 => ∃ c P, X.env.code = .ref c ∧ GxR.TabB X.base X.mg c P ∧ (P, some (X.env.qual ++ "<lambda>")) ∈ Tb ∧ ∀ z, (P, z) ∈ Tb → z = some (X.env.qual ++ "<lambda>")
  | _ => True
structure Cxt (t : Tx) (Tb : List (Addr × Option Str)) (k : Nat) (C : CallF) (md g : Nat) (q : Sc) (X : Cx) : Prop where
  glb : Glb X.prog X.w X.K X.mg X.base t Tb k C
  N : X.N = t.N
  nd : t.N.Nodup
  sc : X.env.scope = q.sc
  fn : X.fn = q.fn
  calm : X.calm = true
  room : Room (k + g) X.A
  cod : Cod X Tb md
end Mp
end
section
set_option Elab.async false
set_option linter.all false
set_option maxRecDepth 100000
set_option maxHeartbeats 1000000
/-! Ranges made tuples and lists. -/
namespace Mp
open PySem PySem.Spec L2 PyProof.Rows
section
variable {X : Cx} {Tb : List (Addr × Option Str)} {C : CallF} {a b : E} {e r : Expr} {pos p pos2 p2 : Pos} {nm : Str}
theorem rgV_reps {K : PySem.W.Frag} {α : List Addr} {G : Hp} {lo hi : Int} : Reps K α G (upto lo (hi - lo).toNat) (rgV lo hi) := by
  unfold upto rgV
  generalize (List.range (hi - lo).toNat) = l
  induction l with
  | nil => exact rfl
  | cons x l ih => exact ⟨_, _, rfl, rfl, ih⟩
theorem rngD_snd {β α : List Addr} {st : St} {H : Hp} {t : Bool} {x y : D} {u v : V} {Q : VK} (o : Ok X.K Tb β α st H) (rx : Rep X.K α (Mk (β ++ α) H) x u) (ry : Rep X.K α (Mk (β ++ α) H) y v) (h : Sat X.K Tb β α (rngD t x y st) H Q) :
    ∃ i j, u = .int i ∧ v = .int j ∧ RgOk i j ∧ ∀ q, H q = none → Q (.ref q) (upd H q (if t then .tup (rgV i j) else .lst (rgV i j))) := by
  unfold rngD at h
  split at h
  · rename_i i j
    cases rx
    cases ry
    split at h
    · rename_i hc
      rw [Bool.and_eq_true, Bool.and_eq_true] at hc
      obtain ⟨b1, b2⟩ := rangeOk_is hc.1.1
      obtain ⟨b3, b4⟩ := rangeOk_is hc.1.2
      have b5 := Nat.le_of_ble_eq_true hc.2
      refine ⟨i, j, rfl, rfl, ⟨b1, b2, b3, b4, b5⟩, fun q hq => ?_⟩
      cases t with
      | true => exact Sat.newTup h o hq rgV_reps
      | false => exact Sat.newLst h o hq rgV_reps
    · exact h.elim
  · exact h.elim
theorem tup_or (nm : Str) (h : nm == "tuple" ∨ nm == "list") : (nm = "tuple" ∧ (nm == ("tuple" : Str)) = true) ∨ (nm = "list" ∧ (nm == ("tuple" : Str)) = false) := by
  rcases h with h | h
  · exact .inl ⟨eq_of_beq h, h⟩
  · obtain rfl := eq_of_beq h
    exact .inr ⟨rfl, by decide⟩
theorem snd_rng1 (hc : X.calm = true) (hg : Gl X nm) (hm : X.mg nm = none) (hn : nm == "tuple" ∨ nm == "list") (hg2 : Gl X "range") (hm2 : X.mg "range" = none) (hs : isStar e = false) (he : PE X e (tOf X.K Tb (ev C a))) :
    PE X (.Call (.Name nm p) [.Call (.Name "range" p2) [e] [] pos2] [] pos) (tOf X.K Tb (ev C (.rng1 (nm == "tuple") a))) := by
  have core : ∀ {t : Bool} {σ : L2.St} {H : Hp} {Q : VK}, tOf X.K Tb (ev C (.rng1 t a)) σ H Q → tRg1 (tOf X.K Tb (ev C a)) σ H fun i j H1 => RgOk i j ∧ ∀ q, H1 q = none → Q (.ref q) (upd H1 q (if t then .tup (rgV i j) else .lst (rgV i j))) := fun {t σ H Q} h => by
    obtain ⟨β, α, st, env, o, en, h⟩ := h
    refine tOf_bnd (m := ev C a) (S := fun α r H => Sat X.K Tb β α r H Q) o en h (fun _ _ z => z) (fun _ _ _ s h => h.step s) fun d st1 v α1 H1 _ s o1 e1 r h1 => ?_
    obtain ⟨i, j, k1, k2, k3⟩ := rngD_snd o1 (x := .int 0) (u := .int 0) rfl r h1
    cases k1
    exact ⟨j, k2, k3⟩
  rcases tup_or nm hn with ⟨rfl, e1⟩ | ⟨rfl, e1⟩
  · rw [e1]
    exact PE.by fun σ H Q h => ⟨_, pe_tupRg hc hg hm (prg_1 hg2 hm2 he (star_cons (isStar_ne hs))) rfl, core h⟩
  · rw [e1]
    exact PE.by fun σ H Q h => ⟨_, pe_listRg hc hg hm (prg_1 hg2 hm2 he (star_cons (isStar_ne hs))) rfl, core h⟩
/-- list(range(n)) that will change -/
theorem snd_rngC (hc : X.calm = true) (hg : Gl X "list") (hm : X.mg "list" = none) (hg2 : Gl X "range") (hm2 : X.mg "range" = none) (hs : isStar e = false) (he : PE X e (tOf X.K Tb (ev C a))) :
    PE X (.Call (.Name "list" p) [.Call (.Name "range" p2) [e] [] pos2] [] pos) (tOf X.K Tb (ev C (.rngC a))) := by
  refine PE.by fun σ H Q h => ⟨_, pe_listRg hc hg hm (prg_1 hg2 hm2 he (star_cons (isStar_ne hs))) rfl, ?_⟩
  obtain ⟨β, α, st, env, o, en, h⟩ := h
  refine tOf_bnd (m := ev C a) (S := fun α r H => Sat X.K Tb β α r H Q) o en h (fun _ _ z => z) (fun _ _ _ s h => h.step s) fun d st1 v α1 H1 _ s o1 e1 r h1 => ?_
  cases d with
  | int j =>
    obtain rfl : v = .int j := r
    unfold rngCD at h1
    simp only [] at h1
    split at h1
    · rename_i hcc
      rw [Bool.and_eq_true] at hcc
      obtain ⟨b1, b2⟩ := rangeOk_is hcc.1
      have b5 := Nat.le_of_ble_eq_true hcc.2
      refine ⟨j, rfl, ⟨by decide, by decide, b1, b2, by rw [Int.sub_zero]; exact b5⟩, fun q hq => ?_⟩
      unfold newCell at h1
      split at h1
      · have r2 : Reps X.K α1 (Mk (β ++ α1) H1) (upto 0 j.toNat) (rgV 0 j) := by
          have := rgV_reps (K := X.K) (α := α1) (G := Mk (β ++ α1) H1) (lo := 0) (hi := j)
          rw [Int.sub_zero] at this
          exact this
        obtain ⟨o2, s2⟩ := o1.cell hq r2
        refine h1 (.ref q) _ _ s2 o2 ⟨q, rfl, ?_⟩
        rw [← o1.len, List.getElem?_append_right (Nat.le_refl _), Nat.sub_self]
        rfl
      · exact h1.elim
    · exact h1.elim
  | _ => exact h1.elim
theorem snd_rng2 (hc : X.calm = true) (hg : Gl X nm) (hm : X.mg nm = none) (hn : nm == "tuple" ∨ nm == "list") (hg2 : Gl X "range") (hm2 : X.mg "range" = none) (hs : isStar e = false) (hs2 : isStar r = false) (he : PE X e (tOf X.K Tb (ev C a))) (hr : PE X r (tOf X.K Tb (ev C b))) :
    PE X (.Call (.Name nm p) [.Call (.Name "range" p2) [e, r] [] pos2] [] pos) (tOf X.K Tb (ev C (.rng2 (nm == "tuple") a b))) := by
  have s2 : starEach [r] X.env = (false, eval r X.env) :: starEach [] X.env := star_cons (isStar_ne hs2)
  have core : ∀ {t : Bool} {σ : L2.St} {H : Hp} {Q : VK}, tOf X.K Tb (ev C (.rng2 t a b)) σ H Q → tRg2 (tOf X.K Tb (ev C a)) (tOf X.K Tb (ev C b)) σ H fun i j H1 => RgOk i j ∧ ∀ q, H1 q = none → Q (.ref q) (upd H1 q (if t then .tup (rgV i j) else .lst (rgV i j))) := fun {t σ H Q} h => by
    refine tOf.imp (two (F := fun x y => rngD t x y) h) fun v H1 h1 => tOf.imp h1 fun w H2 h2 => ?_
    obtain ⟨β, α, st, x, y, o, rx, ry, h3⟩ := h2
    obtain ⟨i, j, k1, k2, k3⟩ := rngD_snd o rx ry h3
    exact ⟨i, j, k1, k2, k3⟩
  rcases tup_or nm hn with ⟨rfl, e1⟩ | ⟨rfl, e1⟩
  · rw [e1]
    exact PE.by fun σ H Q h => ⟨_, pe_tupRg hc hg hm (prg_2 hg2 hm2 he hr (star_cons (isStar_ne hs)) s2 (by rw [s2]; rfl)) rfl, core h⟩
  · rw [e1]
    exact PE.by fun σ H Q h => ⟨_, pe_listRg hc hg hm (prg_2 hg2 hm2 he hr (star_cons (isStar_ne hs)) s2 (by rw [s2]; rfl)) rfl, core h⟩
end
end Mp
end
section
set_option Elab.async false
set_option linter.all false
set_option maxRecDepth 100000
set_option maxHeartbeats 1000000
/-! The translation is sound: expressions. -/
namespace Mp
open PySem PySem.Spec L2 PyProof.Rows
theorem slot_at {x : Str} : ∀ {N : List Str} {k i : Nat}, slot x N k = some i → k ≤ i ∧ N[i - k]? = some x
  | [], _, _, h => by cases h
  | y :: r, k, i, h => by
    unfold slot at h
    split at h
    · rename_i e
      cases h
      refine ⟨Nat.le_refl _, ?_⟩
      rw [Nat.sub_self, eq_of_beq e]
      rfl
    · obtain ⟨h1, h2⟩ := slot_at h
      refine ⟨by omega, ?_⟩
      have e : i - k = (i - (k + 1)) + 1 := by omega
      rw [e, List.getElem?_cons_succ]
      exact h2
theorem slot_ok {x : Str} {N : List Str} {i : Nat} (h : slot x N 0 = some i) : N[i]? = some x := (slot_at h).2
section
variable {t : Tx} {Tb : List (Addr × Option Str)} {k md g : Nat} {C : CallF} {q : Sc} {X : Cx}
theorem isLocal_is {sc : Scope} {x : Str} (h : isLocal sc x = true) : sc.names.lookup x = some .local := by simpa [isLocal] using h
theorem isLoc_is {sc : Scope} {x : Str} (h : isLoc sc x = true) : L2.Loc sc x := by simpa [isLoc, L2.Loc] using h
theorem isVis_is {sc : Scope} {x : Str} (h : isVis sc x = true) : Vis sc x := by
  simp only [isVis, isLoc, Bool.or_eq_true, beq_iff_eq] at h
  rcases h with (h | h) | h
  · exact .inl h
  · exact .inr (.inl h)
  · exact .inr (.inr h)
theorem isGl_is {sc : Scope} {x : Str} (h : isGl sc x = true) : sc.names.lookup x = some .globalImplicit := by simpa [isGl] using h
theorem Cxt.gl (cx : Cxt t Tb k C md g q X) {x : Str} (h : isGl q.sc x = true) : Gl X x := by
  show X.env.scope.names.lookup x = _
  rw [cx.sc]
  exact isGl_is h
theorem Cxt.hu (cx : Cxt t Tb k C md g q X) : X.A.units + 65 < cLine := by have := cx.room.un; omega
theorem Cxt.hN (cx : Cxt t Tb k C md g q X) : X.N.Nodup := by rw [cx.N]; exact cx.nd
theorem trNm_ok (cx : Cxt t Tb k C md g q X) {x : Str} {i : Nat} (h : trNm t q x = some i) : NmOk X x i := by
  unfold trNm at h
  split at h
  · rename_i hc
    rw [Bool.and_eq_true, Bool.or_eq_true] at hc
    refine ⟨by rw [cx.N]; exact slot_ok h, by rw [cx.sc]; exact isLoc_is hc.1, ?_⟩
    rcases hc.2 with z | z
    · exact .inl (by rw [cx.fn]; exact z)
    · exact .inr (by rw [cx.sc]; exact isLocal_is z)
  · cases h
theorem trNms_ok (cx : Cxt t Tb k C md g q X) : ∀ {es : List Expr} {l : List Nat}, trNms t q es = some l → NmsOk X es l
  | [], _, h => by cases h; trivial
  | e :: r, l, h => by
    cases e with
    | Name x p =>
      unfold trNms at h
      split at h
      · rename_i i l' h1 h2
        cases h
        exact ⟨trNm_ok cx h1, trNms_ok cx h2⟩
      · cases h
    | _ => cases h
theorem trPat_ok (cx : Cxt t Tb k C md g q X) {e : Expr} {p : Pat} (h : trPat t q e = some p) : PatOk X e p := by
  cases e with
  | Name x pos =>
    simp only [trPat] at h
    obtain ⟨i, h1, rfl⟩ := Option.map_eq_some_iff.mp h
    exact trNm_ok cx h1
  | Tuple es kk pos =>
    simp only [trPat] at h
    obtain ⟨l, h1, rfl⟩ := Option.map_eq_some_iff.mp h
    exact trNms_ok cx h1
  | _ => cases h
/-- sound: a value, and (where it may be) a test -/
def SndE (X : Cx) (Tb : List (Addr × Option Str)) (C : CallF) (e : Expr) (x : E) : Prop := PE X e (tOf X.K Tb (ev C x)) ∧ (tOk e = true → PT X e (tOfB X.K Tb fun env => bnd (ev C x env) truth))
def SndF (X : Cx) (Tb : List (Addr × Option Str)) (C : CallF) (f : Expr → Option E) : Prop := ∀ e x, f e = some x → SndE X Tb C e x
theorem trL_len {f : Expr → Option E} : ∀ {es : List Expr} {a : E} {env : Env} {st : St} {l : List D} {st' : St}, trL f es = some a → bnd (ev C a env) listOf st = .ok l st' → l.length = es.length
  | [], a, env, st, l, st', h, hl => by
    cases h
    cases hl
    rfl
  | e :: es, a, env, st, l, st', h, hl => by
    unfold trL at h
    split at h
    · rename_i x y h1 h2 h3
      cases h
      rw [show ev C (.cons x y) env = bnd (ev C x env) fun a => bnd (bnd (ev C y env) listOf) fun l => ret (.lst (a :: l)) from rfl, bnd_assoc] at hl
      obtain ⟨d, st1, _, hl⟩ := bnd_ok hl
      rw [bnd_assoc] at hl
      obtain ⟨l2, st2, q2, hl⟩ := bnd_ok hl
      cases hl
      rw [List.length_cons, List.length_cons, trL_len h3 q2]
    · cases h
theorem trL_snd {f : Expr → Option E} (hf : SndF X Tb C f) : ∀ {es : List Expr} {a : E}, trL f es = some a → PA X es (tOfL X.K Tb fun env => bnd (ev C a env) listOf) ∧ (es.all fun e => !isStar e) = true
  | [], a, h => by
    cases h
    exact ⟨snd_nil, rfl⟩
  | e :: es, a, h => by
    unfold trL at h
    split at h
    · rename_i x y h1 h2 h3
      cases h
      obtain ⟨k1, k2⟩ := trL_snd hf h3
      refine ⟨snd_cons (isStar_ne h1) (hf e x h2).1 k1, ?_⟩
      rw [List.all_cons, h1, k2]
      rfl
    · cases h
theorem not_set_fold {iter : Expr} (h : isSet iter = false) (env : PySem.Env) (v : Value) : foldedSetIterable iter env v = pure v := by
  cases iter <;> first
    | rfl
    | cases h
theorem not_set_gen {iter : Expr} (h : isSet iter = false) (h2 : isLst iter = false) (env : PySem.Env) (v : Value) : genFold iter env v = pure v := by
  cases iter <;> first
    | (cases h2; done)
    | (cases h; done)
    | rfl
theorem not_set_marks {op : CmpOp} {r : Expr} (h : isSet r = false) : behindInMarks op r = false := by
  cases r <;> first
    | rfl
    | cases h
theorem Cxt.bl (cx : Cxt t Tb k C md g q X) {x : Str} (h : blt t q x = true) : Gl X x ∧ X.mg x = none := by
  unfold blt at h
  rw [Bool.and_eq_true] at h
  exact ⟨cx.gl h.1, cx.glb.bl x h.2⟩
theorem trI_set {f : Expr → Option E} {tg iter : Expr} {x : E} (h : trI t q f tg iter = some x) : isSet iter = false := by
  cases iter with
  | Set es kk p =>
    simp only [trI, isSet, if_true] at h
    cases h
  | _ => rfl
theorem trI_snd (cx : Cxt t Tb k C md g q X) {f : Expr → Option E} (hf : SndF X Tb C f) {tg iter : Expr} {x : E} (h : trI t q f tg iter = some x) : PI X tg iter (tItr X.K Tb fun env => bnd (ev C x env) srcOf) := by
  have gen : ∀ {y : E}, (f iter).map (fun a => E.itr .seq (.cons a .nil)) = some y → PI X tg iter (tItr X.K Tb fun env => bnd (ev C y env) srcOf) := fun {y} hy => by
    obtain ⟨a, h1, rfl⟩ := Option.map_eq_some_iff.mp hy
    exact snd_itr_seq (hf iter a h1).1
  unfold trI at h
  split at h
  · rename_i x0 p0 a pos
    split at h
    · rename_i e
      have e := eq_of_beq e
      subst e
      split at h
      · rename_i a' h1 h2 h3
        cases h
        obtain ⟨k1, k2⟩ := cx.bl h1
        exact snd_itr_rng1 k1 k2 h2 (hf a a' h3).1
      · cases h
    · split at h
      · rename_i e
        have e := eq_of_beq e
        subst e
        split at h
        · rename_i a' h1 h0 h2 h3
          cases h
          obtain ⟨k1, k2⟩ := cx.bl h1
          cases tg with
          | Tuple es kk pp => exact snd_itr_enum k1 k2 h2 (hf a a' h3).1
          | _ => cases h0
        · cases h
      · exact gen h
  · rename_i x0 p0 a b pos
    split at h
    · rename_i e
      have e := eq_of_beq e
      subst e
      split at h
      · rename_i a' b' h1 h2 h3 h4 h5
        cases h
        obtain ⟨k1, k2⟩ := cx.bl h1
        exact snd_itr_rng2 k1 k2 h2 h3 (hf a a' h4).1 (hf b b' h5).1
      · cases h
    · exact gen h
  · split at h
    · cases h
    · exact gen h
theorem PTs.by {X : Cx} {e : List Expr} {t : TT} (h : ∀ σ H Q, t σ H Q → ∃ u, PTs X e u ∧ u σ H Q) : PTs X e t := ⟨fun pins s σ H Q I w => by
  obtain ⟨u, p, q⟩ := h σ H Q w
  exact p.run pins s σ H Q I q⟩
theorem trIfs_snd {f : Expr → Option E} (hf : SndF X Tb C f) {ifs : List Expr} {x : E} (h : trIfs f ifs = some x) : PTs X ifs (tTst X.K Tb (ev C x)) := by
  unfold trIfs at h
  split at h
  · cases h
    refine PTs.by fun σ H Q hw => ⟨_, pts_nil, ?_⟩
    obtain ⟨β, α, st, env, o, en, hw⟩ := hw
    exact SatB.here (b := true) hw o
  · rename_i c
    split at h
    · rename_i ht
      exact pts_one ((hf c x h).2 ht)
    · cases h
  · cases h
theorem ownOf_slots {N : List Str} {l : List Nat} : (ownOf N l).map (·.2) = l := by
  unfold ownOf
  rw [List.map_map]
  exact List.map_id _
/-- a comprehension's block -/
theorem Cxt.blk (cx : Cxt t Tb k C md g q X) (scope : Scope) (s : Shared) (H : Hp) (Cd : Addr) (cl : List (Str × Addr)) (fp : List Addr) : Cxt t Tb k C md g (blkSc q scope) (X.blk s H scope (compEnvC scope cl Cd X.env) fp) where
  glb := cx.glb
  N := cx.N
  nd := cx.nd
  sc := by
    show relabel scope X.env = relS scope q.sc
    rw [← cx.sc]
    rfl
  fn := rfl
  calm := cx.calm
  room := cx.room
  cod := by
    have h := cx.cod
    unfold Cod at h ⊢
    exact h
theorem room_gen {j : Nat} {A : Around} (r : Room (j + 1) A) (env : PySem.Env) : Room j (A.in1.in1.deeper env) :=
  ⟨r.hd, by have := r.dp; show A.depth + 1 + 3 * j + 5 < _; omega, by have := r.un; show A.units + 1 + 1 + 3 + 16 * j + 200 < _; omega⟩
theorem Cxt.gen (cx : Cxt t Tb k C md (g + 1) q X) (scope : Scope) (s : Shared) (H : Hp) (Cd : Addr) (code : Value) (fp : List Addr) (pn : List (Addr × Obj)) : Cxt t Tb k C 0 g (genSc scope) (gC X scope s H Cd code fp pn) where
  glb := cx.glb
  N := cx.N
  nd := cx.nd
  sc := rfl
  fn := rfl
  calm := cx.calm
  room := room_gen cx.room _
  cod := trivial
theorem blk_own {N : List Str} {sc scope : Scope} {l : List Nat} (h : blkC N sc scope (ownOf N l) = true) : BlkOk N sc scope (ownOf N l) := blkOk_by h
theorem genC_ok {N : List Str} {sc scope : Scope} {own : List (Str × Nat)} (h : genC N sc scope own = true) : GenOk N sc scope own := by
  unfold genC at h
  simp only [Bool.and_eq_true, Bool.not_eq_true', List.all_eq_true, bne_iff_ne, beq_iff_eq] at h
  exact ⟨blkOk_by h.1.1.1, h.1.1.2, fun y hy => h.1.2 y hy, h.2⟩
theorem primAt (cx : Cxt t Tb k C md g q X) {x : Str} {v : Value} (h : isGl q.sc x = true) (hd : dunder x = false) (hb : t.bl.contains x = true) (hv : bootBuiltins x = some v) : PrimAt X x v := by
  unfold dunder at hd
  simp only [Bool.or_eq_false_iff] at hd
  exact ⟨cx.gl h, .inl ⟨cx.glb.bl x hb, hv, fun z => by have := hd.2; rw [z] at this; simp at this⟩, hd.1.1⟩
theorem boot_all' : bootBuiltins "all" = some (.builtin "all") := by decide +kernel
theorem boot_any' : bootBuiltins "any" = some (.builtin "any") := by decide +kernel
theorem boot_prims : ∀ p ∈ prims, bootBuiltins p.1 = some p.2.val ∧ ∀ cs, p.2 ≠ .isI cs := by
  intro p hp
  have : (prims.all fun p => decide (bootBuiltins p.1 = some p.2.val)) = true := by decide +kernel
  refine ⟨by simpa using List.all_eq_true.mp this p hp, fun cs z => ?_⟩
  have h2 : (prims.all fun p => match p.2 with | .isI _ => false | _ => true) = true := by decide +kernel
  have := List.all_eq_true.mp h2 p hp
  rw [z] at this
  cases this
theorem boot_cls : ∀ p ∈ clss, bootBuiltins p.1 = some (.type (clsName p.2)) ∧ p.2 < 5 := by
  intro p hp
  have : (clss.all fun p => decide (bootBuiltins p.1 = some (.type (clsName p.2))) && decide (p.2 < 5)) = true := by decide +kernel
  simpa using List.all_eq_true.mp this p hp
theorem mem_of_lk {α : Type} {l : List (Str × α)} {x : Str} {a : α} (h : l.lookup x = some a) : (x, a) ∈ l := PySem.mem_of_lookup h
end
end Mp
end
section
set_option Elab.async false
set_option linter.all false
set_option maxRecDepth 100000
set_option maxHeartbeats 2000000
/-! The translation is sound: comprehensions, calls, the whole of it. -/
namespace Mp
open PySem PySem.Spec L2 PyProof.Rows
section
variable {t : Tx} {Tb : List (Addr × Option Str)} {k md g : Nat} {C : CallF} {q : Sc} {X : Cx} {R : Rec}
/-- the recursion is sound wherever it is asked -/
def SndR (t : Tx) (Tb : List (Addr × Option Str)) (k : Nat) (C : CallF) (R : Rec) : Prop := ∀ md g q X, Cxt t Tb k C md g q X → SndF X Tb C (R md g q)
theorem leaf {e : Expr} {x : E} (h : PE X e (tOf X.K Tb (ev C x))) (he : ∀ whole, PySem.isTrue e X.env whole = (do let v ← whole; standAt e.pos; holding [v] (truthy v))) : SndE X Tb C e x := ⟨h, fun _ => tst_val h he⟩
theorem trElt_snd {f : Expr → Option E} (hf : SndF X Tb C f) {e : Expr} {x : E} (h : trElt f e = some x) : SndE X Tb C e x := by
  unfold trElt at h
  split at h
  · cases h
    exact leaf (snd_newC snd_nil) fun _ => rfl
  · exact hf _ x h
theorem trComp_snd (cx : Cxt t Tb k C md g q X) (hR : SndR t Tb k C R) {elt : Expr} {gs : List Comprehension} {scope : Scope} {pos : Pos} {x : E} (h : trComp t R md g q elt gs scope = some x) :
    PE X (.ListComp elt gs scope pos) (tOf X.K Tb (ev C x)) ∧
    (∀ (i : Nat) (y : Str) (py : Pos) (spos : Pos), X.N[i]? = some y → X.env.scope.names.lookup y = some .local → swapsWith (.ListComp elt gs scope pos) (some (.Name y py)) spos.line X.env = pure true → PS X (.Assign [.Name y py] (.ListComp elt gs scope pos) spos) (tEx X.K Tb (exec C (.asg (.one i) x)))) := by
  unfold trComp at h
  split at h
  · rename_i tg iter ifs
    split at h
    · rename_i p s c e h1 h2 h3 h4
      split at h
      · rename_i hb
        cases h
        have hi := trI_snd cx (hR md g q X cx) h2
        have ok : BlkOk X.N X.env.scope scope (ownOf t.N p.slots) := by rw [cx.N, cx.sc]; exact blk_own hb
        have hgP : ∀ (s : Shared) (H : Hp) (Cd : Addr) (cl : List (Str × Addr)) (fp : List Addr), PG (X.blk s H scope (compEnvC scope cl Cd X.env) fp) tg (gOf X.K Tb p) := fun s H Cd cl fp => snd_pat (cx.blk scope s H Cd cl fp).calm (cx.blk scope s H Cd cl fp).hN (trPat_ok (cx.blk scope s H Cd cl fp) h1)
        have htP : ∀ (s : Shared) (H : Hp) (Cd : Addr) (cl : List (Str × Addr)) (fp : List Addr), PTs (X.blk s H scope (compEnvC scope cl Cd X.env) fp) ifs (tTst X.K Tb (ev C c)) := fun s H Cd cl fp => trIfs_snd (hR _ _ _ _ (cx.blk scope s H Cd cl fp)) h3
        have heP : ∀ (s : Shared) (H : Hp) (Cd : Addr) (cl : List (Str × Addr)) (fp : List Addr), PE (X.blk s H scope (compEnvC scope cl Cd X.env) fp) elt (tOf X.K Tb (ev C e)) := fun s H Cd cl fp => (trElt_snd (hR _ _ _ _ (cx.blk scope s H Cd cl fp)) h4).1
        refine ⟨PE.by fun σ H Q hw => ⟨_, pe_lc cx.calm cx.hN hi ok hgP htP heP (not_set_fold (trI_set h2) X.env), lc_tell ownOf_slots hw⟩, fun i y py spos hy hyl hsw => ?_⟩
        exact snd_asgLc (ps_setLc (i := i) cx.calm cx.hN hy hyl hsw hi ok hgP htP heP (not_set_fold (trI_set h2) X.env)) fun σ H Q hw => lc_tell ownOf_slots hw
      · cases h
    · cases h
  · rename_i tg iter ifs tg1 iter1 ifs1
    split at h
    · rename_i p s c p1 s1 d e h1 h2 h3 h4 h5 h6 h7
      split at h
      · rename_i hb
        cases h
        have hi := trI_snd cx (hR md g q X cx) h2
        have ok : BlkOk X.N X.env.scope scope (ownOf t.N (p.slots ++ p1.slots)) := by rw [cx.N, cx.sc]; exact blk_own hb
        have hgP : ∀ (s : Shared) (H : Hp) (Cd : Addr) (cl : List (Str × Addr)) (fp : List Addr), PG (X.blk s H scope (compEnvC scope cl Cd X.env) fp) tg (gOf X.K Tb p) := fun s H Cd cl fp => snd_pat (cx.blk scope s H Cd cl fp).calm (cx.blk scope s H Cd cl fp).hN (trPat_ok (cx.blk scope s H Cd cl fp) h1)
        have htP : ∀ (s : Shared) (H : Hp) (Cd : Addr) (cl : List (Str × Addr)) (fp : List Addr), PTs (X.blk s H scope (compEnvC scope cl Cd X.env) fp) ifs (tTst X.K Tb (ev C c)) := fun s H Cd cl fp => trIfs_snd (hR _ _ _ _ (cx.blk scope s H Cd cl fp)) h3
        have hiP1 : ∀ (s : Shared) (H : Hp) (Cd : Addr) (cl : List (Str × Addr)) (fp : List Addr), PI (X.blk s H scope (compEnvC scope cl Cd X.env) fp) tg1 iter1 (tItr X.K Tb fun env => bnd (ev C s1 env) srcOf) := fun s H Cd cl fp => trI_snd (cx.blk scope s H Cd cl fp) (hR _ _ _ _ (cx.blk scope s H Cd cl fp)) h5
        have hgP1 : ∀ (s : Shared) (H : Hp) (Cd : Addr) (cl : List (Str × Addr)) (fp : List Addr), PG (X.blk s H scope (compEnvC scope cl Cd X.env) fp) tg1 (gOf X.K Tb p1) := fun s H Cd cl fp => snd_pat (cx.blk scope s H Cd cl fp).calm (cx.blk scope s H Cd cl fp).hN (trPat_ok (cx.blk scope s H Cd cl fp) h4)
        have htP1 : ∀ (s : Shared) (H : Hp) (Cd : Addr) (cl : List (Str × Addr)) (fp : List Addr), PTs (X.blk s H scope (compEnvC scope cl Cd X.env) fp) ifs1 (tTst X.K Tb (ev C d)) := fun s H Cd cl fp => trIfs_snd (hR _ _ _ _ (cx.blk scope s H Cd cl fp)) h6
        have heP : ∀ (s : Shared) (H : Hp) (Cd : Addr) (cl : List (Str × Addr)) (fp : List Addr), PE (X.blk s H scope (compEnvC scope cl Cd X.env) fp) elt (tOf X.K Tb (ev C e)) := fun s H Cd cl fp => (trElt_snd (hR _ _ _ _ (cx.blk scope s H Cd cl fp)) h7).1
        have hv : ∀ i ∈ p1.slots, i ∈ (ownOf t.N (p.slots ++ p1.slots)).map (·.2) := fun i hi => by rw [ownOf_slots]; exact List.mem_append_right _ hi
        refine ⟨PE.by fun σ H Q hw => ⟨_, pe_lc2 cx.calm cx.hN hi ok hv hgP htP hiP1 hgP1 htP1 heP (not_set_fold (trI_set h2) X.env) (fun env v => not_set_fold (trI_set h5) env v), lc2_tell ownOf_slots rfl hw⟩, fun i y py spos hy hyl hsw => ?_⟩
        exact snd_asgLc (ps_setLc2 (i := i) cx.calm cx.hN hy hyl hsw hi ok hv hgP htP hiP1 hgP1 htP1 heP (not_set_fold (trI_set h2) X.env) (fun env v => not_set_fold (trI_set h5) env v)) fun σ H Q hw => lc2_tell ownOf_slots rfl hw
      · cases h
    · cases h
  · cases h
theorem trGen_snd (cx : Cxt t Tb k C md g q X) (hR : SndR t Tb k C R) {al : Bool} {elt : Expr} {gs : List Comprehension} {scope : Scope} {gpos p pos : Pos} {nm : Str} {x : E} (hb : PrimAt X nm (.builtin (if al then "all" else "any"))) (h : trGen t R md g q al elt gs scope = some x) :
    PE X (.Call (.Name nm p) [.GeneratorExp elt gs scope gpos] [] pos) (tOf X.K Tb (ev C x)) := by
  unfold trGen at h
  split at h
  · rename_i md' g' g tg iter ifs
    obtain ⟨cd, P, hcode, TB, hP, hq⟩ := cx.cod
    split at h
    · rename_i pt s c e h1 h2 h3 h4
      split at h
      · rename_i hc
        rw [Bool.and_eq_true] at hc
        cases h
        have ok : GenOk X.N X.env.scope scope (ownOf t.N pt.slots) := by rw [cx.N, cx.sc]; exact genC_ok hc.1
        refine PE.by fun σ H Q hw => ⟨_, pe_gen (al := al) cx.calm cx.room hb TB hcode ok cx.hN (trI_snd cx (hR _ _ _ _ cx) h2) (fun s H Cd code fp pn => snd_pat (Tb := Tb) (cx.gen scope s H Cd code fp pn).calm (cx.gen scope s H Cd code fp pn).hN (trPat_ok (cx.gen scope s H Cd code fp pn) h1)) (fun s H Cd code fp pn => trIfs_snd (hR _ _ _ _ (cx.gen scope s H Cd code fp pn)) h3)
          (fun s H Cd code fp pn => (hR _ _ _ _ (cx.gen scope s H Cd code fp pn) elt e h4).1) (not_set_gen (trI_set h2) (by simpa using hc.2) X.env), gen_tell hP hq ownOf_slots hw⟩
      · cases h
    · cases h
  · rename_i md' g' g tg iter ifs tg1 iter1 ifs1
    obtain ⟨cd, P, hcode, TB, hP, hq⟩ := cx.cod
    split at h
    · rename_i pt s c p1 s1 d e h1 h2 h3 h4 h5 h6 h7
      split at h
      · rename_i hc
        rw [Bool.and_eq_true] at hc
        cases h
        have ok : GenOk X.N X.env.scope scope (ownOf t.N (pt.slots ++ p1.slots)) := by rw [cx.N, cx.sc]; exact genC_ok hc.1
        have hv : ∀ i ∈ p1.slots, i ∈ (ownOf t.N (pt.slots ++ p1.slots)).map (·.2) := fun i hi => by rw [ownOf_slots]; exact List.mem_append_right _ hi
        refine PE.by fun σ H Q hw => ⟨_, pe_gen2 (al := al) cx.calm cx.room hb TB hcode ok cx.hN (trI_snd cx (hR _ _ _ _ cx) h2) (fun s H Cd code fp pn => snd_pat (Tb := Tb) (cx.gen scope s H Cd code fp pn).calm (cx.gen scope s H Cd code fp pn).hN (trPat_ok (cx.gen scope s H Cd code fp pn) h1)) (fun s H Cd code fp pn => trIfs_snd (hR _ _ _ _ (cx.gen scope s H Cd code fp pn)) h3)
          (fun s H Cd code fp pn => trI_snd (cx.gen scope s H Cd code fp pn) (hR _ _ _ _ (cx.gen scope s H Cd code fp pn)) h5) (fun s H Cd code fp pn => snd_pat (Tb := Tb) (cx.gen scope s H Cd code fp pn).calm (cx.gen scope s H Cd code fp pn).hN (trPat_ok (cx.gen scope s H Cd code fp pn) h4)) (fun s H Cd code fp pn => trIfs_snd (hR _ _ _ _ (cx.gen scope s H Cd code fp pn)) h6)
          (fun s H Cd code fp pn => (hR _ _ _ _ (cx.gen scope s H Cd code fp pn) elt e h7).1) (not_set_gen (trI_set h2) (by simpa using hc.2) X.env) (fun env v => not_set_fold (trI_set h5) env v) hv, gen2_tell hP hq ownOf_slots rfl hw⟩
      · cases h
    · cases h
  · cases h
theorem trCls_ok (cx : Cxt t Tb k C md g q X) {x : Str} {n : Nat} (h : trCls t q x = some n) : TyAt X x n := by
  unfold trCls at h
  split at h
  · rename_i hb
    obtain ⟨k1, k2⟩ := cx.bl hb
    have hm := mem_of_lk h
    obtain ⟨b1, b2⟩ := boot_cls _ hm
    have hnm : x ≠ "__name__" ∧ (x == ("__debug__" : Str)) = false := by
      have : (clss.all fun p => !(p.1 == "__name__") && !(p.1 == ("__debug__" : Str))) = true := by decide +kernel
      have := List.all_eq_true.mp this _ hm
      simp only [Bool.and_eq_true, Bool.not_eq_true'] at this
      exact ⟨fun z => by rw [z] at this; simp at this, this.2⟩
    exact ⟨k1, k2, b1, hnm.1, hnm.2, b2⟩
  · cases h
theorem trClss_ok (cx : Cxt t Tb k C md g q X) : ∀ {es : List Expr} {l : List Nat}, trClss t q es = some l → TysAt X es l
  | [], _, h => by cases h; trivial
  | e :: r, l, h => by
    cases e with
    | Name x p =>
      unfold trClss at h
      split at h
      · rename_i i l' h1 h2
        cases h
        exact ⟨trCls_ok cx h1, trClss_ok cx h2⟩
      · cases h
    | _ => cases h
theorem trPrim_snd (cx : Cxt t Tb k C md g q X) {f : Expr → Option E} (hf : SndF X Tb C f) {nm : Str} {args : List Expr} {p pos : Pos} {x : E} (hg : isGl q.sc nm = true) (hd : dunder nm = false) (hne : args ≠ [])
    (h : (match (if t.bl.contains nm then prims.lookup nm else t.im.lookup nm), trL f args with | some p, some a => some (E.prim p a) | _, _ => none) = some x) : PE X (.Call (.Name nm p) args [] pos) (tOf X.K Tb (ev C x)) := by
  split at h
  · rename_i pr a h1 h2
    cases h
    obtain ⟨k1, k2⟩ := trL_snd hf h2
    cases args with
    | nil => exact absurd rfl hne
    | cons e es =>
      rw [List.all_cons, Bool.and_eq_true] at k2
      have hs : isStar e = false := by simpa using k2.1
      split at h1
      · rename_i hb
        obtain ⟨b1, b2⟩ := boot_prims _ (mem_of_lk h1)
        exact snd_prim cx.calm cx.hu pr b2 (primAt cx hg hd hb b1) k1 hs k2.2
      · obtain ⟨m1, m2⟩ := cx.glb.im nm pr h1
        unfold dunder at hd
        simp only [Bool.or_eq_false_iff] at hd
        exact snd_prim cx.calm cx.hu pr m2 ⟨cx.gl hg, .inr m1, hd.1.1⟩ k1 hs k2.2
  · cases h
theorem boot_isi' : bootBuiltins "isinstance" = some (.builtin "isinstance") := by decide +kernel
theorem boot_sorted' : bootBuiltins "sorted" = some (.builtin "sorted") := by decide +kernel
theorem room_le {j i : Nat} {A : Around} (r : Room (j + i) A) : Room j A := r.mono (Nat.le_add_right _ _)
theorem trRng_snd (cx : Cxt t Tb k C md g q X) {f : Expr → Option E} (hf : SndF X Tb C f) {nm : Str} {args : List Expr} {p pos : Pos} {x : E} (hg : isGl q.sc nm = true) (h : trRng t q f nm args = some x) : PE X (.Call (.Name nm p) args [] pos) (tOf X.K Tb (ev C x)) := by
  unfold trRng at h
  split at h
  · split at h
    · rename_i rn rp a ip hc
      simp only [Bool.and_eq_true, Bool.or_eq_true, Bool.not_eq_true'] at hc
      obtain ⟨⟨⟨⟨hn, hb⟩, hr⟩, hbr⟩, hs⟩ := hc
      obtain ⟨y, h1, rfl⟩ := Option.map_eq_some_iff.mp h
      obtain rfl := eq_of_beq hr
      exact snd_rng1 cx.calm (cx.gl hg) (cx.glb.bl nm hb) hn (cx.bl hbr).1 (cx.bl hbr).2 hs (hf a y h1).1
    · cases h
  · split at h
    · rename_i rn rp a b ip hc
      simp only [Bool.and_eq_true, Bool.or_eq_true, Bool.not_eq_true'] at hc
      obtain ⟨⟨⟨⟨⟨hn, hb⟩, hr⟩, hbr⟩, hs⟩, hs2⟩ := hc
      obtain rfl := eq_of_beq hr
      split at h
      · rename_i y z h1 h2
        cases h
        exact snd_rng2 cx.calm (cx.gl hg) (cx.glb.bl nm hb) hn (cx.bl hbr).1 (cx.bl hbr).2 hs hs2 (hf a y h1).1 (hf b z h2).1
      · cases h
    · cases h
  · cases h
theorem trCall_snd (cx : Cxt t Tb k C md g q X) (hR : SndR t Tb k C R) {nm : Str} {args : List Expr} {p pos : Pos} {x : E} (h : trCall t R md g q nm args = some x) : PE X (.Call (.Name nm p) args [] pos) (tOf X.K Tb (ev C x)) := by
  have hf := hR md g q X cx
  unfold trCall at h
  split at h
  · cases h
  · rename_i i n hgd hl
    rw [Bool.and_eq_true, Bool.not_eq_true'] at hgd
    have hd := hgd.2
    unfold dunder at hd
    simp only [Bool.or_eq_false_iff] at hd
    split at h
    · rename_i hn
      obtain ⟨a, h1, rfl⟩ := Option.map_eq_some_iff.mp h
      obtain ⟨k1, k2⟩ := trL_snd hf h1
      have F := cx.glb.fs nm i n hl
      cases args with
      | nil =>
        cases h1
        have hn : n = 0 := hn.symm
        subst hn
        exact snd_call0 F (room_le cx.room) (cx.gl hgd.1) hd.1.1
      | cons e es =>
        rw [List.all_cons, Bool.and_eq_true] at k2
        exact snd_call F (room_le cx.room) (cx.gl hgd.1) hd.1.1 k1 (by simpa using k2.1) k2.2 hn.symm fun env st l st' hl => trL_len h1 hl
    · cases h
  · rename_i hgd hl
    rw [Bool.and_eq_true, Bool.not_eq_true'] at hgd
    split at h
    · rename_i e hr
      cases h
      exact trRng_snd cx hf hgd.1 hr
    rename_i hrn
    clear hrn
    split at h
    · cases h
    · rename_i elt gs scope gpos
      split at h
      · rename_i hb
        split at h
        · rename_i e
          have e := eq_of_beq e
          exact trGen_snd cx hR (al := true) (primAt cx hgd.1 hgd.2 hb (by rw [e]; exact boot_all')) h
        · split at h
          · rename_i e
            have e := eq_of_beq e
            exact trGen_snd cx hR (al := false) (primAt cx hgd.1 hgd.2 hb (by rw [e]; exact boot_any')) h
          · cases h
      · cases h
    · rename_i e c cp
      split at h
      · rename_i hi
        rw [Bool.and_eq_true] at hi
        have e0 := eq_of_beq hi.1
        split at h
        · rename_i a i h1 h2 h3
          cases h
          exact snd_isi (primAt cx hgd.1 hgd.2 hi.2 (by rw [e0]; exact boot_isi')) (trCls_ok cx h3) (hf e a h2).1 h1
        · cases h
      · exact trPrim_snd cx hf hgd.1 hgd.2 (by simp) h
    · rename_i e cs kt cp
      split at h
      · rename_i hi
        rw [Bool.and_eq_true] at hi
        have e0 := eq_of_beq hi.1
        split at h
        · rename_i a l h1 h2 h3
          split at h
          · rename_i hl30
            cases h
            exact snd_isiT (primAt cx hgd.1 hgd.2 hi.2 (by rw [e0]; exact boot_isi')) (trClss_ok cx h3) hl30 (hf e a h2).1 h1
          · cases h
        · cases h
      · cases h
    · rename_i hne _ _ _
      exact trPrim_snd cx hf hgd.1 hgd.2 (fun z => by subst z; simp_all) h
end
end Mp
end
section
set_option Elab.async false
set_option linter.all false
set_option maxRecDepth 100000
set_option maxHeartbeats 2000000
/-! The translation is sound: all expressions. -/
namespace Mp
open PySem PySem.Spec L2 PyProof.Rows
section
variable {t : Tx} {Tb : List (Addr × Option Str)} {k md g : Nat} {C : CallF} {q : Sc} {X : Cx} {R : Rec}
theorem trCmp_op (o : CmpOp) : (trCmp o).op = o := by cases o <;> rfl
theorem trBin_op {o : Operator} {b : Bin} (h : trBin o = some b) : b.op = o := by
  cases o <;> first
    | (cases h; rfl)
    | cases h
/-- and, or -/
theorem pw_one_and {a : Expr} {pos : Pos} {tA : TT} (h : PT X a tA) : PW X (.BoolOp .And [a] pos) tA := pw_and1 h
theorem trBool_snd (op : BoolOp) (kk : E → E → E) (hk : (op = .And ∧ kk = E.and) ∨ (op = .Or ∧ kk = E.or)) {f : Expr → Option E} (hf : SndF X Tb C f) {pos : Pos} : ∀ {es : List Expr} {x : E}, trBool f kk es = some x →
    PE X (.BoolOp op es pos) (tOf X.K Tb (ev C x)) ∧ PW X (.BoolOp op es pos) (tOfB X.K Tb fun env => bnd (ev C x env) truth)
  | [], x, h => by cases h
  | [a], x, h => by
    unfold trBool at h
    split at h
    · rename_i ht
      obtain ⟨k1, k2⟩ := hf a x h
      rcases hk with ⟨rfl, rfl⟩ | ⟨rfl, rfl⟩
      · exact ⟨⟨fun pins s σ H Q I hw => k1.run pins s σ H Q I hw⟩, pw_and1 (k2 ht)⟩
      · exact ⟨⟨fun pins s σ H Q I hw => k1.run pins s σ H Q I hw⟩, pw_or1 (k2 ht)⟩
    · cases h
  | a :: b :: r, x, h => by
    unfold trBool at h
    split at h
    · rename_i x1 y1 h1 h2 h3
      cases h
      obtain ⟨k1, k2⟩ := hf a x1 h2
      obtain ⟨k3, k4⟩ := trBool_snd op kk hk hf (pos := pos) h3
      rcases hk with ⟨rfl, rfl⟩ | ⟨rfl, rfl⟩
      · exact ⟨snd_and k1 k3, tst_and (k2 h1) k4⟩
      · exact ⟨snd_or k1 k3, tst_or (k2 h1) k4⟩
    · cases h
theorem trPart_snd {f : Expr → Option E} (hf : SndF X Tb C f) {o : Option Expr} {b : Bool} {x : E} (h : trPart f o = some (b, x)) : PartOk X Tb C o b x := by
  cases o with
  | none => cases h; exact ⟨rfl, rfl⟩
  | some e =>
    simp only [trPart] at h
    obtain ⟨y, h1, h2⟩ := Option.map_eq_some_iff.mp h
    cases h2
    exact ⟨rfl, (hf e _ h1).1⟩
theorem plainIx_is {e : Expr} (h : plainIx e = true) : PlainIx e := by
  intro o i
  cases e <;> first
    | rfl
    | cases h
theorem keyC_ok {params : Arguments} {body : Expr} {scope : Scope} (h : keyC params body scope = true) : KeyLam params body scope := by
  unfold keyC at h
  split at h
  · rename_i x p0 l p1 y p2 p3 z p4 kk p5
    simp only [Bool.and_eq_true, beq_iff_eq, Bool.not_eq_true', decide_eq_true_eq, List.all_eq_true, bne_iff_ne] at h
    obtain ⟨⟨⟨⟨⟨⟨⟨⟨⟨h1, h2⟩, h3⟩, h4⟩, h5⟩, h6⟩, h7⟩, h8⟩, h9⟩, h10⟩ := h
    subst h1 h2 h3
    exact ⟨⟨x, p0, p1, p2, p3, p4, p5, kk, rfl, rfl, isLocal_is h4, by simpa using h5⟩, h6, h7, h8, isGl_is h9, fun y hy => h10 y hy⟩
  · cases h
theorem PE.cst {e : Expr} {d : D} {v : V} (h : PE X e (tC v)) (r : ∀ K α G, Rep K α G d v) (he : ∀ whole, PySem.isTrue e X.env whole = (do let v ← whole; standAt e.pos; holding [v] (truthy v))) : SndE X Tb C e (.con d) := leaf (snd_con h r) he
theorem trE_snd (t : Tx) (Tb : List (Addr × Option Str)) (k : Nat) (C : CallF) : ∀ n, SndR t Tb k C (trE t n) := by
  intro n
  induction n with
  | zero => intro md g q X cx e x h; cases h
  | succ n ih =>
    intro md g q X cx e x h
    have hf := ih md g q X cx
    cases e with
    | Name nm pos =>
      simp only [trE] at h
      split at h
      · cases h
      · rename_i hd
        have hd : dunder nm = false := by simpa using hd
        unfold dunder at hd
        simp only [Bool.or_eq_false_iff] at hd
        split at h
        · rename_i hv
          obtain ⟨i, h1, rfl⟩ := Option.map_eq_some_iff.mp h
          exact leaf (snd_var (by rw [cx.N]; exact slot_ok h1) (by rw [cx.sc]; exact isVis_is hv) hd.1.1 hd.1.2) fun _ => rfl
        · split at h
          · rename_i hg
            obtain ⟨d, h1, rfl⟩ := Option.map_eq_some_iff.mp h
            obtain ⟨u, v, m1, m2, m3⟩ := cx.glb.cs nm d h1
            exact PE.cst (pe_glob (cx.gl hg) m1 m2 hd.1.1) m3 fun _ => rfl
          · cases h
    | Constant c kk pos =>
      simp only [trE] at h
      obtain ⟨d, h1, rfl⟩ := Option.map_eq_some_iff.mp h
      cases c with
      | none => cases h1; exact PE.cst (v := .non) pe_non (fun _ _ _ => rfl) fun _ => rfl
      | bool b => cases h1; exact PE.cst (v := .bl b) pe_bl (fun _ _ _ => rfl) fun _ => rfl
      | int i => cases h1; exact PE.cst (v := .int i) pe_int (fun _ _ _ => rfl) fun _ => rfl
      | str s => cases h1; exact PE.cst (v := .str s) pe_str (fun _ _ _ => rfl) fun _ => rfl
      | _ => cases h1
    | Tuple es kk pos =>
      simp only [trE] at h
      obtain ⟨a, h1, rfl⟩ := Option.map_eq_some_iff.mp h
      exact leaf (snd_tup (trL_snd hf h1).1) fun _ => rfl
    | List es pos =>
      simp only [trE] at h
      obtain ⟨a, h1, rfl⟩ := Option.map_eq_some_iff.mp h
      exact leaf (snd_lst (trL_snd hf h1).1) fun _ => rfl
    | BinOp l op r pos =>
      simp only [trE] at h
      split at h
      · rename_i o a b h1 h2 h3
        cases h
        rw [← trBin_op h1]
        exact leaf (snd_bin o (hf l a h2).1 (hf r b h3).1) fun _ => rfl
      · cases h
    | UnaryOp op y pos =>
      cases op with
      | USub =>
        simp only [trE] at h
        obtain ⟨a, h1, rfl⟩ := Option.map_eq_some_iff.mp h
        exact leaf (snd_neg (hf y a h1).1) fun _ => rfl
      | Not =>
        simp only [trE] at h
        split at h
        · rename_i ht
          obtain ⟨a, h1, rfl⟩ := Option.map_eq_some_iff.mp h
          exact ⟨snd_not (hf y a h1).1, fun _ => tst_not ((hf y a h1).2 ht)⟩
        · cases h
      | _ => cases h
    | BoolOp op es pos =>
      cases op with
      | And =>
        simp only [trE] at h
        obtain ⟨k1, k2⟩ := trBool_snd .And .and (.inl ⟨rfl, rfl⟩) hf (pos := pos) h
        exact ⟨k1, fun _ => ⟨fun pins s σ H Q I hw => k2.run _ pins s σ H Q I hw⟩⟩
      | Or =>
        simp only [trE] at h
        obtain ⟨k1, k2⟩ := trBool_snd .Or .or (.inr ⟨rfl, rfl⟩) hf (pos := pos) h
        exact ⟨k1, fun _ => ⟨fun pins s σ H Q I hw => k2.run _ pins s σ H Q I hw⟩⟩
    | Compare l ops rs pos =>
      simp only [trE] at h
      split at h
      · rename_i o r
        split at h
        · rename_i a b h1 h2 h3
          cases h
          have k1 := snd_cmp (pos := pos) cx.hu (trCmp o) (not_set_marks h1) (hf l a h2).1 (hf r b h3).1
          have k2 := tst_cmp (pos := pos) cx.hu (trCmp o) (not_set_marks h1) (hf l a h2).1 (hf r b h3).1
          rw [trCmp_op] at k1 k2
          exact ⟨k1, fun _ => k2⟩
        · cases h
      · rename_i o p r r2
        split at h
        · rename_i a b c h1 h2 h3 h4
          cases h
          have k1 := snd_chain (pos := pos) cx.hu (trCmp o) (trCmp p) (not_set_marks h1) (hf l a h2).1 (hf r b h3).1 (hf r2 c h4).1
          have k2 := tst_chain (pos := pos) cx.hu (trCmp o) (trCmp p) (not_set_marks h1) (hf l a h2).1 (hf r b h3).1 (hf r2 c h4).1
          rw [trCmp_op, trCmp_op] at k1 k2
          exact ⟨k1, fun _ => k2⟩
        · cases h
      · cases h
    | IfExp c a b pos =>
      simp only [trE] at h
      split at h
      · rename_i x1 x2 x3 h1 h2 h3 h4
        cases h
        exact ⟨snd_ite ((hf c x1 h2).2 h1) (hf a x2 h3).1 (hf b x3 h4).1, fun z => by cases z⟩
      · cases h
    | Call fe args kws pos =>
      simp only [trE] at h
      split at h
      · rename_i nm p
        exact leaf (trCall_snd cx ih h) fun _ => rfl
      · rename_i nm p kn params body lsc lp kp
        split at h
        · rename_i e1
          split at h
          · rename_i hc
            simp only [Bool.and_eq_true, beq_iff_eq, decide_eq_true_eq, Bool.not_eq_true'] at hc
            obtain ⟨⟨⟨⟨⟨⟨h1, h2⟩, h3⟩, h4⟩, h5⟩, h6⟩, h7⟩ := hc
            subst h1 h2 h3
            obtain ⟨a, ha, rfl⟩ := Option.map_eq_some_iff.mp h
            obtain ⟨cd, P, hcode, TB, hP, hq⟩ := cx.cod
            obtain ⟨b1, b2⟩ := cx.bl h4
            refine leaf (snd_sortLen cx.hu (by have := cx.room.dp; omega) ⟨TB.code, TB.bm, TB.gP⟩ hcode hP hq ⟨b1, .inl ⟨b2, boot_sorted', by decide⟩, by decide⟩ (cx.glb.bl _ h5) (keyC_ok h7) h6 (hf e1 a ha).1) fun _ => rfl
          · cases h
        · cases h
      · rename_i o an apos
        have hbase : ∀ nm : Str, plainO o = true → attributeBase o nm X.env (eval o X.env) = eval o X.env := fun nm z => by
          cases o <;> first
            | rfl
            | cases z
        split at h
        · split at h
          · rename_i hc
            simp only [Bool.and_eq_true, beq_iff_eq] at hc
            obtain ⟨⟨h1, h2⟩, h3⟩ := hc
            subst h1
            obtain ⟨x1, h5, rfl⟩ := Option.map_eq_some_iff.mp h
            exact leaf (snd_pop (hf o x1 h5).1 (hbase _ h2) (by simpa using h3)) fun _ => rfl
          · cases h
        · rename_i e1
          split at h
          · rename_i hc
            simp only [Bool.and_eq_true, beq_iff_eq, Bool.not_eq_true'] at hc
            obtain ⟨⟨h2, h3⟩, h4⟩ := hc
            split at h
            · rename_i m1 x1 y1 hm h5 h6
              cases h
              unfold trMeth at hm
              split at hm
              · rename_i ha
                obtain rfl := eq_of_beq ha
                cases hm
                exact leaf (snd_app (hf o x1 h5).1 (hf e1 y1 h6).1 h4 (hbase _ h2) (by simpa using h3)) fun _ => rfl
              · split at hm
                · rename_i ha
                  obtain rfl := eq_of_beq ha
                  cases hm
                  exact leaf (snd_popAt (hf o x1 h5).1 (hf e1 y1 h6).1 h4 (hbase _ h2) (by simpa using h3)) fun _ => rfl
                · split at hm
                  · rename_i ha
                    obtain rfl := eq_of_beq ha
                    cases hm
                    exact leaf (snd_ext (hf o x1 h5).1 (hf e1 y1 h6).1 h4 (hbase _ h2) (by simpa using h3)) fun _ => rfl
                  · cases hm
            · cases h
          · cases h
        · cases h
      · cases h
    | Subscript a ix pos =>
      simp only [trE] at h
      split at h
      · rename_i lo hi p2
        split at h
        · rename_i x1 bl l bh hx h1 h2 h3
          cases h
          exact leaf (snd_slice (hf a x1 h1).1 (trPart_snd hf h2) (trPart_snd hf h3)) fun _ => rfl
        · cases h
      · split at h
        · rename_i hp
          split at h
          · rename_i x1 x2 h1 h2
            cases h
            exact leaf (snd_idx cx.hu (plainIx_is hp) (hf a x1 h1).1 (hf ix x2 h2).1) fun _ => rfl
          · cases h
        · cases h
    | ListComp elt gs scope pos =>
      simp only [trE] at h
      exact leaf (trComp_snd cx ih h).1 fun _ => rfl
    | Dict ks vs pos =>
      cases ks with
      | nil => cases vs with
        | nil =>
          cases h
          exact leaf snd_newD fun _ => rfl
        | cons _ _ => cases h
      | cons _ _ => cases h
    | _ => cases h
end
end Mp
end
section
set_option Elab.async false
set_option linter.all false
set_option maxRecDepth 100000
set_option maxHeartbeats 2000000
/-! The translation of statements, and that it is sound. -/
namespace Mp
open PySem PySem.Spec L2 PyProof.Rows
def isComp : Expr → Bool
  | .ListComp _ _ _ _ => true
  | .SetComp _ _ _ _ => true
  | .DictComp _ _ _ _ _ => true
  | _ => false
/-- names stored side by side, or by way of a tuple -/
def swp (sc : Scope) (ts vs : List Expr) : Option (Option (List Str)) :=
  if (!(ts.length == 2 || ts.length == 3) || vs.length != ts.length) = true then some none
  else if (vs.any isStar) = true then some none
  else
    let line := (Option.map (fun x => x.pos.line) ts.head?).getD 0
    let names := List.filterMap (fun x => match x with
      | Expr.Name id pos => if (sc.names.lookup id == some NameKind.local && pos.line == line) = true then some id else none
      | _ => none) ts
    if (names.length != ts.length || names.eraseDups.length != names.length) = true then some none
    else if vs.all (foldedForSure 8) = true then some none
    else if vs.all (constantsAlone 8) = true then none
    else some (some names)
/-- a display on a name that will change -/
def trRngC (t : Tx) (q : Sc) (f : Expr → Option E) (x : Str) (args : List Expr) (kws : List Keyword) : Option E := match args, kws with
  | [.Call (.Name r _) [a] [] _], [] => if x == "list" && isGl q.sc x && t.bl.contains x && r == "range" && blt t q "range" && !isStar a then f a else none
  | _, _ => none
def trOwn (t : Tx) (q : Sc) (R : Expr → Option E) (ow : List Nat) (i : Nat) (e : Expr) : Option E := match ow.contains i, e with
  | true, .List es _ => (trL R es).map .newC
  | true, .Call (.Name x p) args kws cp => match trRngC t q R x args kws with
    | some a => some (.rngC a)
    | none => R (.Call (.Name x p) args kws cp)
  | _, e => R e
def trOwns (t : Tx) (q : Sc) (R : Expr → Option E) (ow : List Nat) : List Nat → List Expr → Option E
  | [], [] => some .nil
  | i :: is, e :: es => match isStar e, trOwn t q R ow i e, trOwns t q R ow is es with
    | false, some a, some b => some (.cons a b)
    | _, _, _ => none
  | _, _ => none
def locals (sc : Scope) : List Expr → Bool
  | [] => true
  | .Name x _ :: r => isLocal sc x && locals sc r
  | _ => false
def trAsg (t : Tx) (ow : List Nat) (R : Rec) (md g : Nat) (q : Sc) (tg e : Expr) (pos : Pos) : Option S := match tg with
  | .Name x py => match trNm t q x with
    | none => none
    | some i => match e with
      | .ListComp elt gs scope lp =>
        if isLocal q.sc x then (if py.line == lp.line && !(scope.names.any fun (n, k) => n == x && (k == .local || k == .cell)) then (trComp t R md g q elt gs scope).map (.asg (.one i)) else none)
        else (trComp t R md g q elt gs scope).map (.asg (.one i))
      | e => if isComp e then none else (trOwn t q (R md g q) ow i e).map (.asg (.one i))
  | .Tuple ts kt pt => match e with
    | .Tuple vs k2 p2 => match swp q.sc ts vs with
      | some none => match trPat t q (.Tuple ts kt pt), R md g q (.Tuple vs k2 p2) with
        | some p, some x => some (.asg p x)
        | _, _ => none
      | some (some _) => match trNms t q ts with
        | some is => if decide is.Nodup && locals q.sc ts then (trOwns t q (R md g q) ow is vs).map (.par is) else none
        | none => none
      | none => none
    | e => if isComp e then none else match trPat t q (.Tuple ts kt pt), R md g q e with
      | some p, some x => some (.asg p x)
      | _, _ => none
  | .Subscript o i _ => if isComp e || isStar e || !plainIx i then none else match R md g q o, R md g q i, R md g q e with
    | some a, some b, some c => some (.setIdx a b c)
    | _, _, _ => none
  | _ => none
def trSs (f : Stmt → Option S) : List Stmt → Option S
  | [] => some .skip
  | [s] => f s
  | s :: r => match f s, trSs f r with
    | some a, some b => some (.seq a b)
    | _, _ => none
def trS (t : Tx) (ow : List Nat) (R : Rec) (md g : Nat) (q : Sc) : Nat → Stmt → Option S
  | 0, _ => none
  | n + 1, s => match s with
    | .Pass _ => some .skip
    | .Expr e _ => match e with
      | .Constant (.str _) _ _ => some .skip
      | e => if isComp e then none else (R md g q e).map .drop
    | .Assign tgs e pos => match tgs with
      | [tg] => trAsg t ow R md g q tg e pos
      | _ => none
    | .AugAssign tg op e _ => match tg, op with
      | .Name x _, .Add => match trNm t q x, R md g q e with
        | some i, some a => some (.aug i a)
        | _, _ => none
      | _, _ => none
    | .Return o _ => match o with
      | none => some (.ret (.con .non))
      | some e => (R md g q e).map .ret
    | .If c a b _ => match tOk c, R md g q c, trSs (trS t ow R md g q n) a, trSs (trS t ow R md g q n) b with
      | true, some c, some a, some b => some (.ite c a b)
      | _, _, _, _ => none
    | .For tg iter body els _ => match els with
      | [] => match trPat t q tg, trI t q (R md g q) tg iter, trSs (trS t ow R md g q n) body with
        | some p, some s, some b => some (.for_ p s b)
        | _, _, _ => none
      | _ => none
    | .While c body els _ => match els with
      | [] => match tOk c, R md g q c, trSs (trS t ow R md g q n) body with
        | true, some c, some b => some (.while_ c b)
        | _, _, _ => none
      | _ => none
    | .Raise _ _ _ => some .never
    | _ => none
section
variable {t : Tx} {Tb : List (Addr × Option Str)} {k md g : Nat} {C : CallF} {q : Sc} {X : Cx} {R : Rec} {ow : List Nat}
theorem sole_eq (tg e : Expr) (l : Nat) (env : PySem.Env) : swapsWithSole [tg] e l env = swapsWith e (some tg) l env := by
  unfold swapsWithSole
  rfl
theorem swaps_no {e : Expr} (h : isComp e = false) (tg : Option Expr) (l : Nat) (env : PySem.Env) : swapsWith e tg l env = pure false := by
  cases e <;> first
    | (cases h; done)
    | rfl
theorem sole_no {e : Expr} (h : isComp e = false) (tg : Expr) (l : Nat) (env : PySem.Env) : swapsWithSole [tg] e l env = pure false := (sole_eq tg e l env).trans (swaps_no h _ _ _)
theorem two_len {α : Type} : ∀ {l : List α}, l.length = 2 → ∃ a b, l = [a, b]
  | [a, b], _ => ⟨a, b, rfl⟩
theorem three_len {α : Type} : ∀ {l : List α}, l.length = 3 → ∃ a b c, l = [a, b, c]
  | [a, b, c], _ => ⟨a, b, c, rfl⟩
theorem swp_two {sc : Scope} {y z : Str} {py pz : Pos} {vs : List Expr} {nms : List Str} (hy : sc.names.lookup y = some .local) (hz : sc.names.lookup z = some .local) (h : swp sc [.Name y py, .Name z pz] vs = some (some nms)) : vs.length = 2 ∧ nms = [y, z] := by
  unfold swp at h
  split at h
  · cases h
  · rename_i h1
    split at h
    · cases h
    · have hv : vs.length = 2 := by simpa using h1
      refine ⟨hv, ?_⟩
      by_cases hl : (pz.line == py.line) = true
      · simp only [List.filterMap, hy, hz, List.head?, Option.map, Option.getD, Expr.pos, hl, beq_self_eq_true, Bool.and_self, if_true] at h
        repeat' split at h
        all_goals first
          | (cases h; done)
          | (cases h; rfl)
      · simp only [Bool.not_eq_true] at hl
        simp only [List.filterMap, hy, hz, List.head?, Option.map, Option.getD, Expr.pos, hl, beq_self_eq_true, Bool.and_self, if_true, Bool.and_false, Bool.false_eq_true, if_false, List.length] at h
        simp at h
theorem swp_three {sc : Scope} {y z u : Str} {py pz pu : Pos} {vs : List Expr} {nms : List Str} (hy : sc.names.lookup y = some .local) (hz : sc.names.lookup z = some .local) (hu : sc.names.lookup u = some .local) (h : swp sc [.Name y py, .Name z pz, .Name u pu] vs = some (some nms)) : vs.length = 3 ∧ nms = [y, z, u] := by
  unfold swp at h
  split at h
  · cases h
  · rename_i h1
    split at h
    · cases h
    · have hv : vs.length = 3 := by simpa using h1
      refine ⟨hv, ?_⟩
      by_cases hl : (pz.line == py.line) = true
      · by_cases hm : (pu.line == py.line) = true
        · simp only [List.filterMap, hy, hz, hu, List.head?, Option.map, Option.getD, Expr.pos, hl, hm, beq_self_eq_true, Bool.and_self, if_true] at h
          repeat' split at h
          all_goals first
            | (cases h; done)
            | (cases h; rfl)
        · simp only [Bool.not_eq_true] at hm
          simp only [List.filterMap, hy, hz, hu, List.head?, Option.map, Option.getD, Expr.pos, hl, hm, beq_self_eq_true, Bool.and_self, if_true, Bool.and_false, Bool.false_eq_true, if_false, List.length] at h
          simp at h
      · simp only [Bool.not_eq_true] at hl
        by_cases hm : (pu.line == py.line) = true
        · simp only [List.filterMap, hy, hz, hu, List.head?, Option.map, Option.getD, Expr.pos, hl, hm, beq_self_eq_true, Bool.and_self, if_true, Bool.and_false, Bool.false_eq_true, if_false, List.length] at h
          simp at h
        · simp only [Bool.not_eq_true] at hm
          simp only [List.filterMap, hy, hz, hu, List.head?, Option.map, Option.getD, Expr.pos, hl, hm, beq_self_eq_true, Bool.and_self, if_true, Bool.and_false, Bool.false_eq_true, if_false, List.length] at h
          simp at h
theorem swp_len {sc : Scope} {ts vs : List Expr} {nms : List Str} (h : swp sc ts vs = some (some nms)) : ts.length = 2 ∨ ts.length = 3 := by
  unfold swp at h
  split at h
  · cases h
  · rename_i h1
    simp only [Bool.or_eq_true, Bool.not_eq_true', not_or, bne_iff_ne, ne_eq, Decidable.not_not, beq_iff_eq, Bool.not_eq_false] at h1
    exact h1.1
theorem tup_no {tg e : Expr} (h : isTup e = false) (env : PySem.Env) : swappedStores [tg] e env = pure none := by
  cases e <;> first
    | (cases h; done)
    | (cases tg <;> rfl)
theorem nm_no {x : Str} {p : Pos} {e : Expr} {env : PySem.Env} : swappedStores [.Name x p] e env = pure none := by
  cases e <;> rfl
theorem sub_no {a b e : Expr} {p : Pos} {env : PySem.Env} : swappedStores [.Subscript a b p] e env = pure none := by
  cases e <;> rfl
theorem swp_ok {ts vs : List Expr} {kt k2 : Nat} {pt p2 : Pos} {r : Option (List Str)} {env : PySem.Env} (hk : env.scope.kind = .function) (h : swp env.scope ts vs = some r) : swappedStores [.Tuple ts kt pt] (.Tuple vs k2 p2) env = pure r := by
  have hb : env.blockKind = .function := by unfold Env.blockKind; rw [hk]; rfl
  unfold swappedStores
  simp only [hb, bne_self_eq_false, Bool.or_false]
  unfold swp at h
  by_cases h1 : (!(ts.length == 2 || ts.length == 3) || vs.length != ts.length) = true
  · rw [if_pos h1] at h
    cases h
    exact if_pos h1
  · rw [if_neg h1] at h
    rw [if_neg h1]
    by_cases h2 : (vs.any isStar) = true
    · rw [if_pos h2] at h
      cases h
      exact if_pos ((congrArg vs.any (funext fun x => by cases x <;> rfl)).trans h2)
    · rw [if_neg h2] at h
      refine (if_neg fun z => h2 ((congrArg vs.any (funext fun x => by cases x <;> rfl)).trans z)).trans ?_
      simp only at h
      split at h
      · rename_i h3
        cases h
        exact if_pos h3
      · rename_i h3
        refine (if_neg h3).trans ?_
        split at h
        · rename_i h4
          cases h
          exact if_pos h4
        · rename_i h4
          rw [if_neg h4]
          split at h
          · cases h
          · rename_i h5
            cases h
            exact if_neg h5
theorem asg_sub {o i : Expr} {sp : Pos} {env : PySem.Env} (h : plainIx i = true) (v : PySem.Value) : assign (.Subscript o i sp) env v = (do
      let ov ← holding [v] (eval o env)
      let iv ← holding [v, ov] (eval i env)
      standAt sp
      holding [v, ov, iv] (setItem ov iv v)
      release [v, ov, iv] []) := by
  refine (arm_assign_Subscript o i sp env v).trans ?_
  cases i <;> first
    | rfl
    | cases h
/-- sound: a statement -/
def SndS (X : Cx) (Tb : List (Addr × Option Str)) (C : CallF) (s : Stmt) (x : S) : Prop := PS X s (tEx X.K Tb (exec C x))
theorem trRngC_snd (cx : Cxt t Tb k C md g q X) {f : Expr → Option E} (hf : SndF X Tb C f) {nm : Str} {p cp : Pos} {args : List Expr} {kws : List Keyword} {x : E} (h : trRngC t q f nm args kws = some x) : PE X (.Call (.Name nm p) args kws cp) (tOf X.K Tb (ev C (.rngC x))) := by
  unfold trRngC at h
  split at h
  · split at h
    · rename_i hc
      simp only [Bool.and_eq_true, Bool.not_eq_true'] at hc
      obtain ⟨⟨⟨⟨⟨h1, h2⟩, h3⟩, h4⟩, h5⟩, h6⟩ := hc
      obtain rfl := eq_of_beq h1
      obtain rfl := eq_of_beq h4
      exact snd_rngC cx.calm (cx.gl h2) (cx.glb.bl _ h3) (cx.bl h5).1 (cx.bl h5).2 h6 (hf _ x h).1
    · cases h
  · cases h
theorem trOwn_snd (cx : Cxt t Tb k C md g q X) {f : Expr → Option E} (hf : SndF X Tb C f) {i : Nat} {e : Expr} {x : E} (h : trOwn t q f ow i e = some x) : PE X e (tOf X.K Tb (ev C x)) := by
  unfold trOwn at h
  split at h
  · obtain ⟨a, h1, rfl⟩ := Option.map_eq_some_iff.mp h
    exact snd_newC (trL_snd hf h1).1
  · split at h
    · rename_i a h1
      cases h
      exact trRngC_snd cx hf h1
    · exact (hf _ x h).1
  · exact (hf _ x h).1
theorem trOwns_snd (cx : Cxt t Tb k C md g q X) {f : Expr → Option E} (hf : SndF X Tb C f) : ∀ {is : List Nat} {es : List Expr} {x : E}, trOwns t q f ow is es = some x → PA X es (tOfL X.K Tb fun env => bnd (ev C x env) listOf) ∧ is.length = es.length
  | [], [], x, h => by
    cases h
    exact ⟨snd_nil, rfl⟩
  | [], _ :: _, _, h => by cases h
  | _ :: _, [], _, h => by cases h
  | i :: is, e :: es, x, h => by
    unfold trOwns at h
    split at h
    · rename_i a b h1 h2 h3
      cases h
      obtain ⟨k1, k2⟩ := trOwns_snd cx hf h3
      exact ⟨snd_cons (isStar_ne h1) (trOwn_snd cx hf h2) k1, by rw [List.length_cons, List.length_cons, k2]⟩
    · cases h
theorem locals_is {sc : Scope} : ∀ {ts : List Expr}, locals sc ts = true → ∀ x ∈ ts, ∃ y p, x = .Name y p ∧ sc.names.lookup y = some .local
  | [], _, _, h => by cases h
  | e :: r, h, x, hx => by
    cases e with
    | Name y p =>
      simp only [locals, Bool.and_eq_true] at h
      rcases List.mem_cons.mp hx with rfl | hx
      · exact ⟨y, p, rfl, isLocal_is h.1⟩
      · exact locals_is h.2 x hx
    | _ => cases h
theorem trAsg_snd (cx : Cxt t Tb k C md g q X) (hkind : X.env.scope.kind = .function) (hR : SndR t Tb k C R) {tg e : Expr} {pos : Pos} {x : S} (h : trAsg t ow R md g q tg e pos = some x) : SndS X Tb C (.Assign [tg] e pos) x := by
  have hf := hR md g q X cx
  unfold trAsg at h
  split at h
  · rename_i nm py
    split at h
    · cases h
    · rename_i i hi
      have hnm := trNm_ok cx hi
      split at h
      · rename_i elt gs scope lp
        split at h
        · rename_i hloc
          split at h
          · rename_i hc
            rw [Bool.and_eq_true, Bool.not_eq_true'] at hc
            obtain ⟨a, h1, rfl⟩ := Option.map_eq_some_iff.mp h
            have hl : X.env.scope.names.lookup nm = some .local := by rw [cx.sc]; exact isLocal_is hloc
            exact (trComp_snd cx hR (pos := lp) h1).2 i nm py pos hnm.at_ hl (sw_true hkind hl (by simpa using hc.1) hc.2)
          · cases h
        · rename_i hloc
          obtain ⟨a, h1, rfl⟩ := Option.map_eq_some_iff.mp h
          refine snd_asg cx.calm cx.hN (p := .one i) hnm (trComp_snd cx hR h1).1 ?_ nm_no rfl
          have hl : (X.env.kindOf nm == some NameKind.local) = false := by
            show (X.env.scope.names.lookup nm == some NameKind.local) = false
            rw [cx.sc]
            simpa [isLocal] using hloc
          refine (sole_eq _ _ _ _).trans ?_
          unfold swapsWith
          simp only [hl, Bool.and_false, Bool.false_and]
      · split at h
        · cases h
        · rename_i hcomp
          obtain ⟨a, h1, rfl⟩ := Option.map_eq_some_iff.mp h
          exact snd_asg cx.calm cx.hN (p := .one i) hnm (trOwn_snd cx hf h1) (sole_no (by simpa using hcomp) _ _ _) nm_no rfl
  · rename_i ts kt pt
    split at h
    · rename_i vs k2 p2
      split at h
      · rename_i hs
        split at h
        · rename_i p a h1 h2
          cases h
          refine snd_asg cx.calm cx.hN (trPat_ok cx h1) (hf _ a h2).1 rfl (swp_ok hkind (by rw [cx.sc]; exact hs)) rfl
        · cases h
      · rename_i nms hs
        split at h
        · rename_i is h1
          split at h
          · rename_i hc
            rw [Bool.and_eq_true, decide_eq_true_eq] at hc
            obtain ⟨a, h2, rfl⟩ := Option.map_eq_some_iff.mp h
            obtain ⟨k1, k2'⟩ := trOwns_snd cx hf h2
            have hsw := swp_ok (kt := kt) (k2 := k2) (pt := pt) (p2 := p2) hkind (r := some nms) (by rw [cx.sc]; exact hs)
            have hnms := trNms_ok cx h1
            have hscn : X.env.scope.names = q.sc.names := by rw [cx.sc]
            have hloc := locals_is hc.2
            have e0 : ∀ (y : Str) (p : Pos), trNms t q [.Name y p] = (trNm t q y).map (fun i => [i]) := fun y p => by
              simp only [trNms]
              cases trNm t q y <;> rfl
            rcases swp_len hs with hl | hl
            · obtain ⟨b1, b2, rfl⟩ := two_len hl
              obtain ⟨y, py, rfl, hy⟩ := hloc b1 (by simp)
              obtain ⟨z, pz, rfl, hz⟩ := hloc b2 (by simp)
              obtain ⟨hv, rfl⟩ := swp_two hy hz hs
              obtain ⟨ea, eb, rfl⟩ := two_len hv
              rw [trNms, e0] at h1
              cases q1 : trNm t q y with
              | none => rw [q1] at h1; cases h1
              | some i =>
                cases q2 : trNm t q z with
                | none => rw [q1, q2] at h1; cases h1
                | some j =>
                  rw [q1, q2] at h1
                  cases h1
                  have hij : i ≠ j := by simpa using hc.1
                  exact snd_par2 cx.calm cx.hN (trNm_ok cx q1).at_ (trNm_ok cx q2).at_ hij (by rw [hscn]; exact hy) (by rw [hscn]; exact hz) k1 hsw ((sole_no rfl _ _ _))
            · obtain ⟨b1, b2, b3, rfl⟩ := three_len hl
              obtain ⟨y, py, rfl, hy⟩ := hloc b1 (by simp)
              obtain ⟨z, pz, rfl, hz⟩ := hloc b2 (by simp)
              obtain ⟨u, pu, rfl, hu⟩ := hloc b3 (by simp)
              obtain ⟨hv, rfl⟩ := swp_three hy hz hu hs
              obtain ⟨ea, eb, ec, rfl⟩ := three_len hv
              rw [trNms, trNms, e0] at h1
              cases q1 : trNm t q y with
              | none => rw [q1] at h1; cases h1
              | some i =>
                cases q2 : trNm t q z with
                | none => rw [q1, q2] at h1; cases h1
                | some j =>
                  cases q3 : trNm t q u with
                  | none => rw [q1, q2, q3] at h1; cases h1
                  | some l =>
                    rw [q1, q2, q3] at h1
                    cases h1
                    have hn : ¬(i = j ∨ i = l) ∧ ¬j = l := by simpa using hc.1
                    exact snd_par3 cx.calm cx.hN (trNm_ok cx q1).at_ (trNm_ok cx q2).at_ (trNm_ok cx q3).at_ (fun z => hn.1 (.inl z)) (fun z => hn.1 (.inr z)) hn.2 (by rw [hscn]; exact hy) (by rw [hscn]; exact hz) (by rw [hscn]; exact hu) k1 hsw ((sole_no rfl _ _ _))
          · cases h
        · cases h
      · cases h
    · split at h
      · cases h
      · rename_i hcomp
        split at h
        · rename_i p a h1 h2
          cases h
          exact snd_asg cx.calm cx.hN (trPat_ok cx h1) (hf _ a h2).1 (sole_no (by simpa using hcomp) _ _ _) (tup_no (by
            cases e <;> first
              | rfl
              | simp_all) _) rfl
        · cases h
  · rename_i o i sp
    split at h
    · cases h
    · rename_i hc
      simp only [Bool.or_eq_true, not_or, Bool.not_eq_true', Bool.not_eq_true] at hc
      split at h
      · rename_i a b c h1 h2 h3
        cases h
        exact snd_setIdx cx.hu (hf o a h1).1 (hf i b h2).1 (hf e c h3).1 (sole_no hc.1.1 _ _ _) sub_no rfl (fun v => asg_sub (by simpa using hc.2) v)
      · cases h
  · cases h
end
end Mp
end
section
set_option Elab.async false
set_option linter.all false
set_option maxRecDepth 100000
set_option maxHeartbeats 2000000
/-! Every statement that is translated is sound. -/
namespace Mp
open PySem PySem.Spec L2 PyProof.Rows
section
variable {t : Tx} {Tb : List (Addr × Option Str)} {k md g : Nat} {C : CallF} {q : Sc} {X : Cx} {R : Rec} {ow : List Nat}
theorem snd_aug {i : Nat} {x : Str} {e : Expr} {y : E} {pos pos' : Pos} (hN : X.N.Nodup) (hi : X.N[i]? = some x) (hx : Loc X.env.scope x) (hf : X.fn x = true ∨ X.env.scope.names.lookup x = some .local) (he : PE X e (tOf X.K Tb (ev C y))) : PS X (.AugAssign (.Name x pos') .Add e pos) (tEx X.K Tb (exec C (.aug i y))) := by
  refine PS.by fun Dn σ H h => ⟨_, ps_aug hN hi hx he ip_add hf, ?_⟩
  obtain ⟨β, α, st, env, o, en, h⟩ := h
  simp only [exec] at h
  split at h
  · rename_i a ha
    obtain ⟨v, hv, rv⟩ := en.2 i _ ha
    cases rv
    refine ⟨_, hv, ?_⟩
    have h' : tEx X.K Tb (fun env st => run' (ev C y env) st fun d st => match d with
      | .int b => .next (env.set i (some (.int (a + b)))) st
      | _ => .bad) Dn σ H := tEx_mk o en h
    refine tOf.imp (run_E (m := ev C y) (f := fun env d st => match d with
      | .int b => .next (env.set i (some (.int (a + b)))) st
      | _ => .bad) h') fun v H1 ⟨β, α, st, env, d, o, en, r, hO⟩ => ?_
    cases d with
    | int b =>
      cases r
      exact ⟨_, _, rfl, rfl, hO.here o (en.set i rfl)⟩
    | _ => exact hO.elim
  · exact h.elim
theorem trSs_snd {f : Stmt → Option S} (hf : ∀ s x, f s = some x → SndS X Tb C s x) : ∀ {l : List Stmt} {x : S}, trSs f l = some x → PSs X l (tEx X.K Tb (exec C x))
  | [], x, h => by
    cases h
    exact snd_snil
  | [s], x, h => snd_sone (hf s x h)
  | s :: s2 :: r, x, h => by
    unfold trSs at h
    split at h
    · rename_i a b h1 h2
      cases h
      exact snd_scons (hf s a h1) (trSs_snd hf h2)
    · cases h
theorem trS_snd (cx : Cxt t Tb k C md g q X) (hxe : X.xe = fun _ _ => False) (hkind : X.env.scope.kind = .function) (hR : SndR t Tb k C R) : ∀ n s x, trS t ow R md g q n s = some x → SndS X Tb C s x := by
  intro n
  have hf := hR md g q X cx
  induction n with
  | zero => intro s x h; cases h
  | succ n ih =>
    intro s x h
    cases s with
    | Pass pos =>
      simp only [trS] at h
      cases h
      exact snd_skip ps_pass
    | Expr e pos =>
      simp only [trS] at h
      split at h
      · cases h
        exact snd_skip ps_doc
      · split at h
        · cases h
        · rename_i hc
          obtain ⟨a, h1, rfl⟩ := Option.map_eq_some_iff.mp h
          exact snd_drop (hf e a h1).1 (swaps_no (by simpa using hc) _ _ _)
    | Assign tgs e pos =>
      simp only [trS] at h
      split at h
      · exact trAsg_snd cx hkind hR h
      · cases h
    | AugAssign tg op e pos =>
      simp only [trS] at h
      split at h
      · rename_i nm py
        split at h
        · rename_i i a h1 h2
          cases h
          have hn := trNm_ok cx h1
          exact snd_aug cx.hN hn.at_ hn.loc hn.fn (hf e a h2).1
        · cases h
      · cases h
    | Return o pos =>
      simp only [trS] at h
      split at h
      · cases h
        exact snd_retN
      · obtain ⟨a, h1, rfl⟩ := Option.map_eq_some_iff.mp h
        exact snd_ret (hf _ a h1).1
    | If c a b pos =>
      simp only [trS] at h
      split at h
      · rename_i y u v h0 h1 h2 h3
        cases h
        exact snd_if ((hf c y h1).2 h0) (trSs_snd ih h2) (trSs_snd ih h3)
      · cases h
    | For tg iter body els pos =>
      simp only [trS] at h
      split at h
      · split at h
        · rename_i p s b h1 h2 h3
          cases h
          exact snd_for hxe cx.calm cx.hN (trPat_ok cx h1) (trI_snd cx hf h2) (trSs_snd ih h3) (not_set_fold (trI_set h2) _)
        · cases h
      · cases h
    | While c body els pos =>
      simp only [trS] at h
      split at h
      · split at h
        · rename_i y b h0 h1 h2
          cases h
          exact snd_while hxe ((hf c y h1).2 h0) (trSs_snd ih h2)
        · cases h
      · cases h
    | Raise a b pos =>
      simp only [trS] at h
      cases h
      exact snd_never
    | _ => cases h
end
end Mp
end
section
set_option Elab.async false
set_option linter.all false
set_option maxRecDepth 100000
set_option maxHeartbeats 2000000
/-! Defs, and what their runs answer. -/
namespace Mp
open PySem PySem.Spec L2 PyProof.Rows
/-- a def of the text: its name, its text, its slots, how many parameters, its mode, the slots whose displays change -/
structure Dd where
  x : Str
  st : Stmt
  N : List Str
  np : Nat
  md : Nat
  ow : List Nat
def Tx.at (t : Tx) (N : List Str) : Tx := { t with N := N }
def trDef (t : Tx) (g fuel : Nat) (d : Dd) : Option FD := (trSs (trS (t.at d.N) d.ow (trE (t.at d.N) fuel) d.md g ⟨defScope d.st, fun _ => true⟩ fuel) (defBody d.st)).map fun b => ⟨d.np, d.N.length, b⟩
/-- the code's table, by its value -/
def CodV (base : Heap) (mg : Str → Option Value) (Tb : List (Addr × Option Str)) (qual : Str) (cdv : Value) (md : Nat) : Prop := match md with
  | 1 => ∃ c P, cdv = .ref c ∧ GxR.TabB base mg c P ∧ (P, none) ∈ Tb ∧ ∀ q, (P, some q) ∉ Tb
  | 2 => ∃ c P, cdv = .ref c ∧ GxR.TabB base mg c P ∧ (P, some (qual ++ "<lambda>")) ∈ Tb ∧ ∀ z, (P, z) ∈ Tb → z = some (qual ++ "<lambda>")
  | _ => True
/-- a def as the top has left it -/
structure DdOk (K : PySem.W.Frag) (mg : Str → Option Value) (t : Tx) (T : List FD) (g fuel : Nat) (d : Dd) (i : Nat) (f : Addr) (cdv : Value) : Prop where
  at_ : ∃ (oc : Value) (od : Option Addr) (kV doc pm : Value) (an : Option Addr) (ct : Value) (osl : Array (Option Value)),
    K.lookup f = some ⟨oc, od, .func (PySem.W.fnOf d.x d.x (defArgs d.st) (defBody d.st) (defScope d.st) .none kV doc pm an cdv ct), osl⟩ ∧
      Binds K (PySem.W.fnOf d.x d.x (defArgs d.st) (defBody d.st) (defScope d.st) .none kV doc pm an cdv ct) (d.N.take d.np) []
  mgf : mg d.x = some (.ref f)
  kp : PySem.W.keepIn K (.ref f) = true
  cd : PySem.W.codeIn K cdv d.x = true
  sc : FnScope d.N (d.N.take d.np) (defScope d.st)
  np : d.np ≤ d.N.length
  tr : trDef t g fuel d = T[i]?
  has : i < T.length
section
variable {P : Program} {w : World} {K : PySem.W.Frag} {mg : Str → Option Value} {base : Heap} {t : Tx} {Tb : List (Addr × Option Str)} {T : List FD} {g fuel k : Nat}
theorem Glb.at_ {N : List Str} {C : CallF} (h : Glb P w K mg base t Tb k C) : Glb P w K mg base (t.at N) Tb k C := ⟨h.fs, h.cs, h.bl, h.im⟩
theorem nd_take {l : List Str} {n : Nat} (h : n ≤ l.length) : (l.take n).length = n := by
  rw [List.length_take]
  exact Nat.min_eq_left h
theorem codV_is {X : Cx} : ∀ {md : Nat}, CodV X.base X.mg Tb X.env.qual X.env.code md → Cod X Tb md
  | 0, _ => trivial
  | 1, h => h
  | 2, h => h
  | _ + 3, _ => trivial
theorem cod_of {X : Cx} {base : Heap} {mg : Str → Option Value} {qual : Str} {cdv : Value} {md : Nat} (h1 : X.base = base) (h2 : X.mg = mg) (h3 : X.env.qual = qual) (h4 : X.env.code = cdv) (h : CodV base mg Tb qual cdv md) : Cod X Tb md := by
  subst h1 h2 h3 h4
  exact codV_is h
theorem def_ok {d : Dd} {i : Nat} {f : Addr} {cdv : Value} {n : Nat} {oc kV doc pm ct : Value} {od an : Option Addr} {osl : Array (Option Value)} (D : DdOk K mg t T g fuel d i f cdv) (lk : K.lookup f = some ⟨oc, od, .func (PySem.W.fnOf d.x d.x (defArgs d.st) (defBody d.st) (defScope d.st) .none kV doc pm an cdv ct), osl⟩) (hcod : CodV base mg Tb (d.x ++ ".<locals>.") cdv d.md) (G : Glb P w K mg base t Tb k (run T n)) :
    FnOk P w K mg base CX0 (k + g + 1) f (PySem.W.fnOf d.x d.x (defArgs d.st) (defBody d.st) (defScope d.st) .none kV doc pm an cdv ct) (d.N.take d.np) (spOf K Tb (run T (n + 1) i) d.np) := by
  have htr := D.tr
  rw [List.getElem?_eq_getElem D.has] at htr
  unfold trDef at htr
  obtain ⟨b, h1, h2⟩ := Option.map_eq_some_iff.mp htr
  refine fn_of (CX := CX0) lk D.cd D.sc (fun vs H Q E h => ?_) (fun A outer s H vs Q E hr h => ?_)
  · obtain ⟨β, α, st, l, hl, o, r, h⟩ := h
    rw [nd_take D.np, ← hl]
    first
      | exact r.length
      | exact r.length.symm
  · obtain ⟨β, α, st, l, hl, o, r, h⟩ := h
    have cx : Cxt (t.at d.N) Tb k (run T n) d.md g ⟨defScope d.st, fun _ => true⟩ (cxOf CX0 P w K mg base d.N d.x (defScope d.st) f cdv A outer s H E).nox := by
      refine ⟨G.at_, rfl, D.sc.nd, rfl, rfl, rfl, hr, ?_⟩
      exact cod_of (base := base) (mg := mg) (qual := d.x ++ ".<locals>.") (cdv := cdv) rfl rfl rfl rfl hcod
    have hbody := trSs_snd (trS_snd (ow := d.ow) cx rfl D.sc.kind (trE_snd (t.at d.N) Tb k (run T n) fuel) fuel) h1
    refine ⟨_, hbody.nox, ?_⟩
    have hrun : run T (n + 1) i l = callB (run T n) (T[i]'D.has) l := by
      simp only [run, List.getElem?_eq_getElem D.has]
    rw [hrun, ← h2] at h
    have hlen : l.length ≤ d.N.length := by rw [hl]; exact D.np
    have en := start_env (N := d.N) (ns := d.N.length) r rfl hlen
    refine tEx_mk (n := (L2.start d.N vs).length) o en ?_
    unfold callB at h
    simp only [hl, decide_true] at h
    rw [hl]
    cases q : exec (run T n) b (l.map some ++ List.replicate (d.N.length - d.np) none) st with
    | next env' st' =>
      rw [q] at h
      intro σ' α' H' s' o' e'
      exact sat_leave o o' s' (d := .non) (v := .non) rfl h
    | ret x st' =>
      rw [q] at h
      intro v α' H' s' o' r'
      exact sat_leave o o' s' r' h
    | bad =>
      rw [q] at h
      exact h
theorem def_sound {d : Dd} {i : Nat} {f : Addr} {cdv : Value} {n : Nat} (D : DdOk K mg t T g fuel d i f cdv) (hcod : CodV base mg Tb (d.x ++ ".<locals>.") cdv d.md) (G : Glb P w K mg base t Tb k (run T n)) :
    FnT P w K mg base Tb (k + g + 1) (run T (n + 1)) d.x i d.np := by
  obtain ⟨oc, od, kV, doc, pm, an, ct, osl, lk, hb⟩ := D.at_
  exact ⟨f, _, d.N.take d.np, D.mgf, D.kp, def_ok D lk hcod G, hb⟩
/-- what is known of the names -/
structure Nms (K : PySem.W.Frag) (mg : Str → Option Value) (t : Tx) : Prop where
  cs : ∀ x d, t.cs.lookup x = some d → ∃ u v, mg x = some u ∧ RelV v u ∧ ∀ (K : PySem.W.Frag) (α : List Addr) (G : Hp), Rep K α G d v
  bl : ∀ x, t.bl.contains x = true → mg x = none
  im : ∀ x p, t.im.lookup x = some p → mg x = some p.val ∧ ∀ cs, p ≠ .isI cs
/-- every def, by its depth -/
theorem glb_all (M : Nms K mg t) (hD : ∀ x i n, t.fs.lookup x = some (i, n) → ∃ d f cdv, d.x = x ∧ d.np = n ∧ DdOk K mg t T g fuel d i f cdv ∧ CodV base mg Tb (x ++ ".<locals>.") cdv d.md) : ∀ n, Glb P w K mg base t Tb ((g + 1) * n) (run T n)
  | 0 => ⟨fun x i n h => by
      obtain ⟨d, f, cdv, rfl, rfl, D, _⟩ := hD x i n h
      obtain ⟨oc, od, kV, doc, pm, an, ct, osl, lk, hb⟩ := D.at_
      refine ⟨f, _, d.N.take d.np, D.mgf, D.kp, ⟨fun vs H Q E h => ?_, fun A outer s H args us vs Q E hr e0 b r h => ?_⟩, hb⟩
      · obtain ⟨β, α, st, l, hl, o, r, h⟩ := h
        exact h.elim
      · obtain ⟨β, α, st, l, hl, o, r, h⟩ := h
        exact h.elim, M.cs, M.bl, M.im⟩
  | n + 1 => ⟨fun x i m h => by
      obtain ⟨d, f, cdv, rfl, rfl, D, c⟩ := hD x i m h
      exact def_sound D c (glb_all M hD n), M.cs, M.bl, M.im⟩
end
end Mp
end
section
set_option Elab.async false
set_option linter.all false
set_option maxRecDepth 100000
set_option maxHeartbeats 2000000
/-! The end: a row from the run of its law. -/
namespace Mp
open PySem PySem.Spec L2 PyProof.Rows
/-- how a def's arguments bind, whatever stands beside its text -/
def SB (d : Dd) : Prop := ∀ (kV doc pm : Value) (an : Option Addr) (cdv ct : Value) (us : List Value), us.length = (d.N.take d.np).length → bindArgs (PySem.W.fnOf d.x d.x (defArgs d.st) (defBody d.st) (defScope d.st) .none kV doc pm an cdv ct) ⟨us, []⟩ = pure ((d.N.take d.np).zip us)
/-- what can be told of a def by its text alone -/
def SC (d : Dd) : Bool := scopeOk d.N (d.N.take d.np) (defScope d.st) && Nat.ble d.np d.N.length
where
  scopeOk (N P : List Str) (sc : Scope) : Bool := decide (sc.kind = .function) && !sc.isCoroutine && !sc.isGenerator && decide N.Nodup && decide (N.take P.length = P) && P.all (fun x => decide (sc.names.lookup x = some .local) || decide (sc.names.lookup x = some .cell)) && sc.names.all (fun y => !decide (y.2 = .free))
theorem SC.is {d : Dd} (h : SC d = true) : FnScope d.N (d.N.take d.np) (defScope d.st) ∧ d.np ≤ d.N.length := by
  unfold SC SC.scopeOk at h
  simp only [Bool.and_eq_true, Bool.not_eq_true', decide_eq_true_eq, List.all_eq_true, Bool.or_eq_true, decide_eq_false_iff_not, Nat.ble_eq] at h
  obtain ⟨⟨⟨⟨⟨⟨⟨g1, g2⟩, g3⟩, g4⟩, g5⟩, g6⟩, g7⟩, g8⟩ := h
  exact ⟨⟨g1, g2, g3, g4, g5, g6, g7⟩, g8⟩
/-- every def's translation -/
def trAll (t : Tx) (g fuel : Nat) : List Dd → Option (List FD)
  | [] => some []
  | d :: r => match trDef t g fuel d, trAll t g fuel r with
    | some a, some b => some (a :: b)
    | _, _ => none
theorem trAll_at {t : Tx} {g fuel : Nat} : ∀ {l : List Dd} {T : List FD} {i : Nat} {d : Dd}, trAll t g fuel l = some T → l[i]? = some d → trDef t g fuel d = T[i]? ∧ i < T.length
  | [], _, _, _, _, h => by cases h
  | e :: r, T, i, d, h, hi => by
    unfold trAll at h
    split at h
    · rename_i a b h1 h2
      cases h
      cases i with
      | zero =>
        cases hi
        exact ⟨h1, Nat.zero_lt_succ _⟩
      | succ i =>
        obtain ⟨k1, k2⟩ := trAll_at h2 hi
        exact ⟨k1, Nat.succ_lt_succ k2⟩
    · cases h
/-- names, by place -/
def fsOf : Nat → List Dd → List (Str × Nat × Nat)
  | _, [] => []
  | i, d :: r => (d.x, i, d.np) :: fsOf (i + 1) r
theorem fsOf_at : ∀ {l : List Dd} {j : Nat} {x : Str} {i n : Nat}, (fsOf j l).lookup x = some (i, n) → ∃ d, j ≤ i ∧ l[i - j]? = some d ∧ d.x = x ∧ d.np = n
  | [], _, _, _, _, h => by cases h
  | e :: r, j, x, i, n, h => by
    unfold fsOf at h
    rw [List.lookup_cons] at h
    split at h
    · rename_i hx
      cases h
      exact ⟨e, Nat.le_refl _, by rw [Nat.sub_self]; rfl, (beq_iff_eq.mp hx).symm, rfl⟩
    · obtain ⟨d, h1, h2, h3⟩ := fsOf_at h
      refine ⟨d, by omega, ?_, h3⟩
      rw [show i - j = (i - (j + 1)) + 1 by omega]
      exact h2
/-- a def behind the top: its function object, its code -/
structure KD (K : PySem.W.Frag) (d : Dd) (f : Addr) (cdv : Value) : Prop where
  ns : PySem.W.nsIn K mainGlobals d.x = some (some (.ref f))
  lk : ∃ (oc : Value) (od : Option Addr) (kV doc pm : Value) (an : Option Addr) (ct : Value) (osl : Array (Option Value)),
    K.lookup f = some ⟨oc, od, .func (PySem.W.fnOf d.x d.x (defArgs d.st) (defBody d.st) (defScope d.st) .none kV doc pm an cdv ct), osl⟩
  cd : PySem.W.codeIn K cdv d.x = true
  kp : PySem.W.keepIn K (.ref f) = true
/-- name, mode, code, table -/
abbrev Tl := Str × Nat × Addr × Addr
/-- all defs behind the top; with the tables of those that make code as they run -/
def KDs (K : PySem.W.Frag) : List Dd → List Tl → Prop
  | [], L => L = []
  | d :: r, L => (d.md = 0 ∧ (∃ f cdv, KD K d f cdv) ∧ KDs K r L) ∨ ∃ c P L', L = (d.x, d.md, c, P) :: L' ∧ (∃ f, KD K d f (.ref c)) ∧ PySem.W.tabIn K d.x = some (c, P) ∧ K.lookup P = none ∧ KDs K r L'
theorem kd_nil {K : PySem.W.Frag} : KDs K [] [] := rfl
theorem kd_cons {K : PySem.W.Frag} {d : Dd} {r : List Dd} {L : List Tl} {f : Addr} {oc : Value} {od an : Option Addr} {osl : Array (Option Value)} {kV doc pm cdv ct : Value} (a : PySem.W.nsIn K mainGlobals d.x = some (some (.ref f)))
    (l : K.lookup f = some ⟨oc, od, .func (PySem.W.fnOf d.x d.x (defArgs d.st) (defBody d.st) (defScope d.st) .none kV doc pm an cdv ct), osl⟩) (c : PySem.W.codeIn K cdv d.x = true) (k : PySem.W.keepIn K (.ref f) = true) (h0 : d.md = 0) (h : KDs K r L) : KDs K (d :: r) L :=
  .inl ⟨h0, ⟨f, cdv, a, ⟨oc, od, kV, doc, pm, an, ct, osl, l⟩, c, k⟩, h⟩
theorem kd_tab {K : PySem.W.Frag} {d : Dd} {r : List Dd} {L : List Tl} {f C P : Addr} {oc ic : Value} {od an id : Option Addr} {osl isl : Array (Option Value)} {kV doc pm ct : Value} {vs : Array Value} (a : PySem.W.nsIn K mainGlobals d.x = some (some (.ref f)))
    (l : K.lookup f = some ⟨oc, od, .func (PySem.W.fnOf d.x d.x (defArgs d.st) (defBody d.st) (defScope d.st) .none kV doc pm an (.ref C) ct), osl⟩) (c : PySem.W.codeIn K (.ref C) d.x = true) (k : PySem.W.keepIn K (.ref f) = true)
    (lc : K.lookup C = some ⟨ic, id, .fields vs, isl⟩) (lp : (vs[11]? : Option Value) = some (.ref P)) (ln : (K.lookup P).isNone = true) (h : KDs K r L) : KDs K (d :: r) ((d.x, d.md, C, P) :: L) := by
  refine .inr ⟨C, P, L, rfl, ⟨f, a, ⟨oc, od, kV, doc, pm, an, ct, osl, l⟩, c, k⟩, ?_, Option.isNone_iff_eq_none.mp ln, h⟩
  unfold PySem.W.tabIn
  simp only [a, l, PySem.W.fnOf, lc, lp]
theorem KDs.at_ {K : PySem.W.Frag} : ∀ {l : List Dd} {L : List Tl}, KDs K l L → ∀ d ∈ l, ∃ f cdv, KD K d f cdv ∧ (d.md = 0 ∨ ∃ c P, cdv = .ref c ∧ (d.x, d.md, c, P) ∈ L)
  | [], _, _, _, hd => by cases hd
  | e :: r, L, h, d, hd => by
    rcases h with ⟨h0, ⟨f, cdv, k⟩, h⟩ | ⟨c, P, L', rfl, ⟨f, k⟩, h1, h2, h⟩
    · rcases List.mem_cons.mp hd with rfl | hd
      · exact ⟨f, cdv, k, .inl h0⟩
      · exact h.at_ d hd
    · rcases List.mem_cons.mp hd with rfl | hd
      · exact ⟨f, _, k, .inr ⟨c, P, rfl, List.mem_cons_self⟩⟩
      · obtain ⟨f', cdv, k', z⟩ := h.at_ d hd
        exact ⟨f', cdv, k', z.imp_right fun ⟨c, P, e, m⟩ => ⟨c, P, e, List.mem_cons_of_mem _ m⟩⟩
theorem KDs.tab {K : PySem.W.Frag} : ∀ {l : List Dd} {L : List Tl}, KDs K l L → ∀ p ∈ L, PySem.W.tabIn K p.1 = some p.2.2 ∧ K.lookup p.2.2.2 = none ∧ ∃ d ∈ l, d.x = p.1
  | [], _, h, p, hp => by
    cases h
    cases hp
  | e :: r, L, h, p, hp => by
    rcases h with ⟨h0, ⟨f, cdv, k⟩, h⟩ | ⟨c, P, L', rfl, ⟨f, k⟩, h1, h2, h⟩
    · obtain ⟨z1, z2, d, hd, e⟩ := h.tab p hp
      exact ⟨z1, z2, d, List.mem_cons_of_mem _ hd, e⟩
    · rcases List.mem_cons.mp hp with rfl | hp
      · exact ⟨h1, h2, e, List.mem_cons_self, rfl⟩
      · obtain ⟨z1, z2, d, hd, e⟩ := h.tab p hp
        exact ⟨z1, z2, d, List.mem_cons_of_mem _ hd, e⟩
def tbOf (L : List Tl) : List (Addr × Option Str) := L.map fun p => (p.2.2.2, if p.2.1 = 1 then none else some (p.1 ++ ".<locals>." ++ "<lambda>"))
def csOf (L : List Tl) : List (Addr × Addr) := L.map fun p => p.2.2
def tblsApart (L : List Tl) : Bool := decide ((L.map fun p => p.2.2.2).Nodup)
theorem map_inj_of_nodup {α β : Type} {f : α → β} : ∀ {l : List α}, (l.map f).Nodup → ∀ a ∈ l, ∀ b ∈ l, f a = f b → a = b
  | [], _, _, h, _, _, _ => by cases h
  | x :: r, hn, a, ha, b, hb, e => by
    rw [List.map_cons, List.nodup_cons] at hn
    cases ha with
    | head =>
      cases hb with
      | head => rfl
      | tail _ hb => exact absurd (List.mem_map.mpr ⟨b, hb, e.symm⟩) hn.1
    | tail _ ha =>
      cases hb with
      | head => exact absurd (List.mem_map.mpr ⟨a, ha, e⟩) hn.1
      | tail _ hb => exact map_inj_of_nodup hn.2 a ha b hb e
theorem codV_of {base : Heap} {mg : Str → Option Value} {L : List Tl} {x : Str} {md : Nat} {c P : Addr} (hn : tblsApart L = true) (hm : (x, md, c, P) ∈ L) (hT : GxR.TabB base mg c P) : CodV base mg (tbOf L) (x ++ ".<locals>.") (.ref c) md := by
  have hn : (L.map fun p => p.2.2.2).Nodup := by simpa [tblsApart] using hn
  have key : ∀ z, (P, z) ∈ tbOf L → z = if md = 1 then none else some (x ++ ".<locals>." ++ "<lambda>") := fun z hz => by
    obtain ⟨p, hp, e⟩ := List.mem_map.mp hz
    have e1 : p.2.2.2 = P := congrArg Prod.fst e
    have e2 := map_inj_of_nodup hn p hp (x, md, c, P) hm e1
    rw [e2] at e
    exact (congrArg Prod.snd e).symm
  have mem : (P, if md = 1 then none else some (x ++ ".<locals>." ++ "<lambda>")) ∈ tbOf L := List.mem_map.mpr ⟨_, hm, rfl⟩
  match md, key, mem with
  | 0, _, _ => trivial
  | 1, key, mem => exact ⟨c, P, rfl, hT, mem, fun q hq => by cases key _ hq⟩
  | 2, key, mem => exact ⟨c, P, rfl, hT, mem, fun z hz => key z hz⟩
  | _ + 3, _, _ => trivial
/-- names of values -/
def csNs (K : PySem.W.Frag) : List (Str × D) → Prop
  | [] => True
  | (x, d) :: r => (∃ u v, PySem.W.nsIn K mainGlobals x = some (some u) ∧ RelV v u ∧ ∀ (K : PySem.W.Frag) (α : List Addr) (G : Hp), Rep K α G d v) ∧ csNs K r
def blNs (K : PySem.W.Frag) : List Str → Prop
  | [] => True
  | x :: r => PySem.W.nsIn K mainGlobals x = some none ∧ blNs K r
def imNs (K : PySem.W.Frag) : List (Str × Prim) → Prop
  | [] => True
  | (x, p) :: r => (PySem.W.nsIn K mainGlobals x = some (some p.val) ∧ ∀ cs, p ≠ .isI cs) ∧ imNs K r
theorem csNs_nil {K : PySem.W.Frag} : csNs K [] := trivial
theorem csNs_int {K : PySem.W.Frag} {x : Str} {i : Int} {tk : Tok} {r : List (Str × D)} (h : PySem.W.nsIn K mainGlobals x = some (some (.int i tk))) (hr : csNs K r) : csNs K ((x, .int i) :: r) := ⟨⟨_, .int i, h, ⟨_, rfl⟩, fun _ _ _ => rfl⟩, hr⟩
theorem csNs_str {K : PySem.W.Frag} {x : Str} {i : Str} {tk : Tok} {r : List (Str × D)} (h : PySem.W.nsIn K mainGlobals x = some (some (.str i tk))) (hr : csNs K r) : csNs K ((x, .str i) :: r) := ⟨⟨_, .str i, h, ⟨_, rfl⟩, fun _ _ _ => rfl⟩, hr⟩
theorem blNs_nil {K : PySem.W.Frag} : blNs K [] := trivial
theorem blNs_cons {K : PySem.W.Frag} {x : Str} {r : List Str} (h : PySem.W.nsIn K mainGlobals x = some none) (hr : blNs K r) : blNs K (x :: r) := ⟨h, hr⟩
theorem imNs_nil {K : PySem.W.Frag} : imNs K [] := trivial
theorem imNs_cons {K : PySem.W.Frag} {x : Str} {p : Prim} {r : List (Str × Prim)} (h : PySem.W.nsIn K mainGlobals x = some (some p.val)) (hp : ∀ cs, p ≠ .isI cs) (hr : imNs K r) : imNs K ((x, p) :: r) := ⟨⟨h, hp⟩, hr⟩
section
variable {K : PySem.W.Frag} {mg : Str → Option Value} {h : Heap}
theorem csNs_is (X : K.In h) (G : h.Ns mainGlobals mg) : ∀ {l : List (Str × D)}, csNs K l → ∀ x d, l.lookup x = some d → ∃ u v, mg x = some u ∧ RelV v u ∧ ∀ (K : PySem.W.Frag) (α : List Addr) (G : Hp), Rep K α G d v
  | [], _, _, _, e => by cases e
  | (y, d) :: r, ⟨⟨u, v, h1, h2⟩, hr⟩, x, d', e => by
    rw [List.lookup_cons] at e
    split at e
    · rename_i hx
      cases e
      rw [beq_iff_eq.mp hx]
      exact ⟨u, v, PySem.W.mg_of X G h1, h2⟩
    · exact csNs_is X G hr x d' e
theorem blNs_is (X : K.In h) (G : h.Ns mainGlobals mg) : ∀ {l : List Str}, blNs K l → ∀ x, l.contains x = true → mg x = none
  | [], _, _, e => by cases e
  | y :: r, ⟨h1, hr⟩, x, e => by
    rw [List.contains_cons, Bool.or_eq_true] at e
    rcases e with e | e
    · rw [beq_iff_eq.mp e]
      exact PySem.W.mg_none_of X G h1
    · exact blNs_is X G hr x e
theorem imNs_is (X : K.In h) (G : h.Ns mainGlobals mg) : ∀ {l : List (Str × Prim)}, imNs K l → ∀ x p, l.lookup x = some p → mg x = some p.val ∧ ∀ cs, p ≠ .isI cs
  | [], _, _, _, e => by cases e
  | (y, d) :: r, ⟨⟨h1, h2⟩, hr⟩, x, d', e => by
    rw [List.lookup_cons] at e
    split at e
    · rename_i hx
      cases e
      rw [beq_iff_eq.mp hx]
      exact ⟨PySem.W.mg_of X G h1, h2⟩
    · exact imNs_is X G hr x d' e
end
/-- the tables that the top has left are empty -/
def TabF (q : Program) (K : PySem.W.Frag) (h : Heap) : Prop := ∀ x c P, ((recsOf q).any fun e => e.name == x) = true → PySem.W.tabIn K x = some (c, P) → PySem.W.CodeHd h c P ∧ h.get? P = some { cls := .none, data := .fields #[] }
theorem walk_T {l : PySem.W.OpenLaw} {n k : Nat} {q : Program} {loose : List Str} {XP : (Str → Option Value) → Heap → Prop} {YP : World → Heap → Prop} {d : DefRec} {K : Params → PySem.W.Frag} {x : Str}
    (hn : l.most = some n) (hn2 : n ≤ sizeLine) (hdf : d.params.defaults = []) (hr : Room k callerA) (hY : ∀ (w : World) (h : Heap), YP w h → (K w.params).In h)
    (F : ∀ (w : World) (mg : Str → Option Value) (fa : Addr) (h : Heap), (K w.params).In h → h.Ns mainGlobals mg → TabF q (K w.params) h → mg d.name = some (.ref fa) → LamX.LawAtS l w (K w.params) CX0 k n x mg fa h) :
    PySem.W.WalkO q loose XP YP l.row.toRowW d [] (fun f vs => PySem.call f vs) := by
  refine Att.attach_callB hn hdf fun w s₀ s₁ mg mb fa o pm cd doc a vs ns G Y ho hd hcd hmg hobj hints hlen hbits hg => ?_
  have X := hY w _ Y
  have tf : TabF q (K w.params) s₁.heap := fun y c P hy ht => by
    cases e : (recsOf q).find? fun e => e.name == y with
    | none =>
      rw [List.find?_eq_none] at e
      obtain ⟨r, h1, h2⟩ := List.any_eq_true.mp hy
      exact absurd h2 (e r h1)
    | some r => exact PySem.W.tab_of G.T X e ht
  obtain ⟨fd, cs, sp, z1, z2, z3, z4, z5, z6⟩ := F w mg fa _ X G.T.g tf hmg
  exact LamX.law_callTs (CX := CX0) X G.T.g G.T.b G.T.builtins G.T.nolimit hg z1 z2 z3 G.T.bmain hobj hints (Nat.le_trans hlen hn2) hr z6 z4 (fun H t1 t2 => z5 H a ns hlen hbits t1 t2) fun _ _ _ z => z
theorem law_at {l : PySem.W.OpenLaw} {w : World} {K : PySem.W.Frag} {q : Program} {mg : Str → Option Value} {fa : Addr} {h : Heap} {n : Nat} {x : Str} {t : Tx} {g fuel m iL : Nat} {dds : List Dd} {T : List FD} {dL : Dd} {L : List Tl}
    (X : K.In h) (G : h.Ns mainGlobals mg) (TF : TabF q K h) (hmg : mg dL.x = some (.ref fa)) (hfs : t.fs = fsOf 0 dds) (hT : trAll t g fuel dds = some T) (hsc : dds.all SC = true) (hsb : ∀ d ∈ dds, SB d)
    (hrec : dds.all (fun d => (recsOf q).any fun e => e.name == d.x) = true) (hL : dds[iL]? = some dL) (hx : dL.N.take dL.np = [x])
    (hl : t.fs.lookup dL.x = some (iL, dL.np))
    (main : ∀ ns : List Int, ns.length ≤ n → ∃ st, run T m iL [.scr ns] [] = .ok (.bl true) st)
    (hk : KDs K dds L) (hap : tblsApart L = true) (hcs : csNs K t.cs) (hbl : blNs K t.bl) (him : imNs K t.im) : LamX.LawAtS l w K CX0 ((g + 1) * m) n x mg fa h := by
  have M : Nms K mg t := ⟨csNs_is X G hcs, blNs_is X G hbl, imNs_is X G him⟩
  have np1 : dL.np = 1 := by
    have e := congrArg List.length hx
    rw [List.length_take, List.length_singleton] at e
    have := (SC.is (List.all_eq_true.mp hsc dL (List.mem_of_getElem? hL))).2
    omega
  obtain ⟨f, cdv, kd, hc⟩ := hk.at_ dL (List.mem_of_getElem? hL)
  obtain ⟨oc, od, kV, doc, pm, an, ct, osl, lk⟩ := kd.lk
  have ef : fa = f := by
    have e := hmg.symm.trans (PySem.W.mg_of X G kd.ns)
    cases e
    rfl
  subst ef
  have tabs : ∀ p ∈ csOf L, PySem.W.CodeHd h p.1 p.2 ∧ h.get? p.2 = some { cls := .none, data := .fields #[] } := fun p hp => by
    obtain ⟨e, he, rfl⟩ := List.mem_map.mp hp
    obtain ⟨h1, _, d, hd, h3⟩ := hk.tab e he
    refine TF e.1 e.2.2.1 e.2.2.2 ?_ h1
    rw [← h3]
    exact List.all_eq_true.mp hrec d hd
  have hbn := hsb dL (List.mem_of_getElem? hL) kV doc pm an cdv ct
  rw [hx] at hbn
  refine ⟨PySem.W.fnOf dL.x dL.x (defArgs dL.st) (defBody dL.st) (defScope dL.st) .none kV doc pm an cdv ct, csOf L, spOf K (tbOf L) (run T m iL) 1, fun p hp => (tabs p hp).2, fun p hp => ?_, fun p hp => (tabs p hp).1, fun s u => BindsTo.of_eq (hbn [u] rfl), fun H a ns h1 h2 h3 h4 => ?_, fun base KB GB hB => ?_⟩
  · obtain ⟨e, he, rfl⟩ := List.mem_map.mp hp
    exact (hk.tab e he).2.1
  · obtain ⟨st, hm⟩ := main ns h1
    refine ⟨[], [], [], [.scr ns], rfl, ⟨List.nodup_nil, (fun _ z => by cases z), (fun _ z => by cases z), rfl, (fun _ _ _ z => by cases z), (fun _ _ _ _ _ z => by cases z), fun p hp => ?_⟩, ⟨.ref a, [], rfl, ⟨a, rfl, h4⟩, rfl⟩, ?_⟩
    · obtain ⟨e, he, rfl⟩ := List.mem_map.mp hp
      have z : H e.2.2.2 = some (.tbl #[]) := h3 e.2.2 (List.mem_map.mpr ⟨e, he, rfl⟩)
      unfold TabOk
      split
      · exact ⟨#[], z, trivial⟩
      · exact ⟨#[], z, trivial, fun pos cv hc => by cases hc⟩
    · rw [hm]
      intro v α' H' s' o' r'
      exact r'
  · have hD : ∀ x i n, t.fs.lookup x = some (i, n) → ∃ d f cdv, d.x = x ∧ d.np = n ∧ DdOk K mg t T g fuel d i f cdv ∧ CodV base mg (tbOf L) (x ++ ".<locals>.") cdv d.md := fun x i n e => by
      rw [hfs] at e
      obtain ⟨d, _, h2, h3, h4⟩ := fsOf_at e
      rw [Nat.sub_zero] at h2
      have hd := List.mem_of_getElem? h2
      obtain ⟨f, cdv, kd, hc⟩ := hk.at_ d hd
      obtain ⟨oc, od, kV, doc, pm, an, ct, osl, lk⟩ := kd.lk
      obtain ⟨s1, s2⟩ := SC.is (List.all_eq_true.mp hsc d hd)
      obtain ⟨t1, t2⟩ := trAll_at hT h2
      refine ⟨d, f, cdv, h3, h4, ⟨⟨oc, od, kV, doc, pm, an, ct, osl, lk, .all (hsb d hd kV doc pm an cdv ct)⟩, PySem.W.mg_of X G kd.ns, kd.kp, kd.cd, s1, s2, t1, t2⟩, ?_⟩
      rcases hc with z | ⟨c, P, rfl, hm⟩
      · rw [z]
        trivial
      · have z := hB (c, P) (List.mem_map.mpr ⟨_, hm, rfl⟩)
        rw [← h3]
        exact codV_of hap hm ⟨z.code, z.bm, z.gP⟩
    cases m with
    | zero =>
      obtain ⟨st, hm⟩ := main [] (Nat.zero_le _)
      cases hm
    | succ m =>
      have hd := List.mem_of_getElem? hL
      obtain ⟨s1, s2⟩ := SC.is (List.all_eq_true.mp hsc dL hd)
      obtain ⟨t1, t2⟩ := trAll_at hT hL
      have D : DdOk K mg t T g fuel dL iL fa cdv := ⟨⟨oc, od, kV, doc, pm, an, ct, osl, lk, .all (hsb dL hd kV doc pm an cdv ct)⟩, hmg, kd.kp, kd.cd, s1, s2, t1, t2⟩
      have hcod : CodV base mg (tbOf L) (dL.x ++ ".<locals>.") cdv dL.md := by
        rcases hc with z | ⟨c, P, rfl, hm⟩
        · rw [z]
          trivial
        · have z := hB (c, P) (List.mem_map.mpr ⟨_, hm, rfl⟩)
          exact codV_of hap hm ⟨z.code, z.bm, z.gP⟩
      have r := def_ok (P := l.prog) (w := w) D lk hcod (glb_all M hD m)
      rw [hx, np1] at r
      exact r
end Mp
end
section
set_option Elab.async false
set_option linter.all false
set_option maxRecDepth 100000
set_option maxHeartbeats 1000000
/-! Runs, step by step. -/
namespace Mp
open PySem
theorem bk {α β : Type} {m : M α} {f : α → M β} {v : α} {st st1 : St} (h : m st = .ok v st1) : bnd m f st = f v st1 := by
  unfold bnd
  rw [h]
theorem bk2 {α β : Type} {m : M α} {f : α → M β} {v : α} {st st1 : St} {r : Res β} (h : m st = .ok v st1) (h2 : f v st1 = r) : bnd m f st = r := (bk h).trans h2
/-- no cell in it -/
abbrev Pl (d : D) : Prop := D.low 0 d = true
mutual
theorem D.low_mono {n m : Nat} (h : n ≤ m) : ∀ d : D, D.low n d = true → D.low m d = true
  | .cell k, z => by
    simp only [D.low] at z ⊢
    exact Nat.ble_eq_true_of_le (Nat.le_trans (Nat.le_of_ble_eq_true z) h)
  | .tup l, z => by
    simp only [D.low] at z ⊢
    exact D.lows_mono h l z
  | .lst l, z => by
    simp only [D.low] at z ⊢
    exact D.lows_mono h l z
  | .dct t ks vs, z => by
    simp only [D.low, Bool.and_eq_true] at z ⊢
    exact ⟨D.lows_mono h ks z.1, D.lows_mono h vs z.2⟩
  | .non, _ => rfl
  | .bl _, _ => rfl
  | .int _, _ => rfl
  | .str _, _ => rfl
  | .scr _, _ => rfl
theorem D.lows_mono {n m : Nat} (h : n ≤ m) : ∀ l : List D, D.lows n l = true → D.lows m l = true
  | [], _ => rfl
  | d :: r, z => by
    simp only [D.lows, Bool.and_eq_true] at z ⊢
    exact ⟨D.low_mono h d z.1, D.lows_mono h r z.2⟩
end
theorem D.lows_iff {n : Nat} : ∀ {l : List D}, D.lows n l = true ↔ ∀ d ∈ l, D.low n d = true
  | [] => by simp [D.lows]
  | d :: r => by simp [D.lows, D.lows_iff (l := r)]
/-- every cell tells of older ones alone -/
abbrev Low (st : St) : Prop := st.all (Cell.low st.length) = true
theorem leave_pl {st : St} {d : D} (hs : Low st) (hd : Pl d) : leave st.length d st = .ok d st := by
  have h1 : D.low st.length d = true := D.low_mono (Nat.zero_le _) d hd
  have e : st.take st.length = st := List.take_length
  unfold leave
  rw [e, hs]
  cases d with
  | cell k => cases hd
  | _ => simp only [h1]
/-- .. with cells of its own let go -/
theorem leave_own {st st1 : St} {d : D} (hs : Low st) (hd : Pl d) : leave st.length d (st ++ st1) = .ok d st := by
  have h1 : D.low st.length d = true := D.low_mono (Nat.zero_le _) d hd
  have e : (st ++ st1).take st.length = st := List.take_left
  unfold leave
  rw [e, hs]
  cases d with
  | cell k => cases hd
  | _ => simp only [h1]
/-- .. where the answer is a list of its own -/
theorem leave_cell {st : St} {l : List D} (hs : Low st) (hd : ∀ d ∈ l, Pl d) : leave st.length (.cell st.length) (st ++ [.lst l]) = .ok (.lst l) st := by
  have h1 : D.lows st.length l = true := D.lows_iff.mpr fun d h => D.low_mono (Nat.zero_le _) d (hd d h)
  have e : (st ++ [Cell.lst l]).take st.length = st := List.take_left
  unfold leave
  rw [e, hs]
  have e2 : (st ++ [Cell.lst l])[st.length]? = some (.lst l) := by
    rw [List.getElem?_append_right (Nat.le_refl _), Nat.sub_self]
    rfl
  have e3 : Nat.blt st.length st.length = false := by
    cases q : Nat.blt st.length st.length with
    | false => rfl
    | true => exact absurd (Nat.le_of_ble_eq_true q) (Nat.not_succ_le_self _)
  simp only [e3, e2, h1]
section
variable {T : List FD} {C : CallF} {env env1 env2 : Env} {st st1 st2 st3 : St} {a b c e x : E} {d y z w : D} {l : List D} {i : Nat} {s u : S} {o : Out}
theorem vr (h : env[i]? = some (some d)) : ev C (.var i) env st = .ok d st := by
  simp only [ev, h]
  rfl
theorem cn : ev C (.con d) env st = .ok d st := rfl
theorem al0 : bnd (ev C .nil env) listOf st = .ok [] st := rfl
theorem ev_lst {m : M D} (h : bnd m listOf st = .ok l st1) : m st = .ok (.lst l) st1 := by
  unfold bnd at h
  split at h
  · rename_i v st' hv
    rw [hv]
    cases v <;> first
      | (cases h; done)
      | (cases h; rfl)
  · cases h
theorem al (h1 : ev C a env st = .ok d st1) (h2 : bnd (ev C b env) listOf st1 = .ok l st2) : bnd (ev C (.cons a b) env) listOf st = .ok (d :: l) st2 := by
  have h3 : ev C (.cons a b) env st = .ok (.lst (d :: l)) st2 := by
    simp only [ev]
    exact bk2 h1 (bk2 h2 rfl)
  exact bk2 h3 rfl
theorem lenOk_of {l : List D} (h : l.length ≤ line) : lenOk l = true := Nat.ble_eq_true_of_le h
theorem tp (h : bnd (ev C a env) listOf st = .ok l st1) (hl : l.length ≤ line) : ev C (.tup a) env st = .ok (.tup l) st1 := by
  simp only [ev]
  refine bk2 h ?_
  simp only [retTup, lenOk_of hl]
theorem ls (h : bnd (ev C a env) listOf st = .ok l st1) (hl : l.length ≤ line) : ev C (.lst a) env st = .ok (.lst l) st1 := by
  simp only [ev]
  refine bk2 h ?_
  simp only [retLst, lenOk_of hl]
theorem nw (h : bnd (ev C a env) listOf st = .ok l st1) (hl : l.length ≤ line) : ev C (.newC a) env st = .ok (.cell st1.length) (st1 ++ [.lst l]) := by
  simp only [ev]
  refine bk2 h ?_
  simp only [newCell, lenOk_of hl]
theorem bn {o : Bin} (h1 : ev C a env st = .ok y st1) (h2 : ev C b env st1 = .ok z st2) (h : binD o y z st2 = .ok w st3) : ev C (.bin o a b) env st = .ok w st3 := by
  simp only [ev]
  exact bk2 h1 (bk2 h2 h)
theorem cm {o : Cmp} (h1 : ev C a env st = .ok y st1) (h2 : ev C b env st1 = .ok z st2) (h : cmpD o y z st2 = .ok w st3) : ev C (.cmp o a b) env st = .ok w st3 := by
  simp only [ev]
  exact bk2 h1 (bk2 h2 h)
theorem ng {i : Int} (h1 : ev C a env st = .ok (.int i) st1) : ev C (.neg a) env st = .ok (.int (-i)) st1 := by
  simp only [ev]
  exact bk2 h1 rfl
/-- tests -/
theorem tb {k : Bool} (h : ev C c env st = .ok (.bl k) st1) : bnd (ev C c env) truth st = .ok k st1 := bk2 h rfl
theorem nt {k : Bool} (h : bnd (ev C c env) truth st = .ok k st1) : ev C (.not c) env st = .ok (.bl (!k)) st1 := by
  simp only [ev]
  exact bk2 h rfl
theorem an {k m : Bool} (h1 : ev C a env st = .ok (.bl k) st) (h2 : k = true → ev C b env st = .ok (.bl m) st) : ev C (.and a b) env st = .ok (.bl (k && m)) st := by
  simp only [ev]
  refine bk2 h1 ?_
  cases k with
  | true => exact h2 rfl
  | false => rfl
theorem orr {k m : Bool} (h1 : ev C a env st = .ok (.bl k) st) (h2 : k = false → ev C b env st = .ok (.bl m) st) : ev C (.or a b) env st = .ok (.bl (k || m)) st := by
  simp only [ev]
  refine bk2 h1 ?_
  cases k with
  | true => rfl
  | false => exact h2 rfl
theorem chn {o p : Cmp} {k m : Bool} (h1 : ev C a env st = .ok y st) (h2 : ev C b env st = .ok z st) (h3 : cmpD o y z st = .ok (.bl k) st) (h4 : ev C c env st = .ok w st) (h5 : cmpD p z w st = .ok (.bl m) st) : ev C (.chain o p a b c) env st = .ok (.bl (k && m)) st := by
  simp only [ev]
  refine bk2 h1 (bk2 h2 (bk2 (bk2 h3 rfl) ?_))
  cases k with
  | true => exact bk2 h4 h5
  | false => rfl
theorem cl {f : Nat} {r : Res D} (h : bnd (ev C a env) listOf st = .ok l st1) (h2 : C f l st1 = r) : ev C (.call f a) env st = r := by
  simp only [ev]
  exact bk2 h h2
theorem pr {p : Prim} {r : Res D} (h : bnd (ev C a env) listOf st = .ok l st1) (h2 : primD p l st1 = r) : ev C (.prim p a) env st = r := by
  simp only [ev]
  exact bk2 h h2
theorem mth {m : Meth} {r : Res D} (h1 : ev C a env st = .ok y st1) (hc : lstC y st1 = .ok () st1) (h : bnd (ev C b env) listOf st1 = .ok l st2) (h2 : methD m y l st2 = r) : ev C (.meth m a b) env st = r := by
  simp only [ev]
  exact bk2 h1 (bk2 hc (bk2 h h2))
theorem ix {r : Res D} (h1 : ev C a env st = .ok y st1) (h2 : ev C b env st1 = .ok z st2) (h : idxD y z st2 = r) : ev C (.idx a b) env st = r := by
  simp only [ev]
  exact bk2 h1 (bk2 h2 h)
theorem slc {p q : Bool} {r : Res D} (h1 : ev C a env st = .ok y st1) (h2 : ev C b env st1 = .ok z st2) (h3 : ev C c env st2 = .ok w st3) (h : sliceD y (bound p z) (bound q w) st3 = r) : ev C (.slice p q a b c) env st = r := by
  simp only [ev]
  exact bk2 h1 (bk2 h2 (bk2 h3 h))
theorem slen {r : Res D} (h1 : ev C a env st = .ok y st1) (h : sortLenD y st1 = r) : ev C (.sortLen a) env st = r := by
  simp only [ev]
  exact bk2 h1 h
/-- what is walked -/
theorem it {k : Itk} {g : Option (Nat × List D)} (h : bnd (ev C a env) listOf st = .ok l st1) {xs : List D} (h2 : itemsD k l st1 = .ok (xs, g) st2) : bnd (ev C (.itr k a) env) srcOf st = .ok (xs, g) st2 := by
  have h3 : ev C (.itr k a) env st = .ok (srcD (xs, g)) st2 := by
    simp only [ev]
    exact bk2 h (bk2 h2 rfl)
  refine bk2 h3 ?_
  cases g with
  | none => rfl
  | some g => rfl
/-! comprehensions, pure -/
theorem compL_pl {α : Type} {p : Pat} {c e : Env → M D} {g : Option (Nat × List D)} {f : α → D} {t : α → Bool} {r : α → D} (hg : chk g st = .ok () st) : ∀ {l : List α}, (∀ x ∈ l, ∃ env', p.bind (f x) env = some env' ∧ bnd (c env') truth st = .ok (t x) st ∧ (t x = true → e env' st = .ok (r x) st)) →
    compL p c e env g (l.map f) st = .ok ((l.filter t).map r) st
  | [], _ => rfl
  | x :: l, h => by
    obtain ⟨env', h1, h2, h3⟩ := h x List.mem_cons_self
    have ih := compL_pl (p := p) (c := c) (e := e) (g := g) (f := f) (t := t) (r := r) hg fun y hy => h y (List.mem_cons_of_mem _ hy)
    rw [List.map_cons]
    unfold compL
    refine bk2 (v := env') (by rw [h1]; rfl) (bk2 h2 ?_)
    cases q : t x with
    | true =>
      rw [List.filter_cons_of_pos q]
      exact bk2 (h3 q) (bk2 hg (bk2 ih rfl))
    | false =>
      rw [List.filter_cons_of_neg (by rw [q]; simp)]
      exact bk2 hg ih
theorem compJ_pl {α : Type} {p : Pat} {c : Env → M D} {e : Env → M (List D)} {g : Option (Nat × List D)} {f : α → D} {t : α → Bool} {r : α → List D} (hg : chk g st = .ok () st) : ∀ {l : List α}, (∀ x ∈ l, ∃ env', p.bind (f x) env = some env' ∧ bnd (c env') truth st = .ok (t x) st ∧ (t x = true → e env' st = .ok (r x) st)) →
    compJ p c e env g (l.map f) st = .ok ((l.filter t).flatMap r) st
  | [], _ => rfl
  | x :: l, h => by
    obtain ⟨env', h1, h2, h3⟩ := h x List.mem_cons_self
    have ih := compJ_pl (p := p) (c := c) (e := e) (g := g) (f := f) (t := t) (r := r) hg fun y hy => h y (List.mem_cons_of_mem _ hy)
    rw [List.map_cons]
    unfold compJ
    refine bk2 (v := env') (by rw [h1]; rfl) (bk2 h2 ?_)
    cases q : t x with
    | true =>
      rw [List.filter_cons_of_pos q, List.flatMap_cons]
      exact bk2 (h3 q) (bk2 hg (bk2 ih rfl))
    | false =>
      rw [List.filter_cons_of_neg (by rw [q]; simp)]
      exact bk2 hg ih
theorem genL_pl {α : Type} {p : Pat} {c : Env → M D} {e : Env → M Bool} {g : Option (Nat × List D)} {f : α → D} {t r : α → Bool} {k : Bool} (hg : chk g st = .ok () st) : ∀ {l : List α}, (∀ x ∈ l, ∃ env', p.bind (f x) env = some env' ∧ bnd (c env') truth st = .ok (t x) st ∧ (t x = true → e env' st = .ok (r x) st)) →
    genL k p c e env g (l.map f) st = .ok (if k then (l.filter t).all r else (l.filter t).any r) st
  | [], _ => by cases k <;> rfl
  | x :: l, h => by
    obtain ⟨env', h1, h2, h3⟩ := h x List.mem_cons_self
    have ih := genL_pl (p := p) (c := c) (e := e) (g := g) (f := f) (t := t) (r := r) (k := k) hg fun y hy => h y (List.mem_cons_of_mem _ hy)
    rw [List.map_cons]
    unfold genL
    refine bk2 (v := env') (by rw [h1]; rfl) (bk2 h2 ?_)
    cases q : t x with
    | true =>
      rw [List.filter_cons_of_pos q, List.all_cons, List.any_cons]
      refine bk2 (h3 q) ?_
      cases k <;> cases r x <;> first
        | rfl
        | exact bk2 hg ih
    | false =>
      rw [List.filter_cons_of_neg (by rw [q]; simp)]
      exact bk2 hg ih
theorem cmp_ {α : Type} {p : Pat} {f : α → D} (t : α → Bool) (r : α → D) {xs : List α} {g : Option (Nat × List D)} (h : bnd (ev C x env) srcOf st = .ok (xs.map f, g) st) (hg : chk g st = .ok () st) (hx : ∀ x ∈ xs, ∃ env', p.bind (f x) (wipeE env p.slots) = some env' ∧ bnd (ev C c env') truth st = .ok (t x) st ∧ (t x = true → ev C e env' st = .ok (r x) st))
    (hl : ((xs.filter t).map r).length ≤ line) : ev C (.comp p x c e) env st = .ok (.lst ((xs.filter t).map r)) st := by
  simp only [ev]
  refine bk2 h (bk2 (compL_pl hg hx) ?_)
  simp only [retLst, lenOk_of hl]
theorem gen_ {α : Type} {p : Pat} {f : α → D} (t r : α → Bool) {k : Bool} {xs : List α} {g : Option (Nat × List D)} (h : bnd (ev C x env) srcOf st = .ok (xs.map f, g) st) (hg : chk g st = .ok () st) (hx : ∀ x ∈ xs, ∃ env', p.bind (f x) (wipeE env p.slots) = some env' ∧ bnd (ev C c env') truth st = .ok (t x) st ∧ (t x = true → ev C e env' st = .ok (.bl (r x)) st)) :
    ev C (.gen k p x c e) env st = .ok (.bl (if k then (xs.filter t).all r else (xs.filter t).any r)) st := by
  simp only [ev]
  refine bk2 h (bk2 (genL_pl (t := t) (r := r) hg fun y hy => ?_) rfl)
  obtain ⟨env', h1, h2, h3⟩ := hx y hy
  exact ⟨env', h1, h2, fun q => bk2 (h3 q) rfl⟩
theorem cmp0 {α : Type} {p : Pat} {f : α → D} (r : α → D) {xs : List α} {g : Option (Nat × List D)} (h : bnd (ev C x env) srcOf st = .ok (xs.map f, g) st) (hg : chk g st = .ok () st) (hx : ∀ x ∈ xs, ∃ env', p.bind (f x) (wipeE env p.slots) = some env' ∧ ev C e env' st = .ok (r x) st)
    (hl : xs.length ≤ line) : ev C (.comp p x (.con (.bl true)) e) env st = .ok (.lst (xs.map r)) st := by
  have ef : xs.filter (fun _ => true) = xs := List.filter_eq_self.mpr fun _ _ => rfl
  have := cmp_ (C := C) (c := .con (.bl true)) (e := e) (fun _ => true) r h hg (fun y hy => by
    obtain ⟨env', h1, h2⟩ := hx y hy
    exact ⟨env', h1, rfl, fun _ => h2⟩) (by rw [ef, List.length_map]; exact hl)
  rw [ef] at this
  exact this
theorem genA {α : Type} {p : Pat} {f : α → D} (r : α → Bool) {xs : List α} {g : Option (Nat × List D)} (h : bnd (ev C x env) srcOf st = .ok (xs.map f, g) st) (hg : chk g st = .ok () st) (hx : ∀ x ∈ xs, ∃ env', p.bind (f x) (wipeE env p.slots) = some env' ∧ ev C e env' st = .ok (.bl (r x)) st) :
    ev C (.gen true p x (.con (.bl true)) e) env st = .ok (.bl (xs.all r)) st := by
  have ef : xs.filter (fun _ => true) = xs := List.filter_eq_self.mpr fun _ _ => rfl
  have := gen_ (C := C) (c := .con (.bl true)) (e := e) (k := true) (fun _ => true) r h hg (fun y hy => by
    obtain ⟨env', h1, h2⟩ := hx y hy
    exact ⟨env', h1, rfl, fun _ => h2⟩)
  rw [ef] at this
  exact this
theorem genE {α : Type} {p : Pat} {f : α → D} (r : α → Bool) {xs : List α} {g : Option (Nat × List D)} (h : bnd (ev C x env) srcOf st = .ok (xs.map f, g) st) (hg : chk g st = .ok () st) (hx : ∀ x ∈ xs, ∃ env', p.bind (f x) (wipeE env p.slots) = some env' ∧ ev C e env' st = .ok (.bl (r x)) st) :
    ev C (.gen false p x (.con (.bl true)) e) env st = .ok (.bl (xs.any r)) st := by
  have ef : xs.filter (fun _ => true) = xs := List.filter_eq_self.mpr fun _ _ => rfl
  have := gen_ (C := C) (c := .con (.bl true)) (e := e) (k := false) (fun _ => true) r h hg (fun y hy => by
    obtain ⟨env', h1, h2⟩ := hx y hy
    exact ⟨env', h1, rfl, fun _ => h2⟩)
  rw [ef] at this
  exact this
/-- two for's in one comprehension -/
theorem cmp2_ {α β : Type} {p q : Pat} {y2 d2 : E} {f : α → D} (t : α → Bool) (r : α → List D) {xs : List α} {g : Option (Nat × List D)} (h : bnd (ev C x env) srcOf st = .ok (xs.map f, g) st) (hg : chk g st = .ok () st)
    (hx : ∀ x ∈ xs, ∃ env', p.bind (f x) (wipeE env (p.slots ++ q.slots)) = some env' ∧ bnd (ev C c env') truth st = .ok (t x) st ∧ (t x = true → ∃ (ys : List β) (g2 : Option (Nat × List D)) (f2 : β → D) (t2 : β → Bool) (r2 : β → D), bnd (ev C y2 env') srcOf st = .ok (ys.map f2, g2) st ∧ chk g2 st = .ok () st ∧
      (∀ y ∈ ys, ∃ env2, q.bind (f2 y) (wipeE env' q.slots) = some env2 ∧ bnd (ev C d2 env2) truth st = .ok (t2 y) st ∧ (t2 y = true → ev C e env2 st = .ok (r2 y) st)) ∧ (ys.filter t2).map r2 = r x))
    (hl : ((xs.filter t).flatMap r).length ≤ line) : ev C (.comp2 p x c q y2 d2 e) env st = .ok (.lst ((xs.filter t).flatMap r)) st := by
  simp only [ev]
  refine bk2 h (bk2 (compJ_pl (t := t) (r := r) hg fun y hy => ?_) ?_)
  · obtain ⟨env', h1, h2, h3⟩ := hx y hy
    refine ⟨env', h1, h2, fun k => ?_⟩
    obtain ⟨ys, g2, f2, t2, r2, k1, k2, k3, k4⟩ := h3 k
    rw [← k4]
    exact bk2 k1 (compL_pl k2 k3)
  · simp only [retLst, lenOk_of hl]
theorem cmp20 {α β : Type} {p q : Pat} {y2 d2 : E} {f : α → D} (r : α → List D) {xs : List α} {g : Option (Nat × List D)} (h : bnd (ev C x env) srcOf st = .ok (xs.map f, g) st) (hg : chk g st = .ok () st)
    (hx : ∀ x ∈ xs, ∃ env', p.bind (f x) (wipeE env (p.slots ++ q.slots)) = some env' ∧ ∃ (ys : List β) (g2 : Option (Nat × List D)) (f2 : β → D) (t2 : β → Bool) (r2 : β → D), bnd (ev C y2 env') srcOf st = .ok (ys.map f2, g2) st ∧ chk g2 st = .ok () st ∧
      (∀ y ∈ ys, ∃ env2, q.bind (f2 y) (wipeE env' q.slots) = some env2 ∧ bnd (ev C d2 env2) truth st = .ok (t2 y) st ∧ (t2 y = true → ev C e env2 st = .ok (r2 y) st)) ∧ (ys.filter t2).map r2 = r x)
    (hl : (xs.flatMap r).length ≤ line) : ev C (.comp2 p x (.con (.bl true)) q y2 d2 e) env st = .ok (.lst (xs.flatMap r)) st := by
  have ef : xs.filter (fun _ => true) = xs := List.filter_eq_self.mpr fun _ _ => rfl
  have := cmp2_ (C := C) (β := β) (c := .con (.bl true)) (e := e) (q := q) (y2 := y2) (d2 := d2) (fun _ => true) r h hg (fun y hy => by
    obtain ⟨env', h1, h2⟩ := hx y hy
    exact ⟨env', h1, rfl, fun _ => h2⟩) (by rw [ef]; exact hl)
  rw [ef] at this
  exact this
/-- two for's in one generator expression, all -/
theorem gen2A {α β : Type} {p q : Pat} {y2 d2 : E} {f : α → D} (r : α → Bool) {xs : List α} {g : Option (Nat × List D)} (h : bnd (ev C x env) srcOf st = .ok (xs.map f, g) st) (hg : chk g st = .ok () st)
    (hx : ∀ x ∈ xs, ∃ env', p.bind (f x) (wipeE env (p.slots ++ q.slots)) = some env' ∧ ∃ (ys : List β) (g2 : Option (Nat × List D)) (f2 : β → D) (t2 r2 : β → Bool), bnd (ev C y2 env') srcOf st = .ok (ys.map f2, g2) st ∧ chk g2 st = .ok () st ∧
      (∀ y ∈ ys, ∃ env2, q.bind (f2 y) (wipeE env' q.slots) = some env2 ∧ bnd (ev C d2 env2) truth st = .ok (t2 y) st ∧ (t2 y = true → ev C e env2 st = .ok (.bl (r2 y)) st)) ∧ (ys.filter t2).all r2 = r x) : ev C (.gen2 true p x (.con (.bl true)) q y2 d2 e) env st = .ok (.bl (xs.all r)) st := by
  have ef : xs.filter (fun _ => true) = xs := List.filter_eq_self.mpr fun _ _ => rfl
  have key := genL_pl (p := p) (c := ev C (.con (.bl true))) (e := fun env => bnd (bnd (ev C y2 env) srcOf) fun s => genL true q (ev C d2) (fun env => bnd (ev C e env) boolOf) (wipeE env q.slots) s.2 s.1) (env := wipeE env (p.slots ++ q.slots)) (f := f) (t := fun _ => true) (r := r) (k := true) hg (l := xs) fun y hy => by
    obtain ⟨env', h1, ys, g2, f2, t2, r2, k1, k2, k3, k4⟩ := hx y hy
    refine ⟨env', h1, rfl, fun _ => ?_⟩
    rw [← k4]
    refine bk2 k1 ((genL_pl (t := t2) (r := r2) (k := true) k2 fun z hz => ?_).trans rfl)
    obtain ⟨env2, j1, j2, j3⟩ := k3 z hz
    exact ⟨env2, j1, j2, fun q => bk2 (j3 q) rfl⟩
  rw [ef] at key
  simp only [ev]
  exact bk2 h (bk2 key rfl)
/-! statements -/
theorem sq (h : exec C s env st = .next env1 st1) (h2 : exec C u env1 st1 = o) : exec C (.seq s u) env st = o := by
  simp only [exec, h]
  exact h2
theorem sqr (h : exec C s env st = .ret d st1) : exec C (.seq s u) env st = .ret d st1 := by
  simp only [exec, h]
theorem sk : exec C .skip env st = .next env st := rfl
theorem rt (h : ev C e env st = .ok d st1) : exec C (.ret e) env st = .ret d st1 := by
  simp only [exec, run', h]
theorem asg {p : Pat} (h : ev C e env st = .ok d st1) (h2 : p.bind d env = some env1) : exec C (.asg p e) env st = .next env1 st1 := by
  simp only [exec, run', h, h2]
theorem drp (h : ev C e env st = .ok d st1) : exec C (.drop e) env st = .next env st1 := by
  simp only [exec, run', h]
theorem iff_ {k : Bool} (h : bnd (ev C c env) truth st = .ok k st1) (h2 : (if k then exec C s env st1 else exec C u env st1) = o) : exec C (.ite c s u) env st = o := by
  simp only [exec, run', h]
  cases k with
  | true => exact h2
  | false => exact h2
theorem ift (h : bnd (ev C c env) truth st = .ok true st1) (h2 : exec C s env st1 = o) : exec C (.ite c s u) env st = o := iff_ h h2
theorem ife (h : bnd (ev C c env) truth st = .ok false st1) (h2 : exec C u env st1 = o) : exec C (.ite c s u) env st = o := iff_ h h2
/-- a for, by an invariant over the things walked -/
theorem forL_inv {α : Type} {p : Pat} {b : Env → St → Out} {g : Option (Nat × List D)} {f : α → D} (I : List α → Env → St → Prop) : ∀ {l done : List α} {env : Env} {st : St}, I done env st →
    (∀ (x : α) (dn : List α) (env : Env) (st : St), x ∈ l → dn ++ [x] <+: done ++ l → I dn env st → ∃ env' env2 st2, p.bind (f x) env = some env' ∧ b env' st = .next env2 st2 ∧ chk g st2 = .ok () st2 ∧ I (dn ++ [x]) env2 st2) →
    ∃ env2 st2, forL p b g (l.map f) env st = .next env2 st2 ∧ I (done ++ l) env2 st2
  | [], done, env, st, h0, _ => ⟨env, st, rfl, by rw [List.append_nil]; exact h0⟩
  | x :: l, done, env, st, h0, hs => by
    obtain ⟨env', env2, st2, h1, h2, h3, h4⟩ := hs x done env st List.mem_cons_self (by rw [show done ++ x :: l = (done ++ [x]) ++ l by simp]; exact List.prefix_append _ _) h0
    obtain ⟨env3, st3, h5, h6⟩ := forL_inv (p := p) (b := b) (g := g) (f := f) I (l := l) (done := done ++ [x]) h4 fun y dn e s hy hp hi => hs y dn e s (List.mem_cons_of_mem _ hy) (by rw [show done ++ x :: l = (done ++ [x]) ++ l by simp]; exact hp) hi
    refine ⟨env3, st3, ?_, by rw [show done ++ x :: l = (done ++ [x]) ++ l by simp]; exact h6⟩
    rw [List.map_cons]
    unfold forL
    simp only [h1, h2, run', h3]
    exact h5
theorem for1 {α : Type} {p : Pat} {f : α → D} {xs : List α} {g : Option (Nat × List D)} (I : List α → Env → St → Prop) (h : bnd (ev C e env) srcOf st = .ok (xs.map f, g) st1) (h0 : I [] env st1)
    (hs : ∀ (x : α) (dn : List α) (env : Env) (st : St), x ∈ xs → dn ++ [x] <+: xs → I dn env st → ∃ env' env2 st2, p.bind (f x) env = some env' ∧ exec C s env' st = .next env2 st2 ∧ chk g st2 = .ok () st2 ∧ I (dn ++ [x]) env2 st2) :
    ∃ env2 st2, exec C (.for_ p e s) env st = .next env2 st2 ∧ I xs env2 st2 := by
  obtain ⟨env2, st2, h1, h2⟩ := forL_inv (p := p) (b := exec C s) (g := g) (f := f) I (l := xs) (done := []) h0 hs
  refine ⟨env2, st2, ?_, h2⟩
  simp only [exec, run', h]
  exact h1
/-! defs -/
theorem run_ret {i n : Nat} {fd : FD} {st1 st2 : St} (hi : T[i]? = some fd) (hn : l.length = fd.np) (h : exec (run T n) fd.body (l.map some ++ List.replicate (fd.ns - fd.np) none) st = .ret d st1) (hl : leave st.length d st1 = .ok y st2) : run T (n + 1) i l st = .ok y st2 := by
  simp only [run, hi, callB, hn, decide_true, h]
  exact hl
theorem run_next {i n : Nat} {fd : FD} {st1 st2 : St} (hi : T[i]? = some fd) (hn : l.length = fd.np) (h : exec (run T n) fd.body (l.map some ++ List.replicate (fd.ns - fd.np) none) st = .next env1 st1) (hl : leave st.length .non st1 = .ok y st2) : run T (n + 1) i l st = .ok y st2 := by
  simp only [run, hi, callB, hn, decide_true, h]
  exact hl
theorem run_pl {i n : Nat} {fd : FD} (hs : Low st) (hi : T[i]? = some fd) (hn : l.length = fd.np) (hd : Pl d) (h : exec (run T n) fd.body (l.map some ++ List.replicate (fd.ns - fd.np) none) st = .ret d st) : run T (n + 1) i l st = .ok d st := run_ret hi hn h (leave_pl hs hd)
end
end Mp
end
section
set_option Elab.async false
set_option linter.all false
set_option maxRecDepth 100000
set_option maxHeartbeats 1000000
/-! Data that tells numbers, tuples of them, and so on. -/
namespace Mp
open PySem
class Dat (α : Type) [DecidableEq α] where
  enc : α → D
  lv : Nat
  ltb : α → α → Bool
  shp : ∀ (x : α) (n : Nat), lv ≤ n → D.shp n (enc x) = true
  eq : ∀ x y : α, D.eq (enc x) (enc y) = decide (x = y)
  pl : ∀ x : α, Pl (enc x)
  alike : ∀ x y : α, D.alike (enc x) (enc y) = true
  lt : ∀ x y : α, D.lt (enc x) (enc y) = ltb x y
  same : ∀ x : α, D.same (enc x) (enc x) = true
open Dat (enc)
instance : Dat Nat where
  enc n := .int n
  lv := 0
  ltb x y := decide (x < y)
  shp x n _ := by cases n <;> rfl
  eq x y := by
    simp only [D.eq]
    by_cases h : x = y
    · subst h
      simp
    · have h' : ¬ (x : Int) = (y : Int) := fun z => h (Int.ofNat.inj z)
      simp [h, h']
  pl x := rfl
  alike x y := rfl
  lt x y := by
    simp only [D.lt]
    by_cases h : x < y
    · simp [h]
    · simp [h]
  same x := by simp [D.same]
instance : Dat Int where
  enc n := .int n
  lv := 0
  ltb x y := decide (x < y)
  shp x n _ := by cases n <;> rfl
  eq x y := by
    simp only [D.eq]
    by_cases h : x = y
    · subst h
      simp
    · simp [h]
  pl x := rfl
  alike x y := rfl
  lt x y := by simp only [D.lt]
  same x := by simp [D.same]
section
variable {α : Type} [DecidableEq α] [Dat α]
/-- order by the first place that differs -/
def ltL : List α → List α → Bool
  | [], [] => false
  | [], _ :: _ => true
  | _ :: _, [] => false
  | a :: r, b :: s => if a = b then ltL r s else Dat.ltb a b
theorem shps_map {n : Nat} (hn : Dat.lv α ≤ n) : ∀ l : List α, D.shps n (l.map enc) = true
  | [] => rfl
  | x :: l => by
    simp only [List.map_cons, D.shps, Dat.shp x n hn, shps_map hn l, Bool.and_self]
theorem eqs_map : ∀ l m : List α, D.eqs (l.map enc) (m.map enc) = decide (l = m)
  | [], [] => rfl
  | [], _ :: _ => rfl
  | _ :: _, [] => rfl
  | x :: l, y :: m => by
    simp only [List.map_cons, D.eqs, Dat.eq, eqs_map l m, List.cons.injEq]
    exact (Bool.decide_and _ _).symm
theorem lows_map : ∀ l : List α, D.lows 0 (l.map enc) = true
  | [] => rfl
  | x :: l => by
    simp only [List.map_cons, D.lows, lows_map l, Bool.and_true]
    exact Dat.pl x
theorem alikes_map : ∀ l m : List α, D.alikes (l.map enc) (m.map enc) = true
  | [], _ => by simp [D.alikes]
  | _ :: _, [] => rfl
  | x :: l, y :: m => by simp only [List.map_cons, D.alikes, Dat.alike, alikes_map l m, Bool.and_self]
theorem lts_map : ∀ l m : List α, D.lts (l.map enc) (m.map enc) = ltL l m
  | [], [] => rfl
  | [], _ :: _ => rfl
  | _ :: _, [] => rfl
  | x :: l, y :: m => by
    simp only [List.map_cons, D.lts, Dat.eq, Dat.lt, lts_map l m, ltL, decide_eq_true_eq]
theorem sames_map : ∀ l : List α, D.sames (l.map enc) (l.map enc) = true
  | [] => rfl
  | x :: l => by simp only [List.map_cons, D.sames, Dat.same, sames_map l, Bool.and_self]
instance : Dat (List α) where
  enc l := .tup (l.map enc)
  lv := Dat.lv α + 1
  ltb := ltL
  shp l n h := by
    cases n with
    | zero => cases h
    | succ n =>
      simp only [D.shp]
      exact shps_map (Nat.le_of_succ_le_succ h) l
  eq l m := by
    simp only [D.eq, eqs_map]
  pl l := by
    show D.low 0 (.tup _) = true
    simp only [D.low, lows_map]
  alike l m := by
    simp only [D.alike, alikes_map]
  lt l m := by
    simp only [D.lt, lts_map]
  same l := by
    simp only [D.same, sames_map]
variable {β : Type} [DecidableEq β] [Dat β]
instance : Dat (α × β) where
  enc p := .tup [enc p.1, enc p.2]
  lv := max (Dat.lv α) (Dat.lv β) + 1
  ltb p q := if p.1 = q.1 then (if p.2 = q.2 then false else Dat.ltb p.2 q.2) else Dat.ltb p.1 q.1
  shp p n h := by
    cases n with
    | zero => cases h
    | succ n =>
      have h := Nat.le_of_succ_le_succ h
      simp only [D.shp, D.shps, Dat.shp p.1 n (Nat.le_trans (Nat.le_max_left _ _) h), Dat.shp p.2 n (Nat.le_trans (Nat.le_max_right _ _) h), Bool.and_self]
  eq p q := by
    obtain ⟨a, b⟩ := p
    obtain ⟨c, d⟩ := q
    simp only [D.eq, D.eqs, Dat.eq, Bool.and_true, Prod.mk.injEq]
    exact (Bool.decide_and _ _).symm
  pl p := by
    show D.low 0 (.tup _) = true
    simp only [D.low, D.lows, Bool.and_true, Bool.and_eq_true]
    exact ⟨Dat.pl _, Dat.pl _⟩
  alike p q := by
    simp only [D.alike, D.alikes, Dat.alike, Bool.and_self]
  lt p q := by
    obtain ⟨a, b⟩ := p
    obtain ⟨c, d⟩ := q
    simp only [D.lt, D.lts, Dat.eq, Dat.lt, decide_eq_true_eq]
  same p := by
    simp only [D.same, D.sames, Dat.same, Bool.and_self]
/-- a list of such -/
abbrev dL (l : List α) : D := .lst (l.map enc)
theorem pl_L {l : List α} : Pl (dL l) := by
  show D.low 0 (.lst _) = true
  simp only [D.low, lows_map]
theorem ok_of {x : α} (h : Dat.lv α ≤ 60 := by decide) : D.ok (enc x) = true := Dat.shp x 60 h
theorem ok_L {l : List α} (h : Dat.lv α ≤ 59 := by decide) : D.ok (dL l) = true := by
  show D.shp 60 (.lst _) = true
  simp only [D.shp]
  exact shps_map h l
variable {st : St}
theorem eq_ {x y : α} [Decidable (x = y)] (h : Dat.lv α ≤ 60 := by decide) : cmpS .eq (enc x) (enc y) st = .ok (.bl (decide (x = y))) st := by
  simp only [cmpS, ok_of h, Bool.and_self, if_true, Dat.eq, ret]
  congr
theorem ne_ {x y : α} [Decidable (x = y)] (h : Dat.lv α ≤ 60 := by decide) : cmpS .ne (enc x) (enc y) st = .ok (.bl (!decide (x = y))) st := by
  simp only [cmpS, ok_of h, Bool.and_self, if_true, Dat.eq, ret]
  congr
theorem eq_L {x y : List α} [Decidable (x = y)] (h : Dat.lv α ≤ 59 := by decide) : cmpS .eq (dL x) (dL y) st = .ok (.bl (decide (x = y))) st := by
  have e : D.eq (dL x) (dL y) = decide (x = y) := by
    simp only [D.eq, eqs_map]
    congr
  simp only [cmpS, ok_L h, Bool.and_self, if_true, ret, e]
theorem any_map {x : α} : ∀ l : List α, (l.map enc).any (fun z => D.eq z (enc x)) = decide (x ∈ l)
  | [] => by simp
  | y :: l => by
    rw [List.map_cons, List.any_cons, any_map l, Dat.eq, ← Bool.decide_or]
    refine decide_eq_decide.mpr ?_
    rw [List.mem_cons]
    exact or_congr_left eq_comm
theorem mem_ {x : α} {l : List α} [Decidable (x ∈ l)] (h : Dat.lv α ≤ 59 := by decide) : cmpS .mem (enc x) (.tup (l.map enc)) st = .ok (.bl (decide (x ∈ l))) st := by
  have h1 : D.ok (enc x) = true := ok_of (Nat.le_succ_of_le h)
  have h2 : D.ok (.tup (l.map enc)) = true := ok_of (α := List α) (Nat.succ_le_succ h)
  simp only [cmpS, h1, h2, Bool.and_self, if_true, any_map, ret]
  congr
theorem nmem_ {x : α} {l : List α} [Decidable (x ∈ l)] (h : Dat.lv α ≤ 59 := by decide) : cmpS .nmem (enc x) (.tup (l.map enc)) st = .ok (.bl (!decide (x ∈ l))) st := by
  have h1 : D.ok (enc x) = true := ok_of (Nat.le_succ_of_le h)
  have h2 : D.ok (.tup (l.map enc)) = true := ok_of (α := List α) (Nat.succ_le_succ h)
  simp only [cmpS, h1, h2, Bool.and_self, if_true, any_map, ret]
  congr
theorem memL_ {x : α} {l : List α} [Decidable (x ∈ l)] (h : Dat.lv α ≤ 59 := by decide) : cmpS .mem (enc x) (dL l) st = .ok (.bl (decide (x ∈ l))) st := by
  have h1 : D.ok (enc x) = true := ok_of (Nat.le_succ_of_le h)
  have h2 : D.ok (dL l) = true := ok_L h
  simp only [cmpS, h1, h2, Bool.and_self, if_true, any_map, ret]
  congr
theorem nmemL_ {x : α} {l : List α} [Decidable (x ∈ l)] (h : Dat.lv α ≤ 59 := by decide) : cmpS .nmem (enc x) (dL l) st = .ok (.bl (!decide (x ∈ l))) st := by
  have h1 : D.ok (enc x) = true := ok_of (Nat.le_succ_of_le h)
  have h2 : D.ok (dL l) = true := ok_L h
  simp only [cmpS, h1, h2, Bool.and_self, if_true, any_map, ret]
  congr
theorem ltT_ {x y : List α} (h : Dat.lv α ≤ 59 := by decide) : cmpS .lt (.tup (x.map enc)) (.tup (y.map enc)) st = .ok (.bl (ltL x y)) st := by
  have h1 : D.ok (.tup (x.map enc)) = true := ok_of (α := List α) (Nat.succ_le_succ h)
  have h2 : D.ok (.tup (y.map enc)) = true := ok_of (α := List α) (Nat.succ_le_succ h)
  simp only [cmpS, h1, h2, alikes_map, lts_map, Bool.and_self, if_true, ret]
theorem upto_nat (a n : Nat) : upto (a : Int) n = (List.range' a n).map enc := by
  unfold upto
  rw [List.range'_eq_map_range, List.map_map]
  refine List.map_congr_left fun i _ => ?_
  show D.int _ = D.int _
  simp
theorem upto_zero (n : Nat) : upto 0 n = (List.range n).map enc := by
  rw [List.range_eq_range']
  exact upto_nat 0 n
/-- order that sorts -/
def leb (x y : α) : Bool := !Dat.ltb y x
theorem leD_enc {x y : α} : leD (enc x) (enc y) = leb x y := by
  unfold leD leb
  rw [Dat.lt]
theorem ins_map {γ δ : Type} {f : γ → δ} {le : γ → γ → Bool} {le' : δ → δ → Bool} (h : ∀ x y, le' (f x) (f y) = le x y) (x : γ) : ∀ l : List γ, ins le' (f x) (l.map f) = (ins le x l).map f
  | [] => rfl
  | y :: l => by
    rw [List.map_cons]
    unfold ins
    rw [h]
    split
    · rfl
    · rw [List.map_cons, ins_map h x l]
theorem isort_map {γ δ : Type} {f : γ → δ} {le : γ → γ → Bool} {le' : δ → δ → Bool} (h : ∀ x y, le' (f x) (f y) = le x y) : ∀ l : List γ, isort le' (l.map f) = (isort le l).map f
  | [] => rfl
  | x :: l => by
    rw [List.map_cons, isort, isort, isort_map h l, ins_map h]
theorem isort_enc (l : List α) : isort leD (l.map enc) = (isort leb l).map enc := isort_map (fun _ _ => leD_enc) l
theorem pD {p : Prim} {d e : D} {r : List D} (hp : ∀ cs, p ≠ .isI cs) (h : deref d st = .ok e st) : primD p (d :: r) st = primS p (e :: r) st := by
  cases p <;> first
    | exact bk h
    | exact absurd rfl (hp _)
theorem sorted_T {l : List (List α)} (h : Dat.lv α ≤ 59 := by decide) (h2 : (∀ x ∈ l, x ≠ []) ∨ l = [[]]) : primD .sorted [dL l] st = .ok (dL (isort leb l)) st := by
  have hok : (l.map enc).all D.ok = true := List.all_eq_true.mpr fun d hd => by
    obtain ⟨x, hx, rfl⟩ := List.mem_map.mp hd
    exact ok_of (Nat.succ_le_succ h)
  have hal : (l.map enc).all (fun a => (l.map enc).all fun b => D.alike a b) = true := List.all_eq_true.mpr fun d hd => List.all_eq_true.mpr fun e he => by
    obtain ⟨x, hx, rfl⟩ := List.mem_map.mp hd
    obtain ⟨y, hy, rfl⟩ := List.mem_map.mp he
    exact Dat.alike x y
  have hs : sortable (l.map enc) = true := by
    unfold sortable
    simp only [Bool.and_eq_true, Bool.or_eq_true]
    refine ⟨⟨hok, ?_⟩, ?_⟩
    · cases l with
      | nil => rfl
      | cons x r => exact hal
    · rcases h2 with h2 | h2
      · refine .inl (.inl (List.all_eq_true.mpr fun d hd => ?_))
        obtain ⟨x, hx, rfl⟩ := List.mem_map.mp hd
        cases x with
        | nil => exact absurd rfl (h2 [] hx)
        | cons a r => rfl
      · subst h2
        exact .inr rfl
  refine (pD (fun _ z => by cases z) (e := dL l) rfl).trans ?_
  simp only [primS, hs, if_true, isort_enc, ret]
end
end Mp
end
section
set_option Elab.async false
set_option linter.all false
set_option maxRecDepth 100000
set_option maxHeartbeats 1000000
/-! More steps of runs. -/
namespace Mp
open PySem
open Dat (enc)
section
variable {T : List FD} {C : CallF} {env env1 env2 : Env} {st st1 st2 st3 : St} {a b c e x : E} {d y z w : D} {l : List D} {s u : S} {o : Out}
variable {α : Type} [DecidableEq α] [Dat α]
theorem gen_all {γ : Type} {p : Pat} {f : γ → D} {xs : List γ} {g : Option (Nat × List D)} (h : bnd (ev C x env) srcOf st = .ok (xs.map f, g) st) (hg : chk g st = .ok () st) (hx : ∀ x ∈ xs, ∃ env', p.bind (f x) (wipeE env p.slots) = some env' ∧ ev C e env' st = .ok (.bl true) st) :
    ev C (.gen true p x (.con (.bl true)) e) env st = .ok (.bl true) st := by
  have := genA (fun _ => true) h hg hx
  rw [show xs.all (fun _ => true) = true from List.all_eq_true.mpr fun _ _ => rfl] at this
  exact this
theorem rangeOk_of {i : Int} (h1 : -16777217 ≤ i) (h2 : i ≤ 16777217) : rangeOk i = true := by
  unfold rangeOk
  rw [Bool.and_eq_true, decide_eq_true_eq, decide_eq_true_eq]
  omega
theorem it_rng1 {i : Int} {n : Nat} (h : ev C a env st = .ok (.int i) st1) (hn : i.toNat = n) (h1 : -16777217 ≤ i) (h2 : i ≤ 16777217) : bnd (ev C (.itr .range1 (.cons a .nil)) env) srcOf st = .ok ((List.range n).map enc, none) st1 := by
  refine it (al h al0) ?_
  simp only [itemsD, rangeOk_of h1 h2, if_true, ret]
  rw [← upto_zero, hn]
theorem it_rng2 {k j : Nat} (h : ev C a env st = .ok (.int k) st1) (hb : ev C b env st1 = .ok (.int j) st2) (h1 : k ≤ 16777216) (h2 : j ≤ 16777216) : bnd (ev C (.itr .range2 (.cons a (.cons b .nil))) env) srcOf st = .ok ((List.range' k (j - k)).map enc, none) st2 := by
  refine it (al h (al hb al0)) ?_
  simp only [itemsD, rangeOk_of (i := k) (by omega) (by omega), rangeOk_of (i := j) (by omega) (by omega), Bool.and_self, if_true, ret]
  rw [← upto_nat, show ((j : Int) - (k : Int)).toNat = j - k by omega]
theorem numbered_map : ∀ (l : List α) (k : Nat), numbered k (l.map enc) = (l.zipIdx k).map fun p => .tup [.int p.2, enc p.1]
  | [], _ => rfl
  | x :: l, k => by
    rw [List.map_cons, List.zipIdx_cons, List.map_cons]
    unfold numbered
    rw [numbered_map l (k + 1)]
/-- enumerate of a tuple -/
theorem it_enum {xs : List α} (h : ev C a env st = .ok (.tup (xs.map enc)) st1) : bnd (ev C (.itr .enum (.cons a .nil)) env) srcOf st = .ok (xs.zipIdx.map fun p => .tup [.int p.2, enc p.1], none) st1 := by
  refine it (al h al0) ?_
  rw [← numbered_map]
  rfl
theorem it_tup {xs : List D} (h : ev C a env st = .ok (.tup xs) st1) : bnd (ev C (.itr .seq (.cons a .nil)) env) srcOf st = .ok (xs, none) st1 := it (al h al0) rfl
theorem it_lst {xs : List D} (h : ev C a env st = .ok (.lst xs) st1) : bnd (ev C (.itr .seq (.cons a .nil)) env) srcOf st = .ok (xs, none) st1 := it (al h al0) rfl
theorem atI_map {β γ : Type} {f : β → γ} {xs : List β} {i : Nat} {v : β} (h : xs[i]? = some v) : L2.atI (xs.map f) (i : Int) = some (f v) := by
  obtain ⟨hi, _⟩ := List.getElem?_eq_some_iff.mp h
  unfold L2.atI L2.ixN
  rw [List.length_map, if_pos (by omega), if_pos (by omega)]
  show (xs.map f)[(i : Int).toNat]? = _
  rw [Int.toNat_natCast, List.getElem?_map, h]
  rfl
theorem atI_end {β γ : Type} {f : β → γ} {xs : List β} {v : β} (h : xs.getLast? = some v) : L2.atI (xs.map f) (-1) = some (f v) := by
  have hne : xs.length ≠ 0 := fun z => by
    rw [List.length_eq_zero_iff] at z
    subst z
    cases h
  unfold L2.atI L2.ixN
  rw [List.length_map, if_neg (by omega), if_pos (by omega)]
  show (xs.map f)[(-1 + (xs.length : Int)).toNat]? = _
  rw [show (-1 + (xs.length : Int)).toNat = xs.length - 1 by omega, List.getElem?_map, ← List.getLast?_eq_getElem?, h]
  rfl
theorem ixT {xs : List α} {i : Nat} {v : α} (h : xs[i]? = some v) : idxD (.tup (xs.map enc)) (.int i) st = .ok (enc v) st := by
  refine bk2 (v := .tup (xs.map enc)) (st1 := st) rfl ?_
  show opt (L2.atI (xs.map enc) (i : Int)) st = _
  rw [atI_map h]
  rfl
theorem ixT_end {xs : List α} {v : α} (h : xs.getLast? = some v) : idxD (.tup (xs.map enc)) (.int (-1)) st = .ok (enc v) st := by
  refine bk2 (v := .tup (xs.map enc)) (st1 := st) rfl ?_
  show opt (L2.atI (xs.map enc) (-1)) st = _
  rw [atI_end h]
  rfl
theorem ixL {xs : List α} {i : Nat} {v : α} (h : xs[i]? = some v) : idxD (dL xs) (.int i) st = .ok (enc v) st := by
  refine bk2 (v := dL xs) (st1 := st) rfl ?_
  show opt (L2.atI (xs.map enc) (i : Int)) st = _
  rw [atI_map h]
  rfl
theorem ixL_end {xs : List α} {v : α} (h : xs.getLast? = some v) : idxD (dL xs) (.int (-1)) st = .ok (enc v) st := by
  refine bk2 (v := dL xs) (st1 := st) rfl ?_
  show opt (L2.atI (xs.map enc) (-1)) st = _
  rw [atI_end h]
  rfl
theorem cut_take {xs : List D} (i : Nat) : cut xs none (some (i : Int)) = xs.take i := by
  unfold cut
  rw [HT.sIx_none, HT.sIx_nat, List.drop_zero, Nat.sub_zero]
  rcases Nat.le_total i xs.length with h | h
  · rw [Nat.min_eq_left h]
  · rw [Nat.min_eq_right h, List.take_of_length_le (Nat.le_refl _), List.take_of_length_le h]
theorem cut_drop {xs : List D} (i : Nat) : cut xs (some (i : Int)) none = xs.drop i := by
  unfold cut
  rw [HT.sIx_none, HT.sIx_nat]
  rcases Nat.le_total i xs.length with h | h
  · rw [Nat.min_eq_left h]
    exact List.take_of_length_le (by rw [List.length_drop]; omega)
  · rw [Nat.min_eq_right h, Nat.sub_self, List.take_zero, List.drop_eq_nil_of_le h]
theorem cut_init {xs : List D} : cut xs none (some (-1)) = xs.dropLast := by
  unfold cut
  rw [HT.sIx_none, List.drop_zero, Nat.sub_zero, List.dropLast_eq_take]
  have e : HT.sIx xs.length xs.length (some (-1)) = xs.length - 1 := by
    show (if (-1 : Int) < 0 then (-1 + (xs.length : Int)).toNat else min (-1 : Int).toNat xs.length) = _
    rw [if_pos (by omega)]
    omega
  rw [e]
theorem addT {xs ys : List α} (h : (xs ++ ys).length ≤ line) : binD .add (.tup (xs.map enc)) (.tup (ys.map enc)) st = .ok (.tup ((xs ++ ys).map enc)) st := by
  refine bk2 (v := .tup (xs.map enc)) (st1 := st) rfl (bk2 (v := .tup (ys.map enc)) (st1 := st) rfl ?_)
  simp only [binS, retTup]
  rw [← List.map_append, lenOk_of (by rw [List.length_map]; exact h)]
theorem addL {xs ys : List α} (h : (xs ++ ys).length ≤ line) : binD .add (dL xs) (dL ys) st = .ok (dL (xs ++ ys)) st := by
  refine bk2 (v := dL xs) (st1 := st) rfl (bk2 (v := dL ys) (st1 := st) rfl ?_)
  simp only [binS, retLst]
  rw [← List.map_append, lenOk_of (by rw [List.length_map]; exact h)]
theorem tp1 {v : α} (h : ev C a env st = .ok (enc v) st1) : ev C (.tup (.cons a .nil)) env st = .ok (.tup ([v].map enc)) st1 := tp (al h al0) (by show 1 ≤ line; decide)
theorem ls1 {v : α} (h : ev C a env st = .ok (enc v) st1) : ev C (.lst (.cons a .nil)) env st = .ok (dL [v]) st1 := ls (al h al0) (by show 1 ≤ line; decide)
theorem low_snoc {l : List D} (hs : Low st) (h : ∀ d ∈ l, Pl d) : Low (st ++ [.lst l]) := by
  unfold Low at hs ⊢
  rw [List.all_append, Bool.and_eq_true, List.length_append]
  refine ⟨List.all_eq_true.mpr fun c hc => ?_, ?_⟩
  · have q := List.all_eq_true.mp hs c hc
    cases c with
    | lst m => exact D.lows_mono (Nat.le_add_right _ _) m q
    | dct t ks vs =>
      simp only [Cell.low, Bool.and_eq_true] at q ⊢
      exact ⟨D.lows_mono (Nat.le_add_right _ _) ks q.1, D.lows_mono (Nat.le_add_right _ _) vs q.2⟩
  · simp only [List.all_cons, List.all_nil, Bool.and_true, Cell.low]
    exact D.lows_iff.mpr fun d hd => D.low_mono (Nat.zero_le _) d (h d hd)
theorem app_own {l : List D} (h : l.length < line) : methD .append (.cell st.length) [d] (st ++ [.lst l]) = .ok .non (st ++ [.lst (l ++ [d])]) := by
  unfold methD
  simp only
  have e : (st ++ [Cell.lst l])[st.length]? = some (.lst l) := by
    rw [List.getElem?_append_right (Nat.le_refl _), Nat.sub_self]
    rfl
  rw [e]
  simp only [h, decide_true, if_true, List.set_append_right, Nat.le_refl, Nat.sub_self, List.set_cons_zero]
theorem lstC_own {l : List D} : lstC (.cell st.length) (st ++ [.lst l]) = .ok () (st ++ [.lst l]) := by
  unfold lstC
  simp only
  have e : (st ++ [Cell.lst l])[st.length]? = some (.lst l) := by
    rw [List.getElem?_append_right (Nat.le_refl _), Nat.sub_self]
    rfl
  rw [e]
theorem deref_own {l : List D} : deref (.cell st.length) (st ++ [.lst l]) = .ok (.lst l) (st ++ [.lst l]) := by
  unfold deref
  simp only
  have e : (st ++ [Cell.lst l])[st.length]? = some (.lst l) := by
    rw [List.getElem?_append_right (Nat.le_refl _), Nat.sub_self]
    rfl
  rw [e]
end
end Mp
end
section
set_option Elab.async false
set_option linter.all false
/-! Paintings, counted by heaps. -/
namespace GM
abbrev Heaps := List (List Nat)
abbrev Col := List (Nat × List Nat)
/-- ways to add a house to heaps; fr: the heap has no neighbor of it -/
def wW (fr : List Nat → Bool) (P : Heaps) (h : Nat) : List Heaps := (P ++ [[h]]) :: (P.zipIdx.filter fun p => fr p.1).map fun p => P.take p.2 ++ [p.1 ++ [h]] ++ P.drop (p.2 + 1)
def cols (K : Col) : List Nat := K.map Prod.fst
def hps (K : Col) : Heaps := K.map Prod.snd
def upd (h c : Nat) (K : Col) : Col := if c ∈ cols K then K.map fun q => if q.1 = c then (q.1, q.2 ++ [h]) else q else K ++ [(c, [h])]
def okc (fr : List Nat → Bool) (K : Col) (c : Nat) : Bool := K.all fun q => !decide (q.1 = c) || fr q.2
/-- sum over a list -/
def sm {α : Type} (f : α → Nat) (l : List α) : Nat := (l.map f).sum
section
variable {α β : Type}
theorem sm_nil {f : α → Nat} : sm f [] = 0 := rfl
theorem sm_cons {f : α → Nat} {a : α} {l : List α} : sm f (a :: l) = f a + sm f l := by
  unfold sm
  rw [List.map_cons, List.sum_cons]
theorem sm_append {f : α → Nat} {l m : List α} : sm f (l ++ m) = sm f l + sm f m := by
  unfold sm
  rw [List.map_append, List.sum_append_nat]
theorem sm_map {f : β → Nat} {g : α → β} {l : List α} : sm f (l.map g) = sm (fun a => f (g a)) l := by
  unfold sm
  rw [List.map_map]
  rfl
theorem sm_congr {f g : α → Nat} {l : List α} (h : ∀ a ∈ l, f a = g a) : sm f l = sm g l := by
  unfold sm
  rw [List.map_congr_left h]
theorem sm_flatMap {f : β → Nat} {g : α → List β} : ∀ {l : List α}, sm f (l.flatMap g) = sm (fun a => sm f (g a)) l
  | [] => rfl
  | a :: l => by rw [List.flatMap_cons, sm_append, sm_cons, sm_flatMap]
theorem sm_perm {f : α → Nat} {l m : List α} (h : l.Perm m) : sm f l = sm f m := (h.map f).sum_nat
theorem sm_mul {f : α → Nat} {k : Nat} : ∀ {l : List α}, sm (fun a => k * f a) l = k * sm f l
  | [] => rfl
  | a :: l => by rw [sm_cons, sm_cons, sm_mul, Nat.mul_add]
theorem sm_const {k : Nat} : ∀ {l : List α}, sm (fun _ => k) l = l.length * k
  | [] => by rw [sm_nil, List.length_nil, Nat.zero_mul]
  | a :: l => by rw [sm_cons, sm_const, List.length_cons, Nat.succ_mul, Nat.add_comm]
theorem sm_split {f : α → Nat} {p : α → Bool} : ∀ {l : List α}, sm f l = sm f (l.filter p) + sm f (l.filter fun a => !p a)
  | [] => rfl
  | a :: l => by
    rw [sm_cons, sm_split (l := l) (p := p)]
    cases h : p a with
    | true =>
      rw [List.filter_cons_of_pos h, List.filter_cons_of_neg (by rw [h]; simp), sm_cons]
      omega
    | false =>
      rw [List.filter_cons_of_neg (by rw [h]; simp), List.filter_cons_of_pos (by rw [h]; simp), sm_cons]
      omega
theorem len_flatMap {g : α → List β} : ∀ {l : List α}, (l.flatMap g).length = sm (fun a => (g a).length) l
  | [] => rfl
  | a :: l => by rw [List.flatMap_cons, List.length_append, sm_cons, len_flatMap]
end
/-- so many choices in sequence -/
def prm (p : Nat) : Nat → Nat
  | 0 => 1
  | k + 1 => prm p k * (p - k)
theorem prm_pos {p : Nat} : ∀ {k : Nat}, k ≤ p → 0 < prm p k
  | 0, _ => Nat.one_pos
  | k + 1, h => Nat.mul_pos (prm_pos (Nat.le_of_succ_le h)) (Nat.sub_pos_of_lt h)
theorem prm_zero {p : Nat} : ∀ {k : Nat}, p < k → prm p k = 0
  | k + 1, h => by
    unfold prm
    rcases Nat.lt_or_ge p k with z | z
    · rw [prm_zero z, Nat.zero_mul]
    · rw [Nat.sub_eq_zero_of_le (by omega), Nat.mul_zero]
variable {fr : List Nat → Bool} {h pots : Nat}
/-- colors unlike, and within the pots -/
def Good (pots : Nat) (K : Col) : Prop := (cols K).Nodup ∧ ∀ c ∈ cols K, 1 ≤ c ∧ c ≤ pots
theorem upd_in {K : Col} {c : Nat} (hc : c ∈ cols K) : upd h c K = K.map fun q => if q.1 = c then (q.1, q.2 ++ [h]) else q := if_pos hc
theorem upd_new {K : Col} {c : Nat} (hc : ¬ c ∈ cols K) : upd h c K = K ++ [(c, [h])] := if_neg hc
theorem cols_upd {K : Col} {c : Nat} : cols (upd h c K) = if c ∈ cols K then cols K else cols K ++ [c] := by
  unfold upd
  split
  · unfold cols
    rw [List.map_map]
    refine List.map_congr_left fun q _ => ?_
    show (if q.1 = c then (q.1, q.2 ++ [h]) else q).1 = q.1
    split <;> rfl
  · unfold cols
    rw [List.map_append]
    rfl
theorem good_upd {K : Col} {c : Nat} (g : Good pots K) (h1 : 1 ≤ c) (h2 : c ≤ pots) : Good pots (upd h c K) := by
  unfold Good
  rw [cols_upd]
  split
  · exact g
  · rename_i hc
    refine ⟨List.nodup_append.mpr ⟨g.1, List.pairwise_singleton _ _, fun a ha b hb => ?_⟩, fun x hx => ?_⟩
    · rw [List.mem_singleton.mp hb]
      exact fun e => hc (e ▸ ha)
    · rcases List.mem_append.mp hx with hx | hx
      · exact g.2 x hx
      · rw [List.mem_singleton.mp hx]
        exact ⟨h1, h2⟩
theorem len_le {K : Col} (g : Good pots K) : K.length ≤ pots := by
  have h1 : cols K ⊆ List.range' 1 pots := fun c hc => by
    have := g.2 c hc
    exact List.mem_range'_1.mpr ⟨this.1, by omega⟩
  have h2 := (List.Nodup.length_le_of_subset g.1 h1)
  rw [List.length_range'] at h2
  unfold cols at h2
  rwa [List.length_map] at h2
theorem rest_len {K : Col} (g : Good pots K) : ((List.range' 1 pots).filter fun c => !decide (c ∈ cols K)).length = pots - K.length := by
  have h1 : ((List.range' 1 pots).filter fun c => decide (c ∈ cols K)).Perm (cols K) := by
    refine (List.perm_ext_iff_of_nodup (List.Pairwise.filter _ List.nodup_range') g.1).mpr fun c => ?_
    rw [List.mem_filter, decide_eq_true_eq]
    refine ⟨fun z => z.2, fun z => ⟨?_, z⟩⟩
    have := g.2 c z
    exact List.mem_range'_1.mpr ⟨this.1, by omega⟩
  have h2 := h1.length_eq
  have h3 := sm_split (f := fun _ => 1) (p := fun c => decide (c ∈ cols K)) (l := List.range' 1 pots)
  rw [sm_const, sm_const, sm_const, List.length_range'] at h3
  unfold cols at h2 h3 ⊢
  rw [List.length_map] at h2
  omega
theorem okc_used {K : Col} (nd : (cols K).Nodup) {q : Nat × List Nat} (hq : q ∈ K) : okc fr K q.1 = fr q.2 := by
  cases e : fr q.2 with
  | true =>
    refine List.all_eq_true.mpr fun r hr => ?_
    by_cases z : r.1 = q.1
    · have : r = q := by
        by_cases w : r = q
        · exact w
        · exact absurd z (by
            have := nd
            unfold cols at this
            have k := List.pairwise_map.mp this
            rcases List.mem_iff_getElem.mp hr with ⟨i, hi, rfl⟩
            rcases List.mem_iff_getElem.mp hq with ⟨j, hj, rfl⟩
            have kk := List.pairwise_iff_getElem.mp k
            rcases Nat.lt_trichotomy i j with l | l | l
            · exact kk i j hi hj l
            · subst l
              exact absurd rfl w
            · exact fun e => kk j i hj hi l e.symm)
      rw [this, e, Bool.or_true]
    · rw [decide_eq_false z]
      rfl
  | false =>
    cases k : okc fr K q.1 with
    | false => rfl
    | true =>
      have := List.all_eq_true.mp k q hq
      rw [decide_eq_true rfl, e] at this
      cases this
theorem okc_new {K : Col} {c : Nat} (hc : ¬ c ∈ cols K) : okc fr K c = true := List.all_eq_true.mpr fun q hq => by
  rw [decide_eq_false fun e => hc (by rw [← e]; exact List.mem_map_of_mem hq)]
  rfl
/-- the heap at a place grows -/
theorem upd_at {A B : Col} {q : Nat × List Nat} (nd : (cols (A ++ q :: B)).Nodup) : hps (upd h q.1 (A ++ q :: B)) = hps A ++ [q.2 ++ [h]] ++ hps B := by
  have hm : q.1 ∈ cols (A ++ q :: B) := List.mem_map_of_mem (List.mem_append_right _ List.mem_cons_self)
  rw [upd_in hm]
  unfold cols at nd
  rw [List.map_append, List.map_cons, List.nodup_append] at nd
  obtain ⟨n1, n2, n3⟩ := nd
  rw [List.nodup_cons] at n2
  unfold hps
  have e1 : A.map (fun r => if r.1 = q.1 then (r.1, r.2 ++ [h]) else r) = A := by
    refine (List.map_congr_left fun r hr => ?_).trans (List.map_id A)
    rw [if_neg fun e => n3 r.1 (List.mem_map_of_mem hr) q.1 List.mem_cons_self e]
    rfl
  have e2 : B.map (fun r => if r.1 = q.1 then (r.1, r.2 ++ [h]) else r) = B := by
    refine (List.map_congr_left fun r hr => ?_).trans (List.map_id B)
    rw [if_neg fun e => n2.1 (by rw [← e]; exact List.mem_map_of_mem hr)]
    rfl
  rw [List.map_append, List.map_cons, e1, e2, if_pos rfl, List.map_append, List.map_cons, List.append_assoc]
  rfl
theorem zip_sum {F : Heaps → Nat} {X : Col} : ∀ {B A : Col}, X = A ++ B → (cols X).Nodup →
    sm (fun q => F (hps (upd h q.1 X))) (B.filter fun q => fr q.2) = sm (fun p : List Nat × Nat => F ((hps X).take p.2 ++ [p.1 ++ [h]] ++ (hps X).drop (p.2 + 1))) (((hps B).zipIdx A.length).filter fun p => fr p.1)
  | [], _, _, _ => rfl
  | q :: B, A, e, nd => by
    have ih := zip_sum (F := F) (B := B) (A := A ++ [q]) (by rw [e, List.append_assoc]; rfl) nd
    rw [List.length_append, List.length_singleton] at ih
    have e0 : hps (q :: B) = q.2 :: hps B := rfl
    rw [e0, List.zipIdx_cons]
    have key : F (hps (upd h q.1 X)) = F ((hps X).take A.length ++ [q.2 ++ [h]] ++ (hps X).drop (A.length + 1)) := by
      rw [e] at nd
      rw [e, upd_at nd]
      have l : (hps A).length = A.length := List.length_map _
      have e1 : hps (A ++ q :: B) = hps A ++ q.2 :: hps B := by
        unfold hps
        rw [List.map_append, List.map_cons]
      rw [e1, ← l, List.take_left, List.drop_append, List.drop_eq_nil_of_le (Nat.le_succ _), Nat.add_sub_cancel_left]
      rfl
    cases k : fr q.2 with
    | true =>
      rw [List.filter_cons_of_pos (by exact k), List.filter_cons_of_pos (by exact k), sm_cons, sm_cons, ih, key]
    | false =>
      rw [List.filter_cons_of_neg (by simp [k]), List.filter_cons_of_neg (by simp [k]), ih]
/-- one house more, summed up -/
theorem step_one {F : Heaps → Nat} {K : Col} (g : Good pots K) :
    sm (fun c => F (hps (upd h c K))) ((List.range' 1 pots).filter (okc fr K)) = (pots - (hps K).length) * F (hps K ++ [[h]]) + sm (fun p : List Nat × Nat => F ((hps K).take p.2 ++ [p.1 ++ [h]] ++ (hps K).drop (p.2 + 1))) ((hps K).zipIdx.filter fun p => fr p.1) := by
  have lk : (hps K).length = K.length := List.length_map _
  have e1 : sm (fun c => F (hps (upd h c K))) ((List.range' 1 pots).filter (okc fr K)) = sm (fun c => F (hps (upd h c K))) ((cols K).filter (okc fr K)) + (pots - K.length) * F (hps K ++ [[h]]) := by
    rw [sm_split (p := fun c => decide (c ∈ cols K))]
    congr 1
    · refine sm_perm ?_
      refine (List.perm_ext_iff_of_nodup (List.Pairwise.filter _ (List.Pairwise.filter _ List.nodup_range')) (List.Pairwise.filter _ g.1)).mpr fun c => ?_
      rw [List.mem_filter, List.mem_filter, List.mem_filter, decide_eq_true_eq]
      refine ⟨fun z => ⟨z.2, z.1.2⟩, fun z => ⟨⟨?_, z.2⟩, z.1⟩⟩
      have := g.2 c z.1
      exact List.mem_range'_1.mpr ⟨this.1, by omega⟩
    · have e2 : ((List.range' 1 pots).filter (okc fr K)).filter (fun c => !decide (c ∈ cols K)) = (List.range' 1 pots).filter fun c => !decide (c ∈ cols K) := by
        rw [List.filter_filter]
        refine List.filter_congr fun c _ => ?_
        cases z : decide (c ∈ cols K) with
        | true => rfl
        | false =>
          rw [okc_new (of_decide_eq_false z)]
          rfl
      rw [e2, ← rest_len g]
      refine (sm_congr (g := fun _ => F (hps K ++ [[h]])) fun c hc => ?_).trans sm_const
      have hc := (List.mem_filter.mp hc).2
      rw [upd_new (by simpa using hc)]
      unfold hps
      rw [List.map_append]
      rfl
  have e3 : (cols K).filter (okc fr K) = (K.filter fun q => fr q.2).map Prod.fst := by
    unfold cols
    rw [List.filter_map]
    congr 1
    exact List.filter_congr fun q hq => okc_used g.1 hq
  have e4 := zip_sum (fr := fr) (h := h) (F := F) (X := K) (B := K) (A := []) rfl g.1
  rw [e1, e3, sm_map, e4, lk, Nat.add_comm]
  rfl
theorem step_ways {F : Heaps → Nat} {P : Heaps} : prm pots P.length * ((pots - P.length) * F (P ++ [[h]]) + sm (fun p : List Nat × Nat => F (P.take p.2 ++ [p.1 ++ [h]] ++ P.drop (p.2 + 1))) (P.zipIdx.filter fun p => fr p.1)) = sm (fun P => prm pots P.length * F P) (wW fr P h) := by
  unfold wW
  rw [sm_cons, sm_map, Nat.mul_add]
  congr 1
  · rw [List.length_append, List.length_singleton]
    rw [show prm pots (P.length + 1) = prm pots P.length * (pots - P.length) from rfl, Nat.mul_assoc]
  · rw [← sm_mul]
    refine sm_congr fun p hp => ?_
    have := List.mem_zipIdx' (List.mem_filter.mp hp).1
    have l : (P.take p.2 ++ [p.1 ++ [h]] ++ P.drop (p.2 + 1)).length = P.length := by
      simp only [List.length_append, List.length_take, List.length_drop, List.length_singleton]
      omega
    rw [l]
end GM
end
section
set_option Elab.async false
set_option linter.all false
namespace GM
def barred (adj : Nat → Nat → Bool) (lot : List Nat) (i h : Nat) (t : List Nat) : List Nat := ((List.range i).filter fun k => adj h (lot.getD k 0)).map fun k => t.getD k 0
def lwStep (adj : Nat → Nat → Bool) (lot : List Nat) (pots i h : Nat) (W : List (List Nat)) : List (List Nat) := W.flatMap fun t => ((List.range' 1 pots).filter fun c => !decide (c ∈ barred adj lot i h t)).map fun c => t ++ [c]
def lwFrom (adj : Nat → Nat → Bool) (lot : List Nat) (pots : Nat) (l : List (Nat × Nat)) (W : List (List Nat)) : List (List Nat) := l.foldl (fun W p => lwStep adj lot pots p.2 p.1 W) W
def lawWays (adj : Nat → Nat → Bool) (lot : List Nat) (pots : Nat) : List (List Nat) := lwFrom adj lot pots lot.zipIdx [[]]
def parts (fr : Nat → List Nat → Bool) (lot : List Nat) (W : List Heaps) : List Heaps := lot.foldl (fun W h => W.flatMap fun P => wW (fr h) P h) W
structure Inv (dn t : List Nat) (K : Col) : Prop where
  len : t.length = dn.length
  fwd : ∀ q ∈ K, ∀ x ∈ q.2, ∃ k, k < dn.length ∧ dn.getD k 0 = x ∧ t.getD k 0 = q.1
  bwd : ∀ k, k < dn.length → ∃ q ∈ K, q.1 = t.getD k 0 ∧ dn.getD k 0 ∈ q.2
theorem getD_l {l m : List Nat} {k : Nat} (h : k < l.length) : (l ++ m).getD k 0 = l.getD k 0 := by
  rw [List.getD_eq_getElem?_getD, List.getD_eq_getElem?_getD, List.getElem?_append_left h]
theorem getD_e {l : List Nat} {x : Nat} : (l ++ [x]).getD l.length 0 = x := by
  rw [List.getD_eq_getElem?_getD, List.getElem?_append_right (Nat.le_refl _), Nat.sub_self]
  rfl
theorem getD_mem {l : List Nat} {k : Nat} (h : k < l.length) : l.getD k 0 ∈ l := by
  rw [List.getD_eq_getElem?_getD, List.getElem?_eq_getElem h]
  exact List.getElem_mem h
theorem Inv.ok {dn t rest : List Nat} {K : Col} {h c : Nat} {adj : Nat → Nat → Bool} {fr : List Nat → Bool} (I : Inv dn t K) (hf : ∀ q ∈ K, fr q.2 = !(q.2.any fun o => adj h o)) :
    (!decide (c ∈ barred adj (dn ++ rest) dn.length h t)) = okc fr K c := by
  cases e : okc fr K c with
  | true =>
    rw [Bool.not_eq_true', decide_eq_false_iff_not]
    intro hc
    unfold barred at hc
    obtain ⟨k, hk, rfl⟩ := List.mem_map.mp hc
    obtain ⟨hk, ha⟩ := List.mem_filter.mp hk
    have hk := List.mem_range.mp hk
    rw [getD_l hk] at ha
    obtain ⟨q, hq, e1, e2⟩ := I.bwd k hk
    have := List.all_eq_true.mp e q hq
    rw [decide_eq_true e1, hf q hq] at this
    have z : q.2.any (fun o => adj h o) = true := List.any_eq_true.mpr ⟨_, e2, ha⟩
    rw [z] at this
    cases this
  | false =>
    rw [Bool.not_eq_false', decide_eq_true_eq]
    unfold okc at e
    rw [List.all_eq_false] at e
    obtain ⟨q, hq, z⟩ := e
    rw [hf q hq] at z
    have z1 : q.1 = c := by
      by_cases w : q.1 = c
      · exact w
      · rw [decide_eq_false w] at z
        exact absurd rfl z
    have z2 : q.2.any (fun o => adj h o) = true := by
      cases w : q.2.any (fun o => adj h o) with
      | true => rfl
      | false =>
        rw [w] at z
        simp at z
    obtain ⟨x, hx, ha⟩ := List.any_eq_true.mp z2
    obtain ⟨k, hk, e1, e2⟩ := I.fwd q hq x hx
    refine List.mem_map.mpr ⟨k, List.mem_filter.mpr ⟨List.mem_range.mpr hk, ?_⟩, by rw [e2, z1]⟩
    rw [getD_l hk, e1]
    exact ha
theorem Inv.add {dn t : List Nat} {K : Col} {h c : Nat} (I : Inv dn t K) : Inv (dn ++ [h]) (t ++ [c]) (upd h c K) := by
  have hl := I.len
  refine ⟨by rw [List.length_append, List.length_append, hl]; rfl, fun q hq x hx => ?_, fun k hk => ?_⟩
  · rw [List.length_append, List.length_singleton]
    by_cases hc : c ∈ cols K
    · rw [upd_in hc] at hq
      obtain ⟨r, hr, rfl⟩ := List.mem_map.mp hq
      by_cases e : r.1 = c
      · rw [if_pos e] at hx ⊢
        rcases List.mem_append.mp hx with hx | hx
        · obtain ⟨k, hk, e1, e2⟩ := I.fwd r hr x hx
          exact ⟨k, by omega, by rw [getD_l hk]; exact e1, by rw [getD_l (by omega)]; exact e2⟩
        · rw [List.mem_singleton.mp hx]
          refine ⟨dn.length, by omega, getD_e, ?_⟩
          rw [← hl, getD_e]
          exact e.symm
      · rw [if_neg e] at hx ⊢
        obtain ⟨k, hk, e1, e2⟩ := I.fwd r hr x hx
        exact ⟨k, by omega, by rw [getD_l hk]; exact e1, by rw [getD_l (by omega)]; exact e2⟩
    · rw [upd_new hc] at hq
      rcases List.mem_append.mp hq with hq | hq
      · obtain ⟨k, hk, e1, e2⟩ := I.fwd q hq x hx
        exact ⟨k, by omega, by rw [getD_l hk]; exact e1, by rw [getD_l (by omega)]; exact e2⟩
      · rw [List.mem_singleton.mp hq] at hx ⊢
        rw [List.mem_singleton.mp hx]
        refine ⟨dn.length, by omega, getD_e, ?_⟩
        rw [← hl, getD_e]
  · rw [List.length_append, List.length_singleton] at hk
    rcases Nat.lt_or_ge k dn.length with z | z
    · rw [getD_l z, getD_l (by omega)]
      obtain ⟨q, hq, e1, e2⟩ := I.bwd k z
      unfold upd
      split
      · refine ⟨_, List.mem_map_of_mem hq, ?_⟩
        split
        · exact ⟨e1, List.mem_append_left _ e2⟩
        · exact ⟨e1, e2⟩
      · exact ⟨q, List.mem_append_left _ hq, e1, e2⟩
    · have : k = dn.length := by omega
      subst this
      rw [getD_e, ← hl, getD_e]
      unfold upd
      split
      · rename_i hc
        obtain ⟨q, hq, e⟩ := List.mem_map.mp hc
        refine ⟨_, List.mem_map_of_mem hq, ?_⟩
        rw [if_pos e]
        exact ⟨e, List.mem_append_right _ List.mem_cons_self⟩
      · exact ⟨_, List.mem_append_right _ List.mem_cons_self, rfl, List.mem_cons_self⟩
theorem fm_congr {α β : Type} {f g : α → List β} {l : List α} (h : ∀ a ∈ l, f a = g a) : l.flatMap f = l.flatMap g := by
  unfold List.flatMap
  rw [List.map_congr_left h]
/-- the paintings are as many as the parts told by heaps, each with its choices -/
theorem count_from {adj : Nat → Nat → Bool} {fr : Nat → List Nat → Bool} {pots : Nat} {lot : List Nat} (hf : ∀ h ∈ lot, ∀ H : List Nat, (∀ x ∈ H, x ∈ lot) → fr h H = !(H.any fun o => adj h o)) :
    ∀ (rest dn : List Nat) (TK : List (List Nat × Col)) (Ps : List Heaps), lot = dn ++ rest → (∀ s ∈ TK, Inv dn s.1 s.2 ∧ Good pots s.2) →
      (∀ F : Heaps → Nat, sm (fun s => F (hps s.2)) TK = sm (fun P => prm pots P.length * F P) Ps) →
      (lwFrom adj lot pots (rest.zipIdx dn.length) (TK.map Prod.fst)).length = sm (fun P => prm pots P.length) (parts fr rest Ps)
  | [], dn, TK, Ps, e, hI, hF => by
    have := hF fun _ => 1
    rw [sm_const] at this
    simp only [Nat.mul_one] at this
    show (TK.map Prod.fst).length = sm _ Ps
    rw [List.length_map, ← this]
  | h :: rest, dn, TK, Ps, e, hI, hF => by
    have hh : h ∈ lot := by rw [e]; exact List.mem_append_right _ List.mem_cons_self
    have hfr : ∀ s ∈ TK, ∀ q ∈ s.2, fr h q.2 = !(q.2.any fun o => adj h o) := fun s hs q hq => hf h hh q.2 fun x hx => by
      obtain ⟨k, hk, e1, _⟩ := (hI s hs).1.fwd q hq x hx
      rw [e, ← e1]
      exact List.mem_append_left _ (getD_mem hk)
    have ih := count_from hf rest (dn ++ [h]) (TK.flatMap fun s => ((List.range' 1 pots).filter (okc (fr h) s.2)).map fun c => (s.1 ++ [c], upd h c s.2)) (Ps.flatMap fun P => wW (fr h) P h) (by rw [e, List.append_assoc]; rfl) (fun s hs => by
      obtain ⟨r, hr, hs⟩ := List.mem_flatMap.mp hs
      obtain ⟨c, hc, rfl⟩ := List.mem_map.mp hs
      have hc := List.mem_range'_1.mp (List.mem_filter.mp hc).1
      exact ⟨(hI r hr).1.add, good_upd (hI r hr).2 hc.1 (by omega)⟩) (fun F => by
      rw [sm_flatMap, sm_flatMap]
      have s1 : sm (fun s => sm (fun a => F (hps a.2)) (((List.range' 1 pots).filter (okc (fr h) s.2)).map fun c => (s.1 ++ [c], upd h c s.2))) TK = sm (fun s => (pots - (hps s.2).length) * F (hps s.2 ++ [[h]]) + sm (fun p : List Nat × Nat => F ((hps s.2).take p.2 ++ [p.1 ++ [h]] ++ (hps s.2).drop (p.2 + 1))) ((hps s.2).zipIdx.filter fun p => fr h p.1)) TK := by
        refine sm_congr fun s hs => ?_
        rw [sm_map]
        exact step_one (hI s hs).2
      rw [s1]
      refine (hF fun P => (pots - P.length) * F (P ++ [[h]]) + sm (fun p : List Nat × Nat => F (P.take p.2 ++ [p.1 ++ [h]] ++ P.drop (p.2 + 1))) (P.zipIdx.filter fun p => fr h p.1)).trans ?_
      refine sm_congr fun P _ => ?_
      exact step_ways)
    rw [List.length_append, List.length_singleton] at ih
    rw [List.zipIdx_cons]
    show (lwFrom adj lot pots (rest.zipIdx (dn.length + 1)) (lwStep adj lot pots dn.length h (TK.map Prod.fst))).length = sm _ (parts fr rest (Ps.flatMap fun P => wW (fr h) P h))
    rw [← ih]
    congr 2
    unfold lwStep
    rw [List.flatMap_map, List.map_flatMap]
    refine fm_congr fun s hs => ?_
    rw [e]
    rw [List.map_map, List.filter_congr fun c _ => (hI s hs).1.ok (rest := h :: rest) (hfr s hs)]
    rfl
theorem count_ways {adj : Nat → Nat → Bool} {fr : Nat → List Nat → Bool} {pots : Nat} {lot : List Nat} (hf : ∀ h ∈ lot, ∀ H : List Nat, (∀ x ∈ H, x ∈ lot) → fr h H = !(H.any fun o => adj h o)) : (lawWays adj lot pots).length = sm (fun P => prm pots P.length) (parts fr lot [[]]) := by
  refine count_from hf lot [] [([], [])] [[]] rfl (fun s hs => ?_) fun F => ?_
  · rw [List.mem_singleton.mp hs]
    exact ⟨⟨rfl, (fun _ z => by cases z), (fun _ z => by cases z)⟩, List.Pairwise.nil, (fun _ z => by cases z)⟩
  · show F [] + 0 = 1 * F [] + 0
    omega
theorem sm_zero {α : Type} {f : α → Nat} : ∀ {l : List α}, sm f l = 0 ↔ ∀ a ∈ l, f a = 0
  | [] => by simp [sm]
  | a :: l => by rw [sm_cons, Nat.add_eq_zero_iff, sm_zero (l := l), List.forall_mem_cons]
/-- no painting exactly if all parts have more heaps than there are pots -/
theorem no_ways {adj : Nat → Nat → Bool} {fr : Nat → List Nat → Bool} {pots : Nat} {lot : List Nat} (hf : ∀ h ∈ lot, ∀ H : List Nat, (∀ x ∈ H, x ∈ lot) → fr h H = !(H.any fun o => adj h o)) : lawWays adj lot pots = [] ↔ ∀ P ∈ parts fr lot [[]], pots < P.length := by
  rw [← List.length_eq_zero_iff, count_ways hf, sm_zero]
  refine forall_congr' fun P => forall_congr' fun _ => ⟨fun z => ?_, fun z => prm_zero z⟩
  rcases Nat.lt_or_ge pots P.length with w | w
  · exact w
  · have := prm_pos w
    omega
end GM
end
section
set_option Elab.async false
set_option linter.all false
namespace GM
open Mp
section
variable {α : Type} {le : α → α → Bool}
theorem ins_perm {x : α} : ∀ {l : List α}, (ins le x l).Perm (x :: l)
  | [] => .refl _
  | y :: l => by
    unfold ins
    split
    · exact .refl _
    · exact (List.Perm.cons y ins_perm).trans (List.Perm.swap x y l)
theorem isort_perm : ∀ {l : List α}, (isort le l).Perm l
  | [] => .refl _
  | x :: l => by
    unfold isort
    exact ins_perm.trans (List.Perm.cons x isort_perm)
theorem ins_sorted (tot : ∀ a b, le a b = true ∨ le b a = true) (tr : ∀ a b c, le a b = true → le b c = true → le a c = true) {x : α} : ∀ {l : List α}, l.Pairwise (fun a b => le a b = true) → (ins le x l).Pairwise fun a b => le a b = true
  | [], _ => List.pairwise_singleton _ _
  | y :: l, h => by
    have h' := List.pairwise_cons.mp h
    unfold ins
    split
    · rename_i z
      refine List.pairwise_cons.mpr ⟨fun a ha => ?_, h⟩
      rcases List.mem_cons.mp ha with rfl | ha
      · exact z
      · exact tr _ _ _ z (h'.1 a ha)
    · rename_i z
      refine List.pairwise_cons.mpr ⟨fun a ha => ?_, ins_sorted tot tr h'.2⟩
      rcases List.mem_cons.mp (ins_perm.mem_iff.mp ha) with rfl | ha
      · rcases tot a y with w | w
        · exact absurd w z
        · exact w
      · exact h'.1 a ha
theorem isort_sorted (tot : ∀ a b, le a b = true ∨ le b a = true) (tr : ∀ a b c, le a b = true → le b c = true → le a c = true) : ∀ {l : List α}, (isort le l).Pairwise fun a b => le a b = true
  | [] => List.Pairwise.nil
  | x :: l => by
    unfold isort
    exact ins_sorted tot tr (isort_sorted tot tr)
end
/-! tuples of numbers -/
theorem ltL_irr : ∀ l : List Nat, ltL l l = false
  | [] => rfl
  | a :: l => by
    unfold ltL
    rw [if_pos rfl]
    exact ltL_irr l
theorem ltL_tri : ∀ l m : List Nat, ltL l m = true ∨ l = m ∨ ltL m l = true
  | [], [] => .inr (.inl rfl)
  | [], _ :: _ => .inl rfl
  | _ :: _, [] => .inr (.inr rfl)
  | a :: l, b :: m => by
    unfold ltL
    by_cases e : a = b
    · subst e
      rw [if_pos rfl, if_pos rfl]
      rcases ltL_tri l m with h | h | h
      · exact .inl h
      · exact .inr (.inl (by rw [h]))
      · exact .inr (.inr h)
    · rw [if_neg e, if_neg (Ne.symm e)]
      show decide (a < b) = true ∨ _ ∨ decide (b < a) = true
      rw [decide_eq_true_eq, decide_eq_true_eq]
      rcases Nat.lt_trichotomy a b with h | h | h
      · exact .inl h
      · exact absurd h e
      · exact .inr (.inr h)
theorem ltL_tr : ∀ l m n : List Nat, ltL l m = true → ltL m n = true → ltL l n = true
  | [], m, [], _, h => by cases m <;> cases h
  | [], _, _ :: _, _, _ => rfl
  | _ :: _, [], _, h, _ => by cases h
  | _ :: _, _ :: _, [], _, h => by cases h
  | a :: l, b :: m, c :: n, h, k => by
    unfold ltL at h k ⊢
    by_cases e : a = b
    · subst e
      rw [if_pos rfl] at h
      by_cases f : a = c
      · rw [if_pos f] at k ⊢
        exact ltL_tr l m n h k
      · rw [if_neg f] at k ⊢
        exact k
    · rw [if_neg e] at h
      have h : a < b := of_decide_eq_true h
      by_cases f : b = c
      · subst f
        rw [if_neg e]
        exact decide_eq_true h
      · rw [if_neg f] at k
        have k : b < c := of_decide_eq_true k
        rw [if_neg (by omega)]
        exact decide_eq_true (Nat.lt_trans h k)
theorem leb_tot (l m : List Nat) : leb l m = true ∨ leb m l = true := by
  unfold leb
  show (!ltL m l) = true ∨ (!ltL l m) = true
  rcases ltL_tri l m with h | h | h
  · refine .inl ?_
    cases k : ltL m l with
    | false => rfl
    | true =>
      have := ltL_tr _ _ _ h k
      rw [ltL_irr] at this
      cases this
  · subst h
    rw [ltL_irr]
    exact .inl rfl
  · refine .inr ?_
    cases k : ltL l m with
    | false => rfl
    | true =>
      have := ltL_tr _ _ _ h k
      rw [ltL_irr] at this
      cases this
theorem leb_iff {l m : List Nat} : leb l m = true ↔ ltL l m = true ∨ l = m := by
  show (!ltL m l) = true ↔ _
  rw [Bool.not_eq_true']
  constructor
  · intro h
    rcases ltL_tri l m with k | k | k
    · exact .inl k
    · exact .inr k
    · rw [h] at k
      cases k
  · rintro (h | h)
    · cases k : ltL m l with
      | false => rfl
      | true =>
        have := ltL_tr _ _ _ h k
        rw [ltL_irr] at this
        cases this
    · subst h
      exact ltL_irr l
theorem leb_tr (l m n : List Nat) (h : leb l m = true) (k : leb m n = true) : leb l n = true := by
  rw [leb_iff] at h k ⊢
  rcases h with h | rfl
  · rcases k with k | rfl
    · exact .inl (ltL_tr _ _ _ h k)
    · exact .inl h
  · exact k
theorem leb_anti {l m : List Nat} (h : leb l m = true) (k : leb m l = true) : l = m := by
  rw [leb_iff] at h k
  rcases h with h | h
  · rcases k with k | k
    · have := ltL_tr _ _ _ h k
      rw [ltL_irr] at this
      cases this
    · exact k.symm
  · exact h
theorem leb_sorted {l : List (List Nat)} : (isort leb l).Pairwise fun a b => leb a b = true := isort_sorted leb_tot leb_tr
theorem leb_uniq {l m : List (List Nat)} (h : l.Pairwise fun a b => leb a b = true) (k : m.Pairwise fun a b => leb a b = true) (p : l.Perm m) : l = m := List.Perm.eq_of_pairwise (fun _ _ _ _ a b => leb_anti a b) h k p
theorem isort_eq {l m : List (List Nat)} (p : l.Perm m) : isort leb l = isort leb m := leb_uniq leb_sorted leb_sorted (isort_perm.trans (p.trans isort_perm.symm))
/-- by length, then by itself -/
def lenLe (l m : List Nat) : Bool := if l.length = m.length then leb l m else decide (l.length < m.length)
theorem lenLe_tot (l m : List Nat) : lenLe l m = true ∨ lenLe m l = true := by
  unfold lenLe
  by_cases e : l.length = m.length
  · rw [if_pos e, if_pos e.symm]
    exact leb_tot l m
  · rw [if_neg e, if_neg (Ne.symm e), decide_eq_true_eq, decide_eq_true_eq]
    omega
theorem lenLe_len {l m : List Nat} (h : lenLe l m = true) : l.length ≤ m.length := by
  unfold lenLe at h
  split at h
  · omega
  · exact Nat.le_of_lt (of_decide_eq_true h)
theorem lenLe_tr (l m n : List Nat) (h : lenLe l m = true) (k : lenLe m n = true) : lenLe l n = true := by
  have h1 := lenLe_len h
  have k1 := lenLe_len k
  unfold lenLe at h k ⊢
  by_cases e : l.length = n.length
  · rw [if_pos e]
    rw [if_pos (by omega)] at h k
    exact leb_tr _ _ _ h k
  · rw [if_neg e, decide_eq_true_eq]
    omega
theorem lenLe_sorted {l : List (List Nat)} : (isort lenLe l).Pairwise fun a b => lenLe a b = true := isort_sorted lenLe_tot lenLe_tr
/-- those of one size, in order -/
theorem size_eq {l : List (List Nat)} {p : List Nat → Bool} {m : Nat} : ((isort lenLe l).filter p).filter (fun x => decide (x.length = m)) = isort leb ((l.filter p).filter fun x => decide (x.length = m)) := by
  refine leb_uniq ?_ leb_sorted (((isort_perm.filter p).filter _).trans isort_perm.symm)
  have h := (lenLe_sorted (l := l)).filter p
  have h2 := h.filter (fun x : List Nat => decide (x.length = m))
  refine List.Pairwise.imp_of_mem (fun {a b} ha hb z => ?_) h2
  have ha := of_decide_eq_true (List.mem_filter.mp ha).2
  have hb := of_decide_eq_true (List.mem_filter.mp hb).2
  unfold lenLe at z
  rw [if_pos (by rw [ha, hb])] at z
  exact z
/-- the first one of a list by length is a least one -/
theorem first_least {l : List (List Nat)} {x : List Nat} (h : l.Pairwise fun a b => lenLe a b = true) (hx : l.head? = some x) : ∀ y ∈ l, x.length ≤ y.length := by
  cases l with
  | nil => cases hx
  | cons a r =>
    cases hx
    intro y hy
    rcases List.mem_cons.mp hy with rfl | hy
    · exact Nat.le_refl _
    · exact lenLe_len ((List.pairwise_cons.mp h).1 y hy)
theorem last_most {l : List (List Nat)} {x : List Nat} (h : l.Pairwise fun a b => lenLe a b = true) (hx : l.getLast? = some x) : ∀ y ∈ l, y.length ≤ x.length := by
  intro y hy
  obtain ⟨r, rfl⟩ := List.getLast?_eq_some_iff.mp hx
  rcases List.mem_append.mp hy with hy | hy
  · exact lenLe_len ((List.pairwise_append.mp h).2.2 y hy x List.mem_cons_self)
  · rw [List.mem_singleton.mp hy]
    exact Nat.le_refl _
end GM
end
section
set_option Elab.async false
set_option linter.all false
namespace GM
open Mp
/-! lots -/
def lots : Nat → List (List Nat)
  | 0 => [[]]
  | n + 1 => lots n ++ (lots n).map fun l => l ++ [n]
theorem lots_len : ∀ n, (lots n).length = 2 ^ n
  | 0 => rfl
  | n + 1 => by
    rw [lots, List.length_append, List.length_map, lots_len n, Nat.pow_succ]
    omega
theorem lots_most {n : Nat} (h : n ≤ 7) : (lots n).length ≤ 128 := by
  rw [lots_len]
  exact Nat.pow_le_pow_right (by omega) h
theorem lots_is : ∀ {n : Nat} {l : List Nat}, l ∈ lots n → (l.Pairwise fun a b => a < b) ∧ (∀ x ∈ l, x < n) ∧ l.length ≤ n
  | 0, l, h => by
    rw [List.mem_singleton.mp h]
    exact ⟨List.Pairwise.nil, (fun x z => by cases z), Nat.le_refl _⟩
  | n + 1, l, h => by
    rcases List.mem_append.mp h with h | h
    · obtain ⟨h1, h2, h3⟩ := lots_is h
      exact ⟨h1, fun x hx => Nat.lt_succ_of_lt (h2 x hx), Nat.le_succ_of_le h3⟩
    · obtain ⟨m, hm, rfl⟩ := List.mem_map.mp h
      obtain ⟨h1, h2, h3⟩ := lots_is hm
      refine ⟨List.pairwise_append.mpr ⟨h1, List.pairwise_singleton _ _, fun a ha b hb => ?_⟩, fun x hx => ?_, ?_⟩
      · rw [List.mem_singleton.mp hb]
        exact h2 a ha
      · rcases List.mem_append.mp hx with hx | hx
        · exact Nat.lt_succ_of_lt (h2 x hx)
        · rw [List.mem_singleton.mp hx]
          exact Nat.lt_succ_self _
      · rw [List.length_append, List.length_singleton]
        omega
theorem lots_nil : ∀ n, [] ∈ lots n
  | 0 => List.mem_singleton.mpr rfl
  | n + 1 => List.mem_append_left _ (lots_nil n)
theorem lots_of : ∀ {n : Nat} {l : List Nat}, l.Pairwise (fun a b => a < b) → (∀ x ∈ l, x < n) → l ∈ lots n
  | 0, l, _, h => by
    cases l with
    | nil => exact lots_nil 0
    | cons a r => exact absurd (h a List.mem_cons_self) (Nat.not_lt_zero _)
  | n + 1, l, hp, h => by
    rcases List.eq_nil_or_concat l with rfl | ⟨m, x, rfl⟩
    · exact lots_nil _
    · rw [List.concat_eq_append] at hp h ⊢
      have hp' := List.pairwise_append.mp hp
      have hx : x < n + 1 := h x (List.mem_append_right _ List.mem_cons_self)
      rcases Nat.lt_or_ge x n with z | z
      · refine List.mem_append_left _ (lots_of hp fun y hy => ?_)
        rcases List.mem_append.mp hy with hy | hy
        · exact Nat.lt_trans (hp'.2.2 y hy x List.mem_cons_self) z
        · rw [List.mem_singleton.mp hy]
          exact z
      · have : x = n := by omega
        subst this
        exact List.mem_append_right _ (List.mem_map.mpr ⟨m, lots_of hp'.1 fun y hy => hp'.2.2 y hy x List.mem_cons_self, rfl⟩)
theorem lots_nodup : ∀ n, (lots n).Nodup
  | 0 => List.pairwise_singleton _ _
  | n + 1 => by
    refine List.nodup_append.mpr ⟨lots_nodup n, ?_, fun a ha b hb e => ?_⟩
    · refine List.pairwise_map.mpr ((lots_nodup n).imp fun {a b} h e => h ?_)
      exact List.append_cancel_right e
    · obtain ⟨m, _, rfl⟩ := List.mem_map.mp hb
      have := (lots_is ha).2.1 n (by rw [e]; exact List.mem_append_right _ List.mem_cons_self)
      omega
theorem lt_uniq {l m : List Nat} (h : l.Pairwise fun a b => a < b) (k : m.Pairwise fun a b => a < b) (e : ∀ x, x ∈ l ↔ x ∈ m) : l = m := by
  refine List.Perm.eq_of_pairwise (le := fun a b => a ≤ b) (fun a b _ _ x y => Nat.le_antisymm x y) (h.imp fun z => Nat.le_of_lt z) (k.imp fun z => Nat.le_of_lt z) ?_
  exact (List.perm_ext_iff_of_nodup (h.imp fun z => Nat.ne_of_lt z) (k.imp fun z => Nat.ne_of_lt z)).mpr e
/-! bare rows -/
section
variable (N : Nat) (adj : Nat → Nat → Bool)
def nb (h : Nat) : List Nat := (List.range N).filter fun o => adj h o
theorem mem_nb {h o : Nat} : o ∈ nb N adj h ↔ o < N ∧ adj h o = true := by
  unfold nb
  rw [List.mem_filter, List.mem_range]
def goesOn (row : List Nat) (h : Nat) : Bool := decide (h ∈ nb N adj (row.getLastD 0)) && (!decide (h ∈ row) && !((nb N adj h).any fun x => decide (x ∈ row.dropLast)))
def ext (rows : List (List Nat)) : List (List Nat) := rows.flatMap fun row => ((List.range N).filter (goesOn N adj row)).map fun h => row ++ [h]
def rows1 : List (List Nat) := (List.range N).map fun h => [h]
def progRows : List (List Nat) := (ext N adj (ext N adj (ext N adj (rows1 N)))).filter fun r => decide (r.headD 0 < r.getLastD 0)
def Bare (a b c d : Nat) : Prop := (a < N ∧ b < N ∧ c < N ∧ d < N) ∧ (b ≠ a ∧ c ≠ a ∧ c ≠ b ∧ d ≠ a ∧ d ≠ b ∧ d ≠ c) ∧ (adj a b = true ∧ adj b c = true ∧ adj c d = true) ∧ (adj a c = false ∧ adj a d = false ∧ adj b d = false)
variable {N adj}
theorem any_in {h : Nat} {row : List Nat} (hr : ∀ x ∈ row, x < N) : (nb N adj h).any (fun x => decide (x ∈ row)) = row.any fun x => adj h x := by
  refine Bool.eq_iff_iff.mpr ?_
  rw [List.any_eq_true, List.any_eq_true]
  constructor
  · rintro ⟨x, hx, k⟩
    exact ⟨x, of_decide_eq_true k, (mem_nb N adj).mp hx |>.2⟩
  · rintro ⟨x, hx, k⟩
    exact ⟨x, (mem_nb N adj).mpr ⟨hr x hx, k⟩, decide_eq_true hx⟩
theorem mem_ext {rows : List (List Nat)} {r : List Nat} : r ∈ ext N adj rows ↔ ∃ row ∈ rows, ∃ h, (h < N ∧ goesOn N adj row h = true) ∧ row ++ [h] = r := by
  unfold ext
  simp only [List.mem_flatMap, List.mem_map, List.mem_filter, List.mem_range]
theorem ext_nodup {rows : List (List Nat)} (h : rows.Nodup) : (ext N adj rows).Nodup := by
  refine List.pairwise_flatMap.mpr ⟨fun row _ => ?_, h.imp fun {a b} z x hx y hy e => z ?_⟩
  · refine List.pairwise_map.mpr ((List.Pairwise.filter _ List.nodup_range).imp fun {a b} z e => z ?_)
    have := List.append_cancel_left e
    exact List.cons.inj this |>.1
  · obtain ⟨i, _, rfl⟩ := List.mem_map.mp hx
    obtain ⟨j, _, rfl⟩ := List.mem_map.mp hy
    exact (List.append_inj' e rfl).1
theorem progRows_nodup : (progRows N adj).Nodup := by
  refine List.Pairwise.filter _ (ext_nodup (ext_nodup (ext_nodup ?_)))
  refine List.pairwise_map.mpr (List.nodup_range.imp fun {a b} z e => z (List.cons.inj e |>.1))
theorem goesOn_iff {row : List Nat} {x h : Nat} (hr : ∀ y ∈ row, y < N) : goesOn N adj (row ++ [x]) h = true ↔ h < N ∧ adj x h = true ∧ (¬ h ∈ row ∧ h ≠ x) ∧ ∀ y ∈ row, adj h y = false := by
  unfold goesOn
  rw [List.getLastD_concat, List.dropLast_concat, any_in hr]
  simp only [Bool.and_eq_true, decide_eq_true_eq, mem_nb, Bool.not_eq_true', decide_eq_false_iff_not, List.mem_append, List.mem_singleton, not_or, List.any_eq_false, Bool.not_eq_true]
  exact ⟨fun ⟨⟨a, b⟩, c, d⟩ => ⟨a, b, c, d⟩, fun ⟨a, b, c, d⟩ => ⟨⟨a, b⟩, c, d⟩⟩
theorem mem_progRows {r : List Nat} (sy : ∀ x y, adj x y = adj y x) : r ∈ progRows N adj ↔ ∃ a b c d, r = [a, b, c, d] ∧ Bare N adj a b c d ∧ a < d := by
  unfold progRows
  rw [List.mem_filter, decide_eq_true_eq]
  constructor
  · rintro ⟨h, hl⟩
    obtain ⟨r3, h3, d, ⟨hd, gd⟩, rfl⟩ := mem_ext.mp h
    obtain ⟨r2, h2, c, ⟨hc, gc⟩, rfl⟩ := mem_ext.mp h3
    obtain ⟨r1, h1, b, ⟨hb, gb⟩, rfl⟩ := mem_ext.mp h2
    obtain ⟨a, ha, rfl⟩ := List.mem_map.mp h1
    have ha := List.mem_range.mp ha
    have k1 := (goesOn_iff (row := []) (x := a) (by simp)).mp gb
    have k2 := (goesOn_iff (row := [a]) (x := b) (by simp [ha])).mp gc
    have k3 := (goesOn_iff (row := [a, b]) (x := c) (by simp [ha, hb])).mp gd
    simp at k1 k2 k3
    refine ⟨a, b, c, d, rfl, ⟨⟨ha, hb, hc, hd⟩, ⟨k1.2.2, k2.2.2.1.1, k2.2.2.1.2, k3.2.2.1.1.1, k3.2.2.1.1.2, k3.2.2.1.2⟩, ⟨k1.2.1, k2.2.1, k3.2.1⟩, ?_, ?_, ?_⟩, by simpa using hl⟩
    · rw [sy]; exact k2.2.2.2
    · rw [sy]; exact k3.2.2.2.1
    · rw [sy]; exact k3.2.2.2.2
  · rintro ⟨a, b, c, d, rfl, ⟨⟨ha, hb, hc, hd⟩, ⟨n1, n2, n3, n4, n5, n6⟩, ⟨j1, j2, j3⟩, l1, l2, l3⟩, hl⟩
    refine ⟨mem_ext.mpr ⟨[a, b, c], mem_ext.mpr ⟨[a, b], mem_ext.mpr ⟨[a], List.mem_map.mpr ⟨a, List.mem_range.mpr ha, rfl⟩, b, ⟨hb, (goesOn_iff (row := []) (x := a) (by simp)).mpr ?_⟩, rfl⟩, c, ⟨hc, (goesOn_iff (row := [a]) (x := b) (by simp [ha])).mpr ?_⟩, rfl⟩, d, ⟨hd, (goesOn_iff (row := [a, b]) (x := c) (by simp [ha, hb])).mpr ?_⟩, rfl⟩, by simpa using hl⟩
    · simp [*]
    · simp [*, sy c a]
    · simp [*, sy d a, sy d b]
/-- the law's rows -/
def lawCond (one two three four : Nat) : Bool := decide ([adj one two, adj two three, adj three four] = [true, true, true]) && (!adj one three && !adj two four)
def lawThree (L : List Nat) (one four two : Nat) : Nat := (L.filter fun h => !decide (h ∈ [one, two, four])).headD 0
variable (adj)
def lawTwo (L : List Nat) (one four : Nat) : List (List Nat) := (L.filter fun h => !decide (h ∈ [one, four])).flatMap fun two => if lawCond (adj := adj) one two (lawThree L one four two) four then [[one, two, lawThree L one four two, four]] else []
def lawFour (L : List Nat) (one : Nat) : List (List Nat) := (L.filter fun h => decide (one < h) && !adj one h).flatMap fun four => lawTwo adj L one four
def lawLot (L : List Nat) : List (List Nat) := if L.length = 4 then L.flatMap fun one => lawFour adj L one else []
def lawRows (LL : List (List Nat)) : List (List Nat) := LL.flatMap fun L => lawLot adj L
variable {adj}
theorem mem_lawTwo {L : List Nat} {one four : Nat} {r : List Nat} : r ∈ lawTwo adj L one four ↔ ∃ two, (two ∈ L ∧ two ≠ one ∧ two ≠ four) ∧ lawCond (adj := adj) one two (lawThree L one four two) four = true ∧ r = [one, two, lawThree L one four two, four] := by
  unfold lawTwo
  simp only [List.mem_flatMap, List.mem_filter, Bool.not_eq_true', decide_eq_false_iff_not, List.mem_cons, List.not_mem_nil, or_false, not_or]
  refine exists_congr fun two => and_congr_right fun _ => ?_
  split
  · rename_i h
    rw [List.mem_singleton]
    exact ⟨fun z => ⟨h, z⟩, fun z => z.2⟩
  · rename_i h
    exact ⟨(fun z => by cases z), fun z => absurd z.1 h⟩
theorem three_of {L : List Nat} {a b d : Nat} (hl : L.Pairwise fun a b => a < b) (h4 : L.length = 4) (ha : a ∈ L) (hb : b ∈ L) (hd : d ∈ L) : lawThree L a d b ∈ L ∧ ¬ lawThree L a d b ∈ [a, b, d] := by
  unfold lawThree
  cases e : L.filter fun h => !decide (h ∈ [a, b, d]) with
  | nil =>
    have hs : L ⊆ [a, b, d] := fun x hx => by
      by_cases z : x ∈ [a, b, d]
      · exact z
      · have : x ∈ L.filter fun h => !decide (h ∈ [a, b, d]) := List.mem_filter.mpr ⟨hx, by rw [decide_eq_false z]; rfl⟩
        rw [e] at this
        cases this
    have := List.Nodup.length_le_of_subset (hl.imp fun z => Nat.ne_of_lt z) hs
    rw [h4] at this
    exact absurd this (by show ¬ 4 ≤ 3; decide)
  | cons x r =>
    have : x ∈ L.filter fun h => !decide (h ∈ [a, b, d]) := by rw [e]; exact List.mem_cons_self
    have := List.mem_filter.mp this
    refine ⟨this.1, ?_⟩
    have k := this.2
    rw [Bool.not_eq_true', decide_eq_false_iff_not] at k
    exact k
theorem mem_lawLot {L : List Nat} {r : List Nat} : r ∈ lawLot adj L ↔ L.length = 4 ∧ ∃ one ∈ L, ∃ four, (four ∈ L ∧ one < four ∧ adj one four = false) ∧ r ∈ lawTwo adj L one four := by
  unfold lawLot
  split
  · rename_i h
    unfold lawFour
    simp only [List.mem_flatMap, List.mem_filter, Bool.and_eq_true, decide_eq_true_eq, Bool.not_eq_true', h, true_and]
  · rename_i h
    exact ⟨(fun z => by cases z), fun z => absurd z.1 h⟩
theorem lawLot_of {L : List Nat} {r : List Nat} (hl : L.Pairwise fun a b => a < b) (h : r ∈ lawLot adj L) : ∃ a b c d, r = [a, b, c, d] ∧ (a ∈ L ∧ b ∈ L ∧ c ∈ L ∧ d ∈ L) ∧ (b ≠ a ∧ c ≠ a ∧ c ≠ b ∧ d ≠ a ∧ d ≠ b ∧ d ≠ c) ∧ (adj a b = true ∧ adj b c = true ∧ adj c d = true) ∧ (adj a c = false ∧ adj a d = false ∧ adj b d = false) ∧ a < d ∧ L.length = 4 := by
  obtain ⟨h4, a, ha, d, ⟨hd, had, jd⟩, h⟩ := mem_lawLot.mp h
  obtain ⟨b, ⟨hb, n1, n2⟩, hc, rfl⟩ := mem_lawTwo.mp h
  obtain ⟨k1, k2⟩ := three_of hl h4 ha hb hd
  unfold lawCond at hc
  simp at hc k2
  exact ⟨a, b, _, d, rfl, ⟨ha, hb, k1, hd⟩, ⟨n1, k2.1, k2.2.1, by omega, Ne.symm n2, fun e => k2.2.2 e.symm⟩, hc.1, ⟨hc.2.1, jd, hc.2.2⟩, had, h4⟩
theorem all_of {L : List Nat} {a b c d : Nat} (hl : L.Pairwise fun a b => a < b) (h4 : L.length = 4) (hm : a ∈ L ∧ b ∈ L ∧ c ∈ L ∧ d ∈ L) (hn : b ≠ a ∧ c ≠ a ∧ c ≠ b ∧ d ≠ a ∧ d ≠ b ∧ d ≠ c) : ∀ x, x ∈ L ↔ x ∈ [a, b, c, d] := by
  obtain ⟨m1, m2, m3, m4⟩ := hm
  obtain ⟨n1, n2, n3, n4, n5, n6⟩ := hn
  have nd : [a, b, c, d].Nodup := by simp [List.nodup_cons]; omega
  have hs : [a, b, c, d] ⊆ L := fun x hx => by
    simp only [List.mem_cons, List.not_mem_nil, or_false] at hx
    rcases hx with rfl | rfl | rfl | rfl <;> assumption
  intro x
  refine ⟨fun hx => ?_, fun hx => hs hx⟩
  by_cases z : x ∈ [a, b, c, d]
  · exact z
  · have nd2 : (x :: [a, b, c, d]).Nodup := List.nodup_cons.mpr ⟨z, nd⟩
    have := List.Nodup.length_le_of_subset nd2 (l₂ := L) fun y hy => by
      rcases List.mem_cons.mp hy with rfl | hy
      · exact hx
      · exact hs hy
    rw [h4] at this
    exact absurd this (by show ¬ 5 ≤ 4; decide)
theorem lawRows_nodup {LL : List (List Nat)} (hn : LL.Nodup) (hl : ∀ L ∈ LL, L.Pairwise fun a b => a < b) : (lawRows adj LL).Nodup := by
  refine List.pairwise_flatMap.mpr ⟨fun L hL => ?_, List.Pairwise.imp_of_mem (fun {A B} hA hB z x hx y hy e => z ?_) hn⟩
  · have nd : L.Nodup := (hl L hL).imp fun z => Nat.ne_of_lt z
    unfold lawLot
    split
    · refine List.pairwise_flatMap.mpr ⟨fun one _ => ?_, nd.imp fun {a b} z x hx y hy e => z ?_⟩
      · refine List.pairwise_flatMap.mpr ⟨fun four _ => ?_, (List.Pairwise.filter _ nd).imp fun {a b} z x hx y hy e => z ?_⟩
        · refine List.pairwise_flatMap.mpr ⟨fun two _ => ?_, (List.Pairwise.filter _ nd).imp fun {a b} z x hx y hy e => z ?_⟩
          · split
            · exact List.pairwise_singleton _ _
            · exact List.Pairwise.nil
          · split at hx
            · split at hy
              · rw [List.mem_singleton.mp hx, List.mem_singleton.mp hy] at e
                simp at e
                exact e.1
              · cases hy
            · cases hx
        · obtain ⟨_, _, _, rfl⟩ := mem_lawTwo.mp hx
          obtain ⟨_, _, _, rfl⟩ := mem_lawTwo.mp hy
          simp at e
          exact e.2.2
      · unfold lawFour at hx hy
        obtain ⟨_, _, hx⟩ := List.mem_flatMap.mp hx
        obtain ⟨_, _, hy⟩ := List.mem_flatMap.mp hy
        obtain ⟨_, _, _, rfl⟩ := mem_lawTwo.mp hx
        obtain ⟨_, _, _, rfl⟩ := mem_lawTwo.mp hy
        simp at e
        exact e.1
    · exact List.Pairwise.nil
  · obtain ⟨a, b, c, d, rfl, m1, n1, _, _, _, l1⟩ := lawLot_of (hl A hA) hx
    obtain ⟨a', b', c', d', rfl, m2, n2, _, _, _, l2⟩ := lawLot_of (hl B hB) hy
    have e1 := all_of (hl A hA) l1 m1 n1
    have e2 := all_of (hl B hB) l2 m2 n2
    rw [← e] at e2
    exact lt_uniq (hl A hA) (hl B hB) fun x => (e1 x).trans (e2 x).symm
theorem mem_lawRows {LL : List (List Nat)} (hl : ∀ L, L ∈ LL ↔ L ∈ lots N) {r : List Nat} : r ∈ lawRows adj LL ↔ ∃ a b c d, r = [a, b, c, d] ∧ Bare N adj a b c d ∧ a < d := by
  unfold lawRows
  rw [List.mem_flatMap]
  constructor
  · rintro ⟨L, hL, h⟩
    have hL := lots_is ((hl L).mp hL)
    obtain ⟨a, b, c, d, rfl, m1, n1, j, k, l, _⟩ := lawLot_of hL.1 h
    exact ⟨a, b, c, d, rfl, ⟨⟨hL.2.1 a m1.1, hL.2.1 b m1.2.1, hL.2.1 c m1.2.2.1, hL.2.1 d m1.2.2.2⟩, n1, j, k⟩, l⟩
  · rintro ⟨a, b, c, d, rfl, ⟨⟨ha, hb, hc, hd⟩, ⟨n1, n2, n3, n4, n5, n6⟩, ⟨j1, j2, j3⟩, l1, l2, l3⟩, hlt⟩
    have nd : [a, b, c, d].Nodup := by simp [List.nodup_cons]; omega
    let L := (List.range N).filter fun x => decide (x ∈ [a, b, c, d])
    have hp : L.Pairwise fun a b => a < b := List.Pairwise.filter _ List.pairwise_lt_range
    have hm : ∀ x, x ∈ L ↔ x ∈ [a, b, c, d] := fun x => by
      rw [List.mem_filter, decide_eq_true_eq, List.mem_range]
      refine ⟨fun z => z.2, fun z => ⟨?_, z⟩⟩
      simp only [List.mem_cons, List.not_mem_nil, or_false] at z
      rcases z with rfl | rfl | rfl | rfl <;> assumption
    have h4 : L.length = 4 := ((List.perm_ext_iff_of_nodup (hp.imp fun z => Nat.ne_of_lt z) nd).mpr hm).length_eq
    have ma : a ∈ L := (hm a).mpr (by simp)
    have mb : b ∈ L := (hm b).mpr (by simp)
    have md : d ∈ L := (hm d).mpr (by simp)
    obtain ⟨k1, k2⟩ := three_of hp h4 ma mb md
    have k3 := (hm _).mp k1
    have e3 : lawThree L a d b = c := by
      simp only [List.mem_cons, List.not_mem_nil, or_false, not_or] at k2 k3
      omega
    refine ⟨L, (hl L).mpr (lots_of hp fun x hx => List.mem_range.mp (List.mem_filter.mp hx).1), mem_lawLot.mpr ⟨h4, a, ma, d, ⟨md, hlt, l2⟩, mem_lawTwo.mpr ⟨b, ⟨mb, n1, Ne.symm n5⟩, ?_, by rw [e3]⟩⟩⟩
    rw [e3]
    unfold lawCond
    simp [*]
theorem rows_perm {LL : List (List Nat)} (sy : ∀ x y, adj x y = adj y x) (hp : LL.Perm (lots N)) : (lawRows adj LL).Perm (progRows N adj) := by
  refine (List.perm_ext_iff_of_nodup (lawRows_nodup (hp.nodup_iff.mpr (lots_nodup N)) fun L hL => (lots_is (hp.mem_iff.mp hL)).1) progRows_nodup).mpr fun r => ?_
  rw [mem_lawRows (N := N) (fun L => hp.mem_iff), mem_progRows sy]
end
end GM
end
section
set_option Elab.async false
set_option linter.all false
set_option maxRecDepth 100000
/-! The defs of the program and of the laws, callees by their places. -/
namespace Mk
open PySem Mp
/-- _law_taken -/
abbrev F__law_taken : FD := ⟨2, 4, (.seq (.ite (.cmp .gt (.idx (.var 0) (.con (.int (3)))) (.con (.int (0)))) (.seq (.asg (.one 2) (.bin .mod (.prim .int (.cons (.idx (.var 0) (.con (.int (3)))) .nil)) (.var 1))) (.seq (.setIdx (.var 0) (.con (.int (3))) (.bin .fdiv (.idx (.var 0) (.con (.int (3)))) (.var 1))) (.ret (.var 2)))) .skip) (.seq (.setIdx (.var 0) (.con (.int (1))) (.bin .add (.idx (.var 0) (.con (.int (1)))) (.con (.int (1))))) (.seq (.ite (.cmp .gt (.idx (.var 0) (.con (.int (1)))) (.prim .len (.cons (.idx (.var 0) (.con (.int (0)))) .nil))) (.seq (.setIdx (.var 0) (.con (.int (2))) (.bin .mod (.prim .int (.cons (.bin .add (.bin .mul (.idx (.var 0) (.con (.int (2)))) (.con (.int (48271)))) (.con (.int (11)))) .nil)) (.con (.int (2147483647))))) (.ret (.bin .mod (.prim .int (.cons (.bin .fdiv (.idx (.var 0) (.con (.int (2)))) (.con (.int (7)))) .nil)) (.var 1)))) .skip) (.seq (.asg (.one 3) (.idx (.idx (.var 0) (.con (.int (0)))) (.bin .sub (.idx (.var 0) (.con (.int (1)))) (.con (.int (1)))))) (.seq (.setIdx (.var 0) (.con (.int (2))) (.bin .mod (.prim .int (.cons (.bin .add (.bin .add (.bin .mul (.idx (.var 0) (.con (.int (2)))) (.con (.int (48271)))) (.var 3)) (.con (.int (11)))) .nil)) (.con (.int (2147483647))))) (.seq (.ite (.cmp .ge (.var 3) (.bin .pow (.con (.int (10))) (.con (.int (18))))) (.setIdx (.var 0) (.con (.int (3))) (.bin .fdiv (.var 3) (.var 1))) .skip) (.ret (.bin .mod (.prim .int (.cons (.var 3) .nil)) (.var 1)))))))))⟩
/-- _law_town -/
abbrev F__law_town (c__law_taken : Nat) : FD := ⟨3, 6, (.seq (.asg (.one 3) (.newC .nil)) (.seq (.for_ (.one 4) (.itr .range1 (.cons (.var 1) .nil)) (.for_ (.one 5) (.itr .range2 (.cons (.bin .add (.var 4) (.con (.int (1)))) (.cons (.var 1) .nil))) (.ite (.cmp .eq (.call c__law_taken (.cons (.var 0) (.cons (.var 2) .nil))) (.con (.int (0)))) (.drop (.meth .append (.var 3) (.cons (.tup (.cons (.var 4) (.cons (.var 5) .nil))) .nil))) .skip))) (.ret (.tup (.cons (.var 1) (.cons (.prim .tuple (.cons (.var 3) .nil)) .nil))))))⟩
/-- _law_any -/
abbrev F__law_any (c__law_town c__law_taken : Nat) : FD := ⟨2, 6, (.seq (.asg (.one 2) (.call c__law_town (.cons (.var 0) (.cons (.bin .add (.con (.int (1))) (.call c__law_taken (.cons (.var 0) (.cons (.var 1) .nil)))) (.cons (.idx (.lst (.cons (.con (.int (2))) (.cons (.con (.int (2))) (.cons (.con (.int (3))) (.cons (.con (.int (5))) .nil))))) (.call c__law_taken (.cons (.var 0) (.cons (.con (.int (4))) .nil)))) .nil))))) (.seq (.ite (.cmp .gt (.call c__law_taken (.cons (.var 0) (.cons (.con (.int (3))) .nil))) (.con (.int (0)))) (.ret (.var 2)) .skip) (.seq (.asg (.one 3) (.lst .nil)) (.seq (.for_ (.one 4) (.itr .range1 (.cons (.idx (.var 2) (.con (.int (0)))) .nil)) (.asg (.one 3) (.bin .add (.var 3) (.comp (.one 5) (.itr .range2 (.cons (.bin .add (.var 4) (.con (.int (1)))) (.cons (.idx (.var 2) (.con (.int (0)))) .nil))) (.cmp .nmem (.tup (.cons (.var 4) (.cons (.var 5) .nil))) (.idx (.var 2) (.con (.int (1))))) (.tup (.cons (.var 4) (.cons (.var 5) .nil))))))) (.ret (.tup (.cons (.idx (.var 2) (.con (.int (0)))) (.cons (.prim .tuple (.cons (.var 3) .nil)) .nil))))))))⟩
/-- _law_lots -/
abbrev F__law_lots : FD := ⟨1, 4, (.seq (.asg (.one 1) (.lst (.cons (.tup .nil) .nil))) (.seq (.for_ (.one 2) (.itr .range1 (.cons (.var 0) .nil)) (.asg (.one 1) (.bin .add (.var 1) (.comp (.one 3) (.itr .seq (.cons (.var 1) .nil)) (.con (.bl true)) (.bin .add (.var 3) (.tup (.cons (.var 2) .nil))))))) (.ret (.sortLen (.var 1)))))⟩
/-- _law_pick -/
abbrev F__law_pick (c__law_taken : Nat) : FD := ⟨2, 2, (.ret (.idx (.var 1) (.call c__law_taken (.cons (.var 0) (.cons (.prim .len (.cons (.var 1) .nil)) .nil)))))⟩
/-- _law_alike -/
abbrev F__law_alike (c__law_alike : Nat) : FD := ⟨2, 3, (.seq (.ite (.prim (.isI [3, 4]) (.cons (.var 1) .nil)) (.seq (.ite (.or (.not (.prim (.isI [3, 4]) (.cons (.var 0) .nil))) (.cmp .ne (.prim (.isI [4]) (.cons (.var 0) .nil)) (.prim (.isI [4]) (.cons (.var 1) .nil)))) (.ret (.con (.bl false))) .skip) (.seq (.ite (.cmp .ne (.prim .len (.cons (.var 0) .nil)) (.prim .len (.cons (.var 1) .nil))) (.ret (.con (.bl false))) .skip) (.ret (.cmp .eq (.comp (.one 2) (.itr .range1 (.cons (.prim .len (.cons (.var 1) .nil)) .nil)) (.not (.call c__law_alike (.cons (.idx (.var 0) (.var 2)) (.cons (.idx (.var 1) (.var 2)) .nil)))) (.var 2)) (.lst .nil))))) .skip) (.seq (.ite (.or (.cmp .is (.var 1) (.con .non)) (.prim (.isI [2]) (.cons (.var 1) .nil))) (.ret (.and (.cmp .eq (.var 0) (.var 1)) (.cmp .eq (.prim (.isI [2]) (.cons (.var 0) .nil)) (.prim (.isI [2]) (.cons (.var 1) .nil))))) .skip) (.ret (.and (.prim (.isI [0]) (.cons (.var 0) .nil)) (.and (.cmp .eq (.prim (.isI [1]) (.cons (.var 0) .nil)) (.prim (.isI [1]) (.cons (.var 1) .nil))) (.cmp .eq (.var 0) (.var 1)))))))⟩
/-- is_number -/
abbrev F_is_number : FD := ⟨3, 3, (.ret (.and (.prim (.isI [0]) (.cons (.var 0) .nil)) (.and (.not (.prim (.isI [1]) (.cons (.var 0) .nil))) (.chain .le .le (.var 1) (.var 0) (.var 2)))))⟩
/-- are_houses -/
abbrev F_are_houses (c_is_number : Nat) : FD := ⟨2, 3, (.ret (.and (.prim (.isI [3]) (.cons (.var 0) .nil)) (.gen true (.one 2) (.itr .seq (.cons (.var 0) .nil)) (.con (.bl true)) (.call c_is_number (.cons (.var 2) (.cons (.con (.int (0))) (.cons (.bin .sub (.var 1) (.con (.int (1)))) .nil)))))))⟩
/-- is_ascending -/
abbrev F_is_ascending : FD := ⟨1, 2, (.ret (.gen true (.one 1) (.itr .range1 (.cons (.bin .sub (.prim .len (.cons (.var 0) .nil)) (.con (.int (1)))) .nil)) (.con (.bl true)) (.cmp .lt (.idx (.var 0) (.var 1)) (.idx (.var 0) (.bin .add (.var 1) (.con (.int (1))))))))⟩
/-- is_lot -/
abbrev F_is_lot (c_are_houses c_is_ascending : Nat) : FD := ⟨2, 2, (.ret (.and (.call c_are_houses (.cons (.var 0) (.cons (.var 1) .nil))) (.call c_is_ascending (.cons (.var 0) .nil))))⟩
/-- are_pairs -/
abbrev F_are_pairs (c_is_lot c_is_ascending : Nat) : FD := ⟨2, 3, (.seq (.ite (.not (.prim (.isI [3]) (.cons (.var 0) .nil))) (.ret (.con (.bl false))) .skip) (.ret (.and (.gen true (.one 2) (.itr .seq (.cons (.var 0) .nil)) (.con (.bl true)) (.and (.call c_is_lot (.cons (.var 2) (.cons (.var 1) .nil))) (.cmp .eq (.prim .len (.cons (.var 2) .nil)) (.con (.int (2)))))) (.call c_is_ascending (.cons (.var 0) .nil)))))⟩
/-- check_map -/
abbrev F_check_map (c_is_number c_are_pairs : Nat) : FD := ⟨1, 3, (.seq (.ite (.or (.not (.prim (.isI [3]) (.cons (.var 0) .nil))) (.cmp .ne (.prim .len (.cons (.var 0) .nil)) (.con (.int (2))))) .never .skip) (.seq (.asg (.tup [1, 2]) (.var 0)) (.seq (.ite (.not (.call c_is_number (.cons (.var 1) (.cons (.con (.int (1))) (.cons (.con (.int (7))) .nil))))) .never .skip) (.ite (.not (.call c_are_pairs (.cons (.var 2) (.cons (.var 1) .nil)))) .never .skip))))⟩
/-- check_lot -/
abbrev F_check_lot (c_is_lot : Nat) : FD := ⟨2, 2, (.ite (.not (.call c_is_lot (.cons (.var 1) (.cons (.idx (.var 0) (.con (.int (0)))) .nil)))) .never .skip)⟩
/-- share -/
abbrev F_share : FD := ⟨2, 3, (.ret (.gen false (.one 2) (.itr .seq (.cons (.var 0) .nil)) (.con (.bl true)) (.cmp .mem (.var 2) (.var 1))))⟩
/-- ways_with -/
abbrev F_ways_with (c_share : Nat) : FD := ⟨3, 6, (.seq (.asg (.one 3) (.newC (.cons (.bin .add (.var 1) (.tup (.cons (.tup (.cons (.var 2) .nil)) .nil))) .nil))) (.seq (.for_ (.tup [4, 5]) (.itr .enum (.cons (.var 1) .nil)) (.ite (.not (.call c_share (.cons (.idx (.var 0) (.var 2)) (.cons (.var 5) .nil)))) (.drop (.meth .append (.var 3) (.cons (.bin .add (.bin .add (.slice false true (.var 1) (.con .non) (.var 4)) (.tup (.cons (.bin .add (.var 5) (.tup (.cons (.var 2) .nil))) .nil))) (.slice true false (.var 1) (.bin .add (.var 4) (.con (.int (1)))) (.con .non))) .nil))) .skip)) (.ret (.var 3))))⟩
/-- ways_to_part -/
abbrev F_ways_to_part (c_ways_with : Nat) : FD := ⟨2, 6, (.seq (.asg (.one 2) (.lst (.cons (.tup .nil) .nil))) (.seq (.for_ (.one 3) (.itr .seq (.cons (.var 1) .nil)) (.asg (.one 2) (.comp2 (.one 4) (.itr .seq (.cons (.var 2) .nil)) (.con (.bl true)) (.one 5) (.itr .seq (.cons (.call c_ways_with (.cons (.var 0) (.cons (.var 4) (.cons (.var 3) .nil)))) .nil)) (.con (.bl true)) (.var 5)))) (.ret (.var 2))))⟩
/-- fewest_paints -/
abbrev F_fewest_paints (c_ways_to_part : Nat) : FD := ⟨2, 3, (.ret (.prim .min (.cons (.comp (.one 2) (.itr .seq (.cons (.call c_ways_to_part (.cons (.var 0) (.cons (.var 1) .nil))) .nil)) (.con (.bl true)) (.prim .len (.cons (.var 2) .nil))) .nil)))⟩
/-- neighbors -/
abbrev F_neighbors : FD := ⟨1, 5, (.seq (.asg (.tup [1, 2]) (.var 0)) (.ret (.comp (.one 4) (.itr .range1 (.cons (.var 1) .nil)) (.con (.bl true)) (.prim .tuple (.cons (.comp (.one 3) (.itr .range1 (.cons (.var 1) .nil)) (.or (.cmp .mem (.tup (.cons (.var 4) (.cons (.var 3) .nil))) (.var 2)) (.cmp .mem (.tup (.cons (.var 3) (.cons (.var 4) .nil))) (.var 2))) (.var 3)) .nil)))))⟩
/-- need -/
abbrev F_need (c_check_map c_check_lot c_fewest_paints c_neighbors : Nat) : FD := ⟨2, 2, (.seq (.drop (.call c_check_map (.cons (.var 0) .nil))) (.seq (.drop (.call c_check_lot (.cons (.var 0) (.cons (.var 1) .nil)))) (.ret (.call c_fewest_paints (.cons (.call c_neighbors (.cons (.var 0) .nil)) (.cons (.var 1) .nil))))))⟩
/-- _law_near -/
abbrev F__law_near : FD := ⟨3, 3, (.ret (.cmp .mem (.tup (.cons (.prim .min (.cons (.var 1) (.cons (.var 2) .nil))) (.cons (.prim .max (.cons (.var 1) (.cons (.var 2) .nil))) .nil))) (.idx (.var 0) (.con (.int (1))))))⟩
/-- _law_ways -/
abbrev F__law_ways (c__law_near : Nat) : FD := ⟨3, 11, (.seq (.asg (.one 3) (.lst (.cons (.tup .nil) .nil))) (.seq (.for_ (.tup [4, 5]) (.itr .enum (.cons (.var 1) .nil)) (.seq (.asg (.one 6) (.lst .nil)) (.seq (.for_ (.one 7) (.itr .seq (.cons (.var 3) .nil)) (.seq (.asg (.one 8) (.comp (.one 9) (.itr .range1 (.cons (.var 4) .nil)) (.call c__law_near (.cons (.var 0) (.cons (.var 5) (.cons (.idx (.var 1) (.var 9)) .nil)))) (.idx (.var 7) (.var 9)))) (.asg (.one 6) (.bin .add (.var 6) (.comp (.one 10) (.itr .range2 (.cons (.con (.int (1))) (.cons (.bin .add (.var 2) (.con (.int (1)))) .nil))) (.cmp .nmem (.var 10) (.var 8)) (.bin .add (.var 7) (.tup (.cons (.var 10) .nil)))))))) (.asg (.one 3) (.var 6))))) (.ret (.var 3))))⟩
/-- _law_need -/
abbrev F__law_need (c__law_ways : Nat) : FD := ⟨2, 3, (.seq (.asg (.one 2) (.con (.int (0)))) (.seq (.while_ (.cmp .eq (.call c__law_ways (.cons (.var 0) (.cons (.var 1) (.cons (.var 2) .nil)))) (.lst .nil)) (.asg (.one 2) (.bin .add (.var 2) (.con (.int (1)))))) (.ret (.var 2))))⟩
/-- check_house -/
abbrev F_check_house (c_is_number : Nat) : FD := ⟨2, 2, (.ite (.not (.call c_is_number (.cons (.var 1) (.cons (.con (.int (0))) (.cons (.bin .sub (.idx (.var 0) (.con (.int (0)))) (.con (.int (1)))) .nil))))) .never .skip)⟩
/-- near -/
abbrev F_near (c_check_map c_check_house c_neighbors : Nat) : FD := ⟨2, 2, (.seq (.drop (.call c_check_map (.cons (.var 0) .nil))) (.seq (.drop (.call c_check_house (.cons (.var 0) (.cons (.var 1) .nil)))) (.ret (.idx (.call c_neighbors (.cons (.var 0) .nil)) (.var 1)))))⟩
/-- check_number -/
abbrev F_check_number (c_is_number : Nat) : FD := ⟨3, 3, (.ite (.not (.call c_is_number (.cons (.var 0) (.cons (.var 1) (.cons (.var 2) .nil))))) .never .skip)⟩
/-- every_house -/
abbrev F_every_house : FD := ⟨1, 1, (.ret (.rng1 true (.idx (.var 0) (.con (.int (0))))))⟩
/-- count_paintings -/
abbrev F_count_paintings (c_check_map c_check_number c_ways_to_part c_neighbors c_every_house : Nat) : FD := ⟨2, 4, (.seq (.drop (.call c_check_map (.cons (.var 0) .nil))) (.seq (.drop (.call c_check_number (.cons (.var 1) (.cons (.con (.int (0))) (.cons (.con (.int (9))) .nil))))) (.seq (.asg (.one 2) (.call c_ways_to_part (.cons (.call c_neighbors (.cons (.var 0) .nil)) (.cons (.call c_every_house (.cons (.var 0) .nil)) .nil)))) (.ret (.prim .sum (.cons (.comp (.one 3) (.itr .seq (.cons (.var 2) .nil)) (.con (.bl true)) (.prim .perm (.cons (.var 1) (.cons (.prim .len (.cons (.var 3) .nil)) .nil)))) .nil))))))⟩
/-- all_lots -/
abbrev F_all_lots : FD := ⟨1, 4, (.seq (.asg (.one 1) (.lst (.cons (.tup .nil) .nil))) (.seq (.for_ (.one 2) (.itr .range1 (.cons (.idx (.var 0) (.con (.int (0)))) .nil)) (.asg (.one 1) (.bin .add (.var 1) (.comp (.one 3) (.itr .seq (.cons (.var 1) .nil)) (.con (.bl true)) (.bin .add (.var 3) (.tup (.cons (.var 2) .nil))))))) (.ret (.var 1))))⟩
/-- is_mutual -/
abbrev F_is_mutual : FD := ⟨2, 4, (.ret (.gen2 true (.one 2) (.itr .seq (.cons (.var 1) .nil)) (.con (.bl true)) (.one 3) (.itr .seq (.cons (.var 1) .nil)) (.cmp .ne (.var 3) (.var 2)) (.cmp .mem (.var 3) (.idx (.var 0) (.var 2)))))⟩
/-- lots_of_size -/
abbrev F_lots_of_size : FD := ⟨2, 3, (.ret (.prim .tuple (.cons (.prim .sorted (.cons (.comp (.one 2) (.itr .seq (.cons (.var 0) .nil)) (.cmp .eq (.prim .len (.cons (.var 2) .nil)) (.var 1)) (.var 2)) .nil)) .nil)))⟩
/-- most_mutual -/
abbrev F_most_mutual (c_check_map c_neighbors c_all_lots c_is_mutual c_lots_of_size : Nat) : FD := ⟨1, 4, (.seq (.drop (.call c_check_map (.cons (.var 0) .nil))) (.seq (.asg (.one 1) (.call c_neighbors (.cons (.var 0) .nil))) (.seq (.asg (.one 2) (.comp (.one 3) (.itr .seq (.cons (.call c_all_lots (.cons (.var 0) .nil)) .nil)) (.call c_is_mutual (.cons (.var 1) (.cons (.var 3) .nil))) (.var 3))) (.ret (.call c_lots_of_size (.cons (.var 2) (.cons (.prim .max (.cons (.comp (.one 3) (.itr .seq (.cons (.var 2) .nil)) (.con (.bl true)) (.prim .len (.cons (.var 3) .nil))) .nil)) .nil)))))))⟩
/-- _law_rows -/
abbrev F__law_rows (c__law_lots c__law_near : Nat) : FD := ⟨1, 9, (.seq (.asg (.one 1) (.newC .nil)) (.seq (.for_ (.one 2) (.itr .seq (.cons (.call c__law_lots (.cons (.idx (.var 0) (.con (.int (0)))) .nil)) .nil)) (.ite (.cmp .eq (.prim .len (.cons (.var 2) .nil)) (.con (.int (4)))) (.for_ (.one 3) (.itr .seq (.cons (.var 2) .nil)) (.for_ (.one 4) (.itr .seq (.cons (.comp (.one 5) (.itr .seq (.cons (.var 2) .nil)) (.and (.cmp .gt (.var 5) (.var 3)) (.not (.call c__law_near (.cons (.var 0) (.cons (.var 3) (.cons (.var 5) .nil)))))) (.var 5)) .nil)) (.for_ (.one 6) (.itr .seq (.cons (.comp (.one 5) (.itr .seq (.cons (.var 2) .nil)) (.cmp .nmem (.var 5) (.tup (.cons (.var 3) (.cons (.var 4) .nil)))) (.var 5)) .nil)) (.seq (.asg (.one 7) (.idx (.comp (.one 5) (.itr .seq (.cons (.var 2) .nil)) (.cmp .nmem (.var 5) (.tup (.cons (.var 3) (.cons (.var 6) (.cons (.var 4) .nil))))) (.var 5)) (.con (.int (0))))) (.seq (.asg (.one 8) (.lst (.cons (.call c__law_near (.cons (.var 0) (.cons (.var 3) (.cons (.var 6) .nil)))) (.cons (.call c__law_near (.cons (.var 0) (.cons (.var 6) (.cons (.var 7) .nil)))) (.cons (.call c__law_near (.cons (.var 0) (.cons (.var 7) (.cons (.var 4) .nil)))) .nil))))) (.ite (.and (.cmp .eq (.var 8) (.bin .mul (.lst (.cons (.con (.bl true)) .nil)) (.con (.int (3))))) (.and (.not (.call c__law_near (.cons (.var 0) (.cons (.var 3) (.cons (.var 7) .nil))))) (.not (.call c__law_near (.cons (.var 0) (.cons (.var 6) (.cons (.var 4) .nil))))))) (.drop (.meth .append (.var 1) (.cons (.tup (.cons (.var 3) (.cons (.var 6) (.cons (.var 7) (.cons (.var 4) .nil))))) .nil))) .skip)))))) .skip)) (.ret (.prim .sorted (.cons (.var 1) .nil)))))⟩
/-- goes_on -/
abbrev F_goes_on (c_share : Nat) : FD := ⟨3, 3, (.ret (.and (.cmp .mem (.var 2) (.idx (.var 0) (.idx (.var 1) (.neg (.con (.int (1))))))) (.and (.cmp .nmem (.var 2) (.var 1)) (.not (.call c_share (.cons (.idx (.var 0) (.var 2)) (.cons (.slice false true (.var 1) (.con .non) (.neg (.con (.int (1))))) .nil)))))))⟩
/-- bare_rows -/
abbrev F_bare_rows (c_check_map c_neighbors c_goes_on : Nat) : FD := ⟨1, 6, (.seq (.drop (.call c_check_map (.cons (.var 0) .nil))) (.seq (.asg (.one 1) (.call c_neighbors (.cons (.var 0) .nil))) (.seq (.asg (.one 2) (.comp (.one 3) (.itr .range1 (.cons (.idx (.var 0) (.con (.int (0)))) .nil)) (.con (.bl true)) (.tup (.cons (.var 3) .nil)))) (.seq (.for_ (.one 4) (.itr .range1 (.cons (.bin .sub (.con (.int (4))) (.con (.int (1)))) .nil)) (.asg (.one 2) (.comp2 (.one 5) (.itr .seq (.cons (.var 2) .nil)) (.con (.bl true)) (.one 3) (.itr .range1 (.cons (.idx (.var 0) (.con (.int (0)))) .nil)) (.call c_goes_on (.cons (.var 1) (.cons (.var 5) (.cons (.var 3) .nil)))) (.bin .add (.var 5) (.tup (.cons (.var 3) .nil)))))) (.ret (.prim .tuple (.cons (.prim .sorted (.cons (.comp (.one 5) (.itr .seq (.cons (.var 2) .nil)) (.cmp .lt (.idx (.var 5) (.con (.int (0)))) (.idx (.var 5) (.neg (.con (.int (1)))))) (.var 5)) .nil)) .nil)))))))⟩
/-- left_out -/
abbrev F_left_out (c_bare_rows c_all_lots c_share c_lots_of_size : Nat) : FD := ⟨1, 5, (.seq (.asg (.one 1) (.call c_bare_rows (.cons (.var 0) .nil))) (.seq (.asg (.one 2) (.comp (.one 3) (.itr .seq (.cons (.call c_all_lots (.cons (.var 0) .nil)) .nil)) (.gen true (.one 4) (.itr .seq (.cons (.var 1) .nil)) (.con (.bl true)) (.call c_share (.cons (.var 4) (.cons (.var 3) .nil)))) (.var 3))) (.ret (.call c_lots_of_size (.cons (.var 2) (.cons (.prim .min (.cons (.comp (.one 3) (.itr .seq (.cons (.var 2) .nil)) (.con (.bl true)) (.prim .len (.cons (.var 3) .nil))) .nil)) .nil))))))⟩
end Mk
end
section
set_option Elab.async false
set_option linter.all false
set_option maxRecDepth 100000
set_option maxHeartbeats 400000
/-! What the program's defs answer: maps and lots. -/
namespace Mk
open PySem Mp GM
open Dat (enc)
abbrev Prs := List (Nat × Nat)
abbrev dTown (N : Nat) (ps : Prs) : D := .tup [.int N, enc ps]
/-- a map -/
structure Town (N : Nat) (ps : Prs) : Prop where
  pos : 1 ≤ N
  most : N ≤ 7
  lt : ∀ p ∈ ps, p.1 < p.2 ∧ p.2 < N
  asc : ps.Pairwise fun p q => Dat.ltb p q = true
/-- neighbors -/
def adj (ps : Prs) (h o : Nat) : Bool := decide ((h, o) ∈ ps) || decide ((o, h) ∈ ps)
theorem adj_sy (ps : Prs) (h o : Nat) : adj ps h o = adj ps o h := Bool.or_comm _ _
theorem ltb_irr (p : Nat × Nat) : Dat.ltb p p = false := by
  show (if p.1 = p.1 then (if p.2 = p.2 then false else Dat.ltb p.2 p.2) else Dat.ltb p.1 p.1) = false
  rw [if_pos rfl, if_pos rfl]
theorem Town.nodup {N : Nat} {ps : Prs} (h : Town N ps) : ps.Nodup := h.asc.imp fun {a b} z e => by
  subst e
  rw [ltb_irr] at z
  cases z
theorem Town.len {N : Nat} {ps : Prs} (h : Town N ps) : ps.length ≤ 100 := by
  have := List.Nodup.length_le_of_subset h.nodup (l₂ := (List.range 7).flatMap fun a => (List.range 7).map fun b => (a, b)) fun p hp => by
    have h1 := h.lt p hp
    have h2 := h.most
    exact List.mem_flatMap.mpr ⟨p.1, List.mem_range.mpr (by omega), List.mem_map.mpr ⟨p.2, List.mem_range.mpr (by omega), rfl⟩⟩
  exact Nat.le_trans this (by decide)
theorem Town.adj_lt {N : Nat} {ps : Prs} (h : Town N ps) {a b : Nat} (k : adj ps a b = true) : a < N ∧ b < N ∧ a ≠ b := by
  unfold adj at k
  rw [Bool.or_eq_true, decide_eq_true_eq, decide_eq_true_eq] at k
  rcases k with k | k
  · have := h.lt _ k
    simp only at this
    omega
  · have := h.lt _ k
    simp only at this
    omega
abbrev nbs (N : Nat) (ps : Prs) (h : Nat) : List Nat := nb N (adj ps) h
def beside (N : Nat) (ps : Prs) : List (List Nat) := (List.range N).map (nbs N ps)
theorem beside_at {N h : Nat} {ps : Prs} (hh : h < N) : (beside N ps)[h]? = some (nbs N ps h) := by
  unfold beside
  rw [List.getElem?_map, List.getElem?_range hh]
  rfl
theorem range_pre {dn : List Nat} {x N : Nat} (h : dn ++ [x] <+: List.range N) : x = dn.length := by
  obtain ⟨t, e⟩ := h
  have h1 : (List.range N)[dn.length]? = some x := by
    rw [← e, List.append_assoc, List.getElem?_append_right (Nat.le_refl _), Nat.sub_self]
    rfl
  obtain ⟨h2, h3⟩ := List.getElem?_eq_some_iff.mp h1
  rw [List.getElem_range] at h3
  exact h3.symm
theorem ascAt {α : Type} {R : α → α → Prop} {l : List α} (h : l.Pairwise R) {i : Nat} (hi : i < l.length - 1) : ∃ x y, l[i]? = some x ∧ l[i + 1]? = some y ∧ R x y := by
  have h1 : i < l.length := by omega
  have h2 : i + 1 < l.length := by omega
  exact ⟨l[i], l[i + 1], List.getElem?_eq_getElem h1, List.getElem?_eq_getElem h2, List.pairwise_iff_getElem.mp h i (i + 1) h1 h2 (Nat.lt_succ_self i)⟩
theorem pl_map {α : Type} [DecidableEq α] [Dat α] (l : List α) : ∀ d ∈ l.map enc, Pl d := fun d hd => by
  obtain ⟨x, _, rfl⟩ := List.mem_map.mp hd
  exact Dat.pl x
theorem le_line {k : Nat} (h : k ≤ 16777216) : k ≤ line := h
/-! numbers of a list -/
theorem ints_nat : ∀ l : List Nat, intsOf (l.map enc) = some (l.map fun x : Nat => (x : Int))
  | [] => rfl
  | x :: l => by
    rw [List.map_cons, List.map_cons]
    show (intsOf (l.map enc)).map (fun r => (x : Int) :: r) = _
    rw [ints_nat l]
    rfl
theorem ints_int : ∀ l : List Int, intsOf (l.map enc) = some l
  | [] => rfl
  | x :: l => by
    rw [List.map_cons]
    show (intsOf (l.map enc)).map (fun r => x :: r) = _
    rw [ints_int l]
    rfl
theorem fold_min : ∀ (l : List Nat) (x : Nat), (l.map fun x : Nat => (x : Int)).foldl min (x : Int) = ((l.foldl min x : Nat) : Int)
  | [], _ => rfl
  | y :: l, x => by
    rw [List.map_cons, List.foldl_cons, List.foldl_cons, ← fold_min l]
    congr 1
    omega
theorem fold_max : ∀ (l : List Nat) (x : Nat), (l.map fun x : Nat => (x : Int)).foldl max (x : Int) = ((l.foldl max x : Nat) : Int)
  | [], _ => rfl
  | y :: l, x => by
    rw [List.map_cons, List.foldl_cons, List.foldl_cons, ← fold_max l]
    congr 1
    omega
theorem fold_min_is : ∀ (l : List Nat) (x : Nat), l.foldl min x ∈ x :: l ∧ ∀ y ∈ x :: l, l.foldl min x ≤ y
  | [], x => by simp
  | z :: l, x => by
    obtain ⟨h1, h2⟩ := fold_min_is l (min x z)
    rw [List.foldl_cons]
    refine ⟨?_, fun y hy => ?_⟩
    · rcases List.mem_cons.mp h1 with h | h
      · rw [h]
        rcases Nat.le_total x z with k | k
        · rw [Nat.min_eq_left k]; simp
        · rw [Nat.min_eq_right k]; simp
      · exact List.mem_cons_of_mem _ (List.mem_cons_of_mem _ h)
    · have := h2 (min x z) List.mem_cons_self
      rcases List.mem_cons.mp hy with rfl | hy
      · omega
      · rcases List.mem_cons.mp hy with rfl | hy
        · omega
        · exact h2 y (List.mem_cons_of_mem _ hy)
theorem fold_max_is : ∀ (l : List Nat) (x : Nat), l.foldl max x ∈ x :: l ∧ ∀ y ∈ x :: l, y ≤ l.foldl max x
  | [], x => by simp
  | z :: l, x => by
    obtain ⟨h1, h2⟩ := fold_max_is l (max x z)
    rw [List.foldl_cons]
    refine ⟨?_, fun y hy => ?_⟩
    · rcases List.mem_cons.mp h1 with h | h
      · rw [h]
        rcases Nat.le_total x z with k | k
        · rw [Nat.max_eq_right k]; simp
        · rw [Nat.max_eq_left k]; simp
      · exact List.mem_cons_of_mem _ (List.mem_cons_of_mem _ h)
    · have := h2 (max x z) List.mem_cons_self
      rcases List.mem_cons.mp hy with rfl | hy
      · omega
      · rcases List.mem_cons.mp hy with rfl | hy
        · omega
        · exact h2 y (List.mem_cons_of_mem _ hy)
theorem prim_min {l : List Nat} {m : Nat} {st : St} (hm : m ∈ l) (hl : ∀ x ∈ l, m ≤ x) : primD .min [dL l] st = .ok (enc m) st := by
  cases l with
  | nil => cases hm
  | cons x l =>
    obtain ⟨h1, h2⟩ := fold_min_is l x
    have e : l.foldl min x = m := Nat.le_antisymm (h2 m hm) (hl _ h1)
    refine (pD (fun _ z => by cases z) (e := dL (x :: l)) rfl).trans ?_
    show opt (((intsOf ((x :: l).map enc)).bind leastI).map D.int) st = _
    rw [ints_nat]
    show opt (some (D.int ((l.map fun x : Nat => (x : Int)).foldl min (x : Int)))) st = _
    rw [fold_min, e]
    rfl
theorem prim_max {l : List Nat} {m : Nat} {st : St} (hm : m ∈ l) (hl : ∀ x ∈ l, x ≤ m) : primD .max [dL l] st = .ok (enc m) st := by
  cases l with
  | nil => cases hm
  | cons x l =>
    obtain ⟨h1, h2⟩ := fold_max_is l x
    have e : l.foldl max x = m := Nat.le_antisymm (hl _ h1) (h2 m hm)
    refine (pD (fun _ z => by cases z) (e := dL (x :: l)) rfl).trans ?_
    show opt (((intsOf ((x :: l).map enc)).bind mostI).map D.int) st = _
    rw [ints_nat]
    show opt (some (D.int ((l.map fun x : Nat => (x : Int)).foldl max (x : Int)))) st = _
    rw [fold_max, e]
    rfl
theorem prim_sum {l : List Int} {st : St} : primD .sum [dL l] st = .ok (.int l.sum) st := by
  refine (pD (fun _ z => by cases z) (e := dL l) rfl).trans ?_
  show opt ((intsOf (l.map enc)).map fun l => D.int l.sum) st = _
  rw [ints_int]
  rfl
theorem prim_min2 {a b : Nat} {st : St} : primD .min [enc a, enc b] st = .ok (enc (min a b)) st := by
  refine (pD (fun _ z => by cases z) (e := enc a) rfl).trans ?_
  show Mp.ret (D.int (if (b : Int) < (a : Int) then (b : Int) else a)) st = _
  rw [show (if (b : Int) < (a : Int) then (b : Int) else a) = ((min a b : Nat) : Int) by split <;> omega]
  rfl
theorem prim_max2 {a b : Nat} {st : St} : primD .max [enc a, enc b] st = .ok (enc (max a b)) st := by
  refine (pD (fun _ z => by cases z) (e := enc a) rfl).trans ?_
  show Mp.ret (D.int (if (b : Int) > (a : Int) then (b : Int) else a)) st = _
  rw [show (if (b : Int) > (a : Int) then (b : Int) else a) = ((max a b : Nat) : Int) by split <;> omega]
  rfl
theorem fp_prm {p : Nat} : ∀ {k : Nat}, k ≤ p → Builtin.Math.fallingProduct p k = (prm p k : Nat)
  | 0, _ => rfl
  | k + 1, h => by
    rw [PySem.W.mc_fp_succ, fp_prm (Nat.le_of_succ_le h), show prm p (k + 1) = prm p k * (p - k) from rfl, Int.natCast_mul]
    congr 1
    omega
theorem perm_prm (p k : Nat) : PySem.W.mcPerm (p : Int) (k : Int) = (prm p k : Nat) := by
  rcases Nat.lt_or_ge p k with h | h
  · rw [PySem.W.mcPerm_above (by omega), prm_zero h]
    rfl
  · rw [PySem.W.mcPerm_at (by omega)]
    exact fp_prm h
section
variable {T : List FD}
/-! checks -/
def SpShare (T : List FD) (i : Nat) : Prop := ∀ (n : Nat) (st : St), 1 ≤ n → Low st → ∀ a b : List Nat, run T n i [enc a, enc b] st = .ok (.bl (a.any fun h => decide (h ∈ b))) st
theorem share_ok {i : Nat} (hT : T[i]? = some F_share) : SpShare T i := fun n st hn hs a b => by
  obtain ⟨m, rfl⟩ := Nat.exists_eq_add_of_le' hn
  exact run_pl hs hT rfl rfl (rt (genE (f := enc (α := Nat)) _ (it_tup (vr rfl)) rfl fun x hx => ⟨_, rfl, cm (vr rfl) (vr rfl) mem_⟩))
def SpNum (T : List FD) (i : Nat) : Prop := ∀ (n : Nat) (st : St), 1 ≤ n → Low st → ∀ v a b : Int, run T n i [.int v, .int a, .int b] st = .ok (.bl (decide (a ≤ v) && decide (v ≤ b))) st
theorem num_ok {i : Nat} (hT : T[i]? = some F_is_number) : SpNum T i := fun n st hn hs v a b => by
  obtain ⟨m, rfl⟩ := Nat.exists_eq_add_of_le' hn
  exact run_pl hs hT rfl rfl (rt (an (k := true) (pr (al (vr rfl) al0) rfl) fun _ => an (k := true) (nt (k := false) (tb (pr (al (vr rfl) al0) rfl))) fun _ => chn (vr rfl) (vr rfl) rfl (vr rfl) rfl))
theorem num_t {i n : Nat} {st : St} (sp : SpNum T i) (hn : 1 ≤ n) (hs : Low st) {v a b : Int} (h1 : a ≤ v) (h2 : v ≤ b) : run T n i [.int v, .int a, .int b] st = .ok (.bl true) st := by
  rw [sp n st hn hs v a b, decide_eq_true h1, decide_eq_true h2]
  rfl
def SpHouses (T : List FD) (i : Nat) : Prop := ∀ (n : Nat) (st : St), 2 ≤ n → Low st → ∀ (l : List Nat) (N : Nat), (∀ x ∈ l, x < N) → run T n i [enc l, .int N] st = .ok (.bl true) st
theorem houses_ok {i c : Nat} (hT : T[i]? = some (F_are_houses c)) (k1 : SpNum T c) : SpHouses T i := fun n st hn hs l N h => by
  obtain ⟨m, rfl⟩ := Nat.exists_eq_add_of_le' hn
  exact run_pl hs hT rfl rfl (rt (an (k := true) (m := true) (pr (al (vr rfl) al0) rfl) fun _ => gen_all (f := enc (α := Nat)) (it_tup (vr rfl)) rfl fun x hx => ⟨_, rfl, cl (al (vr rfl) (al cn (al (bn (vr rfl) cn rfl) al0))) (num_t k1 (by omega) hs (by show (0 : Int) ≤ (x : Int); omega) (by have := h x hx; show (x : Int) ≤ (N : Int) - 1; omega))⟩))
def SpAsc (T : List FD) (i : Nat) : Prop := ∀ (n : Nat) (st : St), 1 ≤ n → Low st → (∀ l : List Nat, l.length ≤ 100 → (l.Pairwise fun a b => a < b) → run T n i [enc l] st = .ok (.bl true) st) ∧ ∀ l : Prs, l.length ≤ 100 → (l.Pairwise fun a b => Dat.ltb a b = true) → run T n i [enc l] st = .ok (.bl true) st
theorem asc_ok {i : Nat} (hT : T[i]? = some F_is_ascending) : SpAsc T i := fun n st hn hs => by
  obtain ⟨m, rfl⟩ := Nat.exists_eq_add_of_le' hn
  refine ⟨fun l hl h => ?_, fun l hl h => ?_⟩
  · refine run_pl hs hT rfl rfl (rt (gen_all (it_rng1 (n := l.length - 1) (bn (pr (al (vr rfl) al0) rfl) cn rfl) (by show (((l.map enc).length : Int) - 1).toNat = _; rw [List.length_map]; omega) (by show _ ≤ (((l.map enc).length : Int) - 1); omega) (by show (((l.map enc).length : Int) - 1) ≤ _; rw [List.length_map]; omega)) rfl fun i hi => ?_))
    obtain ⟨x, y, h1, h2, h3⟩ := ascAt h (List.mem_range.mp hi)
    refine ⟨_, rfl, cm (ix (vr rfl) (vr rfl) (ixT h1)) (ix (vr rfl) (bn (vr rfl) cn rfl) (ixT (i := i + 1) h2)) ?_⟩
    show Mp.ret (D.bl (decide ((x : Int) < (y : Int)))) st = _
    rw [decide_eq_true (by omega)]
    rfl
  · refine run_pl hs hT rfl rfl (rt (gen_all (it_rng1 (n := l.length - 1) (bn (pr (al (vr rfl) al0) rfl) cn rfl) (by show (((l.map enc).length : Int) - 1).toNat = _; rw [List.length_map]; omega) (by show _ ≤ (((l.map enc).length : Int) - 1); omega) (by show (((l.map enc).length : Int) - 1) ≤ _; rw [List.length_map]; omega)) rfl fun i hi => ?_))
    obtain ⟨x, y, h1, h2, h3⟩ := ascAt h (List.mem_range.mp hi)
    refine ⟨_, rfl, cm (ix (vr rfl) (vr rfl) (ixT h1)) (ix (vr rfl) (bn (vr rfl) cn rfl) (ixT (i := i + 1) h2)) ?_⟩
    refine bk2 (v := enc x) (st1 := st) rfl (bk2 (v := enc y) (st1 := st) rfl ?_)
    have e : D.lts [enc x.1, enc x.2] [enc y.1, enc y.2] = true := by
      have q := Dat.lt x y
      rw [h3] at q
      have q' : D.lt (.tup [enc x.1, enc x.2]) (.tup [enc y.1, enc y.2]) = true := q
      simpa only [D.lt] using q'
    show (if D.ok (enc x) && D.ok (enc y) && D.alikes [enc x.1, enc x.2] [enc y.1, enc y.2] then Mp.ret (D.bl (D.lts [enc x.1, enc x.2] [enc y.1, enc y.2])) else bad) st = _
    rw [ok_of, ok_of, e]
    rfl
def SpLot (T : List FD) (i : Nat) : Prop := ∀ (n : Nat) (st : St), 3 ≤ n → Low st → ∀ (l : List Nat) (N : Nat), (∀ x ∈ l, x < N) → l.length ≤ 100 → (l.Pairwise fun a b => a < b) → run T n i [enc l, .int N] st = .ok (.bl true) st
theorem lot_ok {i c d : Nat} (hT : T[i]? = some (F_is_lot c d)) (k1 : SpHouses T c) (k2 : SpAsc T d) : SpLot T i := fun n st hn hs l N h hl ha => by
  obtain ⟨m, rfl⟩ := Nat.exists_eq_add_of_le' hn
  exact run_pl hs hT rfl rfl (rt (an (k := true) (m := true) (cl (al (vr rfl) (al (vr rfl) al0)) (k1 _ _ (by omega) hs l N h)) fun _ => cl (al (vr rfl) al0) ((k2 _ _ (by omega) hs).1 l hl ha)))
def SpPairs (T : List FD) (i : Nat) : Prop := ∀ (n : Nat) (st : St), 4 ≤ n → Low st → ∀ (l : Prs) (N : Nat), (∀ p ∈ l, p.1 < p.2 ∧ p.2 < N) → l.length ≤ 100 → (l.Pairwise fun a b => Dat.ltb a b = true) → run T n i [enc l, .int N] st = .ok (.bl true) st
theorem pairs_ok {i c d : Nat} (hT : T[i]? = some (F_are_pairs c d)) (k1 : SpLot T c) (k2 : SpAsc T d) : SpPairs T i := fun n st hn hs l N h hl ha => by
  obtain ⟨m, rfl⟩ := Nat.exists_eq_add_of_le' hn
  refine run_pl hs hT rfl rfl (sq (ife (tb (nt (k := true) (tb (pr (al (vr rfl) al0) rfl)))) sk) (rt (an (k := true) (m := true) (gen_all (f := enc (α := Nat × Nat)) (it_tup (vr rfl)) rfl fun x hx => ⟨_, rfl, an (k := true) (m := true) (cl (al (vr rfl) (al (vr rfl) al0)) ?_) fun _ => cm (pr (al (vr rfl) al0) rfl) cn rfl⟩) fun _ => cl (al (vr rfl) al0) ((k2 _ _ (by omega) hs).2 l hl ha))))
  obtain ⟨h1, h2⟩ := h x hx
  exact k1 _ _ (by omega) hs [x.1, x.2] N (by intro y hy; simp at hy; omega) (by simp) (by simpa using h1)
def SpMap (T : List FD) (i : Nat) : Prop := ∀ (n : Nat) (st : St), 5 ≤ n → Low st → ∀ (N : Nat) (ps : Prs), Town N ps → run T n i [dTown N ps] st = .ok .non st
theorem map_ok {i c d : Nat} (hT : T[i]? = some (F_check_map c d)) (k1 : SpNum T c) (k2 : SpPairs T d) : SpMap T i := fun n st hn hs N ps h => by
  obtain ⟨m, rfl⟩ := Nat.exists_eq_add_of_le' hn
  have h1 := h.pos
  have h2 := h.most
  exact run_next hT rfl (sq (ife (tb (orr (k := false) (m := false) (nt (k := true) (tb (pr (al (vr rfl) al0) rfl))) fun _ => cm (pr (al (vr rfl) al0) rfl) cn rfl)) sk) (sq (asg (vr rfl) rfl) (sq (ife (tb (nt (k := true) (tb (cl (al (vr rfl) (al cn (al cn al0))) (num_t k1 (by omega) hs (by omega) (by omega)))))) sk)
    (ife (tb (nt (k := true) (tb (cl (al (vr rfl) (al (vr rfl) al0)) (k2 _ _ (by omega) hs ps N h.lt h.len h.asc))))) sk)))) (leave_pl hs rfl)
def SpCLot (T : List FD) (i : Nat) : Prop := ∀ (n : Nat) (st : St), 4 ≤ n → Low st → ∀ (N : Nat) (ps : Prs) (l : List Nat), (∀ x ∈ l, x < N) → l.length ≤ 100 → (l.Pairwise fun a b => a < b) → run T n i [dTown N ps, enc l] st = .ok .non st
theorem clot_ok {i c : Nat} (hT : T[i]? = some (F_check_lot c)) (k1 : SpLot T c) : SpCLot T i := fun n st hn hs N ps l h hl ha => by
  obtain ⟨m, rfl⟩ := Nat.exists_eq_add_of_le' hn
  exact run_next hT rfl (ife (tb (nt (k := true) (tb (cl (al (vr rfl) (al (ix (vr rfl) cn rfl) al0)) (k1 _ _ (by omega) hs l N h hl ha))))) sk) (leave_pl hs rfl)
def SpCHouse (T : List FD) (i : Nat) : Prop := ∀ (n : Nat) (st : St), 2 ≤ n → Low st → ∀ (N : Nat) (ps : Prs) (h : Nat), h < N → run T n i [dTown N ps, enc h] st = .ok .non st
theorem chouse_ok {i c : Nat} (hT : T[i]? = some (F_check_house c)) (k1 : SpNum T c) : SpCHouse T i := fun n st hn hs N ps h hh => by
  obtain ⟨m, rfl⟩ := Nat.exists_eq_add_of_le' hn
  exact run_next hT rfl (ife (tb (nt (k := true) (tb (cl (al (vr rfl) (al cn (al (bn (ix (vr rfl) cn rfl) cn rfl) al0))) (num_t k1 (by omega) hs (by show (0 : Int) ≤ (h : Int); omega) (by show (h : Int) ≤ (N : Int) - 1; omega)))))) sk) (leave_pl hs rfl)
def SpCNum (T : List FD) (i : Nat) : Prop := ∀ (n : Nat) (st : St), 2 ≤ n → Low st → ∀ v a b : Int, a ≤ v → v ≤ b → run T n i [.int v, .int a, .int b] st = .ok .non st
theorem cnum_ok {i c : Nat} (hT : T[i]? = some (F_check_number c)) (k1 : SpNum T c) : SpCNum T i := fun n st hn hs v a b h1 h2 => by
  obtain ⟨m, rfl⟩ := Nat.exists_eq_add_of_le' hn
  exact run_next hT rfl (ife (tb (nt (k := true) (tb (cl (al (vr rfl) (al (vr rfl) (al (vr rfl) al0))) (num_t k1 (by omega) hs h1 h2))))) sk) (leave_pl hs rfl)
/-! lots -/
def SpEvery (T : List FD) (i : Nat) : Prop := ∀ (n : Nat) (st : St), 1 ≤ n → Low st → ∀ (N : Nat) (ps : Prs), N ≤ 7 → run T n i [dTown N ps] st = .ok (enc (List.range N)) st
theorem every_ok {i : Nat} (hT : T[i]? = some F_every_house) : SpEvery T i := fun n st hn hs N ps hN => by
  obtain ⟨m, rfl⟩ := Nat.exists_eq_add_of_le' hn
  refine run_pl hs hT rfl (Dat.pl _) (rt ?_)
  have h1 : ev (run T m) (.idx (.var 0) (.con (.int 0))) [some (dTown N ps)] st = .ok (.int N) st := ix (vr rfl) cn rfl
  show ev (run T m) (.rng1 true (.idx (.var 0) (.con (.int 0)))) [some (dTown N ps)] st = _
  simp only [ev]
  refine bk2 h1 ?_
  unfold rngD
  have e1 : Nat.ble ((N : Int) - 0).toNat line = true := Nat.ble_eq_true_of_le (by show ((N : Int) - 0).toNat ≤ 16777216; omega)
  simp only [rangeOk_of (i := 0) (by omega) (by omega), rangeOk_of (i := N) (by omega) (by omega), e1, Bool.and_self, if_true, Mp.ret]
  rw [show ((N : Int) - 0).toNat = N by omega, upto_zero]
  rfl
def SpLots (T : List FD) (i : Nat) : Prop := ∀ (n : Nat) (st : St), 1 ≤ n → Low st → ∀ (N : Nat) (ps : Prs), N ≤ 7 → run T n i [dTown N ps] st = .ok (dL (lots N)) st
theorem lots_ok {i : Nat} (hT : T[i]? = some F_all_lots) : SpLots T i := fun n st hn hs N ps hN => by
  obtain ⟨m, rfl⟩ := Nat.exists_eq_add_of_le' hn
  obtain ⟨env2, st2, h1, ⟨y2, rfl⟩, rfl⟩ := for1 (C := run T m) (p := .one 2) (e := .itr .range1 (.cons (.idx (.var 0) (.con (.int 0))) .nil)) (s := .asg (.one 1) (.bin .add (.var 1) (.comp (.one 3) (.itr .seq (.cons (.var 1) .nil)) (.con (.bl true)) (.bin .add (.var 3) (.tup (.cons (.var 2) .nil))))))
    (env := [some (dTown N ps), some (dL (lots 0)), none, none]) (st := st) (f := enc (α := Nat)) (xs := List.range N)
    (fun dn env s => (∃ y2, env = [some (dTown N ps), some (dL (lots dn.length)), y2, none]) ∧ s = st) (it_rng1 (n := N) (ix (vr rfl) cn rfl) (by omega) (by omega) (by omega)) ⟨⟨none, rfl⟩, rfl⟩ fun x dn env s hx hp ⟨⟨y2, e1⟩, e2⟩ => by
      subst e1 e2
      have hx := range_pre hp
      have hd : dn.length ≤ 6 := by
        have := List.mem_range.mp (by assumption : x ∈ List.range N)
        omega
      have hl := lots_most (n := dn.length) (by omega)
      subst hx
      refine ⟨_, [some (dTown N ps), some (dL (lots (dn.length + 1))), some (enc dn.length), none], s, rfl, asg (bn (vr rfl) (cmp0 (xs := lots dn.length) (f := enc) (fun l => enc (l ++ [dn.length])) (it_lst (vr rfl)) rfl (fun l hl => ⟨_, rfl, bn (vr rfl) (tp1 (vr rfl)) (addT ?_)⟩) (by show _ ≤ 16777216; omega)) ?_) rfl, rfl, ⟨some (enc dn.length), ?_⟩, rfl⟩
      · have := (lots_is hl).2.2
        rw [List.length_append, List.length_singleton]
        show _ ≤ 16777216
        omega
      · rw [show (lots dn.length).map (fun l => enc (l ++ [dn.length])) = ((lots dn.length).map fun l => l ++ [dn.length]).map enc by rw [List.map_map]; rfl]
        refine addL ?_
        rw [List.length_append, List.length_map]
        show _ ≤ 16777216
        omega
      · rw [List.length_append, List.length_singleton]
  rw [List.length_range] at h1
  exact run_pl hs hT rfl pl_L (sq (asg (ls1 (v := ([] : List Nat)) (tp al0 (Nat.zero_le _))) rfl) (sq h1 (rt (vr rfl))))
def SpNbs (T : List FD) (i : Nat) : Prop := ∀ (n : Nat) (st : St), 1 ≤ n → Low st → ∀ (N : Nat) (ps : Prs), N ≤ 7 → run T n i [dTown N ps] st = .ok (dL (beside N ps)) st
theorem nbs_ok {i : Nat} (hT : T[i]? = some F_neighbors) : SpNbs T i := fun n st hn hs N ps hN => by
  obtain ⟨m, rfl⟩ := Nat.exists_eq_add_of_le' hn
  refine run_pl hs hT rfl pl_L (sq (asg (vr rfl) rfl) (rt ?_))
  have e : beside N ps = (List.range N).map (nbs N ps) := rfl
  rw [e, dL, List.map_map]
  refine cmp0 (xs := List.range N) (f := enc) (fun h => enc (nbs N ps h)) (it_rng1 (n := N) (vr rfl) (by omega) (by omega) (by omega)) rfl (fun h hh => ⟨_, rfl, pr (al (cmp_ (xs := List.range N) (f := enc) (fun o => decide ((h, o) ∈ ps) || decide ((o, h) ∈ ps)) enc (it_rng1 (n := N) (vr rfl) (by omega) (by omega) (by omega)) rfl (fun o ho => ⟨_, rfl, tb (orr (cm (tp (al (vr rfl) (al (vr rfl) al0)) (by show 2 ≤ line; decide)) (vr rfl) (mem_ (x := (h, o)))) fun _ => cm (tp (al (vr rfl) (al (vr rfl) al0)) (by show 2 ≤ line; decide)) (vr rfl) (mem_ (x := (o, h)))), fun _ => vr rfl⟩) ?_) al0) rfl⟩) ?_
  · rw [List.length_map]
    refine Nat.le_trans (List.length_filter_le _ _) ?_
    rw [List.length_range]
    show _ ≤ 16777216
    omega
  · rw [List.length_range]
    show _ ≤ 16777216
    omega
end
end Mk
end
section
set_option Elab.async false
set_option linter.all false
set_option maxRecDepth 100000
set_option maxHeartbeats 400000
/-! Ways to part a lot into heaps; needs; rows. -/
namespace Mk
open PySem Mp GM
open Dat (enc)
def frB (b : List Nat) (H : List Nat) : Bool := !(b.any fun x => decide (x ∈ H))
def Fit (k : Nat) (hs : Heaps) : Prop := hs.length ≤ k ∧ ∀ h ∈ hs, h.length ≤ k
theorem fit_ways {fr : List Nat → Bool} {hs w : Heaps} {h k : Nat} (hf : Fit k hs) (hw : w ∈ wW fr hs h) : Fit (k + 1) w := by
  obtain ⟨f1, f2⟩ := hf
  rcases List.mem_cons.mp hw with rfl | hw
  · refine ⟨by rw [List.length_append, List.length_singleton]; omega, fun x hx => ?_⟩
    rcases List.mem_append.mp hx with hx | hx
    · exact Nat.le_succ_of_le (f2 x hx)
    · rw [List.mem_singleton.mp hx]
      exact Nat.succ_le_succ (Nat.zero_le _)
  · obtain ⟨p, hp, rfl⟩ := List.mem_map.mp hw
    have hp := List.mem_zipIdx' (List.mem_filter.mp hp).1
    have hm : p.1 ∈ hs := by
      rw [hp.2]
      exact List.getElem_mem _
    have := hp.1
    refine ⟨by simp only [List.length_append, List.length_take, List.length_drop, List.length_singleton]; omega, fun x hx => ?_⟩
    simp only [List.mem_append, List.mem_singleton] at hx
    rcases hx with (hx | rfl) | hx
    · exact Nat.le_succ_of_le (f2 x (List.mem_of_mem_take hx))
    · rw [List.length_append, List.length_singleton]
      exact Nat.succ_le_succ (f2 _ hm)
    · exact Nat.le_succ_of_le (f2 x (List.mem_of_mem_drop hx))
theorem ways_most {fr : List Nat → Bool} {hs : Heaps} {h k : Nat} (hf : Fit k hs) : (wW fr hs h).length ≤ k + 1 := by
  unfold wW
  rw [List.length_cons, List.length_map]
  refine Nat.succ_le_succ (Nat.le_trans (List.length_filter_le _ _) ?_)
  rw [List.length_zipIdx]
  exact hf.1
def fac : Nat → Nat
  | 0 => 1
  | n + 1 => fac n * (n + 1)
theorem fac_le : ∀ {n m : Nat}, n ≤ m → fac n ≤ fac m
  | n, 0, h => by
    rw [Nat.le_zero.mp h]
    exact Nat.le_refl _
  | n, m + 1, h => by
    rcases Nat.lt_or_ge m n with z | z
    · rw [show n = m + 1 by omega]
      exact Nat.le_refl _
    · exact Nat.le_trans (fac_le z) (Nat.le_mul_of_pos_right _ (Nat.succ_pos _))
theorem flat_most {α β : Type} {f : α → List β} {k : Nat} : ∀ {l : List α}, (∀ a ∈ l, (f a).length ≤ k) → (l.flatMap f).length ≤ l.length * k
  | [], _ => by simp
  | a :: l, h => by
    rw [List.flatMap_cons, List.length_append, List.length_cons, Nat.succ_mul]
    have := h a List.mem_cons_self
    have := flat_most (l := l) fun b hb => h b (List.mem_cons_of_mem _ hb)
    omega
theorem parts_snoc {fr : Nat → List Nat → Bool} {dn : List Nat} {x : Nat} {W : List Heaps} : parts fr (dn ++ [x]) W = (parts fr dn W).flatMap fun P => wW (fr x) P x := by
  unfold parts
  rw [List.foldl_append]
  rfl
theorem parts_fit' {fr : Nat → List Nat → Bool} : ∀ l : List Nat, (∀ P ∈ parts fr l.reverse [[]], Fit l.length P) ∧ (parts fr l.reverse [[]]).length ≤ fac l.length
  | [] => by
    refine ⟨fun P hP => ?_, Nat.le_refl _⟩
    rw [List.mem_singleton.mp hP]
    exact ⟨Nat.le_refl _, (fun _ z => by cases z)⟩
  | x :: l => by
    obtain ⟨h1, h2⟩ := parts_fit' (fr := fr) l
    rw [List.reverse_cons, parts_snoc, List.length_cons]
    refine ⟨fun P hP => ?_, ?_⟩
    · obtain ⟨Q, hQ, hP⟩ := List.mem_flatMap.mp hP
      exact fit_ways (h1 Q hQ) hP
    · refine Nat.le_trans (flat_most fun P hP => ways_most (h1 P hP)) ?_
      exact Nat.mul_le_mul_right _ h2
theorem parts_fit {fr : Nat → List Nat → Bool} (dn : List Nat) : (∀ P ∈ parts fr dn [[]], Fit dn.length P) ∧ (parts fr dn [[]]).length ≤ fac dn.length := by
  have := parts_fit' (fr := fr) dn.reverse
  rwa [List.reverse_reverse, List.length_reverse] at this
/-- the ways so far -/
def wAcc (b : List Nat) (H : Heaps) (h : Nat) (dn : List (List Nat × Nat)) : List Heaps := (H ++ [[h]]) :: (dn.filter fun p => frB b p.1).map fun p => H.take p.2 ++ [p.1 ++ [h]] ++ H.drop (p.2 + 1)
theorem wAcc_add {b : List Nat} {H : Heaps} {h : Nat} {dn : List (List Nat × Nat)} {x : List Nat × Nat} : wAcc b H h (dn ++ [x]) = if frB b x.1 then wAcc b H h dn ++ [H.take x.2 ++ [x.1 ++ [h]] ++ H.drop (x.2 + 1)] else wAcc b H h dn := by
  unfold wAcc
  cases q : frB b x.1 with
  | true =>
    rw [if_pos rfl, List.filter_append, List.filter_cons_of_pos (p := fun p : List Nat × Nat => frB b p.1) q, List.filter_nil, List.map_append]
    rfl
  | false =>
    rw [if_neg (by simp), List.filter_append, List.filter_cons_of_neg (p := fun p : List Nat × Nat => frB b p.1) (by rw [q]; simp), List.filter_nil, List.append_nil]
theorem wAcc_len {b : List Nat} {H : Heaps} {h : Nat} {dn : List (List Nat × Nat)} : (wAcc b H h dn).length ≤ dn.length + 1 := by
  unfold wAcc
  rw [List.length_cons, List.length_map]
  exact Nat.succ_le_succ (List.length_filter_le _ _)
section
variable {T : List FD}
def SpWith (T : List FD) (i : Nat) : Prop := ∀ (n : Nat) (st : St), 2 ≤ n → Low st → ∀ (B : List (List Nat)) (H : Heaps) (h k : Nat) (b : List Nat), B[h]? = some b → Fit k H → k ≤ 7 → run T n i [dL B, enc H, enc h] st = .ok (dL (wW (frB b) H h)) st
theorem with_ok {i c : Nat} (hT : T[i]? = some (F_ways_with c)) (k1 : SpShare T c) : SpWith T i := fun n st hn hs B H h k b hb hf hk => by
  obtain ⟨m, rfl⟩ := Nat.exists_eq_add_of_le' hn
  obtain ⟨f1, f2⟩ := hf
  have one : (H ++ [[h]]).length ≤ line := by
    rw [List.length_append, List.length_singleton]
    show _ ≤ 16777216
    omega
  obtain ⟨env2, st2, h1, ⟨y4, y5, rfl⟩, rfl⟩ := for1 (C := run T (m + 1)) (p := .tup [4, 5]) (e := .itr .enum (.cons (.var 1) .nil)) (s := (.ite (.not (.call c (.cons (.idx (.var 0) (.var 2)) (.cons (.var 5) .nil)))) (.drop (.meth .append (.var 3) (.cons (.bin .add (.bin .add (.slice false true (.var 1) (.con .non) (.var 4)) (.tup (.cons (.bin .add (.var 5) (.tup (.cons (.var 2) .nil))) .nil))) (.slice true false (.var 1) (.bin .add (.var 4) (.con (.int (1)))) (.con .non))) .nil))) .skip))
    (env := [some (dL B), some (enc H), some (enc h), some (.cell st.length), none, none]) (st := st ++ [.lst ([H ++ [[h]]].map enc)]) (st1 := st ++ [.lst ([H ++ [[h]]].map enc)]) (f := fun (p : List Nat × Nat) => .tup [.int p.2, enc p.1]) (xs := H.zipIdx)
    (fun dn env s => (∃ y4 y5, env = [some (dL B), some (enc H), some (enc h), some (.cell st.length), y4, y5]) ∧ s = st ++ [.lst ((wAcc b H h dn).map enc)])
    (it_enum (vr rfl)) ⟨⟨none, none, rfl⟩, rfl⟩ fun x dn env s hx hp ⟨⟨y4, y5, e1⟩, e2⟩ => by
      subst e1
      have lw : Low s := by rw [e2]; exact low_snoc hs (pl_map _)
      have hlen : dn.length ≤ 7 := by
        have := hp.length_le
        rw [List.length_append, List.length_singleton, List.length_zipIdx] at this
        omega
      have hx' := List.mem_zipIdx' hx
      have hi := hx'.1
      have hm : x.1 ∈ H := by rw [hx'.2]; exact List.getElem_mem _
      have hsm := f2 _ hm
      have hacc := wAcc_len (b := b) (H := H) (h := h) (dn := dn)
      refine ⟨_, [some (dL B), some (enc H), some (enc h), some (.cell st.length), some (.int x.2), some (enc x.1)], st ++ [.lst ((wAcc b H h (dn ++ [x])).map enc)], rfl, iff_ (k := frB b x.1) (tb (nt (tb (cl (al (ix (vr rfl) (vr rfl) (ixL hb)) (al (vr rfl) al0)) (k1 _ _ (by omega) lw b x.1))))) ?_, rfl, ⟨_, _, rfl⟩, rfl⟩
      rw [wAcc_add]
      cases q : frB b x.1 with
      | false =>
        rw [if_neg (by simp), if_neg (by simp), ← e2]
        exact sk (C := Mp.run T (m + 1))
      | true =>
        rw [if_pos rfl, if_pos rfl]
        refine drp (d := .non) (mth (vr rfl) (by rw [e2]; exact lstC_own) (al (bn (bn (slc (vr rfl) cn (vr rfl) (st3 := s) (r := .ok (enc (H.take x.2)) s) ?_) (tp1 (v := x.1 ++ [h]) (bn (vr rfl) (tp1 (vr rfl)) (addT ?_))) (addT ?_)) (slc (vr rfl) (bn (vr rfl) cn rfl) cn (st3 := s) (r := .ok (enc (H.drop (x.2 + 1))) s) ?_) (addT ?_)) al0) ?_)
        · show Mp.ret (D.tup (cut (H.map enc) none (some (x.2 : Int)))) s = _
          rw [cut_take, ← List.map_take]
          rfl
        · rw [List.length_append, List.length_singleton]
          show _ ≤ 16777216
          omega
        · simp only [List.length_append, List.length_take, List.length_singleton]
          show _ ≤ 16777216
          omega
        · show Mp.ret (D.tup (cut (H.map enc) (some ((x.2 : Int) + 1)) none)) s = _
          rw [show ((x.2 : Int) + 1) = ((x.2 + 1 : Nat) : Int) by omega, cut_drop, ← List.map_drop]
          rfl
        · simp only [List.length_append, List.length_take, List.length_singleton, List.length_drop]
          show _ ≤ 16777216
          omega
        · rw [e2, List.map_append (l₁ := wAcc b H h dn)]
          refine app_own ?_
          rw [List.length_map]
          show _ < 16777216
          omega
  refine run_ret hT rfl (sq (asg (nw (al (bn (vr rfl) (tp1 (v := [h]) (tp1 (vr rfl))) (addT one)) al0) (by show 1 ≤ line; decide)) rfl) (sq h1 (rt (vr rfl)))) (leave_cell hs (pl_map _))
/-- which heaps a house may join -/
def frT (N : Nat) (ps : Prs) (h : Nat) : List Nat → Bool := frB (nbs N ps h)
def SpPart (T : List FD) (i : Nat) : Prop := ∀ (n : Nat) (st : St), 3 ≤ n → Low st → ∀ (N : Nat) (ps : Prs) (l : List Nat), (∀ x ∈ l, x < N) → l.length ≤ 7 → run T n i [dL (beside N ps), enc l] st = .ok (dL (parts (frT N ps) l [[]])) st
theorem part_ok {i c : Nat} (hT : T[i]? = some (F_ways_to_part c)) (k1 : SpWith T c) : SpPart T i := fun n st hn hs N ps l hx hl => by
  obtain ⟨m, rfl⟩ := Nat.exists_eq_add_of_le' hn
  obtain ⟨env2, st2, h1, ⟨y3, rfl⟩, rfl⟩ := for1 (C := run T (m + 2)) (p := .one 3) (e := .itr .seq (.cons (.var 1) .nil)) (s := (.asg (.one 2) (.comp2 (.one 4) (.itr .seq (.cons (.var 2) .nil)) (.con (.bl true)) (.one 5) (.itr .seq (.cons (.call c (.cons (.var 0) (.cons (.var 4) (.cons (.var 3) .nil)))) .nil)) (.con (.bl true)) (.var 5))))
    (env := [some (dL (beside N ps)), some (enc l), some (dL (parts (frT N ps) [] [[]])), none, none, none]) (st := st) (st1 := st) (f := enc (α := Nat)) (xs := l)
    (fun dn env s => (∃ y3, env = [some (dL (beside N ps)), some (enc l), some (dL (parts (frT N ps) dn [[]])), y3, none, none]) ∧ s = st)
    (it_tup (vr rfl)) ⟨⟨none, rfl⟩, rfl⟩ fun x dn env s hxl hp ⟨⟨y3, e1⟩, e2⟩ => by
      subst e1 e2
      have hlen : dn.length + 1 ≤ 7 := by
        have := hp.length_le
        rw [List.length_append, List.length_singleton] at this
        omega
      obtain ⟨f1, f2⟩ := parts_fit (fr := frT N ps) dn
      obtain ⟨_, f3⟩ := parts_fit (fr := frT N ps) (dn ++ [x])
      rw [List.length_append, List.length_singleton, parts_snoc] at f3
      have f4 := Nat.le_trans f3 (fac_le hlen)
      have f5 := Nat.le_trans f2 (fac_le (Nat.le_of_succ_le hlen))
      refine ⟨_, [some (dL (beside N ps)), some (enc l), some (dL (parts (frT N ps) (dn ++ [x]) [[]])), some (enc x), none, none], s, rfl, asg (d := dL (parts (frT N ps) (dn ++ [x]) [[]])) (st1 := s) ?_ rfl, rfl, ⟨_, rfl⟩, rfl⟩
      rw [parts_snoc]
      have e : ((parts (frT N ps) dn [[]]).flatMap fun P => wW (frT N ps x) P x).map enc = (parts (frT N ps) dn [[]]).flatMap fun P => (wW (frT N ps x) P x).map enc := by rw [List.map_flatMap]
      show ev _ _ _ s = .ok (.lst (((parts (frT N ps) dn [[]]).flatMap fun P => wW (frT N ps x) P x).map enc)) s
      rw [e]
      refine cmp20 (β := Heaps) (f := enc (α := Heaps)) (xs := parts (frT N ps) dn [[]]) (fun P => (wW (frT N ps x) P x).map enc) (it_lst (vr rfl)) rfl (fun P hP => ⟨_, rfl, wW (frT N ps x) P x, none, enc, (fun _ => true), enc, it_lst (cl (al (vr rfl) (al (vr rfl) (al (vr rfl) al0))) (k1 _ _ (by omega) hs _ P x dn.length _ (beside_at (hx x hxl)) (f1 P hP) (by omega))), rfl, fun y hy => ⟨_, rfl, rfl, fun _ => vr rfl⟩, by rw [List.filter_eq_self.mpr fun _ _ => rfl]⟩) ?_
      rw [← e, List.length_map]
      exact Nat.le_trans f4 (by decide)
  refine run_pl hs hT rfl pl_L (sq (asg (ls1 (v := ([] : Heaps)) (tp al0 (Nat.zero_le _))) rfl) (sq h1 (rt (vr rfl))))
end
end Mk
end
section
set_option Elab.async false
set_option linter.all false
set_option maxRecDepth 100000
set_option maxHeartbeats 400000
/-! Needs, neighbors, rows, lots left out. -/
namespace Mk
open PySem Mp GM
open Dat (enc)
def minOf : List Nat → Nat
  | [] => 0
  | x :: l => l.foldl min x
def maxOf : List Nat → Nat
  | [] => 0
  | x :: l => l.foldl max x
theorem minOf_is {l : List Nat} (h : l ≠ []) : minOf l ∈ l ∧ ∀ y ∈ l, minOf l ≤ y := by
  cases l with
  | nil => exact absurd rfl h
  | cons x l => exact fold_min_is l x
theorem maxOf_is {l : List Nat} (h : l ≠ []) : maxOf l ∈ l ∧ ∀ y ∈ l, y ≤ maxOf l := by
  cases l with
  | nil => exact absurd rfl h
  | cons x l => exact fold_max_is l x
theorem minOf_eq {l : List Nat} {m : Nat} (hm : m ∈ l) (h : ∀ y ∈ l, m ≤ y) : minOf l = m := by
  have := minOf_is (l := l) (fun z => by subst z; cases hm)
  exact Nat.le_antisymm (this.2 m hm) (h _ this.1)
theorem maxOf_eq {l : List Nat} {m : Nat} (hm : m ∈ l) (h : ∀ y ∈ l, y ≤ m) : maxOf l = m := by
  have := maxOf_is (l := l) (fun z => by subst z; cases hm)
  exact Nat.le_antisymm (h _ this.1) (this.2 m hm)
section
variable {st : St} {α : Type} [DecidableEq α] [Dat α]
theorem prim_len {l : List α} : primD .len [enc l] st = .ok (enc l.length) st := by
  refine (pD (fun _ z => by cases z) (e := enc l) rfl).trans ?_
  show Mp.ret (D.int ((l.map enc).length : Int)) st = _
  rw [List.length_map]
  rfl
theorem prim_lenL {l : List α} : primD .len [dL l] st = .ok (enc l.length) st := by
  refine (pD (fun _ z => by cases z) (e := dL l) rfl).trans ?_
  show Mp.ret (D.int ((l.map enc).length : Int)) st = _
  rw [List.length_map]
  rfl
variable {C : CallF} {env : Mp.Env} {x e c : E} {st1 : St}
/-- a comprehension of data, with a test -/
theorem cmpE {β γ : Type} [DecidableEq β] [Dat β] {p : Pat} {f : γ → D} (t : γ → Bool) (r : γ → β) {xs : List γ} {g : Option (Nat × List D)} (h : bnd (ev C x env) srcOf st = .ok (xs.map f, g) st) (hg : chk g st = .ok () st) (hx : ∀ x ∈ xs, ∃ env', p.bind (f x) (wipeE env p.slots) = some env' ∧ bnd (ev C c env') truth st = .ok (t x) st ∧ (t x = true → ev C e env' st = .ok (enc (r x)) st))
    (hl : xs.length ≤ line) : ev C (.comp p x c e) env st = .ok (dL ((xs.filter t).map r)) st := by
  rw [show dL ((xs.filter t).map r) = .lst ((xs.filter t).map fun y => enc (r y)) by rw [dL, List.map_map]; rfl]
  refine cmp_ t (fun y => enc (r y)) h hg hx ?_
  rw [List.length_map]
  exact Nat.le_trans (List.length_filter_le _ _) hl
/-- .. without one -/
theorem cmpA {β γ : Type} [DecidableEq β] [Dat β] {p : Pat} {f : γ → D} (r : γ → β) {xs : List γ} {g : Option (Nat × List D)} (h : bnd (ev C x env) srcOf st = .ok (xs.map f, g) st) (hg : chk g st = .ok () st) (hx : ∀ x ∈ xs, ∃ env', p.bind (f x) (wipeE env p.slots) = some env' ∧ ev C e env' st = .ok (enc (r x)) st)
    (hl : xs.length ≤ line) : ev C (.comp p x (.con (.bl true)) e) env st = .ok (dL (xs.map r)) st := by
  rw [show dL (xs.map r) = .lst (xs.map fun y => enc (r y)) by rw [dL, List.map_map]; rfl]
  exact cmp0 (fun y => enc (r y)) h hg hx hl
end
theorem parts_ne {fr : Nat → List Nat → Bool} (l : List Nat) : parts fr l [[]] ≠ [] := by
  have key : ∀ l : List Nat, parts fr l.reverse [[]] ≠ [] := fun l => by
    induction l with
    | nil => exact fun z => by cases z
    | cons x l ih =>
      rw [List.reverse_cons, parts_snoc]
      intro z
      rw [List.flatMap_eq_nil_iff] at z
      cases e : parts fr l.reverse [[]] with
      | nil => exact ih e
      | cons P r =>
        have := z P (by rw [e]; exact List.mem_cons_self)
        cases this
  have := key l.reverse
  rwa [List.reverse_reverse] at this
def few (N : Nat) (ps : Prs) (l : List Nat) : Nat := minOf ((parts (frT N ps) l [[]]).map List.length)
def mutualB (N : Nat) (ps : Prs) (lot : List Nat) : Bool := lot.all fun h => (lot.filter fun o => !decide (o = h)).all fun o => decide (o ∈ nbs N ps h)
def ofSize (L : List (List Nat)) (m : Nat) : List (List Nat) := isort leb (L.filter fun x => decide (x.length = m))
def mutLots (N : Nat) (ps : Prs) : List (List Nat) := (lots N).filter (mutualB N ps)
def extK (N : Nat) (ps : Prs) : Nat → List (List Nat)
  | 0 => rows1 N
  | k + 1 => ext N (adj ps) (extK N ps k)
theorem extK_is {N : Nat} {ps : Prs} : ∀ {k : Nat} {r : List Nat}, r ∈ extK N ps k → r.length = k + 1 ∧ ∀ x ∈ r, x < N
  | 0, r, h => by
    obtain ⟨a, ha, rfl⟩ := List.mem_map.mp h
    have := List.mem_range.mp ha
    exact ⟨rfl, fun x hx => by rw [List.mem_singleton.mp hx]; exact this⟩
  | k + 1, r, h => by
    obtain ⟨row, hr, x, ⟨hx, _⟩, rfl⟩ := mem_ext.mp h
    obtain ⟨h1, h2⟩ := extK_is hr
    refine ⟨by rw [List.length_append, h1]; rfl, fun y hy => ?_⟩
    rcases List.mem_append.mp hy with hy | hy
    · exact h2 y hy
    · rw [List.mem_singleton.mp hy]
      exact hx
theorem extK_most {N : Nat} {ps : Prs} (hN : N ≤ 7) : ∀ k, (extK N ps k).length ≤ 7 ^ (k + 1)
  | 0 => by
    show ((List.range N).map _).length ≤ 7
    rw [List.length_map, List.length_range]
    exact hN
  | k + 1 => by
    refine Nat.le_trans (flat_most (k := 7) fun r _ => ?_) (Nat.mul_le_mul_right _ (extK_most hN k))
    rw [List.length_map]
    refine Nat.le_trans (List.length_filter_le _ _) ?_
    rw [List.length_range]
    exact hN
def bareL (N : Nat) (ps : Prs) : List (List Nat) := isort leb (progRows N (adj ps))
def outLots (N : Nat) (ps : Prs) : List (List Nat) := (lots N).filter fun lot => (bareL N ps).all fun row => row.any fun h => decide (h ∈ lot)
theorem range_in_lots (N : Nat) : List.range N ∈ lots N := lots_of List.pairwise_lt_range fun x hx => List.mem_range.mp hx
theorem bareL_is {N : Nat} {ps : Prs} {r : List Nat} (h : r ∈ bareL N ps) : r ≠ [] ∧ ∀ x ∈ r, x < N := by
  have h := isort_perm.mem_iff.mp h
  have := extK_is (k := 3) (List.mem_filter.mp h).1
  exact ⟨(fun z => by rw [z] at this; cases this.1), this.2⟩
theorem outLots_ne {N : Nat} {ps : Prs} : outLots N ps ≠ [] := fun z => by
  have : List.range N ∈ outLots N ps := List.mem_filter.mpr ⟨range_in_lots N, List.all_eq_true.mpr fun r hr => by
    obtain ⟨h1, h2⟩ := bareL_is hr
    cases r with
    | nil => exact absurd rfl h1
    | cons a r => exact List.any_eq_true.mpr ⟨a, List.mem_cons_self, decide_eq_true (List.mem_range.mpr (h2 a List.mem_cons_self))⟩⟩
  rw [z] at this
  cases this
theorem mutLots_ne {N : Nat} {ps : Prs} : mutLots N ps ≠ [] := fun z => by
  have : [] ∈ mutLots N ps := List.mem_filter.mpr ⟨lots_nil N, rfl⟩
  rw [z] at this
  cases this
theorem map_ne {α β : Type} {f : α → β} {l : List α} (h : l ≠ []) : l.map f ≠ [] := fun z => h (List.map_eq_nil_iff.mp z)
section
variable {T : List FD}
def SpFew (T : List FD) (i : Nat) : Prop := ∀ (n : Nat) (st : St), 4 ≤ n → Low st → ∀ (N : Nat) (ps : Prs) (l : List Nat), (∀ x ∈ l, x < N) → l.length ≤ 7 → run T n i [dL (beside N ps), enc l] st = .ok (enc (few N ps l)) st
theorem few_ok {i c : Nat} (hT : T[i]? = some (F_fewest_paints c)) (k1 : SpPart T c) : SpFew T i := fun n st hn hs N ps l hx hl => by
  obtain ⟨m, rfl⟩ := Nat.exists_eq_add_of_le' hn
  obtain ⟨_, f2⟩ := parts_fit (fr := frT N ps) l
  have f3 := Nat.le_trans f2 (fac_le hl)
  refine run_pl hs hT rfl (Dat.pl _) (rt (pr (al (cmpA (xs := parts (frT N ps) l [[]]) (f := enc (α := Heaps)) List.length (it_lst (cl (al (vr rfl) (al (vr rfl) al0)) (k1 _ _ (by omega) hs N ps l hx hl))) rfl (fun P hP => ⟨_, rfl, pr (al (vr rfl) al0) prim_len⟩) (Nat.le_trans f3 (by decide))) al0) ?_))
  have := minOf_is (map_ne (f := List.length) (parts_ne (fr := frT N ps) l))
  exact prim_min this.1 this.2
def SpNeed (T : List FD) (i : Nat) : Prop := ∀ (n : Nat) (st : St), 6 ≤ n → Low st → ∀ (N : Nat) (ps : Prs) (l : List Nat), Town N ps → l ∈ lots N → run T n i [dTown N ps, enc l] st = .ok (enc (few N ps l)) st
theorem need_ok {i c d e f : Nat} (hT : T[i]? = some (F_need c d e f)) (k1 : SpMap T c) (k2 : SpCLot T d) (k3 : SpFew T e) (k4 : SpNbs T f) : SpNeed T i := fun n st hn hs N ps l ht hl => by
  obtain ⟨m, rfl⟩ := Nat.exists_eq_add_of_le' hn
  have hm := ht.most
  obtain ⟨l1, l2, l3⟩ := lots_is hl
  exact run_pl hs hT rfl (Dat.pl _) (sq (drp (cl (al (vr rfl) al0) (k1 _ _ (by omega) hs N ps ht))) (sq (drp (cl (al (vr rfl) (al (vr rfl) al0)) (k2 _ _ (by omega) hs N ps l l2 (by omega) l1))) (rt (cl (al (cl (al (vr rfl) al0) (k4 _ _ (by omega) hs N ps hm)) (al (vr rfl) al0)) (k3 _ _ (by omega) hs N ps l l2 (by omega))))))
def SpNear (T : List FD) (i : Nat) : Prop := ∀ (n : Nat) (st : St), 6 ≤ n → Low st → ∀ (N : Nat) (ps : Prs) (h : Nat), Town N ps → h < N → run T n i [dTown N ps, enc h] st = .ok (enc (nbs N ps h)) st
theorem near_ok {i c d f : Nat} (hT : T[i]? = some (F_near c d f)) (k1 : SpMap T c) (k2 : SpCHouse T d) (k4 : SpNbs T f) : SpNear T i := fun n st hn hs N ps h ht hh => by
  obtain ⟨m, rfl⟩ := Nat.exists_eq_add_of_le' hn
  have hm := ht.most
  exact run_pl hs hT rfl (Dat.pl _) (sq (drp (cl (al (vr rfl) al0) (k1 _ _ (by omega) hs N ps ht))) (sq (drp (cl (al (vr rfl) (al (vr rfl) al0)) (k2 _ _ (by omega) hs N ps h hh))) (rt (ix (cl (al (vr rfl) al0) (k4 _ _ (by omega) hs N ps hm)) (vr rfl) (ixL (beside_at hh))))))
def SpCount (T : List FD) (i : Nat) : Prop := ∀ (n : Nat) (st : St), 6 ≤ n → Low st → ∀ (N : Nat) (ps : Prs) (p : Nat), Town N ps → p ≤ 9 → run T n i [dTown N ps, enc p] st = .ok (enc (sm (fun P => prm p P.length) (parts (frT N ps) (List.range N) [[]]))) st
theorem count_ok {i c d e f g : Nat} (hT : T[i]? = some (F_count_paintings c d e f g)) (k1 : SpMap T c) (k2 : SpCNum T d) (k3 : SpPart T e) (k4 : SpNbs T f) (k5 : SpEvery T g) : SpCount T i := fun n st hn hs N ps p ht hp => by
  obtain ⟨m, rfl⟩ := Nat.exists_eq_add_of_le' hn
  have hm := ht.most
  obtain ⟨f1, f2⟩ := parts_fit (fr := frT N ps) (List.range N)
  rw [List.length_range] at f1 f2
  have f3 := Nat.le_trans f2 (fac_le hm)
  have es : ∀ l : List Heaps, ((l.map fun P => ((prm p P.length : Nat) : Int)).sum) = ((sm (fun P => prm p P.length) l : Nat) : Int) := fun l => by
    induction l with
    | nil => rfl
    | cons a l ih =>
      rw [List.map_cons, List.sum_cons, ih, sm_cons]
      omega
  refine run_pl hs hT rfl (Dat.pl _) (sq (drp (cl (al (vr rfl) al0) (k1 _ _ (by omega) hs N ps ht))) (sq (drp (cl (al (vr rfl) (al cn (al cn al0))) (k2 _ _ (by omega) hs p 0 9 (by omega) (by omega)))) (sq (asg (cl (al (cl (al (vr rfl) al0) (k4 _ _ (by omega) hs N ps hm)) (al (cl (al (vr rfl) al0) (k5 _ _ (by omega) hs N ps hm)) al0)) (k3 _ _ (by omega) hs N ps (List.range N) (fun x hx => List.mem_range.mp hx) (by rw [List.length_range]; exact hm))) rfl) (rt (pr (al (cmpA (xs := parts (frT N ps) (List.range N) [[]]) (f := enc (α := Heaps)) (β := Int) (fun P => (prm p P.length : Nat)) (it_lst (vr rfl)) rfl (fun P hP => ⟨_, rfl, pr (al (vr rfl) (al (pr (al (vr rfl) al0) prim_len) al0)) ?_⟩) (Nat.le_trans f3 (by decide))) al0) ?_)))))
  · have := (f1 P hP).1
    refine (pD (fun _ z => by cases z) (e := enc p) rfl).trans ?_
    show (if decide (0 ≤ (p : Int)) && decide ((p : Int) < 64) && decide (0 ≤ (P.length : Int)) && decide ((P.length : Int) < 64) then Mp.ret (D.int (PySem.W.mcPerm (p : Int) (P.length : Int))) else bad) st = _
    rw [decide_eq_true (by omega), decide_eq_true (by omega), decide_eq_true (by omega), decide_eq_true (by omega), perm_prm]
    rfl
  · rw [prim_sum, es]
    rfl
def SpMutual (T : List FD) (i : Nat) : Prop := ∀ (n : Nat) (st : St), 1 ≤ n → Low st → ∀ (N : Nat) (ps : Prs) (l : List Nat), (∀ x ∈ l, x < N) → run T n i [dL (beside N ps), enc l] st = .ok (.bl (mutualB N ps l)) st
theorem mutual_ok {i : Nat} (hT : T[i]? = some F_is_mutual) : SpMutual T i := fun n st hn hs N ps l hl => by
  obtain ⟨m, rfl⟩ := Nat.exists_eq_add_of_le' hn
  refine run_pl hs hT rfl rfl (rt (gen2A (β := Nat) (f := enc (α := Nat)) (fun h => (l.filter fun o => !decide (o = h)).all fun o => decide (o ∈ nbs N ps h)) (it_tup (vr rfl)) rfl fun h hh => ⟨_, rfl, l, none, enc, (fun o => !decide (o = h)), (fun o => decide (o ∈ nbs N ps h)), it_tup (vr rfl), rfl, fun o ho => ⟨_, rfl, tb (cm (vr rfl) (vr rfl) (ne_ (α := Nat) (x := o) (y := h))), fun _ => cm (vr rfl) (ix (vr rfl) (vr rfl) (ixL (beside_at (hl h hh)))) mem_⟩, rfl⟩))
def SpSize (T : List FD) (i : Nat) : Prop := ∀ (n : Nat) (st : St), 1 ≤ n → Low st → ∀ (L : List (List Nat)) (m : Nat), L.Nodup → L.length ≤ 1000 → run T n i [dL L, enc m] st = .ok (enc (ofSize L m)) st
theorem size_ok {i : Nat} (hT : T[i]? = some F_lots_of_size) : SpSize T i := fun n st hn hs L m nd hL => by
  obtain ⟨k, rfl⟩ := Nat.exists_eq_add_of_le' hn
  refine run_pl hs hT rfl (Dat.pl _) (rt (pr (al (pr (al (cmp_ (xs := L) (f := enc (α := List Nat)) (fun x => decide (x.length = m)) enc (it_lst (vr rfl)) rfl (fun x hx => ⟨_, rfl, tb (cm (pr (al (vr rfl) al0) prim_len) (vr rfl) (eq_ (x := x.length))), fun _ => vr rfl⟩) ?_) al0) (sorted_T (l := L.filter fun x => decide (x.length = m)) (h2 := ?_))) al0) rfl))
  · rw [List.length_map]
    exact Nat.le_trans (List.length_filter_le _ _) (Nat.le_trans hL (by decide))
  · cases m with
    | succ m =>
      refine .inl fun x hx z => ?_
      have := of_decide_eq_true (List.mem_filter.mp hx).2
      rw [z] at this
      cases this
    | zero =>
      have h1 : ∀ x ∈ L.filter fun x => decide (x.length = 0), x = [] := fun x hx => List.length_eq_zero_iff.mp (of_decide_eq_true (List.mem_filter.mp hx).2)
      have h2 : (L.filter fun x => decide (x.length = 0)).Nodup := List.Pairwise.filter _ nd
      cases e : L.filter fun x => decide (x.length = 0) with
      | nil => exact .inl fun _ z => by cases z
      | cons a r =>
        rw [e] at h1 h2
        have ha := h1 a List.mem_cons_self
        subst ha
        cases r with
        | nil => exact .inr rfl
        | cons b r =>
          have hb := h1 b (List.mem_cons_of_mem _ List.mem_cons_self)
          subst hb
          exact absurd rfl ((List.nodup_cons.mp h2).1 |> fun z => fun _ => z List.mem_cons_self)
def SpMost (T : List FD) (i : Nat) : Prop := ∀ (n : Nat) (st : St), 6 ≤ n → Low st → ∀ (N : Nat) (ps : Prs), Town N ps → run T n i [dTown N ps] st = .ok (enc (ofSize (mutLots N ps) (maxOf ((mutLots N ps).map List.length)))) st
theorem most_ok {i c d e f g : Nat} (hT : T[i]? = some (F_most_mutual c d e f g)) (k1 : SpMap T c) (k2 : SpNbs T d) (k3 : SpLots T e) (k4 : SpMutual T f) (k5 : SpSize T g) : SpMost T i := fun n st hn hs N ps ht => by
  obtain ⟨m, rfl⟩ := Nat.exists_eq_add_of_le' hn
  have hm := ht.most
  have hl := lots_most hm
  have hl2 : (mutLots N ps).length ≤ 128 := Nat.le_trans (List.length_filter_le _ _) hl
  have mx := maxOf_is (map_ne (f := List.length) (mutLots_ne (N := N) (ps := ps)))
  exact run_pl hs hT rfl (Dat.pl _) (sq (drp (cl (al (vr rfl) al0) (k1 _ _ (by omega) hs N ps ht))) (sq (asg (cl (al (vr rfl) al0) (k2 _ _ (by omega) hs N ps hm)) rfl) (sq (asg (d := dL (mutLots N ps)) (cmp_ (xs := lots N) (f := enc (α := List Nat)) (mutualB N ps) enc (it_lst (cl (al (vr rfl) al0) (k3 _ _ (by omega) hs N ps hm))) rfl (fun x hx => ⟨_, rfl, tb (cl (al (vr rfl) (al (vr rfl) al0)) (k4 _ _ (by omega) hs N ps x (lots_is hx).2.1)), fun _ => vr rfl⟩) (by rw [List.length_map]; exact Nat.le_trans hl2 (by decide))) rfl) (rt (cl (al (vr rfl) (al (pr (al (cmpA (xs := mutLots N ps) (f := enc (α := List Nat)) List.length (it_lst (vr rfl)) rfl (fun P hP => ⟨_, rfl, pr (al (vr rfl) al0) prim_len⟩) (Nat.le_trans hl2 (by decide))) al0) (prim_max mx.1 mx.2)) al0)) (k5 _ _ (by omega) hs _ _ (List.Pairwise.filter _ (lots_nodup N)) (by omega)))))))
def SpGoes (T : List FD) (i : Nat) : Prop := ∀ (n : Nat) (st : St), 2 ≤ n → Low st → ∀ (N : Nat) (ps : Prs) (row : List Nat) (h : Nat), row ≠ [] → (∀ x ∈ row, x < N) → h < N → run T n i [dL (beside N ps), enc row, enc h] st = .ok (.bl (goesOn N (adj ps) row h)) st
theorem goes_ok {i c : Nat} (hT : T[i]? = some (F_goes_on c)) (k1 : SpShare T c) : SpGoes T i := fun n st hn hs N ps row h hr hx hh => by
  obtain ⟨m, rfl⟩ := Nat.exists_eq_add_of_le' hn
  obtain ⟨r, x, e⟩ : ∃ r x, row = r ++ [x] := by
    rcases List.eq_nil_or_concat row with e | ⟨r, x, e⟩
    · exact absurd e hr
    · exact ⟨r, x, by rw [e, List.concat_eq_append]⟩
  have hl : row.getLast? = some x := by rw [e, List.getLast?_concat]
  have hd : row.getLastD 0 = x := by rw [e, List.getLastD_concat]
  have hxN : x < N := hx x (by rw [e]; exact List.mem_append_right _ List.mem_cons_self)
  unfold goesOn
  rw [hd]
  refine run_pl hs hT rfl rfl (rt (an (cm (vr rfl) (ix (vr rfl) (ix (vr rfl) (ng cn) (ixT_end hl)) (ixL (beside_at hxN))) (mem_ (x := h))) fun _ => an (cm (vr rfl) (vr rfl) (nmem_ (x := h))) fun _ => nt (tb (cl (al (ix (vr rfl) (vr rfl) (ixL (beside_at hh))) (al (slc (vr rfl) cn (ng cn) (r := .ok (enc row.dropLast) st) ?_) al0)) (k1 _ _ (by omega) hs _ _)))))
  show Mp.ret (D.tup (cut (row.map enc) none (some (-1 : Int)))) st = _
  rw [cut_init, ← List.map_dropLast]
  rfl
def SpRows (T : List FD) (i : Nat) : Prop := ∀ (n : Nat) (st : St), 6 ≤ n → Low st → ∀ (N : Nat) (ps : Prs), Town N ps → run T n i [dTown N ps] st = .ok (enc (bareL N ps)) st
theorem rows_ok {i c d e : Nat} (hT : T[i]? = some (F_bare_rows c d e)) (k1 : SpMap T c) (k2 : SpNbs T d) (k3 : SpGoes T e) : SpRows T i := fun n st hn hs N ps ht => by
  obtain ⟨m, rfl⟩ := Nat.exists_eq_add_of_le' hn
  have hm := ht.most
  obtain ⟨env2, st2, h1, ⟨y4, rfl⟩, rfl⟩ := for1 (C := run T (m + 5)) (p := .one 4) (e := .itr .range1 (.cons (.bin .sub (.con (.int (4))) (.con (.int (1)))) .nil)) (s := (.asg (.one 2) (.comp2 (.one 5) (.itr .seq (.cons (.var 2) .nil)) (.con (.bl true)) (.one 3) (.itr .range1 (.cons (.idx (.var 0) (.con (.int (0)))) .nil)) (.call e (.cons (.var 1) (.cons (.var 5) (.cons (.var 3) .nil)))) (.bin .add (.var 5) (.tup (.cons (.var 3) .nil))))))
    (env := [some (dTown N ps), some (dL (beside N ps)), some (dL (extK N ps 0)), none, none, none]) (st := st) (f := enc (α := Nat)) (xs := List.range 3)
    (fun dn env s => (∃ y4, env = [some (dTown N ps), some (dL (beside N ps)), some (dL (extK N ps dn.length)), none, y4, none]) ∧ s = st) (it_rng1 (n := 3) (bn cn cn rfl) (by decide) (by decide) (by decide)) ⟨⟨none, rfl⟩, rfl⟩ fun x dn env s hx hp ⟨⟨y4, e1⟩, e2⟩ => by
      subst e1 e2
      have hx' := range_pre hp
      have hd : dn.length ≤ 2 := by
        have := List.mem_range.mp (by assumption : x ∈ List.range 3)
        omega
      have hl := extK_most (N := N) (ps := ps) hm (dn.length + 1)
      have hl2 := Nat.le_trans hl (Nat.pow_le_pow_right (show 0 < 7 by decide) (show dn.length + 1 + 1 ≤ 4 by omega))
      refine ⟨_, [some (dTown N ps), some (dL (beside N ps)), some (dL (extK N ps (dn ++ [x]).length)), none, some (enc x), none], s, rfl, asg (d := dL (extK N ps (dn ++ [x]).length)) (st1 := s) ?_ rfl, rfl, ⟨_, rfl⟩, rfl⟩
      rw [List.length_append, List.length_singleton]
      have e3 : (extK N ps (dn.length + 1)).map enc = (extK N ps dn.length).flatMap fun row => (((List.range N).filter (goesOn N (adj ps) row)).map fun h => row ++ [h]).map enc := by
        show (ext N (adj ps) (extK N ps dn.length)).map enc = _
        unfold ext
        rw [List.map_flatMap]
      show ev _ _ _ s = .ok (.lst ((extK N ps (dn.length + 1)).map enc)) s
      rw [e3]
      refine cmp20 (β := Nat) (f := enc (α := List Nat)) (xs := extK N ps dn.length) (fun row => (((List.range N).filter (goesOn N (adj ps) row)).map fun h => row ++ [h]).map enc) (it_lst (vr rfl)) rfl (fun row hr => ⟨_, rfl, List.range N, none, enc, goesOn N (adj ps) row, (fun h => enc (row ++ [h])), it_rng1 (n := N) (ix (vr rfl) cn rfl) (by omega) (by omega) (by omega), rfl, fun h hh => ⟨_, rfl, tb (cl (al (vr rfl) (al (vr rfl) (al (vr rfl) al0))) (k3 _ _ (by omega) hs N ps row h ?_ (extK_is hr).2 (List.mem_range.mp hh))), fun _ => bn (vr rfl) (tp1 (vr rfl)) (addT ?_)⟩, by rw [List.map_map]; rfl⟩) ?_
      · intro z
        have := (extK_is hr).1
        rw [z] at this
        cases this
      · rw [List.length_append, (extK_is hr).1]
        show dn.length + 1 + 1 ≤ 16777216
        omega
      · rw [← e3, List.length_map]
        exact Nat.le_trans hl2 (by decide)
  rw [List.length_range] at h1
  have hl3 := extK_most (N := N) (ps := ps) hm 3
  refine run_pl hs hT rfl (Dat.pl _) (sq (drp (cl (al (vr rfl) al0) (k1 _ _ (by omega) hs N ps ht))) (sq (asg (cl (al (vr rfl) al0) (k2 _ _ (by omega) hs N ps hm)) rfl) (sq (asg (d := dL (extK N ps 0)) (cmpA (xs := List.range N) (f := enc (α := Nat)) (fun h => [h]) (it_rng1 (n := N) (ix (vr rfl) cn rfl) (by omega) (by omega) (by omega)) rfl (fun h hh => ⟨_, rfl, tp1 (vr rfl)⟩) (by rw [List.length_range]; exact Nat.le_trans hm (by decide))) rfl) (sq h1 (rt (pr (al (pr (al (cmp_ (xs := extK N ps 3) (f := enc (α := List Nat)) (fun r => decide (r.headD 0 < r.getLastD 0)) enc (it_lst (vr rfl)) rfl (fun r hr => ⟨_, rfl, tb ?_, fun _ => vr rfl⟩) ?_) al0) (sorted_T (l := progRows N (adj ps)) (h2 := .inl fun r hr z => ?_))) al0) rfl))))))
  · have h4 := (extK_is hr).1
    cases e5 : r with
    | nil =>
      rw [e5] at h4
      cases h4
    | cons a r' =>
      have h5 : (a :: r').getLast? = some ((a :: r').getLastD 0) := by
        rw [List.getLastD_eq_getLast?, List.getLast?_cons]
        rfl
      exact cm (ix (vr rfl) cn (ixT (i := 0) (v := a) rfl)) (ix (vr rfl) (ng cn) (ixT_end h5)) (by
        show Mp.ret (D.bl (decide ((a : Int) < (((a :: r').getLastD 0 : Nat) : Int)))) _ = .ok (.bl (decide (a < (a :: r').getLastD 0))) _
        rw [show decide ((a : Int) < (((a :: r').getLastD 0 : Nat) : Int)) = decide (a < (a :: r').getLastD 0) from decide_eq_decide.mpr (by omega)]
        rfl)
  · rw [List.length_map]
    exact Nat.le_trans (List.length_filter_le _ _) (Nat.le_trans hl3 (by decide))
  · have := (extK_is (k := 3) (List.mem_filter.mp hr).1).1
    rw [z] at this
    cases this
def SpOut (T : List FD) (i : Nat) : Prop := ∀ (n : Nat) (st : St), 7 ≤ n → Low st → ∀ (N : Nat) (ps : Prs), Town N ps → run T n i [dTown N ps] st = .ok (enc (ofSize (outLots N ps) (minOf ((outLots N ps).map List.length)))) st
theorem out_ok {i c d e f : Nat} (hT : T[i]? = some (F_left_out c d e f)) (k1 : SpRows T c) (k2 : SpLots T d) (k3 : SpShare T e) (k4 : SpSize T f) : SpOut T i := fun n st hn hs N ps ht => by
  obtain ⟨m, rfl⟩ := Nat.exists_eq_add_of_le' hn
  have hm := ht.most
  have hl := lots_most hm
  have hl2 : (outLots N ps).length ≤ 128 := Nat.le_trans (List.length_filter_le _ _) hl
  have mn := minOf_is (map_ne (f := List.length) (outLots_ne (N := N) (ps := ps)))
  exact run_pl hs hT rfl (Dat.pl _) (sq (asg (cl (al (vr rfl) al0) (k1 _ _ (by omega) hs N ps ht)) rfl) (sq (asg (d := dL (outLots N ps)) (cmp_ (xs := lots N) (f := enc (α := List Nat)) (fun lot => (bareL N ps).all fun row => row.any fun h => decide (h ∈ lot)) enc (it_lst (cl (al (vr rfl) al0) (k2 _ _ (by omega) hs N ps hm))) rfl (fun x hx => ⟨_, rfl, tb (genA (f := enc (α := List Nat)) (fun row => row.any fun h => decide (h ∈ x)) (it_tup (vr rfl)) rfl fun row hr => ⟨_, rfl, cl (al (vr rfl) (al (vr rfl) al0)) (k3 _ _ (by omega) hs _ _)⟩), fun _ => vr rfl⟩) (by rw [List.length_map]; exact Nat.le_trans hl2 (by decide))) rfl) (rt (cl (al (vr rfl) (al (pr (al (cmpA (xs := outLots N ps) (f := enc (α := List Nat)) List.length (it_lst (vr rfl)) rfl (fun P hP => ⟨_, rfl, pr (al (vr rfl) al0) prim_len⟩) (Nat.le_trans hl2 (by decide))) al0) (prim_min mn.1 mn.2)) al0)) (k4 _ _ (by omega) hs _ _ (List.Pairwise.filter _ (lots_nodup N)) (by omega))))))
end
end Mk
end
section
set_option Elab.async false
set_option linter.all false
set_option maxRecDepth 100000
set_option maxHeartbeats 400000
/-! The law's own defs: draws, maps drawn. -/
namespace Mk
open PySem Mp GM
open Dat (enc)
section
variable {C : CallF} {env : Mp.Env} {st st1 st2 st3 st4 : St} {o i e : E} {x y z : D}
theorem sti (h1 : ev C e env st = .ok x st1) (h2 : ev C o env st1 = .ok y st2) (h3 : ev C i env st2 = .ok z st3) (h4 : setAt y z x st3 = .ok () st4) : Mp.exec C (.setIdx o i e) env st = .next env st4 := by
  have h : bnd (ev C e env) (fun x => bnd (ev C o env) fun o => bnd (ev C i env) fun i => setAt o i x) st = .ok () st4 := bk2 h1 (bk2 h2 (bk2 h3 h4))
  simp only [Mp.exec, run', h]
end
/-- the row of a law's draws -/
def Row (ns : List Int) (c : Cell) : Prop := ∃ a x k : Int, 0 ≤ a ∧ 0 ≤ x ∧ x < 2147483647 ∧ c = .lst [.scr ns, .int a, .int x, .int k]
theorem Row.low {ns : List Int} {c : Cell} (h : Row ns c) (n : Nat) : Cell.low n c = true := by
  obtain ⟨a, x, k, _, _, _, rfl⟩ := h
  rfl
theorem Row.lows {ns : List Int} {c c' : Cell} (h : Row ns c') {rest : St} (hs : Low (c :: rest)) : Low (c' :: rest) := by
  unfold Low at hs ⊢
  rw [List.all_cons, Bool.and_eq_true] at hs ⊢
  exact ⟨h.low _, hs.2⟩
theorem gt_t {i j : Int} {st : St} (h : j < i) : cmpD .gt (.int i) (.int j) st = .ok (.bl true) st := by
  show Mp.ret (D.bl (decide (j < i))) _ = _
  rw [decide_eq_true h]
  rfl
theorem gt_f {i j : Int} {st : St} (h : ¬ j < i) : cmpD .gt (.int i) (.int j) st = .ok (.bl false) st := by
  show Mp.ret (D.bl (decide (j < i))) _ = _
  rw [decide_eq_false h]
  rfl
theorem ge_t {i j : Int} {st : St} (h : j ≤ i) : cmpD .ge (.int i) (.int j) st = .ok (.bl true) st := by
  show Mp.ret (D.bl (decide (j ≤ i))) _ = _
  rw [decide_eq_true h]
  rfl
theorem ge_f {i j : Int} {st : St} (h : ¬ j ≤ i) : cmpD .ge (.int i) (.int j) st = .ok (.bl false) st := by
  show Mp.ret (D.bl (decide (j ≤ i))) _ = _
  rw [decide_eq_false h]
  rfl
theorem mul_small {i j : Int} {st : St} (h1 : -(2 ^ 64) < j) (h2 : j < 2 ^ 64) : binD .mul (.int i) (.int j) st = .ok (.int (i * j)) st := by
  show (if mulOk i j then Mp.ret (D.int (i * j)) else bad) st = _
  have : mulOk i j = true := by
    unfold mulOk
    rw [decide_eq_true h1, decide_eq_true h2]
    simp
  rw [this]
  rfl
theorem mod_pos {i : Int} {m : Nat} {st : St} (h : 1 ≤ m) : binD .mod (.int i) (.int m) st = .ok (enc (i.fmod m).toNat) st ∧ (i.fmod m).toNat < m := by
  have h1 := Int.fmod_nonneg_of_pos i (show (0 : Int) < m by omega)
  have h2 := Int.fmod_lt_of_pos i (show (0 : Int) < m by omega)
  refine ⟨?_, by omega⟩
  show (if ((m : Int) != 0) then Mp.ret (D.int (i.fmod m)) else bad) st = _
  have : ((m : Int) != 0) = true := bne_iff_ne.mpr (by omega)
  rw [this]
  show Res.ok (D.int (i.fmod m)) st = .ok (D.int ((i.fmod m).toNat : Int)) st
  rw [Int.toNat_of_nonneg h1]
theorem div_pos {i : Int} {m : Nat} {st : St} (h : 1 ≤ m) (h2 : m ≤ 1000000) : binD .fdiv (.int i) (.int m) st = .ok (.int (i.fdiv m)) st := by
  show (if ((m : Int) != 0) && decide ((m : Int).natAbs < 1073741824) then Mp.ret (D.int (i.fdiv m)) else bad) st = _
  have h3 : ((m : Int) != 0) = true := bne_iff_ne.mpr (by omega)
  rw [h3, decide_eq_true (by omega)]
  rfl
section
variable {T : List FD}
def SpTaken (T : List FD) (i : Nat) : Prop := ∀ (n : Nat), 1 ≤ n → ∀ (ns : List Int) (c : Cell) (rest : St) (m : Nat), Row ns c → Low (c :: rest) → 1 ≤ m → m ≤ 1000000 → ∃ (v : Nat) (c' : Cell), v < m ∧ Row ns c' ∧ run T n i [.cell 0, .int m] (c :: rest) = .ok (enc v) (c' :: rest)
theorem taken_ok {i : Nat} (hT : T[i]? = some F__law_taken) : SpTaken T i := fun n hn ns c rest m hc hs h1 h2 => by
  obtain ⟨k, rfl⟩ := Nat.exists_eq_add_of_le' hn
  obtain ⟨a, x, r, ha, hx1, hx2, rfl⟩ := hc
  by_cases hr : r > 0
  · obtain ⟨q1, q2⟩ := mod_pos (i := r) (st := .lst [.scr ns, .int a, .int x, .int r] :: rest) h1
    have row' : Row ns (.lst [.scr ns, .int a, .int x, .int (r.fdiv m)]) := ⟨a, x, _, ha, hx1, hx2, rfl⟩
    refine ⟨_, .lst [.scr ns, .int a, .int x, .int (r.fdiv m)], q2, row', ?_⟩
    refine run_ret hT rfl (sqr (ift (tb (k := true) (cm (ix (vr rfl) cn rfl) cn (gt_t hr))) (sq (asg (bn (pr (al (ix (vr rfl) cn rfl) al0) rfl) (vr rfl) q1) rfl) (sq (sti (bn (ix (vr rfl) cn rfl) (vr rfl) (div_pos h1 h2)) (vr rfl) cn rfl) (rt (vr rfl)))))) (leave_pl (st := .lst [.scr ns, .int a, .int x, .int (r.fdiv m)] :: rest) (row'.lows hs) (Dat.pl _))
  · have w1 : ∀ st : St, cmpD .gt (.int r) (.int 0) st = .ok (.bl false) st := fun st => by
      show Mp.ret (D.bl (decide (0 < r))) _ = _
      rw [decide_eq_false hr]
      rfl
    have p1 : Mp.exec (run T k) (.ite (.cmp .gt (.idx (.var 0) (.con (.int (3)))) (.con (.int (0)))) (.seq (.asg (.one 2) (.bin .mod (.prim .int (.cons (.idx (.var 0) (.con (.int (3)))) .nil)) (.var 1))) (.seq (.setIdx (.var 0) (.con (.int (3))) (.bin .fdiv (.idx (.var 0) (.con (.int (3)))) (.var 1))) (.ret (.var 2)))) .skip) [some (.cell 0), some (.int m), none, none] (.lst [.scr ns, .int a, .int x, .int r] :: rest) = .next [some (.cell 0), some (.int m), none, none] (.lst [.scr ns, .int a, .int x, .int r] :: rest) := ife (tb (cm (ix (vr rfl) cn rfl) cn (gt_f hr))) sk
    by_cases hl : a + 1 > (ns.length : Int)
    · have row2 : ∀ y : Nat, y < 2147483647 → Row ns (.lst [.scr ns, .int (a + 1), .int y, .int r]) := fun y hy => ⟨a + 1, y, r, by omega, by omega, by omega, rfl⟩
      obtain ⟨q1, q2⟩ := mod_pos (m := 2147483647) (i := x * 48271 + 11) (st := .lst [.scr ns, .int (a + 1), .int x, .int r] :: rest) (by decide)
      generalize ((x * 48271 + 11).fmod (2147483647 : Nat)).toNat = y at q1 q2
      obtain ⟨q3, q4⟩ := mod_pos (m := m) (i := (y : Int).fdiv (7 : Nat)) (st := .lst [.scr ns, .int (a + 1), .int y, .int r] :: rest) h1
      refine ⟨_, .lst [.scr ns, .int (a + 1), .int y, .int r], q4, row2 y q2, ?_⟩
      refine run_ret hT rfl (sq p1 (sq (sti (bn (ix (vr rfl) cn rfl) cn rfl) (vr rfl) cn rfl) (sqr (ift (tb (k := true) (cm (ix (vr rfl) cn rfl) (pr (al (ix (vr rfl) cn rfl) al0) rfl) (gt_t hl))) (sq (sti (bn (pr (al (bn (bn (ix (vr rfl) cn rfl) cn (mul_small (by decide) (by decide))) cn rfl) al0) rfl) cn q1) (vr rfl) cn rfl) (rt (bn (pr (al (bn (ix (vr rfl) cn rfl) cn (div_pos (m := 7) (by decide) (by decide))) al0) rfl) (vr rfl) q3))))))) (leave_pl (st := .lst [.scr ns, .int (a + 1), .int y, .int r] :: rest) ((row2 y q2).lows hs) (Dat.pl _))
    · obtain ⟨cell, hcell⟩ : ∃ cell, ns[a.toNat]? = some cell := ⟨ns[a.toNat], List.getElem?_eq_getElem (by omega)⟩
      have row2 : ∀ (y : Nat) (r' : Int), y < 2147483647 → Row ns (.lst [.scr ns, .int (a + 1), .int y, .int r']) := fun y r' hy => ⟨a + 1, y, r', by omega, by omega, by omega, rfl⟩
      obtain ⟨q1, q2⟩ := mod_pos (m := 2147483647) (i := x * 48271 + cell + 11) (st := .lst [.scr ns, .int (a + 1), .int x, .int r] :: rest) (by decide)
      generalize ((x * 48271 + cell + 11).fmod (2147483647 : Nat)).toNat = y at q1 q2
      have p2 : Mp.exec (run T k) (.ite (.cmp .gt (.idx (.var 0) (.con (.int (1)))) (.prim .len (.cons (.idx (.var 0) (.con (.int (0)))) .nil))) (.seq (.setIdx (.var 0) (.con (.int (2))) (.bin .mod (.prim .int (.cons (.bin .add (.bin .mul (.idx (.var 0) (.con (.int (2)))) (.con (.int (48271)))) (.con (.int (11)))) .nil)) (.con (.int (2147483647))))) (.ret (.bin .mod (.prim .int (.cons (.bin .fdiv (.idx (.var 0) (.con (.int (2)))) (.con (.int (7)))) .nil)) (.var 1)))) .skip) [some (.cell 0), some (.int m), none, none] (.lst [.scr ns, .int (a + 1), .int x, .int r] :: rest) = .next [some (.cell 0), some (.int m), none, none] (.lst [.scr ns, .int (a + 1), .int x, .int r] :: rest) := ife (tb (cm (ix (vr rfl) cn rfl) (pr (al (ix (vr rfl) cn rfl) al0) rfl) (gt_f hl))) sk
      have p3 : ∀ st : St, idxD (.scr ns) (.int (a + 1 - 1)) st = .ok (.int cell) st := fun st => by
        show opt ((L2.atI ns (a + 1 - 1)).map D.int) st = _
        have e : a + 1 - 1 = ((a.toNat : Nat) : Int) := by omega
        have := atI_map (f := id) hcell
        rw [List.map_id] at this
        rw [e, this]
        rfl
      obtain ⟨r', p4, q3, q4⟩ : ∃ r' : Int, (∀ env : Mp.Env, env = [some (.cell 0), some (.int m), none, some (.int cell)] → Mp.exec (run T k) (.ite (.cmp .ge (.var 3) (.bin .pow (.con (.int (10))) (.con (.int (18))))) (.setIdx (.var 0) (.con (.int (3))) (.bin .fdiv (.var 3) (.var 1))) .skip) env (.lst [.scr ns, .int (a + 1), .int y, .int r] :: rest) = .next env (.lst [.scr ns, .int (a + 1), .int y, .int r'] :: rest)) ∧ binD .mod (.int cell) (.int m) (.lst [.scr ns, .int (a + 1), .int y, .int r'] :: rest) = .ok (enc (cell.fmod m).toNat) (.lst [.scr ns, .int (a + 1), .int y, .int r'] :: rest) ∧ (cell.fmod m).toNat < m := by
        by_cases hb : (10 ^ 18 : Int) ≤ cell
        · refine ⟨cell.fdiv m, fun env e => ?_, (mod_pos h1).1, (mod_pos (st := []) h1).2⟩
          subst e
          exact ift (tb (k := true) (cm (vr rfl) (bn cn cn rfl) (ge_t hb))) (sti (bn (vr rfl) (vr rfl) (div_pos h1 h2)) (vr rfl) cn rfl)
        · refine ⟨r, fun env e => ?_, (mod_pos h1).1, (mod_pos (st := []) h1).2⟩
          subst e
          exact ife (tb (cm (vr rfl) (bn cn cn rfl) (ge_f hb))) sk
      refine ⟨_, .lst [.scr ns, .int (a + 1), .int y, .int r'], q4, row2 y r' q2, ?_⟩
      exact run_ret hT rfl (sq p1 (sq (sti (bn (ix (vr rfl) cn rfl) cn rfl) (vr rfl) cn rfl) (sq p2 (sq (asg (ix (ix (vr rfl) cn rfl) (bn (ix (vr rfl) cn rfl) cn rfl) (p3 _)) rfl) (sq (sti (bn (pr (al (bn (bn (bn (ix (vr rfl) cn rfl) cn (mul_small (by decide) (by decide))) (vr rfl) rfl) cn rfl) al0) rfl) cn q1) (vr rfl) cn rfl) (sq (p4 _ rfl) (rt (bn (pr (al (vr rfl) al0) rfl) (vr rfl) q3)))))))) (leave_pl (st := .lst [.scr ns, .int (a + 1), .int y, .int r'] :: rest) ((row2 y r' q2).lows hs) (Dat.pl _))
end
end Mk
end
section
set_option Elab.async false
set_option linter.all false
set_option maxRecDepth 100000
set_option maxHeartbeats 400000
/-! Maps drawn. -/
namespace Mk
open PySem Mp GM
open Dat (enc)
/-- pairs drawn so far -/
structure PsOk (N i j : Nat) (ps : Prs) : Prop where
  lt : ∀ p ∈ ps, p.1 < p.2 ∧ p.2 < N ∧ (p.1 < i ∨ p.1 = i ∧ p.2 < j)
  asc : ps.Pairwise fun p q => Dat.ltb p q = true
theorem ltb_iff {p q : Nat × Nat} : Dat.ltb p q = true ↔ p.1 < q.1 ∨ p.1 = q.1 ∧ p.2 < q.2 := by
  show (if p.1 = q.1 then (if p.2 = q.2 then false else decide (p.2 < q.2)) else decide (p.1 < q.1)) = true ↔ _
  split
  · split
    · constructor
      · exact fun z => by cases z
      · omega
    · rw [decide_eq_true_eq]
      omega
  · rw [decide_eq_true_eq]
    omega
theorem PsOk.add {N i j : Nat} {ps : Prs} (h : PsOk N i j ps) (h1 : i < j) (h2 : j < N) : PsOk N i (j + 1) (ps ++ [(i, j)]) := by
  refine ⟨fun p hp => ?_, List.pairwise_append.mpr ⟨h.asc, List.pairwise_singleton _ _, fun a ha b hb => ?_⟩⟩
  · rcases List.mem_append.mp hp with hp | hp
    · have := h.lt p hp
      omega
    · rw [List.mem_singleton.mp hp]
      exact ⟨h1, h2, .inr ⟨rfl, Nat.lt_succ_self _⟩⟩
  · rw [List.mem_singleton.mp hb, ltb_iff]
    have := h.lt a ha
    simp only
    omega
theorem PsOk.skip {N i j : Nat} {ps : Prs} (h : PsOk N i j ps) : PsOk N i (j + 1) ps := ⟨fun p hp => by
  have := h.lt p hp
  omega, h.asc⟩
theorem PsOk.next {N i j k : Nat} {ps : Prs} (h : PsOk N i j ps) : PsOk N (i + 1) k ps := ⟨fun p hp => by
  have := h.lt p hp
  omega, h.asc⟩
theorem PsOk.town {N i j : Nat} {ps : Prs} (h : PsOk N i j ps) (h1 : 1 ≤ N) (h2 : N ≤ 7) : Town N ps := ⟨h1, h2, fun p hp => ⟨(h.lt p hp).1, (h.lt p hp).2.1⟩, h.asc⟩
theorem PsOk.len {N i j : Nat} {ps : Prs} (h : PsOk N i j ps) (h2 : N ≤ 7) : ps.length ≤ 100 := by
  rcases Nat.eq_zero_or_pos N with z | z
  · subst z
    cases ps with
    | nil => exact Nat.zero_le _
    | cons p r => exact absurd (h.lt p List.mem_cons_self).2.1 (Nat.not_lt_zero _)
  · exact (h.town z h2).len
theorem range'_pre {dn : List Nat} {x a n : Nat} (h : dn ++ [x] <+: List.range' a n) : x = a + dn.length ∧ dn.length < n := by
  obtain ⟨t, e⟩ := h
  have h1 : (List.range' a n)[dn.length]? = some x := by
    rw [← e, List.append_assoc, List.getElem?_append_right (Nat.le_refl _), Nat.sub_self]
    rfl
  obtain ⟨h2, h3⟩ := List.getElem?_eq_some_iff.mp h1
  rw [List.getElem_range'] at h3
  rw [List.length_range'] at h2
  exact ⟨by omega, h2⟩
/-- a list of one's own, further back -/
theorem app_at {c : Cell} {rest : St} {l : List D} {d : D} (h : l.length < line) : methD .append (.cell (rest.length + 1)) [d] (c :: rest ++ [.lst l]) = .ok .non (c :: rest ++ [.lst (l ++ [d])]) := app_own (st := c :: rest) h
theorem deref_at {c : Cell} {rest : St} {l : List D} : deref (.cell (rest.length + 1)) (c :: rest ++ [.lst l]) = .ok (.lst l) (c :: rest ++ [.lst l]) := deref_own (st := c :: rest)
/-- the pairs that are none -/
def others (N : Nat) (ps : Prs) : Prs := (List.range N).flatMap fun i => ((List.range' (i + 1) (N - (i + 1))).filter fun j => !decide ((i, j) ∈ ps)).map fun j => (i, j)
theorem others_town {N : Nat} {ps : Prs} (h1 : 1 ≤ N) (h2 : N ≤ 7) : Town N (others N ps) := by
  refine ⟨h1, h2, fun p hp => ?_, List.pairwise_flatMap.mpr ⟨fun i _ => List.pairwise_map.mpr ((List.Pairwise.filter _ List.pairwise_lt_range').imp fun {a b} z => ?_), List.pairwise_lt_range.imp fun {a b} z x hx y hy => ?_⟩⟩
  · obtain ⟨i, hi, hp⟩ := List.mem_flatMap.mp hp
    obtain ⟨j, hj, rfl⟩ := List.mem_map.mp hp
    have := List.mem_range'_1.mp (List.mem_filter.mp hj).1
    simp only
    omega
  · rw [ltb_iff]
    exact .inr ⟨rfl, z⟩
  · obtain ⟨_, _, rfl⟩ := List.mem_map.mp hx
    obtain ⟨_, _, rfl⟩ := List.mem_map.mp hy
    rw [ltb_iff]
    exact .inl z
section
variable {T : List FD}
def SpTown (T : List FD) (i : Nat) : Prop := ∀ (n : Nat), 2 ≤ n → ∀ (ns : List Int) (c : Cell) (rest : St) (N m : Nat), Row ns c → Low (c :: rest) → N ≤ 7 → 1 ≤ m → m ≤ 1000000 → ∃ (ps : Prs) (c' : Cell), PsOk N N N ps ∧ Row ns c' ∧ run T n i [.cell 0, .int N, .int m] (c :: rest) = .ok (dTown N ps) (c' :: rest)
theorem town_ok {i t : Nat} (hT : T[i]? = some (F__law_town t)) (k1 : SpTaken T t) : SpTown T i := fun n hn ns c rest N m hc hs hN hm1 hm2 => by
  obtain ⟨k, rfl⟩ := Nat.exists_eq_add_of_le' hn
  obtain ⟨env2, st2, h1, ps, c', y4, y5, rfl, rfl, hps, hc'⟩ := for1 (C := run T (k + 1)) (p := .one 4) (e := .itr .range1 (.cons (.var 1) .nil)) (s := (.for_ (.one 5) (.itr .range2 (.cons (.bin .add (.var 4) (.con (.int (1)))) (.cons (.var 1) .nil))) (.ite (.cmp .eq (.call t (.cons (.var 0) (.cons (.var 2) .nil))) (.con (.int (0)))) (.drop (.meth .append (.var 3) (.cons (.tup (.cons (.var 4) (.cons (.var 5) .nil))) .nil))) .skip)))
    (env := [some (.cell 0), some (.int N), some (.int m), some (.cell (rest.length + 1)), none, none]) (st := c :: rest ++ [.lst []]) (st1 := c :: rest ++ [.lst []]) (f := enc (α := Nat)) (xs := List.range N)
    (fun dn env s => ∃ (ps : Prs) (c' : Cell) (y4 y5 : Option D), env = [some (.cell 0), some (.int N), some (.int m), some (.cell (rest.length + 1)), y4, y5] ∧ s = c' :: rest ++ [.lst (ps.map enc)] ∧ PsOk N dn.length 0 ps ∧ Row ns c')
    (it_rng1 (n := N) (vr rfl) (by omega) (by omega) (by omega)) ⟨[], c, none, none, rfl, rfl, ⟨(fun _ z => by cases z), List.Pairwise.nil⟩, hc⟩ fun x dn env s hx hp ⟨ps, c', y4, y5, e1, e2, hps, hc'⟩ => by
      have hx' := range_pre hp
      have hxN := List.mem_range.mp hx
      subst e1 e2
      subst hx'
      obtain ⟨env3, st3, g1, ps3, c3, y53, rfl, rfl, hps3, hc3⟩ := for1 (C := run T (k + 1)) (p := .one 5) (e := .itr .range2 (.cons (.bin .add (.var 4) (.con (.int (1)))) (.cons (.var 1) .nil))) (s := (.ite (.cmp .eq (.call t (.cons (.var 0) (.cons (.var 2) .nil))) (.con (.int (0)))) (.drop (.meth .append (.var 3) (.cons (.tup (.cons (.var 4) (.cons (.var 5) .nil))) .nil))) .skip))
        (env := [some (.cell 0), some (.int N), some (.int m), some (.cell (rest.length + 1)), some (enc dn.length), y5]) (st := c' :: rest ++ [.lst (ps.map enc)]) (st1 := c' :: rest ++ [.lst (ps.map enc)]) (f := enc (α := Nat)) (xs := List.range' (dn.length + 1) (N - (dn.length + 1)))
        (fun dn2 env s => ∃ (ps : Prs) (c' : Cell) (y5 : Option D), env = [some (.cell 0), some (.int N), some (.int m), some (.cell (rest.length + 1)), some (enc dn.length), y5] ∧ s = c' :: rest ++ [.lst (ps.map enc)] ∧ PsOk N dn.length (dn.length + 1 + dn2.length) ps ∧ Row ns c')
        (it_rng2 (k := dn.length + 1) (j := N) (bn (vr rfl) cn rfl) (vr rfl) (by omega) (by omega)) ⟨ps, c', y5, rfl, rfl, ⟨fun p hp => by have := hps.lt p hp; omega, hps.asc⟩, hc'⟩ fun x2 dn2 env s hx2 hp2 ⟨ps, c', y5, e1, e2, hps, hc'⟩ => by
          obtain ⟨hx2', hl2⟩ := range'_pre hp2
          subst e1 e2
          have lw : Low (c' :: (rest ++ [.lst (ps.map enc)])) := low_snoc (st := c' :: rest) (hc'.lows hs) (pl_map _)
          obtain ⟨v, c2, hv, hc2, hr⟩ := k1 (k + 1) (by omega) ns c' (rest ++ [.lst (ps.map enc)]) m hc' lw hm1 hm2
          by_cases z : v = 0
          · subst z
            refine ⟨_, [some (.cell 0), some (.int N), some (.int m), some (.cell (rest.length + 1)), some (enc dn.length), some (enc x2)], c2 :: rest ++ [.lst ((ps ++ [(dn.length, x2)]).map enc)], rfl, ift (tb (k := true) (cm (cl (al (vr rfl) (al (vr rfl) al0)) hr) cn (by rfl))) (drp (d := .non) (mth (vr rfl) (lstC_own (st := c2 :: rest)) (al (tp (al (vr rfl) (al (vr rfl) al0)) (by show 2 ≤ line; decide)) al0) ?_)), rfl, ps ++ [(dn.length, x2)], c2, some (enc x2), rfl, rfl, ?_, hc2⟩
            · rw [List.map_append]
              refine app_at (c := c2) (rest := rest) ?_
              rw [List.length_map]
              exact Nat.lt_of_le_of_lt (hps.len hN) (by decide)
            · rw [List.length_append, List.length_singleton]
              subst hx2'
              exact hps.add (by omega) (by omega)
          · refine ⟨_, [some (.cell 0), some (.int N), some (.int m), some (.cell (rest.length + 1)), some (enc dn.length), some (enc x2)], c2 :: rest ++ [.lst (ps.map enc)], rfl, ife (tb (k := false) (cm (cl (al (vr rfl) (al (vr rfl) al0)) hr) cn ?_)) sk, rfl, ps, c2, some (enc x2), rfl, rfl, ?_, hc2⟩
            · refine (eq_ (α := Nat) (x := v) (y := 0)).trans ?_
              rw [decide_eq_false z]
              rfl
            · rw [List.length_append, List.length_singleton]
              exact hps.skip
      refine ⟨_, _, _, rfl, g1, rfl, ps3, c3, some (enc dn.length), y53, rfl, rfl, ?_, hc3⟩
      rw [List.length_append, List.length_singleton]
      exact hps3.next
  rw [List.length_range] at hps
  refine ⟨ps, c', ⟨fun p hp => by have := hps.lt p hp; omega, hps.asc⟩, hc', ?_⟩
  refine run_ret hT rfl (sq (asg (nw al0 (Nat.zero_le _)) rfl) (sq h1 (rt (tp (al (vr rfl) (al (pr (al (vr rfl) al0) (r := .ok (enc ps) (c' :: rest ++ [.lst (ps.map enc)])) ?_) al0)) (by show 2 ≤ line; decide))))) (leave_own (st := c' :: rest) (hc'.lows hs) (Dat.pl (N, ps)))
  exact bk2 deref_at rfl
def SpAny (T : List FD) (i : Nat) : Prop := ∀ (n : Nat), 3 ≤ n → ∀ (ns : List Int) (c : Cell) (rest : St) (m : Nat), Row ns c → Low (c :: rest) → 1 ≤ m → m ≤ 7 → ∃ (N : Nat) (ps : Prs) (c' : Cell), Town N ps ∧ N ≤ m ∧ Row ns c' ∧ run T n i [.cell 0, .int m] (c :: rest) = .ok (dTown N ps) (c' :: rest)
theorem any_ok {i t u : Nat} (hT : T[i]? = some (F__law_any t u)) (k1 : SpTown T t) (k2 : SpTaken T u) : SpAny T i := fun n hn ns c rest m hc hs hm1 hm2 => by
  obtain ⟨k, rfl⟩ := Nat.exists_eq_add_of_le' hn
  obtain ⟨v, c1, hv, hc1, g1⟩ := k2 (k + 2) (by omega) ns c rest m hc hs hm1 (by omega)
  obtain ⟨w, c2, hw, hc2, g2⟩ := k2 (k + 2) (by omega) ns c1 rest 4 hc1 (hc1.lows hs) (by omega) (by omega)
  obtain ⟨s, hs1, hs2, hs3⟩ : ∃ s, [2, 2, 3, 5][w]? = some s ∧ 1 ≤ s ∧ s ≤ 5 := by
    match w, hw with
    | 0, _ => exact ⟨2, rfl, by omega, by omega⟩
    | 1, _ => exact ⟨2, rfl, by omega, by omega⟩
    | 2, _ => exact ⟨3, rfl, by omega, by omega⟩
    | 3, _ => exact ⟨5, rfl, by omega, by omega⟩
  obtain ⟨ps, c3, hps, hc3, g3⟩ := k1 (k + 2) (by omega) ns c2 rest (1 + v) s hc2 (hc2.lows hs) (by omega) hs2 (by omega)
  obtain ⟨x, c4, hx, hc4, g4⟩ := k2 (k + 2) (by omega) ns c3 rest 3 hc3 (hc3.lows hs) (by omega) (by omega)
  have a1 : Mp.exec (run T (k + 2)) (.asg (.one 2) (.call t (.cons (.var 0) (.cons (.bin .add (.con (.int (1))) (.call u (.cons (.var 0) (.cons (.var 1) .nil)))) (.cons (.idx (.lst (.cons (.con (.int (2))) (.cons (.con (.int (2))) (.cons (.con (.int (3))) (.cons (.con (.int (5))) .nil))))) (.call u (.cons (.var 0) (.cons (.con (.int (4))) .nil)))) .nil))))) [some (.cell 0), some (.int m), none, none, none, none] (c :: rest) = .next [some (.cell 0), some (.int m), some (dTown (1 + v) ps), none, none, none] (c3 :: rest) := by
    refine asg (cl (al (vr rfl) (al (bn (w := .int ((1 + v : Nat) : Int)) cn (cl (al (vr rfl) (al (vr rfl) al0)) g1) ?_) (al (ix (y := dL [2, 2, 3, 5]) (ls (al cn (al cn (al cn (al cn al0)))) (by show 4 ≤ line; decide)) (cl (al (vr rfl) (al cn al0)) g2) (ixL hs1)) al0))) g3) rfl
    show Mp.ret (D.int (1 + (v : Int))) _ = .ok (.int ((1 + v : Nat) : Int)) _
    rw [show (1 + (v : Int)) = ((1 + v : Nat) : Int) by omega]
    rfl
  have ht := hps.town (by omega) (by omega)
  by_cases hx0 : (0 : Int) < (x : Int)
  · refine ⟨1 + v, ps, c4, ht, by omega, hc4, ?_⟩
    exact run_ret hT rfl (sq a1 (sqr (ift (tb (k := true) (cm (cl (al (vr rfl) (al cn al0)) g4) cn (gt_t hx0))) (rt (vr rfl))))) (leave_pl (st := c4 :: rest) (hc4.lows hs) (Dat.pl (1 + v, ps)))
  · have hN : 1 + v ≤ 7 := by omega
    refine ⟨1 + v, others (1 + v) ps, c4, others_town (by omega) hN, by omega, hc4, ?_⟩
    obtain ⟨env2, st2, h1, ⟨y4, rfl⟩, rfl⟩ := for1 (C := run T (k + 2)) (p := .one 4) (e := .itr .range1 (.cons (.idx (.var 2) (.con (.int (0)))) .nil)) (s := (.asg (.one 3) (.bin .add (.var 3) (.comp (.one 5) (.itr .range2 (.cons (.bin .add (.var 4) (.con (.int (1)))) (.cons (.idx (.var 2) (.con (.int (0)))) .nil))) (.cmp .nmem (.tup (.cons (.var 4) (.cons (.var 5) .nil))) (.idx (.var 2) (.con (.int (1))))) (.tup (.cons (.var 4) (.cons (.var 5) .nil)))))))
      (env := [some (.cell 0), some (.int m), some (dTown (1 + v) ps), some (dL ([] : Prs)), none, none]) (st := c4 :: rest) (st1 := c4 :: rest) (f := enc (α := Nat)) (xs := List.range (1 + v))
      (fun dn env s => (∃ y4, env = [some (.cell 0), some (.int m), some (dTown (1 + v) ps), some (dL (dn.flatMap fun i => ((List.range' (i + 1) ((1 + v) - (i + 1))).filter fun j => !decide ((i, j) ∈ ps)).map fun j => (i, j))), y4, none]) ∧ s = c4 :: rest)
      (it_rng1 (n := 1 + v) (ix (vr rfl) cn rfl) (by omega) (by omega) (by omega)) ⟨⟨none, rfl⟩, rfl⟩ fun x dn env s hx hp ⟨⟨y4, e1⟩, e2⟩ => by
        subst e1 e2
        have hx' := range_pre hp
        have hxN := List.mem_range.mp hx
        refine ⟨_, [some (.cell 0), some (.int m), some (dTown (1 + v) ps), some (dL ((dn ++ [x]).flatMap fun i => ((List.range' (i + 1) ((1 + v) - (i + 1))).filter fun j => !decide ((i, j) ∈ ps)).map fun j => (i, j))), some (enc x), none], c4 :: rest, rfl, asg (bn (vr rfl) (cmpE (β := Nat × Nat) (xs := List.range' (x + 1) ((1 + v) - (x + 1))) (f := enc (α := Nat)) (fun j => !decide ((x, j) ∈ ps)) (fun j => (x, j)) (it_rng2 (k := x + 1) (j := 1 + v) (bn (vr rfl) cn rfl) (ix (vr rfl) cn rfl) (by omega) (by omega)) rfl (fun j hj => ⟨_, rfl, tb (cm (tp (al (vr rfl) (al (vr rfl) al0)) (by show 2 ≤ line; decide)) (ix (vr rfl) cn rfl) (nmem_ (x := (x, j)))), fun _ => tp (al (vr rfl) (al (vr rfl) al0)) (by show 2 ≤ line; decide)⟩) ?_) ?_) rfl, rfl, ⟨_, rfl⟩, rfl⟩
        · rw [List.length_range']
          exact Nat.le_trans (show (1 + v) - (x + 1) ≤ 7 by omega) (by decide)
        · rw [List.flatMap_append, List.flatMap_singleton]
          refine addL ?_
          rw [List.length_append, List.length_map]
          have q1 : (dn.flatMap fun i => ((List.range' (i + 1) ((1 + v) - (i + 1))).filter fun j => !decide ((i, j) ∈ ps)).map fun j => (i, j)).length ≤ dn.length * 7 := flat_most fun i _ => by
            rw [List.length_map]
            refine Nat.le_trans (List.length_filter_le _ _) ?_
            rw [List.length_range']
            omega
          have q2 : ((List.range' (x + 1) ((1 + v) - (x + 1))).filter fun j => !decide ((x, j) ∈ ps)).length ≤ 7 := by
            refine Nat.le_trans (List.length_filter_le _ _) ?_
            rw [List.length_range']
            omega
          show _ ≤ 16777216
          omega
    exact run_ret hT rfl (sq a1 (sq (ife (tb (k := false) (cm (cl (al (vr rfl) (al cn al0)) g4) cn (gt_f hx0))) sk) (sq (asg (ls al0 (Nat.zero_le _)) rfl) (sq h1 (rt (tp (al (ix (vr rfl) cn rfl) (al (pr (al (vr rfl) al0) rfl) al0)) (by show 2 ≤ line; decide))))))) (leave_pl (st := c4 :: rest) (hc4.lows hs) (Dat.pl (1 + v, others (1 + v) ps)))
end
end Mk
end
section
set_option Elab.async false
set_option linter.all false
set_option maxRecDepth 100000
set_option maxHeartbeats 400000
/-! The law's own defs: lots, picks, likeness, paintings, needs, rows. -/
namespace Mk
open PySem Mp GM
open Dat (enc)
theorem leLen_enc (a b : List Nat) : leLen (enc a) (enc b) = lenLe a b := by
  show (if (a.map enc).length = (b.map enc).length then leD (enc a) (enc b) else decide ((a.map enc).length < (b.map enc).length)) = _
  rw [List.length_map, List.length_map, leD_enc]
  rfl
theorem sortLen_ {l : List (List Nat)} {st : St} : sortLenD (dL l) st = .ok (dL (isort lenLe l)) st := by
  refine bk2 (v := dL l) (st1 := st) rfl ?_
  show (if sortLenOk (l.map enc) then Mp.ret (D.lst (isort leLen (l.map enc))) else bad) st = _
  have : sortLenOk (l.map enc) = true := List.all_eq_true.mpr fun d hd => by
    obtain ⟨x, _, rfl⟩ := List.mem_map.mp hd
    exact List.all_eq_true.mpr fun e he => by
      obtain ⟨y, _, rfl⟩ := List.mem_map.mp he
      rfl
  rw [this, isort_map leLen_enc]
  rfl
def lotsS (N : Nat) : List (List Nat) := isort lenLe (lots N)
theorem lotsS_perm {N : Nat} : (lotsS N).Perm (lots N) := isort_perm
theorem lotsS_mem {N : Nat} {l : List Nat} : l ∈ lotsS N ↔ l ∈ lots N := lotsS_perm.mem_iff
theorem lotsS_most {N : Nat} (h : N ≤ 7) : (lotsS N).length ≤ 128 := by
  rw [lotsS_perm.length_eq]
  exact lots_most h
mutual
/-- data whose likeness to itself can be told, of at most so many levels -/
def D.fit : Nat → D → Bool
  | n, .tup l => match n with | 0 => false | n + 1 => Nat.ble l.length 1000000 && D.fits n l
  | n, .lst l => match n with | 0 => false | n + 1 => Nat.ble l.length 1000000 && D.fits n l
  | _, .cell _ => false
  | _, .scr _ => false
  | _, .str _ => false
  | _, .dct _ _ _ => false
  | _, _ => true
def D.fits : Nat → List D → Bool
  | _, [] => true
  | n, a :: r => D.fit n a && D.fits n r
end
theorem D.fits_at {n : Nat} : ∀ {l : List D}, D.fits n l = true → ∀ d ∈ l, D.fit n d = true
  | [], _, _, h => by cases h
  | a :: r, h, d, hd => by
    simp only [D.fits, Bool.and_eq_true] at h
    rcases List.mem_cons.mp hd with rfl | hd
    · exact h.1
    · exact D.fits_at h.2 d hd
theorem D.fits_of {n : Nat} : ∀ {l : List D}, (∀ d ∈ l, D.fit n d = true) → D.fits n l = true
  | [], _ => rfl
  | a :: r, h => by
    simp only [D.fits, Bool.and_eq_true]
    exact ⟨h a List.mem_cons_self, D.fits_of fun d hd => h d (List.mem_cons_of_mem _ hd)⟩
theorem fit_num {x n : Nat} : D.fit n (enc x) = true := by cases n <;> rfl
theorem fit_T {α : Type} [DecidableEq α] [Dat α] {l : List α} {n : Nat} (h : l.length ≤ 1000000) (hl : ∀ x ∈ l, D.fit n (enc x) = true) : D.fit (n + 1) (enc l) = true := by
  show D.fit (n + 1) (.tup (l.map enc)) = true
  simp only [D.fit, Bool.and_eq_true]
  refine ⟨Nat.ble_eq_true_of_le (by rw [List.length_map]; exact h), D.fits_of fun d hd => ?_⟩
  obtain ⟨x, hx, rfl⟩ := List.mem_map.mp hd
  exact hl x hx
theorem fit_nums {l : List Nat} (h : l.length ≤ 1000000) {n : Nat} : D.fit (n + 1) (enc l) = true := fit_T h fun _ _ => fit_num
section
variable {T : List FD}
def SpLLots (T : List FD) (i : Nat) : Prop := ∀ (n : Nat) (st : St), 1 ≤ n → Low st → ∀ (N : Nat), N ≤ 7 → run T n i [enc N] st = .ok (dL (lotsS N)) st
theorem llots_ok {i : Nat} (hT : T[i]? = some F__law_lots) : SpLLots T i := fun n st hn hs N hN => by
  obtain ⟨m, rfl⟩ := Nat.exists_eq_add_of_le' hn
  obtain ⟨env2, st2, h1, ⟨y2, rfl⟩, rfl⟩ := for1 (C := run T m) (p := .one 2) (e := .itr .range1 (.cons (.var 0) .nil)) (s := .asg (.one 1) (.bin .add (.var 1) (.comp (.one 3) (.itr .seq (.cons (.var 1) .nil)) (.con (.bl true)) (.bin .add (.var 3) (.tup (.cons (.var 2) .nil))))))
    (env := [some (enc N), some (dL (lots 0)), none, none]) (st := st) (f := enc (α := Nat)) (xs := List.range N)
    (fun dn env s => (∃ y2, env = [some (enc N), some (dL (lots dn.length)), y2, none]) ∧ s = st) (it_rng1 (n := N) (vr rfl) (by omega) (by omega) (by omega)) ⟨⟨none, rfl⟩, rfl⟩ fun x dn env s hx hp ⟨⟨y2, e1⟩, e2⟩ => by
      subst e1 e2
      have hx := range_pre hp
      have hd : dn.length ≤ 6 := by
        have := List.mem_range.mp (by assumption : x ∈ List.range N)
        omega
      have hl := lots_most (n := dn.length) (by omega)
      subst hx
      refine ⟨_, [some (enc N), some (dL (lots (dn.length + 1))), some (enc dn.length), none], s, rfl, asg (bn (vr rfl) (cmpA (xs := lots dn.length) (f := enc) (fun l => l ++ [dn.length]) (it_lst (vr rfl)) rfl (fun l hl => ⟨_, rfl, bn (vr rfl) (tp1 (vr rfl)) (addT ?_)⟩) (by show _ ≤ 16777216; omega)) (addL ?_)) rfl, rfl, ⟨some (enc dn.length), ?_⟩, rfl⟩
      · have := (lots_is hl).2.2
        rw [List.length_append, List.length_singleton]
        show _ ≤ 16777216
        omega
      · rw [List.length_append, List.length_map]
        show _ ≤ 16777216
        omega
      · rw [List.length_append, List.length_singleton]
  rw [List.length_range] at h1
  exact run_pl hs hT rfl pl_L (sq (asg (ls1 (v := ([] : List Nat)) (tp al0 (Nat.zero_le _))) rfl) (sq h1 (rt (slen (vr rfl) sortLen_))))
def SpPick (T : List FD) (i : Nat) : Prop := ∀ (n : Nat), 2 ≤ n → ∀ (ns : List Int) (c : Cell) (rest : St) (L : List (List Nat)), Row ns c → Low (c :: rest) → L ≠ [] → L.length ≤ 1000000 → ∃ (x : List Nat) (c' : Cell), x ∈ L ∧ Row ns c' ∧ run T n i [.cell 0, dL L] (c :: rest) = .ok (enc x) (c' :: rest)
theorem pick_ok {i t : Nat} (hT : T[i]? = some (F__law_pick t)) (k1 : SpTaken T t) : SpPick T i := fun n hn ns c rest L hc hs hL hl => by
  obtain ⟨k, rfl⟩ := Nat.exists_eq_add_of_le' hn
  obtain ⟨v, c', hv, hc', g⟩ := k1 (k + 1) (by omega) ns c rest L.length hc hs (List.length_pos_iff.mpr hL) hl
  refine ⟨L[v], c', List.getElem_mem hv, hc', ?_⟩
  exact run_ret hT rfl (rt (ix (vr rfl) (cl (al (vr rfl) (al (pr (al (vr rfl) al0) prim_lenL) al0)) g) (ixL (List.getElem?_eq_getElem hv)))) (leave_pl (st := c' :: rest) (hc'.lows hs) (Dat.pl _))
def SpAlike (T : List FD) (i : Nat) : Prop := ∀ (k : Nat) (d : D), D.fit k d = true → ∀ (n : Nat) (st : St), k + 1 ≤ n → Low st → run T n i [d, d] st = .ok (.bl true) st
theorem alike_seq {i k : Nat} {l : List D} {d : D} (hd : d = .tup l ∨ d = .lst l) (hT : T[i]? = some (F__law_alike i)) (ih : ∀ d : D, D.fit k d = true → ∀ (n : Nat) (st : St), k + 1 ≤ n → Low st → run T n i [d, d] st = .ok (.bl true) st) (hl : l.length ≤ 1000000) (hf : D.fits k l = true) {n : Nat} {st : St} (hn : k + 2 ≤ n) (hs : Low st) : run T n i [d, d] st = .ok (.bl true) st := by
  obtain ⟨m, rfl⟩ := Nat.exists_eq_add_of_le' (Nat.le_trans (show 1 ≤ k + 2 by omega) hn)
  have w1 : ∀ st : St, primD .len [d] st = .ok (enc l.length) st := fun st => by rcases hd with rfl | rfl <;> rfl
  have w2 : ∀ st : St, primD (.isI [3, 4]) [d] st = .ok (.bl true) st := fun st => by rcases hd with rfl | rfl <;> rfl
  obtain ⟨b, w3⟩ : ∃ b, ∀ st : St, primD (.isI [4]) [d] st = .ok (.bl b) st := by
    rcases hd with rfl | rfl
    · exact ⟨false, fun _ => rfl⟩
    · exact ⟨true, fun _ => rfl⟩
  have w4 : ∀ (st : St) (j : Nat) (hj : j < l.length), idxD d (.int j) st = .ok l[j] st := fun st j hj => by
    have := atI_map (f := id) (List.getElem?_eq_getElem hj)
    rw [List.map_id] at this
    rcases hd with rfl | rfl
    · show opt (L2.atI l (j : Int)) st = _
      rw [this]
      rfl
    · show opt (L2.atI l (j : Int)) st = _
      rw [this]
      rfl
  have w5 : ∀ st : St, cmpD .ne (.bl b) (.bl b) st = .ok (.bl false) st := fun st => by cases b <;> rfl
  have w6 : ∀ st : St, cmpD .ne (enc l.length) (enc l.length) st = .ok (.bl false) st := fun st => by
    refine (ne_ (α := Nat) (x := l.length) (y := l.length)).trans ?_
    rw [decide_eq_true rfl]
    rfl
  refine run_pl hs hT rfl rfl (sqr (ift (tb (k := true) (pr (al (vr rfl) al0) (w2 _))) (sq (ife (tb (orr (k := false) (m := false) (nt (k := true) (tb (pr (al (vr rfl) al0) (w2 _)))) fun _ => cm (pr (al (vr rfl) al0) (w3 _)) (pr (al (vr rfl) al0) (w3 _)) (w5 _))) sk) (sq (ife (tb (cm (pr (al (vr rfl) al0) (w1 _)) (pr (al (vr rfl) al0) (w1 _)) (w6 _))) sk) (rt (cm (y := .lst []) (st1 := st) ?_ (ls al0 (Nat.zero_le _)) rfl))))))
  have := cmp_ (C := run T m) (p := .one 2) (st := st) (xs := List.range l.length) (f := enc (α := Nat)) (x := .itr .range1 (.cons (.prim .len (.cons (.var 1) .nil)) .nil)) (c := .not (.call i (.cons (.idx (.var 0) (.var 2)) (.cons (.idx (.var 1) (.var 2)) .nil)))) (e := .var 2) (env := [some d, some d, none]) (g := none) (fun _ => false) enc (it_rng1 (n := l.length) (pr (al (vr rfl) al0) (w1 _)) (by show ((l.length : Nat) : Int).toNat = _; omega) (by show _ ≤ ((l.length : Nat) : Int); omega) (by show ((l.length : Nat) : Int) ≤ _; omega)) rfl (fun j hj => ⟨_, rfl, tb (nt (k := true) (tb (cl (al (ix (vr rfl) (vr rfl) (w4 _ j (List.mem_range.mp hj))) (al (ix (vr rfl) (vr rfl) (w4 _ j (List.mem_range.mp hj))) al0)) (ih _ (D.fits_at hf _ (List.getElem_mem _)) m st (by omega) hs)))), fun z => by cases z⟩) (by rw [List.filter_eq_nil_iff.mpr (by simp)]; exact Nat.zero_le _)
  rw [List.filter_eq_nil_iff.mpr (by simp)] at this
  exact this
theorem alike_num {i : Nat} {d : D} (hT : T[i]? = some (F__law_alike i)) (hd : (∃ x, d = .int x) ∨ (∃ b, d = .bl b) ∨ d = .non) {n : Nat} {st : St} (hn : 1 ≤ n) (hs : Low st) : run T n i [d, d] st = .ok (.bl true) st := by
  obtain ⟨m, rfl⟩ := Nat.exists_eq_add_of_le' hn
  rcases hd with ⟨x, rfl⟩ | ⟨b, rfl⟩ | rfl
  · refine run_pl hs hT rfl rfl (sq (ife (tb (pr (al (vr rfl) al0) rfl)) sk) (sq (ife (tb (orr (k := false) (m := false) (cm (vr rfl) cn rfl) fun _ => pr (al (vr rfl) al0) rfl)) sk) (rt (an (k := true) (m := true) (pr (al (vr rfl) al0) rfl) fun _ => an (k := true) (m := true) (cm (pr (al (vr rfl) al0) rfl) (pr (al (vr rfl) al0) rfl) rfl) fun _ => cm (vr rfl) (vr rfl) ?_))))
    refine (eq_ (α := Int) (x := x) (y := x)).trans ?_
    rw [decide_eq_true rfl]
  · refine run_pl hs hT rfl rfl (sq (ife (tb (pr (al (vr rfl) al0) rfl)) sk) (sq (ife (tb (orr (k := false) (m := false) (cm (vr rfl) cn rfl) fun _ => pr (al (vr rfl) al0) rfl)) sk) (rt (an (k := true) (m := true) (pr (al (vr rfl) al0) rfl) fun _ => an (k := true) (m := true) (cm (pr (al (vr rfl) al0) rfl) (pr (al (vr rfl) al0) rfl) rfl) fun _ => cm (vr rfl) (vr rfl) ?_))))
    cases b <;> rfl
  · exact run_pl hs hT rfl rfl (sq (ife (tb (pr (al (vr rfl) al0) rfl)) sk) (sqr (ift (tb (k := true) (orr (k := true) (m := false) (cm (vr rfl) cn rfl) fun z => by cases z)) (rt (an (k := true) (m := true) (cm (vr rfl) (vr rfl) rfl) fun _ => cm (pr (al (vr rfl) al0) rfl) (pr (al (vr rfl) al0) rfl) rfl)))))
theorem alike_ok {i : Nat} (hT : T[i]? = some (F__law_alike i)) : SpAlike T i := fun k => by
  induction k with
  | zero =>
    intro d hf n st hn hs
    refine alike_num hT ?_ hn hs
    cases d with
    | tup l => cases hf
    | lst l => cases hf
    | cell _ => cases hf
    | dct _ _ _ => cases hf
    | scr _ => cases hf
    | str _ => cases hf
    | int x => exact .inl ⟨x, rfl⟩
    | bl b => exact .inr (.inl ⟨b, rfl⟩)
    | non => exact .inr (.inr rfl)
  | succ k ih =>
    intro d hf n st hn hs
    cases d with
    | tup l =>
      simp only [D.fit, Bool.and_eq_true] at hf
      exact alike_seq (.inl rfl) hT ih (Nat.le_of_ble_eq_true hf.1) hf.2 hn hs
    | lst l =>
      simp only [D.fit, Bool.and_eq_true] at hf
      exact alike_seq (.inr rfl) hT ih (Nat.le_of_ble_eq_true hf.1) hf.2 hn hs
    | cell _ => cases hf
    | dct _ _ _ => cases hf
    | scr _ => cases hf
    | str _ => cases hf
    | int x => exact alike_num hT (.inl ⟨x, rfl⟩) (by omega) hs
    | bl b => exact alike_num hT (.inr (.inl ⟨b, rfl⟩)) (by omega) hs
    | non => exact alike_num hT (.inr (.inr rfl)) (by omega) hs
theorem near_adj {N : Nat} {ps : Prs} (h : ∀ p ∈ ps, p.1 < p.2) (a b : Nat) : decide ((min a b, max a b) ∈ ps) = adj ps a b := by
  unfold adj
  rw [← Bool.decide_or]
  refine decide_eq_decide.mpr ?_
  rcases Nat.le_total a b with k | k
  · rw [Nat.min_eq_left k, Nat.max_eq_right k]
    refine ⟨.inl, fun z => ?_⟩
    rcases z with z | z
    · exact z
    · have := h _ z
      simp only at this
      omega
  · rw [Nat.min_eq_right k, Nat.max_eq_left k]
    refine ⟨.inr, fun z => ?_⟩
    rcases z with z | z
    · have := h _ z
      simp only at this
      omega
    · exact z
def SpLNear (T : List FD) (i : Nat) : Prop := ∀ (n : Nat) (st : St), 1 ≤ n → Low st → ∀ (N : Nat) (ps : Prs) (a b : Nat), Town N ps → run T n i [dTown N ps, enc a, enc b] st = .ok (.bl (adj ps a b)) st
theorem lnear_ok {i : Nat} (hT : T[i]? = some F__law_near) : SpLNear T i := fun n st hn hs N ps a b ht => by
  obtain ⟨m, rfl⟩ := Nat.exists_eq_add_of_le' hn
  rw [← near_adj (N := N) (fun p hp => (ht.lt p hp).1)]
  exact run_pl hs hT rfl rfl (rt (cm (tp (al (pr (al (vr rfl) (al (vr rfl) al0)) prim_min2) (al (pr (al (vr rfl) (al (vr rfl) al0)) prim_max2) al0)) (by show 2 ≤ line; decide)) (ix (vr rfl) cn rfl) (mem_ (x := (min a b, max a b)))))
theorem lw_snoc {adj : Nat → Nat → Bool} {lot : List Nat} {pots : Nat} {dn : List (Nat × Nat)} {x : Nat × Nat} {W : List (List Nat)} : lwFrom adj lot pots (dn ++ [x]) W = lwStep adj lot pots x.2 x.1 (lwFrom adj lot pots dn W) := by
  unfold lwFrom
  rw [List.foldl_append]
  rfl
theorem lwStep_len {adj : Nat → Nat → Bool} {lot : List Nat} {pots i h : Nat} {W : List (List Nat)} {k : Nat} (hW : ∀ t ∈ W, t.length = k) : (lwStep adj lot pots i h W).length ≤ W.length * pots ∧ ∀ t ∈ lwStep adj lot pots i h W, t.length = k + 1 := by
  refine ⟨flat_most fun t _ => ?_, fun t ht => ?_⟩
  · rw [List.length_map]
    refine Nat.le_trans (List.length_filter_le _ _) ?_
    rw [List.length_range']
    exact Nat.le_refl _
  · obtain ⟨s, hs, ht⟩ := List.mem_flatMap.mp ht
    obtain ⟨c, _, rfl⟩ := List.mem_map.mp ht
    rw [List.length_append, hW s hs]
    rfl
theorem lwFrom_len {adj : Nat → Nat → Bool} {lot : List Nat} {pots : Nat} : ∀ (l : List (Nat × Nat)), (lwFrom adj lot pots l.reverse [[]]).length ≤ pots ^ l.length ∧ ∀ t ∈ lwFrom adj lot pots l.reverse [[]], t.length = l.length
  | [] => ⟨Nat.le_refl _, fun t ht => by rw [List.mem_singleton.mp ht]; rfl⟩
  | x :: l => by
    obtain ⟨h1, h2⟩ := lwFrom_len (adj := adj) (lot := lot) (pots := pots) l
    rw [List.reverse_cons, lw_snoc]
    obtain ⟨h3, h4⟩ := lwStep_len (adj := adj) (lot := lot) (pots := pots) (i := x.2) (h := x.1) h2
    exact ⟨Nat.le_trans h3 (Nat.mul_le_mul_right _ h1), h4⟩
theorem lwFrom_len' {adj : Nat → Nat → Bool} {lot : List Nat} {pots : Nat} (l : List (Nat × Nat)) : (lwFrom adj lot pots l [[]]).length ≤ pots ^ l.length ∧ ∀ t ∈ lwFrom adj lot pots l [[]], t.length = l.length := by
  have := lwFrom_len (adj := adj) (lot := lot) (pots := pots) l.reverse
  rwa [List.reverse_reverse, List.length_reverse] at this
end
end Mk
end
section
set_option Elab.async false
set_option linter.all false
set_option maxRecDepth 100000
set_option maxHeartbeats 400000
/-! The law's paintings, needs, rows. -/
namespace Mk
open PySem Mp GM
open Dat (enc)
theorem frT_is {N : Nat} {ps : Prs} {lot : List Nat} (hl : ∀ x ∈ lot, x < N) : ∀ h ∈ lot, ∀ H : List Nat, (∀ x ∈ H, x ∈ lot) → frT N ps h H = !(H.any fun o => adj ps h o) := fun h _ H hH => by
  unfold frT frB
  rw [any_in fun x hx => hl x (hH x hx)]
theorem few_is {N : Nat} {ps : Prs} {lot : List Nat} (hl : ∀ x ∈ lot, x < N) : (∀ p, p < few N ps lot → lawWays (adj ps) lot p = []) ∧ lawWays (adj ps) lot (few N ps lot) ≠ [] ∧ few N ps lot ≤ lot.length := by
  obtain ⟨h1, h2⟩ := minOf_is (map_ne (f := List.length) (parts_ne (fr := frT N ps) lot))
  obtain ⟨P, hP, e⟩ := List.mem_map.mp h1
  refine ⟨fun p hp => (no_ways (frT_is hl)).mpr fun Q hQ => ?_, fun z => ?_, ?_⟩
  · exact Nat.lt_of_lt_of_le hp (h2 _ (List.mem_map_of_mem hQ))
  · have := (no_ways (frT_is hl)).mp z P hP
    unfold few at this
    omega
  · unfold few
    rw [← e]
    exact ((parts_fit (fr := frT N ps) lot).1 P hP).1
theorem getD_at {l : List Nat} {k : Nat} (h : k < l.length) : l[k]? = some (l.getD k 0) := by
  rw [List.getD_eq_getElem?_getD, List.getElem?_eq_getElem h]
  rfl
theorem pow_most {p a b : Nat} (h : p ^ b ≤ 1000000) (hab : a ≤ b) : p ^ a ≤ 1000000 := by
  rcases Nat.eq_zero_or_pos p with z | z
  · subst z
    cases a with
    | zero => decide
    | succ a => rw [Nat.zero_pow (Nat.succ_pos _)]; exact Nat.zero_le _
  · exact Nat.le_trans (Nat.pow_le_pow_right z hab) h
theorem flat_pre {α β : Type} {g : α → List β} {dn xs : List α} (h : dn <+: xs) : (dn.flatMap g).length ≤ (xs.flatMap g).length := by
  obtain ⟨t, rfl⟩ := h
  rw [List.flatMap_append, List.length_append]
  exact Nat.le_add_right _ _
/-- a loop that grows a list of one's own -/
theorem for_acc {α γ : Type} [DecidableEq γ] [Dat γ] {C : CallF} {p : Pat} {e : E} {s : S} {env : Mp.Env} {st : St} {f : α → D} {xs : List α} (g : α → List γ) (Q : Mp.Env → Prop) {acc : List γ} (B : Nat)
    (h : bnd (ev C e env) srcOf (st ++ [.lst (acc.map enc)]) = .ok (xs.map f, none) (st ++ [.lst (acc.map enc)])) (h0 : Q env) (hB : acc.length + (xs.flatMap g).length ≤ B)
    (hs : ∀ x ∈ xs, ∀ (env : Mp.Env) (acc : List γ), Q env → acc.length + (g x).length ≤ B → ∃ env' env2, p.bind (f x) env = some env' ∧ Mp.exec C s env' (st ++ [.lst (acc.map enc)]) = .next env2 (st ++ [.lst ((acc ++ g x).map enc)]) ∧ Q env2) :
    ∃ env2, Mp.exec C (.for_ p e s) env (st ++ [.lst (acc.map enc)]) = .next env2 (st ++ [.lst ((acc ++ xs.flatMap g).map enc)]) ∧ Q env2 := by
  obtain ⟨env2, st2, h1, h2, rfl⟩ := for1 (C := C) (p := p) (e := e) (s := s) (env := env) (f := f) (xs := xs) (g := none) (fun dn env s => Q env ∧ s = st ++ [.lst ((acc ++ dn.flatMap g).map enc)]) h ⟨h0, by rw [List.flatMap_nil, List.append_nil]⟩ fun x dn env s hx hp ⟨q, e2⟩ => by
    subst e2
    have := flat_pre (g := g) hp
    rw [List.flatMap_append, List.length_append, List.flatMap_singleton] at this
    obtain ⟨env', env2, k1, k2, k3⟩ := hs x hx env (acc ++ dn.flatMap g) q (by rw [List.length_append]; omega)
    refine ⟨env', env2, _, k1, k2, rfl, k3, ?_⟩
    rw [List.flatMap_append, List.flatMap_singleton, List.append_assoc]
  exact ⟨env2, h1, h2⟩
/-- a loop that counts -/
theorem while_up {C : CallF} {c : E} {s : S} {st : St} {envs : Nat → Mp.Env} {m : Nat} (h : ∀ p, p < m → bnd (ev C c (envs p)) truth st = .ok true st ∧ Mp.exec C s (envs p) st = .next (envs (p + 1)) st) (h2 : bnd (ev C c (envs m)) truth st = .ok false st) :
    ∀ (k p fuel : Nat), p + k = m → k < fuel → whileL (ev C c) (Mp.exec C s) fuel (envs p) st = .next (envs m) st
  | 0, p, fuel + 1, e, _ => by
    have e : p = m := e
    subst e
    unfold whileL
    simp only [run', h2]
  | k + 1, p, fuel + 1, e, hf => by
    obtain ⟨g1, g2⟩ := h p (by omega)
    unfold whileL
    simp only [run', g1, g2]
    exact while_up h h2 k (p + 1) fuel (by omega) (by omega)
theorem gt_n {a b : Nat} {st : St} : cmpD .gt (enc a) (enc b) st = .ok (.bl (decide (b < a))) st := by
  show Mp.ret (D.bl (decide ((b : Int) < (a : Int)))) st = _
  rw [show decide ((b : Int) < (a : Int)) = decide (b < a) from decide_eq_decide.mpr (by omega)]
  rfl
theorem sorted_at {α : Type} [DecidableEq α] [Dat α] {d : D} {l : List (List α)} {st : St} (hd : deref d st = .ok (dL l) st) (h : Dat.lv α ≤ 59 := by decide) (h2 : (∀ x ∈ l, x ≠ []) ∨ l = [[]]) : primD .sorted [d] st = .ok (dL (isort leb l)) st := by
  refine (pD (fun _ z => by cases z) hd).trans ?_
  exact (pD (p := .sorted) (d := dL l) (fun _ z => by cases z) rfl).symm.trans (sorted_T (h2 := h2) h)
theorem three_at {L : List Nat} {a b d : Nat} (hl : L.Pairwise fun a b => a < b) (h4 : L.length = 4) (ha : a ∈ L) (hb : b ∈ L) (hd : d ∈ L) : (L.filter fun h => !decide (h ∈ [a, b, d]))[0]? = some (lawThree L a d b) := by
  have k := three_of hl h4 ha hb hd
  have : lawThree L a d b ∈ L.filter fun h => !decide (h ∈ [a, b, d]) := List.mem_filter.mpr ⟨k.1, by rw [decide_eq_false k.2]; rfl⟩
  show _ = some ((L.filter fun h => !decide (h ∈ [a, b, d])).headD 0)
  cases e : L.filter fun h => !decide (h ∈ [a, b, d]) with
  | nil =>
    rw [e] at this
    cases this
  | cons x r => rfl
theorem lawTwo_most {adj : Nat → Nat → Bool} {L : List Nat} {one four : Nat} : (lawTwo adj L one four).length ≤ L.length := by
  refine Nat.le_trans (flat_most (k := 1) fun x _ => ?_) ?_
  · split
    · exact Nat.le_refl _
    · exact Nat.zero_le _
  · rw [Nat.mul_one]
    exact List.length_filter_le _ _
theorem lawFour_most {adj : Nat → Nat → Bool} {L : List Nat} {one : Nat} : (lawFour adj L one).length ≤ L.length * L.length := by
  refine Nat.le_trans (flat_most (k := L.length) fun x _ => lawTwo_most) ?_
  exact Nat.mul_le_mul_right _ (List.length_filter_le _ _)
theorem lawLot_most {adj : Nat → Nat → Bool} {L : List Nat} : (lawLot adj L).length ≤ 64 := by
  unfold lawLot
  split
  · rename_i h
    refine Nat.le_trans (flat_most (k := 16) fun x _ => ?_) (by rw [h]; decide)
    have := lawFour_most (adj := adj) (L := L) (one := x)
    rw [h] at this
    exact this
  · exact Nat.zero_le _
theorem lawRows_most {adj : Nat → Nat → Bool} {LL : List (List Nat)} : (lawRows adj LL).length ≤ LL.length * 64 := flat_most fun L _ => lawLot_most
section
variable {T : List FD}
def SpLWays (T : List FD) (i : Nat) : Prop := ∀ (n : Nat) (st : St), 2 ≤ n → Low st → ∀ (N : Nat) (ps : Prs) (lot : List Nat) (pots : Nat), Town N ps → lot.length ≤ 7 → pots ≤ 9 → pots ^ lot.length ≤ 1000000 → run T n i [dTown N ps, enc lot, enc pots] st = .ok (dL (lawWays (adj ps) lot pots)) st
theorem lways_ok {i c : Nat} (hT : T[i]? = some (F__law_ways c)) (k1 : SpLNear T c) : SpLWays T i := fun n st hn hs N ps lot pots ht hl hp hpow => by
  obtain ⟨m, rfl⟩ := Nat.exists_eq_add_of_le' hn
  obtain ⟨env2, st2, h1, ⟨y4, y5, y6, y7, y8, rfl⟩, rfl⟩ := for1 (C := run T (m + 1)) (p := .tup [4, 5]) (e := .itr .enum (.cons (.var 1) .nil)) (s := (.seq (.asg (.one 6) (.lst .nil)) (.seq (.for_ (.one 7) (.itr .seq (.cons (.var 3) .nil)) (.seq (.asg (.one 8) (.comp (.one 9) (.itr .range1 (.cons (.var 4) .nil)) (.call c (.cons (.var 0) (.cons (.var 5) (.cons (.idx (.var 1) (.var 9)) .nil)))) (.idx (.var 7) (.var 9)))) (.asg (.one 6) (.bin .add (.var 6) (.comp (.one 10) (.itr .range2 (.cons (.con (.int (1))) (.cons (.bin .add (.var 2) (.con (.int (1)))) .nil))) (.cmp .nmem (.var 10) (.var 8)) (.bin .add (.var 7) (.tup (.cons (.var 10) .nil)))))))) (.asg (.one 3) (.var 6)))))
    (env := [some (dTown N ps), some (enc lot), some (enc pots), some (dL ([[]] : List (List Nat))), none, none, none, none, none, none, none]) (st := st) (st1 := st) (f := fun (p : Nat × Nat) => .tup [.int p.2, enc p.1]) (xs := lot.zipIdx)
    (fun dn env s => (∃ y4 y5 y6 y7 y8, env = [some (dTown N ps), some (enc lot), some (enc pots), some (dL (lwFrom (adj ps) lot pots dn [[]])), y4, y5, y6, y7, y8, none, none]) ∧ s = st)
    (it_enum (vr rfl)) ⟨⟨none, none, none, none, none, rfl⟩, rfl⟩ fun x dn env s hx hpre ⟨⟨y4, y5, y6, y7, y8, e1⟩, e2⟩ => by
      subst e1 e2
      have hx' := List.mem_zipIdx' hx
      have hxl := hx'.1
      have hd : dn.length = x.2 := by
        obtain ⟨t, e⟩ := hpre
        have h1 : lot.zipIdx[dn.length]? = some x := by
          rw [← e, List.append_assoc, List.getElem?_append_right (Nat.le_refl _), Nat.sub_self]
          rfl
        rw [List.getElem?_zipIdx] at h1
        obtain ⟨y, hy, e⟩ := Option.map_eq_some_iff.mp h1
        have := congrArg Prod.snd e
        simp at this
        exact this
      obtain ⟨g1, g2⟩ := lwFrom_len' (adj := adj ps) (lot := lot) (pots := pots) dn
      rw [hd] at g1 g2
      have g3 := pow_most hpow (Nat.le_of_lt hxl)
      have g4 := pow_most hpow (show x.2 + 1 ≤ lot.length from hxl)
      generalize hW : lwFrom (adj ps) lot pots dn [[]] = W at g1 g2
      have tot : (lwStep (adj ps) lot pots x.2 x.1 W).length ≤ 1000000 := Nat.le_trans (lwStep_len (adj := adj ps) (lot := lot) (pots := pots) (i := x.2) (h := x.1) g2).1 (Nat.le_trans (Nat.mul_le_mul_right _ g1) g4)
      obtain ⟨env3, st3, j1, ⟨y73, y83, rfl⟩, rfl⟩ := for1 (C := run T (m + 1)) (p := .one 7) (e := .itr .seq (.cons (.var 3) .nil)) (s := (.seq (.asg (.one 8) (.comp (.one 9) (.itr .range1 (.cons (.var 4) .nil)) (.call c (.cons (.var 0) (.cons (.var 5) (.cons (.idx (.var 1) (.var 9)) .nil)))) (.idx (.var 7) (.var 9)))) (.asg (.one 6) (.bin .add (.var 6) (.comp (.one 10) (.itr .range2 (.cons (.con (.int (1))) (.cons (.bin .add (.var 2) (.con (.int (1)))) .nil))) (.cmp .nmem (.var 10) (.var 8)) (.bin .add (.var 7) (.tup (.cons (.var 10) .nil))))))))
        (env := [some (dTown N ps), some (enc lot), some (enc pots), some (dL W), some (.int x.2), some (enc x.1), some (dL ([] : List (List Nat))), y7, y8, none, none]) (st := s) (st1 := s) (f := enc (α := List Nat)) (xs := W)
        (fun dn2 env s' => (∃ y7 y8, env = [some (dTown N ps), some (enc lot), some (enc pots), some (dL W), some (.int x.2), some (enc x.1), some (dL (lwStep (adj ps) lot pots x.2 x.1 dn2)), y7, y8, none, none]) ∧ s' = s)
        (it_lst (vr rfl)) ⟨⟨y7, y8, rfl⟩, rfl⟩ fun t dn2 env s' ht2 hp2 ⟨⟨y7, y8, e1⟩, e2⟩ => by
          subst e1 e2
          have htl := g2 t ht2
          have hb := flat_pre (g := fun t => ((List.range' 1 pots).filter fun c => !decide (c ∈ barred (adj ps) lot x.2 x.1 t)).map fun c => t ++ [c]) hp2
          have hb2 : (lwStep (adj ps) lot pots x.2 x.1 (dn2 ++ [t])).length ≤ 1000000 := Nat.le_trans hb tot
          have es : lwStep (adj ps) lot pots x.2 x.1 (dn2 ++ [t]) = lwStep (adj ps) lot pots x.2 x.1 dn2 ++ ((List.range' 1 pots).filter fun c => !decide (c ∈ barred (adj ps) lot x.2 x.1 t)).map fun c => t ++ [c] := by
            unfold lwStep
            rw [List.flatMap_append, List.flatMap_singleton]
          refine ⟨_, [some (dTown N ps), some (enc lot), some (enc pots), some (dL W), some (.int x.2), some (enc x.1), some (dL (lwStep (adj ps) lot pots x.2 x.1 (dn2 ++ [t]))), some (enc t), some (dL (barred (adj ps) lot x.2 x.1 t)), none, none], s', rfl, sq (asg (cmpE (β := Nat) (xs := List.range x.2) (f := enc (α := Nat)) (fun k => adj ps x.1 (lot.getD k 0)) (fun k => t.getD k 0) (it_rng1 (n := x.2) (vr rfl) (by omega) (by omega) (by omega)) rfl (fun k hk => ⟨_, rfl, tb (cl (al (vr rfl) (al (vr rfl) (al (ix (vr rfl) (vr rfl) (ixT (getD_at (Nat.lt_trans (List.mem_range.mp hk) hxl)))) al0))) (k1 _ _ (by omega) hs N ps _ _ ht)), fun _ => ix (vr rfl) (vr rfl) (ixT (getD_at (by rw [htl]; exact List.mem_range.mp hk)))⟩) ?_) rfl) (asg (d := dL (lwStep (adj ps) lot pots x.2 x.1 (dn2 ++ [t]))) (bn (vr rfl) (cmpE (β := List Nat) (xs := List.range' 1 pots) (f := enc (α := Nat)) (fun c => !decide (c ∈ barred (adj ps) lot x.2 x.1 t)) (fun c => t ++ [c]) (it_rng2 (k := 1) (j := pots + 1) cn (bn (vr rfl) cn rfl) (by omega) (by omega)) rfl (fun c hc => ⟨_, rfl, tb (cm (vr rfl) (vr rfl) (nmemL_ (x := c))), fun _ => bn (vr rfl) (tp1 (vr rfl)) (addT ?_)⟩) ?_) ?_) rfl), rfl, ⟨_, _, rfl⟩, rfl⟩
          · rw [List.length_range]
            show _ ≤ 16777216
            omega
          · rw [List.length_append, htl]
            show x.2 + 1 ≤ 16777216
            omega
          · rw [List.length_range']
            show _ ≤ 16777216
            omega
          · rw [es] at hb2 ⊢
            exact addL (Nat.le_trans hb2 (by decide))
      refine ⟨_, _, _, rfl, sq (asg (ls al0 (Nat.zero_le _)) rfl) (sq j1 (asg (vr rfl) rfl)), rfl, ⟨some (.int x.2), some (enc x.1), some (dL (lwStep (adj ps) lot pots x.2 x.1 W)), y73, y83, ?_⟩, rfl⟩
      rw [lw_snoc, hW]
      rfl
  exact run_pl hs hT rfl pl_L (sq (asg (ls1 (v := ([] : List Nat)) (tp al0 (Nat.zero_le _))) rfl) (sq h1 (rt (vr rfl))))
def SpLNeed (T : List FD) (i : Nat) : Prop := ∀ (n : Nat) (st : St), 3 ≤ n → Low st → ∀ (N : Nat) (ps : Prs) (lot : List Nat), Town N ps → lot ∈ lots N → run T n i [dTown N ps, enc lot] st = .ok (enc (few N ps lot)) st
theorem lneed_ok {i c : Nat} (hT : T[i]? = some (F__law_need c)) (k1 : SpLWays T c) : SpLNeed T i := fun n st hn hs N ps lot ht hlot => by
  obtain ⟨m, rfl⟩ := Nat.exists_eq_add_of_le' hn
  have hm := ht.most
  obtain ⟨l1, l2, l3⟩ := lots_is hlot
  obtain ⟨f1, f2, f3⟩ := few_is (ps := ps) l2
  have pw : ∀ p, p ≤ few N ps lot → p ^ lot.length ≤ 1000000 := fun p hp => by
    have h1 : p ^ lot.length ≤ 7 ^ lot.length := Nat.pow_le_pow_left (by omega) _
    have h2 : 7 ^ lot.length ≤ 7 ^ 7 := Nat.pow_le_pow_right (by decide) (by omega)
    exact Nat.le_trans h1 (Nat.le_trans h2 (by decide))
  have cond : ∀ p, p ≤ few N ps lot → bnd (ev (run T (m + 2)) (.cmp .eq (.call c (.cons (.var 0) (.cons (.var 1) (.cons (.var 2) .nil)))) (.lst .nil)) [some (dTown N ps), some (enc lot), some (enc p)]) truth st = .ok (decide (lawWays (adj ps) lot p = [])) st := fun p hp =>
    tb (cm (cl (al (vr rfl) (al (vr rfl) (al (vr rfl) al0))) (k1 _ _ (by omega) hs N ps lot p ht (by omega) (by omega) (pw p hp))) (ls al0 (Nat.zero_le _)) (eq_L (x := lawWays (adj ps) lot p) (y := [])))
  have lp := while_up (C := run T (m + 2)) (c := .cmp .eq (.call c (.cons (.var 0) (.cons (.var 1) (.cons (.var 2) .nil)))) (.lst .nil)) (s := .asg (.one 2) (.bin .add (.var 2) (.con (.int (1))))) (st := st) (envs := fun p => [some (dTown N ps), some (enc lot), some (enc p)]) (m := few N ps lot) (fun p hp => ⟨by rw [cond p (Nat.le_of_lt hp), decide_eq_true (f1 p hp)], asg (bn (vr rfl) cn rfl) rfl⟩) (by rw [cond _ (Nat.le_refl _), decide_eq_false f2]) (few N ps lot) 0 1000 (by omega) (by omega)
  exact run_pl hs hT rfl (Dat.pl _) (sq (asg cn rfl) (sq lp (rt (vr rfl))))
def SpLRows (T : List FD) (i : Nat) : Prop := ∀ (n : Nat) (st : St), 2 ≤ n → Low st → ∀ (N : Nat) (ps : Prs), Town N ps → run T n i [dTown N ps] st = .ok (dL (bareL N ps)) st
theorem lrows_ok {i c d : Nat} (hT : T[i]? = some (F__law_rows c d)) (k1 : SpLLots T c) (k2 : SpLNear T d) : SpLRows T i := fun n st hn hs N ps ht => by
  obtain ⟨m, rfl⟩ := Nat.exists_eq_add_of_le' hn
  have hm := ht.most
  have hL := lotsS_most hm
  have lw : ∀ acc : List (List Nat), Low (st ++ [.lst (acc.map enc)]) := fun acc => low_snoc hs (pl_map _)
  have h0 : bnd (ev (run T (m + 1)) (.itr .seq (.cons (.call c (.cons (.idx (.var 0) (.con (.int (0)))) .nil)) .nil)) [some (dTown N ps), some (.cell st.length), none, none, none, none, none, none, none]) srcOf (st ++ [.lst (([] : List (List Nat)).map enc)]) = .ok ((lotsS N).map enc, none) (st ++ [.lst (([] : List (List Nat)).map enc)]) :=
    it_lst (cl (al (ix (vr rfl) cn rfl) al0) (k1 _ _ (by omega) (lw []) N hm))
  obtain ⟨env2, h1, ⟨y2, y3, y4, y6, y7, y8, rfl⟩⟩ := for_acc (C := run T (m + 1)) (p := .one 2) (e := .itr .seq (.cons (.call c (.cons (.idx (.var 0) (.con (.int (0)))) .nil)) .nil)) (s := (.ite (.cmp .eq (.prim .len (.cons (.var 2) .nil)) (.con (.int (4)))) (.for_ (.one 3) (.itr .seq (.cons (.var 2) .nil)) (.for_ (.one 4) (.itr .seq (.cons (.comp (.one 5) (.itr .seq (.cons (.var 2) .nil)) (.and (.cmp .gt (.var 5) (.var 3)) (.not (.call d (.cons (.var 0) (.cons (.var 3) (.cons (.var 5) .nil)))))) (.var 5)) .nil)) (.for_ (.one 6) (.itr .seq (.cons (.comp (.one 5) (.itr .seq (.cons (.var 2) .nil)) (.cmp .nmem (.var 5) (.tup (.cons (.var 3) (.cons (.var 4) .nil)))) (.var 5)) .nil)) (.seq (.asg (.one 7) (.idx (.comp (.one 5) (.itr .seq (.cons (.var 2) .nil)) (.cmp .nmem (.var 5) (.tup (.cons (.var 3) (.cons (.var 6) (.cons (.var 4) .nil))))) (.var 5)) (.con (.int (0))))) (.seq (.asg (.one 8) (.lst (.cons (.call d (.cons (.var 0) (.cons (.var 3) (.cons (.var 6) .nil)))) (.cons (.call d (.cons (.var 0) (.cons (.var 6) (.cons (.var 7) .nil)))) (.cons (.call d (.cons (.var 0) (.cons (.var 7) (.cons (.var 4) .nil)))) .nil))))) (.ite (.and (.cmp .eq (.var 8) (.bin .mul (.lst (.cons (.con (.bl true)) .nil)) (.con (.int (3))))) (.and (.not (.call d (.cons (.var 0) (.cons (.var 3) (.cons (.var 7) .nil))))) (.not (.call d (.cons (.var 0) (.cons (.var 6) (.cons (.var 4) .nil))))))) (.drop (.meth .append (.var 1) (.cons (.tup (.cons (.var 3) (.cons (.var 6) (.cons (.var 7) (.cons (.var 4) .nil))))) .nil))) .skip)))))) .skip))
    (env := [some (dTown N ps), some (.cell st.length), none, none, none, none, none, none, none]) (st := st) (f := enc (α := List Nat)) (xs := lotsS N) (lawLot (adj ps)) (fun env => ∃ y2 y3 y4 y6 y7 y8, env = [some (dTown N ps), some (.cell st.length), y2, y3, y4, none, y6, y7, y8]) (acc := []) 100000 h0 ⟨none, none, none, none, none, none, rfl⟩ (by
      have := lawRows_most (adj := adj ps) (LL := lotsS N)
      show 0 + (lawRows (adj ps) (lotsS N)).length ≤ 100000
      omega) fun L hL env acc ⟨y2, y3, y4, y6, y7, y8, e⟩ hB => by
      subst e
      have hL := lots_is (lotsS_mem.mp hL)
      have hlen : ∀ st : St, cmpD .eq (enc L.length) (.int 4) st = .ok (.bl (decide (L.length = 4))) st := fun st => eq_ (α := Nat) (x := L.length) (y := 4)
      by_cases h4 : L.length = 4
      · have e4 : lawLot (adj ps) L = L.flatMap fun one => lawFour (adj ps) L one := if_pos h4
        rw [e4] at hB ⊢
        obtain ⟨env3, g1, ⟨y3, y4, y6, y7, y8, rfl⟩⟩ := for_acc (C := run T (m + 1)) (p := .one 3) (e := .itr .seq (.cons (.var 2) .nil)) (s := (.for_ (.one 4) (.itr .seq (.cons (.comp (.one 5) (.itr .seq (.cons (.var 2) .nil)) (.and (.cmp .gt (.var 5) (.var 3)) (.not (.call d (.cons (.var 0) (.cons (.var 3) (.cons (.var 5) .nil)))))) (.var 5)) .nil)) (.for_ (.one 6) (.itr .seq (.cons (.comp (.one 5) (.itr .seq (.cons (.var 2) .nil)) (.cmp .nmem (.var 5) (.tup (.cons (.var 3) (.cons (.var 4) .nil)))) (.var 5)) .nil)) (.seq (.asg (.one 7) (.idx (.comp (.one 5) (.itr .seq (.cons (.var 2) .nil)) (.cmp .nmem (.var 5) (.tup (.cons (.var 3) (.cons (.var 6) (.cons (.var 4) .nil))))) (.var 5)) (.con (.int (0))))) (.seq (.asg (.one 8) (.lst (.cons (.call d (.cons (.var 0) (.cons (.var 3) (.cons (.var 6) .nil)))) (.cons (.call d (.cons (.var 0) (.cons (.var 6) (.cons (.var 7) .nil)))) (.cons (.call d (.cons (.var 0) (.cons (.var 7) (.cons (.var 4) .nil)))) .nil))))) (.ite (.and (.cmp .eq (.var 8) (.bin .mul (.lst (.cons (.con (.bl true)) .nil)) (.con (.int (3))))) (.and (.not (.call d (.cons (.var 0) (.cons (.var 3) (.cons (.var 7) .nil))))) (.not (.call d (.cons (.var 0) (.cons (.var 6) (.cons (.var 4) .nil))))))) (.drop (.meth .append (.var 1) (.cons (.tup (.cons (.var 3) (.cons (.var 6) (.cons (.var 7) (.cons (.var 4) .nil))))) .nil))) .skip))))))
          (env := [some (dTown N ps), some (.cell st.length), some (enc L), y3, y4, none, y6, y7, y8]) (st := st) (f := enc (α := Nat)) (xs := L) (lawFour (adj ps) L) (fun env => ∃ y3 y4 y6 y7 y8, env = [some (dTown N ps), some (.cell st.length), some (enc L), y3, y4, none, y6, y7, y8]) (acc := acc) 100000 (it_tup (vr rfl)) ⟨_, _, _, _, _, rfl⟩ hB fun one hone env acc ⟨y3, y4, y6, y7, y8, e⟩ hB => by
            subst e
            have src1 : bnd (ev (run T (m + 1)) (.itr .seq (.cons (.comp (.one 5) (.itr .seq (.cons (.var 2) .nil)) (.and (.cmp .gt (.var 5) (.var 3)) (.not (.call d (.cons (.var 0) (.cons (.var 3) (.cons (.var 5) .nil)))))) (.var 5)) .nil)) [some (dTown N ps), some (.cell st.length), some (enc L), some (enc one), y4, none, y6, y7, y8]) srcOf (st ++ [.lst (acc.map enc)]) = .ok ((L.filter fun h => decide (one < h) && !adj ps one h).map enc, none) (st ++ [.lst (acc.map enc)]) :=
              it_lst (cmp_ (xs := L) (f := enc (α := Nat)) (fun h => decide (one < h) && !adj ps one h) enc (it_tup (vr rfl)) rfl (fun h hh => ⟨_, rfl, tb (an (cm (vr rfl) (vr rfl) gt_n) fun _ => nt (tb (cl (al (vr rfl) (al (vr rfl) (al (vr rfl) al0))) (k2 _ _ (by omega) (lw acc) N ps one h ht)))), fun _ => vr rfl⟩) (by rw [List.length_map]; exact Nat.le_trans (List.length_filter_le _ _) (by rw [h4]; decide)))
            obtain ⟨env4, g2, ⟨y4, y6, y7, y8, rfl⟩⟩ := for_acc (C := run T (m + 1)) (p := .one 4) (s := (.for_ (.one 6) (.itr .seq (.cons (.comp (.one 5) (.itr .seq (.cons (.var 2) .nil)) (.cmp .nmem (.var 5) (.tup (.cons (.var 3) (.cons (.var 4) .nil)))) (.var 5)) .nil)) (.seq (.asg (.one 7) (.idx (.comp (.one 5) (.itr .seq (.cons (.var 2) .nil)) (.cmp .nmem (.var 5) (.tup (.cons (.var 3) (.cons (.var 6) (.cons (.var 4) .nil))))) (.var 5)) (.con (.int (0))))) (.seq (.asg (.one 8) (.lst (.cons (.call d (.cons (.var 0) (.cons (.var 3) (.cons (.var 6) .nil)))) (.cons (.call d (.cons (.var 0) (.cons (.var 6) (.cons (.var 7) .nil)))) (.cons (.call d (.cons (.var 0) (.cons (.var 7) (.cons (.var 4) .nil)))) .nil))))) (.ite (.and (.cmp .eq (.var 8) (.bin .mul (.lst (.cons (.con (.bl true)) .nil)) (.con (.int (3))))) (.and (.not (.call d (.cons (.var 0) (.cons (.var 3) (.cons (.var 7) .nil))))) (.not (.call d (.cons (.var 0) (.cons (.var 6) (.cons (.var 4) .nil))))))) (.drop (.meth .append (.var 1) (.cons (.tup (.cons (.var 3) (.cons (.var 6) (.cons (.var 7) (.cons (.var 4) .nil))))) .nil))) .skip)))))
              (st := st) (f := enc (α := Nat)) (xs := L.filter fun h => decide (one < h) && !adj ps one h) (lawTwo (adj ps) L one) (fun env => ∃ y4 y6 y7 y8, env = [some (dTown N ps), some (.cell st.length), some (enc L), some (enc one), y4, none, y6, y7, y8]) (acc := acc) 100000 src1 ⟨_, _, _, _, rfl⟩ hB fun four hfour env acc ⟨y4, y6, y7, y8, e⟩ hB => by
                subst e
                have hfour := (List.mem_filter.mp hfour).1
                have src2 : bnd (ev (run T (m + 1)) (.itr .seq (.cons (.comp (.one 5) (.itr .seq (.cons (.var 2) .nil)) (.cmp .nmem (.var 5) (.tup (.cons (.var 3) (.cons (.var 4) .nil)))) (.var 5)) .nil)) [some (dTown N ps), some (.cell st.length), some (enc L), some (enc one), some (enc four), none, y6, y7, y8]) srcOf (st ++ [.lst (acc.map enc)]) = .ok ((L.filter fun h => !decide (h ∈ [one, four])).map enc, none) (st ++ [.lst (acc.map enc)]) :=
                  it_lst (cmp_ (xs := L) (f := enc (α := Nat)) (fun h => !decide (h ∈ [one, four])) enc (it_tup (vr rfl)) rfl (fun h hh => ⟨_, rfl, tb (cm (vr rfl) (tp (al (vr rfl) (al (vr rfl) al0)) (by show 2 ≤ line; decide)) (nmem_ (x := h) (l := [one, four]))), fun _ => vr rfl⟩) (by rw [List.length_map]; exact Nat.le_trans (List.length_filter_le _ _) (by rw [h4]; decide)))
                obtain ⟨env5, g3, ⟨y6, y7, y8, rfl⟩⟩ := for_acc (C := run T (m + 1)) (p := .one 6) (s := (.seq (.asg (.one 7) (.idx (.comp (.one 5) (.itr .seq (.cons (.var 2) .nil)) (.cmp .nmem (.var 5) (.tup (.cons (.var 3) (.cons (.var 6) (.cons (.var 4) .nil))))) (.var 5)) (.con (.int (0))))) (.seq (.asg (.one 8) (.lst (.cons (.call d (.cons (.var 0) (.cons (.var 3) (.cons (.var 6) .nil)))) (.cons (.call d (.cons (.var 0) (.cons (.var 6) (.cons (.var 7) .nil)))) (.cons (.call d (.cons (.var 0) (.cons (.var 7) (.cons (.var 4) .nil)))) .nil))))) (.ite (.and (.cmp .eq (.var 8) (.bin .mul (.lst (.cons (.con (.bl true)) .nil)) (.con (.int (3))))) (.and (.not (.call d (.cons (.var 0) (.cons (.var 3) (.cons (.var 7) .nil))))) (.not (.call d (.cons (.var 0) (.cons (.var 6) (.cons (.var 4) .nil))))))) (.drop (.meth .append (.var 1) (.cons (.tup (.cons (.var 3) (.cons (.var 6) (.cons (.var 7) (.cons (.var 4) .nil))))) .nil))) .skip))))
                  (st := st) (f := enc (α := Nat)) (xs := L.filter fun h => !decide (h ∈ [one, four])) (fun two => if lawCond (adj := adj ps) one two (lawThree L one four two) four then [[one, two, lawThree L one four two, four]] else []) (fun env => ∃ y6 y7 y8, env = [some (dTown N ps), some (.cell st.length), some (enc L), some (enc one), some (enc four), none, y6, y7, y8]) (acc := acc) 100000 src2 ⟨_, _, _, rfl⟩ hB fun two htwo env acc ⟨y6, y7, y8, e⟩ hB => by
                    subst e
                    have htwo := (List.mem_filter.mp htwo).1
                    have t3 := three_at hL.1 h4 hone htwo hfour
                    generalize lawThree L one four two = three at t3 hB ⊢
                    have a7 : Mp.exec (run T (m + 1)) (.asg (.one 7) (.idx (.comp (.one 5) (.itr .seq (.cons (.var 2) .nil)) (.cmp .nmem (.var 5) (.tup (.cons (.var 3) (.cons (.var 6) (.cons (.var 4) .nil))))) (.var 5)) (.con (.int (0))))) [some (dTown N ps), some (.cell st.length), some (enc L), some (enc one), some (enc four), none, some (enc two), y7, y8] (st ++ [.lst (acc.map enc)]) = .next [some (dTown N ps), some (.cell st.length), some (enc L), some (enc one), some (enc four), none, some (enc two), some (enc three), y8] (st ++ [.lst (acc.map enc)]) :=
                      asg (ix (y := dL (L.filter fun h => !decide (h ∈ [one, two, four]))) (cmp_ (xs := L) (f := enc (α := Nat)) (fun h => !decide (h ∈ [one, two, four])) enc (it_tup (vr rfl)) rfl (fun h hh => ⟨_, rfl, tb (cm (vr rfl) (tp (al (vr rfl) (al (vr rfl) (al (vr rfl) al0))) (by show 3 ≤ line; decide)) (nmem_ (x := h) (l := [one, two, four]))), fun _ => vr rfl⟩) (by rw [List.length_map]; exact Nat.le_trans (List.length_filter_le _ _) (by rw [h4]; decide))) cn (ixL (i := 0) t3)) rfl
                    have a8 : Mp.exec (run T (m + 1)) (.asg (.one 8) (.lst (.cons (.call d (.cons (.var 0) (.cons (.var 3) (.cons (.var 6) .nil)))) (.cons (.call d (.cons (.var 0) (.cons (.var 6) (.cons (.var 7) .nil)))) (.cons (.call d (.cons (.var 0) (.cons (.var 7) (.cons (.var 4) .nil)))) .nil))))) [some (dTown N ps), some (.cell st.length), some (enc L), some (enc one), some (enc four), none, some (enc two), some (enc three), y8] (st ++ [.lst (acc.map enc)]) = .next [some (dTown N ps), some (.cell st.length), some (enc L), some (enc one), some (enc four), none, some (enc two), some (enc three), some (.lst [.bl (adj ps one two), .bl (adj ps two three), .bl (adj ps three four)])] (st ++ [.lst (acc.map enc)]) :=
                      asg (ls (al (cl (al (vr rfl) (al (vr rfl) (al (vr rfl) al0))) (k2 _ _ (by omega) (lw acc) N ps one two ht)) (al (cl (al (vr rfl) (al (vr rfl) (al (vr rfl) al0))) (k2 _ _ (by omega) (lw acc) N ps two three ht)) (al (cl (al (vr rfl) (al (vr rfl) (al (vr rfl) al0))) (k2 _ _ (by omega) (lw acc) N ps three four ht)) al0))) (by show 3 ≤ line; decide)) rfl
                    have w1 : ∀ (a b c : Bool) (st : St), cmpD .eq (.lst [.bl a, .bl b, .bl c]) (.lst [.bl true, .bl true, .bl true]) st = .ok (.bl (decide ([a, b, c] = [true, true, true]))) st := fun a b c st => by cases a <;> cases b <;> cases c <;> rfl
                    have c8 : bnd (ev (run T (m + 1)) (.and (.cmp .eq (.var 8) (.bin .mul (.lst (.cons (.con (.bl true)) .nil)) (.con (.int (3))))) (.and (.not (.call d (.cons (.var 0) (.cons (.var 3) (.cons (.var 7) .nil))))) (.not (.call d (.cons (.var 0) (.cons (.var 6) (.cons (.var 4) .nil))))))) [some (dTown N ps), some (.cell st.length), some (enc L), some (enc one), some (enc four), none, some (enc two), some (enc three), some (.lst [.bl (adj ps one two), .bl (adj ps two three), .bl (adj ps three four)])]) truth (st ++ [.lst (acc.map enc)]) = .ok (lawCond (adj := adj ps) one two three four) (st ++ [.lst (acc.map enc)]) :=
                      tb (an (cm (vr rfl) (bn (ls (al cn al0) (by show 1 ≤ line; decide)) cn rfl) (w1 _ _ _ _)) fun _ => an (nt (tb (cl (al (vr rfl) (al (vr rfl) (al (vr rfl) al0))) (k2 _ _ (by omega) (lw acc) N ps one three ht)))) fun _ => nt (tb (cl (al (vr rfl) (al (vr rfl) (al (vr rfl) al0))) (k2 _ _ (by omega) (lw acc) N ps two four ht))))
                    refine ⟨_, [some (dTown N ps), some (.cell st.length), some (enc L), some (enc one), some (enc four), none, some (enc two), some (enc three), some (.lst [.bl (adj ps one two), .bl (adj ps two three), .bl (adj ps three four)])], rfl, sq a7 (sq a8 (iff_ (k := lawCond (adj := adj ps) one two three four) c8 ?_)), _, _, _, rfl⟩
                    cases q : lawCond (adj := adj ps) one two three four with
                    | true =>
                      rw [q, if_pos rfl] at hB
                      rw [if_pos rfl, if_pos rfl]
                      refine drp (d := .non) (mth (vr rfl) lstC_own (al (tp (al (vr rfl) (al (vr rfl) (al (vr rfl) (al (vr rfl) al0)))) (by show 4 ≤ line; decide)) al0) ?_)
                      rw [List.map_append]
                      refine app_own ?_
                      rw [List.length_map]
                      show acc.length < 16777216
                      omega
                    | false =>
                      rw [if_neg (by simp), if_neg (by simp), List.append_nil]
                      exact sk (C := run T (m + 1))
                exact ⟨_, _, rfl, g3, _, _, _, _, rfl⟩
            exact ⟨_, _, rfl, g2, _, _, _, _, _, rfl⟩
        refine ⟨_, _, rfl, ift (tb (k := true) (cm (pr (al (vr rfl) al0) prim_len) cn ?_)) g1, _, _, _, _, _, _, rfl⟩
        rw [hlen, decide_eq_true h4]
      · have e4 : lawLot (adj ps) L = [] := if_neg h4
        rw [e4, List.append_nil]
        refine ⟨_, _, rfl, ife (tb (k := false) (cm (pr (al (vr rfl) al0) prim_len) cn ?_)) sk, _, _, _, _, _, _, rfl⟩
        rw [hlen, decide_eq_false h4]
  rw [List.nil_append] at h1
  have hb : isort leb (lawRows (adj ps) (lotsS N)) = bareL N ps := isort_eq (rows_perm (adj_sy ps) lotsS_perm)
  have hne : ∀ x ∈ lawRows (adj ps) (lotsS N), x ≠ [] := fun x hx => by
    obtain ⟨a, b, c, d, rfl, _⟩ := (mem_lawRows (N := N) (fun L => lotsS_mem)).mp hx
    exact fun z => by cases z
  rw [← hb]
  exact run_ret hT rfl (sq (asg (nw al0 (Nat.zero_le _)) rfl) (sq h1 (rt (pr (al (vr rfl) al0) (sorted_at (l := lawRows (adj ps) (lotsS N)) deref_own (h2 := .inl hne)))))) (leave_own hs pl_L)
end
end Mk
end
section
set_option Elab.async false
set_option linter.all false
set_option maxRecDepth 100000
set_option maxHeartbeats 400000
/-! What the law k01 compares. -/
namespace Mk
open PySem Mp GM
open Dat (enc)
theorem lots_full {N : Nat} {l : List Nat} (h : l ∈ lots N) (hl : N ≤ l.length) : l = List.range N := by
  obtain ⟨h1, h2, _⟩ := lots_is h
  refine lt_uniq h1 List.pairwise_lt_range fun x => ?_
  rw [List.mem_range]
  refine ⟨h2 x, fun hx => ?_⟩
  by_cases z : x ∈ l
  · exact z
  · have nd : (x :: l).Nodup := List.nodup_cons.mpr ⟨z, h1.imp fun z => Nat.ne_of_lt z⟩
    have := List.Nodup.length_le_of_subset nd (l₂ := List.range N) fun y hy => by
      rw [List.mem_range]
      rcases List.mem_cons.mp hy with rfl | hy
      · exact hx
      · exact h2 y hy
    rw [List.length_cons, List.length_range] at this
    omega
theorem lotsS_ne {N : Nat} : lotsS N ≠ [] := fun z => by
  have := lotsS_mem.mpr (lots_nil N)
  rw [z] at this
  cases this
theorem last_of {α : Type} {l : List α} (h : l ≠ []) : ∃ x, l.getLast? = some x ∧ x ∈ l := ⟨l.getLast h, List.getLast?_eq_some_getLast h, List.getLast_mem h⟩
theorem first_of {α : Type} {l : List α} (h : l ≠ []) : ∃ x, l.head? = some x ∧ l[0]? = some x ∧ x ∈ l := by
  cases l with
  | nil => exact absurd rfl h
  | cons a r => exact ⟨a, rfl, rfl, List.mem_cons_self⟩
theorem lotsS_last {N : Nat} : (lotsS N).getLast? = some (List.range N) := by
  obtain ⟨x, h1, h2⟩ := last_of (lotsS_ne (N := N))
  have := last_most lenLe_sorted h1 _ (lotsS_mem.mpr (range_in_lots N))
  rw [List.length_range] at this
  rw [h1, lots_full (lotsS_mem.mp h2) this]
theorem filter_ite {α : Type} {p : α → Bool} : ∀ {l : List α}, (l.flatMap fun x => if p x then [x] else []) = l.filter p
  | [] => rfl
  | a :: l => by
    rw [List.flatMap_cons, filter_ite]
    cases h : p a with
    | true =>
      rw [List.filter_cons_of_pos h]
      rfl
    | false =>
      rw [List.filter_cons_of_neg (by rw [h]; simp)]
      rfl
def farOf (ps : Prs) (lot : List Nat) (l : List (Nat × Nat)) : List Nat := l.flatMap fun p => (lot.take p.2).filter fun o => !adj ps p.1 o
theorem far_mutual {N : Nat} {ps : Prs} {lot : List Nat} (hl : lot ∈ lots N) : decide (farOf ps lot lot.zipIdx = []) = mutualB N ps lot := by
  obtain ⟨h1, h2, _⟩ := lots_is hl
  rw [Bool.eq_iff_iff, decide_eq_true_eq]
  unfold farOf mutualB
  rw [List.flatMap_eq_nil_iff, List.all_eq_true]
  constructor
  · intro h x hx
    rw [List.all_eq_true]
    intro o ho
    obtain ⟨ho1, hne⟩ := List.mem_filter.mp ho
    rw [Bool.not_eq_true', decide_eq_false_iff_not] at hne
    rw [decide_eq_true_eq, mem_nb]
    refine ⟨h2 o ho1, ?_⟩
    have key : ∀ i j : Nat, (hi : i < lot.length) → (hj : j < lot.length) → i < j → adj ps lot[j] lot[i] = true := fun i j hi hj hij => by
      have := h (lot[j], j) (List.mem_zipIdx_iff_getElem?.mpr (List.getElem?_eq_getElem hj))
      have hm : lot[i] ∈ lot.take j := List.mem_take_iff_getElem.mpr ⟨i, by omega, rfl⟩
      cases z : adj ps lot[j] lot[i] with
      | true => rfl
      | false =>
        have hf : lot[i] ∈ (lot.take j).filter fun o => !adj ps lot[j] o := List.mem_filter.mpr ⟨hm, by rw [z]; rfl⟩
        rw [this] at hf
        cases hf
    obtain ⟨i, hi, rfl⟩ := List.mem_iff_getElem.mp hx
    obtain ⟨j, hj, rfl⟩ := List.mem_iff_getElem.mp ho1
    rcases Nat.lt_trichotomy i j with z | z | z
    · rw [adj_sy]
      exact key i j hi hj z
    · subst z
      exact absurd rfl hne
    · exact key j i hj hi z
  · intro h p hp
    rw [List.filter_eq_nil_iff]
    intro o ho
    have hp := List.mem_zipIdx_iff_getElem?.mp hp
    obtain ⟨hj, e⟩ := List.getElem?_eq_some_iff.mp hp
    obtain ⟨i, hi, e2⟩ := List.mem_take_iff_getElem.mp ho
    have hi' : i < p.2 ∧ i < lot.length := by omega
    have hlt := List.pairwise_iff_getElem.mp h1 i p.2 hi'.2 hj hi'.1
    rw [e2, e] at hlt
    have k := h p.1 (by rw [← e]; exact List.getElem_mem _)
    rw [List.all_eq_true] at k
    have k2 := k o (List.mem_filter.mpr ⟨by rw [← e2]; exact List.getElem_mem _, by rw [decide_eq_false (by omega)]; rfl⟩)
    rw [decide_eq_true_eq, mem_nb] at k2
    rw [k2.2]
    simp
def mutS (N : Nat) (ps : Prs) : List (List Nat) := (lotsS N).filter (mutualB N ps)
theorem mutS_ne {N : Nat} {ps : Prs} : mutS N ps ≠ [] := fun z => by
  have : [] ∈ mutS N ps := List.mem_filter.mpr ⟨lotsS_mem.mpr (lots_nil N), rfl⟩
  rw [z] at this
  cases this
theorem most_eq {N : Nat} {ps : Prs} {x : List Nat} (hx : (mutS N ps).getLast? = some x) : (mutS N ps).filter (fun l => decide (l.length = x.length)) = ofSize (mutLots N ps) (maxOf ((mutLots N ps).map List.length)) := by
  have hm : x ∈ mutS N ps := List.mem_of_getLast? hx
  have hmax := last_most ((lenLe_sorted (l := lots N)).filter (mutualB N ps)) hx
  have e : maxOf ((mutLots N ps).map List.length) = x.length := maxOf_eq (List.mem_map_of_mem (List.mem_filter.mpr ⟨lotsS_mem.mp (List.mem_filter.mp hm).1, (List.mem_filter.mp hm).2⟩)) fun y hy => by
    obtain ⟨l, hl, rfl⟩ := List.mem_map.mp hy
    exact hmax l (List.mem_filter.mpr ⟨lotsS_mem.mpr (List.mem_filter.mp hl).1, (List.mem_filter.mp hl).2⟩)
  rw [e]
  exact size_eq
def goodP (N : Nat) (ps : Prs) (lot : List Nat) : Bool := decide (((bareL N ps).filter fun line => decide ((line.filter fun h => decide (h ∈ lot)) = [])) = [])
def goodS (N : Nat) (ps : Prs) : List (List Nat) := (lotsS N).filter (goodP N ps)
theorem goodP_eq {N : Nat} {ps : Prs} {lot : List Nat} : goodP N ps lot = (bareL N ps).all fun row => row.any fun h => decide (h ∈ lot) := by
  unfold goodP
  rw [Bool.eq_iff_iff, decide_eq_true_eq, List.filter_eq_nil_iff, List.all_eq_true]
  refine forall_congr' fun row => forall_congr' fun _ => ?_
  rw [decide_eq_true_eq, List.filter_eq_nil_iff, List.any_eq_true]
  constructor
  · intro h
    by_cases z : ∃ x, x ∈ row ∧ decide (x ∈ lot) = true
    · exact z
    · exact absurd (fun x hx k => z ⟨x, hx, k⟩) h
  · rintro ⟨x, hx, k⟩ h
    exact h x hx k
theorem goodS_out {N : Nat} {ps : Prs} : goodS N ps = (lotsS N).filter fun lot => (bareL N ps).all fun row => row.any fun h => decide (h ∈ lot) := by
  unfold goodS
  exact List.filter_congr fun lot _ => goodP_eq
theorem goodS_ne {N : Nat} {ps : Prs} : goodS N ps ≠ [] := fun z => by
  rw [goodS_out] at z
  obtain ⟨x, hx⟩ := List.exists_mem_of_ne_nil _ (outLots_ne (N := N) (ps := ps))
  have hx := List.mem_filter.mp hx
  have : x ∈ (lotsS N).filter fun lot => (bareL N ps).all fun row => row.any fun h => decide (h ∈ lot) := List.mem_filter.mpr ⟨lotsS_mem.mpr hx.1, hx.2⟩
  rw [z] at this
  cases this
theorem out_eq {N : Nat} {ps : Prs} {x : List Nat} (hx : (goodS N ps).head? = some x) : (goodS N ps).filter (fun l => decide (l.length = x.length)) = ofSize (outLots N ps) (minOf ((outLots N ps).map List.length)) := by
  rw [goodS_out] at hx ⊢
  have hm := List.mem_of_head? hx
  have hmin := first_least ((lenLe_sorted (l := lots N)).filter fun lot => (bareL N ps).all fun row => row.any fun h => decide (h ∈ lot)) hx
  have e : minOf ((outLots N ps).map List.length) = x.length := minOf_eq (List.mem_map_of_mem (List.mem_filter.mpr ⟨lotsS_mem.mp (List.mem_filter.mp hm).1, (List.mem_filter.mp hm).2⟩)) fun y hy => by
    obtain ⟨l, hl, rfl⟩ := List.mem_map.mp hy
    exact hmin l (List.mem_filter.mpr ⟨lotsS_mem.mpr (List.mem_filter.mp hl).1, (List.mem_filter.mp hl).2⟩)
  rw [e]
  exact size_eq
theorem near_eq {N : Nat} {ps : Prs} {h : Nat} (ht : Town N ps) : (List.range N).filter (fun o => !decide (o = h) && adj ps o h) = nbs N ps h := by
  unfold nbs nb
  refine List.filter_congr fun o _ => ?_
  rw [adj_sy ps o h]
  cases z : adj ps h o with
  | false => rw [Bool.and_false]
  | true =>
    have := ht.adj_lt z
    rw [decide_eq_false (by omega)]
    rfl
theorem count_eq {N : Nat} {ps : Prs} {p : Nat} : (lawWays (adj ps) (List.range N) p).length = sm (fun P => prm p P.length) (parts (frT N ps) (List.range N) [[]]) := count_ways (frT_is fun x hx => List.mem_range.mp hx)
end Mk
end
section
set_option Elab.async false
set_option linter.all false
namespace GM
/-! Maps without bare rows fall apart, or their other sides do. -/
def P4 (adj : Nat → Nat → Bool) (V : List Nat) : Prop := ∃ a b c d, (a ∈ V ∧ b ∈ V ∧ c ∈ V ∧ d ∈ V) ∧ (b ≠ a ∧ c ≠ a ∧ c ≠ b ∧ d ≠ a ∧ d ≠ b ∧ d ≠ c) ∧ (adj a b = true ∧ adj b c = true ∧ adj c d = true) ∧ (adj a c = false ∧ adj a d = false ∧ adj b d = false)
/-- parted in two, nothing between -/
def Sep (adj : Nat → Nat → Bool) (V : List Nat) : Prop := ∃ S : Nat → Bool, (∃ x ∈ V, S x = true) ∧ (∃ y ∈ V, S y = false) ∧ ∀ x ∈ V, ∀ y ∈ V, S x = true → S y = false → adj x y = false
def co (adj : Nat → Nat → Bool) (x y : Nat) : Bool := !adj x y
theorem P4.co {adj : Nat → Nat → Bool} {V : List Nat} (sy : ∀ x y, adj x y = adj y x) (h : P4 (co adj) V) : P4 adj V := by
  obtain ⟨a, b, c, d, ⟨m1, m2, m3, m4⟩, ⟨n1, n2, n3, n4, n5, n6⟩, ⟨e1, e2, e3⟩, f1, f2, f3⟩ := h
  simp only [GM.co, Bool.not_eq_true', Bool.not_eq_false'] at e1 e2 e3 f1 f2 f3
  exact ⟨b, d, a, c, ⟨m2, m4, m1, m3⟩, ⟨n5, Ne.symm n1, Ne.symm n4, n3, Ne.symm n6, n2⟩, ⟨f3, by rw [sy]; exact f2, f1⟩, by rw [sy]; exact e1, e2, by rw [sy]; exact e3⟩
theorem P4.mono {adj : Nat → Nat → Bool} {V W : List Nat} (h : ∀ x ∈ V, x ∈ W) (p : P4 adj V) : P4 adj W := by
  obtain ⟨a, b, c, d, ⟨m1, m2, m3, m4⟩, r⟩ := p
  exact ⟨a, b, c, d, ⟨h a m1, h b m2, h c m3, h d m4⟩, r⟩
theorem co_co (adj : Nat → Nat → Bool) : co (co adj) = adj := by
  funext x y
  unfold co
  rw [Bool.not_not]
/-- one vertex more, where the rest falls apart -/
theorem sep_step {adj : Nat → Nat → Bool} {V : List Nat} {v : Nat} (sy : ∀ x y, adj x y = adj y x) (hv : v ∉ V) (h : Sep adj V) : P4 adj (v :: V) ∨ Sep adj (v :: V) ∨ Sep (co adj) (v :: V) := by
  obtain ⟨S, ⟨x0, hx0, sx0⟩, ⟨y0, hy0, sy0⟩, hS⟩ := h
  have ne : ∀ x ∈ V, x ≠ v := fun x hx e => hv (e ▸ hx)
  -- one side has a house apart from v
  have key : ∀ S : Nat → Bool, (∃ x ∈ V, S x = true) → (∃ y ∈ V, S y = false) → (∀ x ∈ V, ∀ y ∈ V, S x = true → S y = false → adj x y = false) → (∃ y ∈ V, S y = true ∧ adj v y = false) → P4 adj (v :: V) ∨ Sep adj (v :: V) := by
    intro S hS1 hS2 hS ⟨y, hy, syt, hvy⟩
    -- v has a neighbor on the other side
    by_cases hz : ∃ z ∈ V, S z = false ∧ adj v z = true
    · obtain ⟨z, hz, sz, hvz⟩ := hz
      -- an edge within the side, from a neighbor of v to none
      by_cases he : ∃ x ∈ V, ∃ w ∈ V, S x = true ∧ S w = true ∧ adj v x = true ∧ adj v w = false ∧ adj x w = true
      · obtain ⟨x, hx, w, hw, sx, sw, hvx, hvw, hxw⟩ := he
        have hwz := hS w hw z hz sw sz
        have hxz := hS x hx z hz sx sz
        refine .inl ⟨w, x, v, z, ⟨List.mem_cons_of_mem _ hw, List.mem_cons_of_mem _ hx, List.mem_cons_self, List.mem_cons_of_mem _ hz⟩, ⟨fun e => ?_, fun e => ?_, fun e => ?_, fun e => ?_, fun e => ?_, ne z hz⟩, ⟨by rw [sy]; exact hxw, by rw [sy]; exact hvx, hvz⟩, by rw [sy]; exact hvw, hwz, hxz⟩
        · subst e; rw [hvx] at hvw; cases hvw
        · exact ne w hw e.symm
        · exact ne x hx e.symm
        · subst e; rw [sz] at sw; cases sw
        · subst e; rw [sz] at sx; cases sx
      · -- the houses of the side that are none of v's neighbors stand apart
        refine .inr ⟨fun u => decide (u ∈ V) && S u && !adj v u, ⟨y, List.mem_cons_of_mem _ hy, by simp [hy, syt, hvy]⟩, ⟨v, List.mem_cons_self, by simp [hv]⟩, fun a ha b hb sa sb => ?_⟩
        simp only [Bool.and_eq_true, decide_eq_true_eq, Bool.not_eq_true'] at sa
        obtain ⟨⟨aV, sa1⟩, sa2⟩ := sa
        rcases List.mem_cons.mp hb with rfl | hb
        · rw [sy]; exact sa2
        · cases q : S b with
          | false => exact hS a aV b hb sa1 q
          | true =>
            cases r : adj v b with
            | false => simp [hb, q, r] at sb
            | true =>
              cases t : adj a b with
              | false => rfl
              | true => exact absurd ⟨b, hb, a, aV, q, sa1, r, sa2, by rw [sy]; exact t⟩ he
    · -- the other side stands apart
      refine .inr ⟨fun u => decide (u ∈ V) && !S u, ?_, ⟨v, List.mem_cons_self, by simp [hv]⟩, fun a ha b hb sa sb => ?_⟩
      · obtain ⟨y, hy, e⟩ := hS2
        exact ⟨y, List.mem_cons_of_mem _ hy, by simp [hy, e]⟩
      · simp only [Bool.and_eq_true, decide_eq_true_eq, Bool.not_eq_true'] at sa
        obtain ⟨aV, sa1⟩ := sa
        rcases List.mem_cons.mp hb with rfl | hb
        · rw [sy]
          cases t : adj b a with
          | false => rfl
          | true => exact absurd ⟨a, aV, sa1, t⟩ hz
        · cases q : S b with
          | true => rw [sy]; exact hS b hb a aV q sa1
          | false => simp [hb, q] at sb
  by_cases h1 : ∃ y ∈ V, S y = true ∧ adj v y = false
  · rcases key S ⟨x0, hx0, sx0⟩ ⟨y0, hy0, sy0⟩ hS h1 with h | h
    · exact .inl h
    · exact .inr (.inl h)
  · by_cases h2 : ∃ y ∈ V, S y = false ∧ adj v y = false
    · obtain ⟨y, hy, e1, e2⟩ := h2
      rcases key (fun u => !S u) ⟨y0, hy0, by simp [sy0]⟩ ⟨x0, hx0, by simp [sx0]⟩ (fun x hx y hy a b => by
        rw [sy]
        exact hS y hy x hx (by simpa using b) (by simpa using a)) ⟨y, hy, by simp [e1], e2⟩ with h | h
      · exact .inl h
      · exact .inr (.inl h)
    · -- v is a neighbor of all
      refine .inr (.inr ⟨fun u => decide (u = v), ⟨v, List.mem_cons_self, by simp⟩, ⟨x0, List.mem_cons_of_mem _ hx0, by simp [ne x0 hx0]⟩, fun a ha b hb sa sb => ?_⟩)
      have e : a = v := of_decide_eq_true sa
      subst e
      have hb' : b ∈ V := by
        rcases List.mem_cons.mp hb with rfl | hb
        · simp at sb
        · exact hb
      show (!adj a b) = false
      cases t : adj a b with
      | true => rfl
      | false =>
        cases q : S b with
        | true => exact absurd ⟨b, hb', q, t⟩ h1
        | false => exact absurd ⟨b, hb', q, t⟩ h2
theorem co_sy {adj : Nat → Nat → Bool} (sy : ∀ x y, adj x y = adj y x) : ∀ x y, co adj x y = co adj y x := fun x y => by
  unfold co
  rw [sy]
/-- a map of two houses or more has a bare row, or falls apart, or its other side does -/
theorem seinsche {adj : Nat → Nat → Bool} (sy : ∀ x y, adj x y = adj y x) : ∀ {V : List Nat}, V.Nodup → 2 ≤ V.length → P4 adj V ∨ Sep adj V ∨ Sep (co adj) V
  | [], _, h => absurd h (by decide)
  | [x], _, h => absurd h (by simp)
  | [a, b], nd, _ => by
    have hab : a ≠ b := by simpa using nd
    cases e : adj a b with
    | false =>
      refine .inr (.inl ⟨fun u => decide (u = a), ⟨a, by simp, by simp⟩, ⟨b, by simp, by simp [Ne.symm hab]⟩, fun x hx y hy sx sy' => ?_⟩)
      have : x = a := of_decide_eq_true sx
      subst this
      simp only [List.mem_cons, List.not_mem_nil, or_false] at hy
      rcases hy with rfl | rfl
      · simp at sy'
      · exact e
    | true =>
      refine .inr (.inr ⟨fun u => decide (u = a), ⟨a, by simp, by simp⟩, ⟨b, by simp, by simp [Ne.symm hab]⟩, fun x hx y hy sx sy' => ?_⟩)
      have : x = a := of_decide_eq_true sx
      subst this
      simp only [List.mem_cons, List.not_mem_nil, or_false] at hy
      rcases hy with rfl | rfl
      · simp at sy'
      · unfold co
        rw [e]
        rfl
  | v :: a :: b :: V, nd, _ => by
    obtain ⟨hv, nd⟩ := List.nodup_cons.mp nd
    rcases seinsche sy (V := a :: b :: V) nd (by simp) with h | h | h
    · exact .inl (h.mono fun x hx => List.mem_cons_of_mem _ hx)
    · exact sep_step sy hv h
    · rcases sep_step (co_sy sy) hv h with h | h | h
      · exact .inl (h.co sy)
      · exact .inr (.inr h)
      · rw [co_co] at h
        exact .inr (.inl h)
/-! groups: houses that belong together -/
open Mp (isort leb)
/-- a house joins the groups that it belongs with -/
def keptG (rel : Nat → Nat → Bool) (G : List (List Nat)) (x : Nat) : List (List Nat) := G.filter fun g => g.any fun o => rel x o
def joinG (rel : Nat → Nat → Bool) (G : List (List Nat)) (x : Nat) : List (List Nat) := (G.filter fun g => !decide (g ∈ keptG rel G x)) ++ [isort leb (([x] :: keptG rel G x).flatMap id)]
def groupsF (rel : Nat → Nat → Bool) (lot : List Nat) : List (List Nat) := lot.foldl (joinG rel) []
def sortG (rel : Nat → Nat → Bool) (lot : List Nat) : List (List Nat) := isort leb (groupsF rel lot)
theorem lebN {a b : Nat} : leb a b = true ↔ a ≤ b := by
  show (!decide (b < a)) = true ↔ _
  simp
theorem sortN {l : List Nat} : (isort leb l).Pairwise fun a b => a ≤ b := (isort_sorted (le := leb) (fun a b => by rw [lebN, lebN]; omega) (fun a b c h k => by rw [lebN] at *; omega)).imp fun h => lebN.mp h
theorem sortN_lt {l : List Nat} (h : l.Nodup) : (isort leb l).Pairwise fun a b => a < b := by
  have h1 := sortN (l := l)
  have h2 : (isort leb l).Nodup := isort_perm.nodup_iff.mpr h
  exact List.Pairwise.imp (fun ⟨a, b⟩ => by omega) (List.Pairwise.and h1 h2)
def Insep (rel : Nat → Nat → Bool) (g : List Nat) : Prop := ∀ S : Nat → Bool, (∀ x ∈ g, ∀ y ∈ g, S x = true → S y = false → rel x y = false) → ∀ x ∈ g, ∀ y ∈ g, S x = S y
structure GInv (rel : Nat → Nat → Bool) (dn : List Nat) (G : List (List Nat)) : Prop where
  ne : ∀ g ∈ G, g ≠ []
  asc : ∀ g ∈ G, g.Pairwise fun a b => a < b
  perm : (G.flatMap id).Perm dn
  apart : G.Pairwise fun g h => ∀ x ∈ g, ∀ y ∈ h, rel x y = false
  one : ∀ g ∈ G, Insep rel g
theorem pairwise_filter2 {α : Type} {R : α → α → Prop} {p : α → Bool} {l : List α} (sy : ∀ a b, R a b → R b a) (h : l.Pairwise R) : ∀ a ∈ l.filter p, ∀ b ∈ l.filter fun a => !p a, R a b := by
  intro a ha b hb
  obtain ⟨ha, pa⟩ := List.mem_filter.mp ha
  obtain ⟨hb, pb⟩ := List.mem_filter.mp hb
  obtain ⟨i, hi, rfl⟩ := List.mem_iff_getElem.mp ha
  obtain ⟨j, hj, rfl⟩ := List.mem_iff_getElem.mp hb
  have k := List.pairwise_iff_getElem.mp h
  rcases Nat.lt_trichotomy i j with z | z | z
  · exact k i j hi hj z
  · subst z
    rw [pa] at pb
    cases pb
  · exact sy _ _ (k j i hj hi z)
theorem flat_split {α : Type} {p : List α → Bool} : ∀ G : List (List α), ((G.filter p).flatMap id ++ (G.filter fun g => !p g).flatMap id).Perm (G.flatMap id) := fun G => by
  have h := (List.filter_append_perm p G)
  have := h.flatMap_right id
  rwa [List.flatMap_append] at this
theorem GInv.step {rel : Nat → Nat → Bool} {dn : List Nat} {G : List (List Nat)} {x : Nat} (sy : ∀ x y, rel x y = rel y x) (I : GInv rel dn G) (nd : (dn ++ [x]).Nodup) : GInv rel (dn ++ [x]) (joinG rel G x) := by
  have hp : ∀ g ∈ G, (!decide (g ∈ keptG rel G x)) = !(g.any fun o => rel x o) := fun g hg => by
    unfold keptG
    congr 1
    cases e : g.any fun o => rel x o with
    | true => exact decide_eq_true (List.mem_filter.mpr ⟨hg, e⟩)
    | false =>
      refine decide_eq_false fun z => ?_
      have := (List.mem_filter.mp z).2
      rw [e] at this
      cases this
  have ho : (G.filter fun g => !decide (g ∈ keptG rel G x)) = G.filter fun g => !(g.any fun o => rel x o) := List.filter_congr hp
  have hndn : dn.Nodup := (List.nodup_append.mp nd).1
  have hx : x ∉ dn := fun z => (List.nodup_append.mp nd).2.2 x z x List.mem_cons_self rfl
  have hin : ∀ g ∈ G, ∀ y ∈ g, y ∈ dn := fun g hg y hy => I.perm.mem_iff.mp (List.mem_flatMap.mpr ⟨g, hg, hy⟩)
  have hall : ((([x] :: keptG rel G x).flatMap id) ++ (G.filter fun g : List Nat => !(g.any fun o => rel x o)).flatMap id).Perm (dn ++ [x]) := by
    show ([x] ++ (keptG rel G x).flatMap id ++ _).Perm _
    rw [List.append_assoc]
    have h1 := (flat_split (p := fun g => g.any fun o => rel x o) G).trans I.perm
    exact ((List.Perm.append_left [x] h1).trans List.perm_append_comm)
  have hnew : (([x] :: keptG rel G x).flatMap id).Nodup := (List.nodup_append.mp (hall.nodup_iff.mpr nd)).1
  have hmem : ∀ y, y ∈ isort leb (([x] :: keptG rel G x).flatMap id) ↔ y = x ∨ ∃ g ∈ keptG rel G x, y ∈ g := fun y => by
    rw [isort_perm.mem_iff, List.flatMap_cons, List.mem_append, List.mem_flatMap]
    simp
  unfold joinG
  rw [ho]
  refine ⟨fun g hg => ?_, fun g hg => ?_, ?_, ?_, fun g hg => ?_⟩
  · rcases List.mem_append.mp hg with hg | hg
    · exact I.ne g (List.mem_filter.mp hg).1
    · rw [List.mem_singleton.mp hg]
      intro z
      have := (hmem x).mpr (.inl rfl)
      rw [z] at this
      cases this
  · rcases List.mem_append.mp hg with hg | hg
    · exact I.asc g (List.mem_filter.mp hg).1
    · rw [List.mem_singleton.mp hg]
      exact sortN_lt hnew
  · rw [List.flatMap_append]
    show ((G.filter fun g : List Nat => !(g.any fun o => rel x o)).flatMap id ++ (isort leb (([x] :: keptG rel G x).flatMap id) ++ [])).Perm _
    rw [List.append_nil]
    exact (List.perm_append_comm.trans ((List.Perm.append_right _ isort_perm))).trans hall
  · refine List.pairwise_append.mpr ⟨List.Pairwise.filter _ I.apart, List.pairwise_singleton _ _, fun g hg h hh a ha b hb => ?_⟩
    rw [List.mem_singleton.mp hh] at hb
    obtain ⟨hgG, hgp⟩ := List.mem_filter.mp hg
    rcases (hmem b).mp hb with rfl | ⟨k, hk, hbk⟩
    · rw [Bool.not_eq_true', List.any_eq_false] at hgp
      rw [sy]
      simpa using hgp a ha
    · have := pairwise_filter2 (p := fun g : List Nat => g.any fun o => rel x o) (R := fun g h => ∀ x ∈ g, ∀ y ∈ h, rel x y = false) (fun a b h y hy z hz => by rw [sy]; exact h z hz y hy) I.apart k hk g (List.mem_filter.mpr ⟨hgG, hgp⟩)
      rw [sy]
      exact this b hbk a ha
  · rcases List.mem_append.mp hg with hg | hg
    · exact I.one g (List.mem_filter.mp hg).1
    · rw [List.mem_singleton.mp hg]
      intro S hS a ha b hb
      -- all are as x is
      have key : ∀ y, y ∈ isort leb (([x] :: keptG rel G x).flatMap id) → S y = S x := fun y hy => by
        rcases (hmem y).mp hy with rfl | ⟨k, hk, hyk⟩
        · rfl
        · obtain ⟨hkG, hkp⟩ := List.mem_filter.mp hk
          obtain ⟨o, hok, hro⟩ := List.any_eq_true.mp hkp
          have mo : o ∈ isort leb (([x] :: keptG rel G x).flatMap id) := (hmem o).mpr (.inr ⟨k, hk, hok⟩)
          have mx : x ∈ isort leb (([x] :: keptG rel G x).flatMap id) := (hmem x).mpr (.inl rfl)
          have e1 : S y = S o := I.one k hkG S (fun u hu w hw su sw => hS u ((hmem u).mpr (.inr ⟨k, hk, hu⟩)) w ((hmem w).mpr (.inr ⟨k, hk, hw⟩)) su sw) y hyk o hok
          rw [e1]
          cases p : S o with
          | true =>
            cases q : S x with
            | true => rfl
            | false =>
              have := hS o mo x mx p q
              rw [sy, hro] at this
              cases this
          | false =>
            cases q : S x with
            | false => rfl
            | true =>
              have := hS x mx o mo q p
              rw [hro] at this
              cases this
      rw [key a ha, key b hb]
theorem groups_from {rel : Nat → Nat → Bool} (sy : ∀ x y, rel x y = rel y x) : ∀ (rest dn : List Nat) (G : List (List Nat)), GInv rel dn G → (dn ++ rest).Nodup → GInv rel (dn ++ rest) (rest.foldl (joinG rel) G)
  | [], dn, G, I, _ => by rw [List.append_nil]; exact I
  | x :: rest, dn, G, I, nd => by
    have e : dn ++ x :: rest = (dn ++ [x]) ++ rest := by rw [List.append_assoc]; rfl
    rw [e] at nd ⊢
    exact groups_from sy rest (dn ++ [x]) _ (I.step sy (List.nodup_append.mp nd).1) nd
theorem groups_inv {rel : Nat → Nat → Bool} (sy : ∀ x y, rel x y = rel y x) {lot : List Nat} (nd : lot.Nodup) : GInv rel lot (groupsF rel lot) := groups_from sy lot [] [] ⟨(fun _ z => by cases z), (fun _ z => by cases z), .refl _, List.Pairwise.nil, (fun _ z => by cases z)⟩ nd
theorem GInv.sorted {rel : Nat → Nat → Bool} {lot : List Nat} {G H : List (List Nat)} (sy : ∀ x y, rel x y = rel y x) (I : GInv rel lot G) (p : H.Perm G) : GInv rel lot H :=
  ⟨fun g hg => I.ne g (p.mem_iff.mp hg), fun g hg => I.asc g (p.mem_iff.mp hg), (p.flatMap_right id).trans I.perm, (p.pairwise_iff (fun {g h} k x hx y hy => by rw [sy]; exact k y hy x hx)).mpr I.apart, fun g hg => I.one g (p.mem_iff.mp hg)⟩
theorem sortG_inv {rel : Nat → Nat → Bool} (sy : ∀ x y, rel x y = rel y x) {lot : List Nat} (nd : lot.Nodup) : GInv rel lot (sortG rel lot) := (groups_inv sy nd).sorted sy isort_perm
/-- one group alone: nothing falls apart -/
theorem insep_no {rel : Nat → Nat → Bool} {g : List Nat} (h : Insep rel g) : ¬ Sep rel g := fun ⟨S, ⟨x, hx, sx⟩, ⟨y, hy, sy⟩, k⟩ => by
  have := h S k x hx y hy
  rw [sx, sy] at this
  cases this
theorem GInv.single {rel : Nat → Nat → Bool} {lot : List Nat} {G : List (List Nat)} (I : GInv rel lot G) (h : G.length ≤ 1) : ¬ Sep rel lot := by
  intro s
  cases G with
  | nil =>
    obtain ⟨S, ⟨x, hx, _⟩, _⟩ := s
    have := I.perm.mem_iff.mpr hx
    cases this
  | cons g G =>
    have hG : G = [] := by
      cases G with
      | nil => rfl
      | cons _ _ => simp at h
    subst hG
    have e : ∀ x, x ∈ lot ↔ x ∈ g := fun x => by
      rw [← I.perm.mem_iff]
      simp
    refine insep_no (I.one g List.mem_cons_self) ?_
    obtain ⟨S, ⟨x, hx, sx⟩, ⟨y, hy, sy⟩, k⟩ := s
    exact ⟨S, ⟨x, (e x).mp hx, sx⟩, ⟨y, (e y).mp hy, sy⟩, fun a ha b hb => k a ((e a).mpr ha) b ((e b).mpr hb)⟩
/-- two groups or more: it falls apart -/
theorem GInv.more {rel : Nat → Nat → Bool} {lot : List Nat} {G : List (List Nat)} (I : GInv rel lot G) (h : 1 < G.length) (nd : lot.Nodup) : Sep rel lot := by
  match G, I, h with
  | g :: k :: G, I, _ =>
    obtain ⟨x, hx⟩ := List.exists_mem_of_ne_nil _ (I.ne g List.mem_cons_self)
    obtain ⟨y, hy⟩ := List.exists_mem_of_ne_nil _ (I.ne k (List.mem_cons_of_mem _ List.mem_cons_self))
    have hn := I.perm.nodup_iff.mpr nd
    rw [List.flatMap_cons] at hn
    have hd := (List.nodup_append.mp hn).2.2
    have hap := (List.pairwise_cons.mp I.apart).1
    have hl : ∀ z, z ∈ lot ↔ z ∈ g ∨ z ∈ (k :: G).flatMap id := fun z => by
      rw [← I.perm.mem_iff, List.flatMap_cons, List.mem_append]
      rfl
    refine ⟨fun z => decide (z ∈ g), ⟨x, (hl x).mpr (.inl hx), decide_eq_true hx⟩, ⟨y, (hl y).mpr (.inr (List.mem_flatMap.mpr ⟨k, List.mem_cons_self, hy⟩)), decide_eq_false fun z => hd y z y (List.mem_flatMap.mpr ⟨k, List.mem_cons_self, hy⟩) rfl⟩, fun a ha b hb sa sb => ?_⟩
    have sa := of_decide_eq_true sa
    have sb := of_decide_eq_false sb
    rcases (hl b).mp hb with z | z
    · exact absurd z sb
    · obtain ⟨m, hm, hbm⟩ := List.mem_flatMap.mp z
      exact hap m hm a sa b hbm
end GM
end
section
set_option Elab.async false
set_option linter.all false
namespace GM
open Mp (isort leb)
/-! Trees. -/
inductive Tr where
  | leaf (h : Nat)
  | node (al : Bool) (ps : List Tr)
mutual
def Tr.hs : Tr → List Nat
  | .leaf h => [h]
  | .node _ ps => Tr.hsL ps
def Tr.hsL : List Tr → List Nat
  | [] => []
  | p :: ps => Tr.hs p ++ Tr.hsL ps
end
mutual
def Tells (adj : Nat → Nat → Bool) : Tr → Prop
  | .leaf _ => True
  | .node al ps => TellsL adj al ps
def TellsL (adj : Nat → Nat → Bool) (al : Bool) : List Tr → Prop
  | [] => True
  | p :: ps => Tells adj p ∧ (∀ x ∈ p.hs, ∀ y ∈ Tr.hsL ps, adj x y = al) ∧ TellsL adj al ps
end
theorem Tr.mem_hsL {x : Nat} : ∀ {ps : List Tr}, x ∈ Tr.hsL ps ↔ ∃ p ∈ ps, x ∈ p.hs
  | [] => by simp [Tr.hsL]
  | p :: ps => by rw [Tr.hsL, List.mem_append, Tr.mem_hsL (ps := ps)]; simp
theorem Tr.hsL_flat : ∀ ps : List Tr, Tr.hsL ps = ps.flatMap Tr.hs
  | [] => rfl
  | p :: ps => by rw [Tr.hsL, Tr.hsL_flat ps, List.flatMap_cons]
theorem tellsL_iff {adj : Nat → Nat → Bool} {al : Bool} : ∀ {ps : List Tr}, TellsL adj al ps ↔ (∀ p ∈ ps, Tells adj p) ∧ ps.Pairwise fun p q => ∀ x ∈ p.hs, ∀ y ∈ q.hs, adj x y = al
  | [] => by simp [TellsL]
  | p :: ps => by
    rw [TellsL, tellsL_iff (ps := ps), List.forall_mem_cons, List.pairwise_cons]
    constructor
    · rintro ⟨h1, h2, h3, h4⟩
      exact ⟨⟨h1, h3⟩, fun q hq x hx y hy => h2 x hx y (Tr.mem_hsL.mpr ⟨q, hq, hy⟩), h4⟩
    · rintro ⟨⟨h1, h3⟩, h2, h4⟩
      refine ⟨h1, fun x hx y hy => ?_, h3, h4⟩
      obtain ⟨q, hq, hy⟩ := Tr.mem_hsL.mp hy
      exact h2 q hq x hx y hy
/-- the word on top -/
def Tr.top : Tr → Option Bool
  | .leaf _ => none
  | .node al _ => some al
def Tr.least (t : Tr) : Nat := match isort leb t.hs with
  | [] => 0
  | a :: _ => a
mutual
/-- no part has its pair's word; parts by their least houses -/
def Plain : Tr → Prop
  | .leaf _ => True
  | .node al ps => 2 ≤ ps.length ∧ (ps.Pairwise fun p q => ∀ x ∈ p.hs, (∀ y ∈ p.hs, x ≤ y) → ∀ y ∈ q.hs, x ≤ y) ∧ PlainL al ps
def PlainL (al : Bool) : List Tr → Prop
  | [] => True
  | p :: ps => (p.top ≠ some al ∧ Plain p) ∧ PlainL al ps
end
theorem plainL_iff {al : Bool} : ∀ {ps : List Tr}, PlainL al ps ↔ ∀ p ∈ ps, p.top ≠ some al ∧ Plain p
  | [] => by simp [PlainL]
  | p :: ps => by rw [PlainL, plainL_iff (ps := ps), List.forall_mem_cons]
/-- all of them, or none -/
def allSome {α : Type} : List (Option α) → Option (List α)
  | [] => some []
  | none :: _ => none
  | some a :: r => (allSome r).map (a :: ·)
theorem allSome_is {α β : Type} {f : α → Option β} : ∀ {l : List α} {r : List β}, allSome (l.map f) = some r → r.length = l.length ∧ ∀ i, i < l.length → ∃ a b, l[i]? = some a ∧ r[i]? = some b ∧ f a = some b
  | [], r, h => by
    cases h
    exact ⟨rfl, fun i hi => absurd hi (Nat.not_lt_zero _)⟩
  | a :: l, r, h => by
    rw [List.map_cons] at h
    cases e : f a with
    | none => rw [e] at h; cases h
    | some b =>
      rw [e] at h
      obtain ⟨s, hs, rfl⟩ := Option.map_eq_some_iff.mp h
      obtain ⟨h1, h2⟩ := allSome_is hs
      refine ⟨by simp [h1], fun i hi => ?_⟩
      cases i with
      | zero => exact ⟨a, b, rfl, rfl, e⟩
      | succ i =>
        obtain ⟨a', b', k1, k2, k3⟩ := h2 i (by simpa using hi)
        exact ⟨a', b', k1, k2, k3⟩
theorem allSome_none {α : Type} : ∀ {l : List (Option α)}, allSome l = none ↔ none ∈ l
  | [] => by simp [allSome]
  | none :: l => by simp [allSome]
  | some a :: l => by
    rw [allSome, Option.map_eq_none_iff, allSome_none (l := l)]
    simp
/-- the tree of a lot -/
def treeF (adj : Nat → Nat → Bool) : Nat → List Nat → Option Tr
  | 0, _ => none
  | k + 1, lot => if lot.length = 1 then some (.leaf (lot.headD 0)) else
      if 1 < (sortG adj lot).length then (allSome ((sortG adj lot).map (treeF adj k))).map (.node false)
      else if 1 < (sortG (co adj) lot).length then (allSome ((sortG (co adj) lot).map (treeF adj k))).map (.node true)
      else none
structure TreeOk (adj : Nat → Nat → Bool) (lot : List Nat) (t : Tr) : Prop where
  tells : Tells adj t
  perm : t.hs.Perm lot
  plain : Plain t
  topS : t.top = some false → Sep adj lot
  topA : t.top = some true → Sep (co adj) lot
theorem first_le {a b : List Nat} {x : Nat} (h : leb a b = true) (ha : a.Pairwise fun x y => x < y) (hb : b.Pairwise fun x y => x < y) (hx : x ∈ a) (hmin : ∀ y ∈ a, x ≤ y) : ∀ y ∈ b, x ≤ y := by
  cases a with
  | nil => cases hx
  | cons c r =>
    have hxc : x = c := by
      have h1 := hmin c List.mem_cons_self
      rcases List.mem_cons.mp hx with rfl | hx
      · rfl
      · have := (List.pairwise_cons.mp ha).1 x hx
        omega
    subst hxc
    intro y hy
    cases b with
    | nil => cases hy
    | cons d s =>
      have hd : x ≤ d := by
        rw [leb_iff] at h
        rcases h with h | h
        · unfold Mp.ltL at h
          split at h
          · omega
          · have := of_decide_eq_true (show decide (x < d) = true from h)
            omega
        · cases h
          exact Nat.le_refl _
      rcases List.mem_cons.mp hy with rfl | hy
      · exact hd
      · have := (List.pairwise_cons.mp hb).1 y hy
        omega
theorem flat_len {G : List (List Nat)} (hne : ∀ g ∈ G, g ≠ []) {g : List Nat} (hg : g ∈ G) (h : 1 < G.length) : g.length < (G.flatMap id).length := by
  obtain ⟨A, B, rfl⟩ := List.append_of_mem hg
  have h1 : 0 < A.length + B.length := by
    rw [List.length_append, List.length_cons] at h
    omega
  rw [List.flatMap_append, List.flatMap_cons, List.length_append, List.length_append]
  have pos : ∀ l : List (List Nat), (∀ x ∈ l, x ≠ []) → 0 < l.length → 0 < (l.flatMap id).length := fun l hl hp => by
    cases l with
    | nil => cases hp
    | cons x l =>
      rw [List.flatMap_cons, List.length_append]
      have := List.length_pos_iff.mpr (hl x List.mem_cons_self)
      show 0 < (id x).length + _
      exact Nat.lt_of_lt_of_le this (Nat.le_add_right _ _)
  show g.length < _ + ((id g).length + _)
  rcases Nat.eq_zero_or_pos A.length with z | z
  · have := pos B (fun x hx => hne x (List.mem_append_right _ (List.mem_cons_of_mem _ hx))) (by omega)
    show g.length < _ + (g.length + _)
    omega
  · have := pos A (fun x hx => hne x (List.mem_append_left _ hx)) z
    show g.length < _ + (g.length + _)
    omega
/-- a pair's tree from its groups' trees -/
theorem node_ok {adj rel : Nat → Nat → Bool} {al : Bool} {lot : List Nat} {ts : List Tr} (hrel : ∀ x y, rel x y = false → adj x y = al) (sy : ∀ x y, rel x y = rel y x) (nd : lot.Nodup) (h1 : 1 < (sortG rel lot).length)
    (hlen : ts.length = (sortG rel lot).length) (hts : ∀ i, i < (sortG rel lot).length → ∃ g t, (sortG rel lot)[i]? = some g ∧ ts[i]? = some t ∧ TreeOk adj g t) (htop : ∀ g t, Insep rel g → TreeOk adj g t → t.top ≠ some al) :
    Tells adj (.node al ts) ∧ (Tr.node al ts).hs.Perm lot ∧ Plain (.node al ts) := by
  have I := sortG_inv sy nd
  have at_ : ∀ i (hi : i < ts.length), ∃ (hj : i < (sortG rel lot).length), TreeOk adj (sortG rel lot)[i] ts[i] := fun i hi => by
    have hj : i < (sortG rel lot).length := by omega
    obtain ⟨g, t, e1, e2, k⟩ := hts i hj
    rw [List.getElem?_eq_getElem hj] at e1
    rw [List.getElem?_eq_getElem hi] at e2
    cases e1
    cases e2
    exact ⟨hj, k⟩
  have hap := List.pairwise_iff_getElem.mp I.apart
  have hsorted : (sortG rel lot).Pairwise fun a b => leb a b = true := leb_sorted
  have hso := List.pairwise_iff_getElem.mp hsorted
  refine ⟨?_, ?_, ?_, ?_, ?_⟩
  · show TellsL adj al ts
    refine tellsL_iff.mpr ⟨fun p hp => ?_, List.pairwise_iff_getElem.mpr fun i j hi hj hij x hx y hy => ?_⟩
    · obtain ⟨i, hi, rfl⟩ := List.mem_iff_getElem.mp hp
      exact (at_ i hi).2.tells
    · obtain ⟨hi', k1⟩ := at_ i hi
      obtain ⟨hj', k2⟩ := at_ j hj
      exact hrel _ _ (hap i j hi' hj' hij x (k1.perm.mem_iff.mp hx) y (k2.perm.mem_iff.mp hy))
  · show (Tr.hsL ts).Perm lot
    refine List.Perm.trans ?_ I.perm
    rw [Tr.hsL_flat]
    have key : ∀ (ts : List Tr) (G : List (List Nat)), ts.length = G.length → (∀ i (hi : i < ts.length) (hj : i < G.length), ts[i].hs.Perm G[i]) → (ts.flatMap Tr.hs).Perm (G.flatMap id) := by
      intro ts
      induction ts with
      | nil =>
        intro G hl _
        cases G with
        | nil => exact .refl _
        | cons _ _ => cases hl
      | cons t ts ih =>
        intro G hl h
        cases G with
        | nil => cases hl
        | cons g G =>
          rw [List.flatMap_cons, List.flatMap_cons]
          refine List.Perm.append (h 0 (Nat.zero_lt_succ _) (Nat.zero_lt_succ _)) (ih G (by simpa using hl) fun i hi hj => ?_)
          exact h (i + 1) (Nat.succ_lt_succ hi) (Nat.succ_lt_succ hj)
    exact key ts _ hlen fun i hi hj => (at_ i hi).2.perm
  · show 2 ≤ ts.length
    omega
  · refine List.pairwise_iff_getElem.mpr fun i j hi hj hij x hx hmin y hy => ?_
    obtain ⟨hi', k1⟩ := at_ i hi
    obtain ⟨hj', k2⟩ := at_ j hj
    exact first_le (hso i j hi' hj' hij) (I.asc _ (List.getElem_mem hi')) (I.asc _ (List.getElem_mem hj')) (k1.perm.mem_iff.mp hx) (fun z hz => hmin z (k1.perm.mem_iff.mpr hz)) y (k2.perm.mem_iff.mp hy)
  · refine plainL_iff.mpr fun p hp => ?_
    obtain ⟨i, hi, rfl⟩ := List.mem_iff_getElem.mp hp
    obtain ⟨hi', k1⟩ := at_ i hi
    exact ⟨htop _ _ (I.one _ (List.getElem_mem hi')) k1, k1.plain⟩
theorem treeF_ok {adj : Nat → Nat → Bool} (sy : ∀ x y, adj x y = adj y x) : ∀ (k : Nat) {lot : List Nat} {t : Tr}, lot.Nodup → treeF adj k lot = some t → TreeOk adj lot t
  | 0, _, _, _, h => by cases h
  | k + 1, lot, t, nd, h => by
    unfold treeF at h
    have part : ∀ (rel : Nat → Nat → Bool), (∀ x y, rel x y = rel y x) → ∀ ts, allSome ((sortG rel lot).map (treeF adj k)) = some ts → ts.length = (sortG rel lot).length ∧ ∀ i, i < (sortG rel lot).length → ∃ g t, (sortG rel lot)[i]? = some g ∧ ts[i]? = some t ∧ TreeOk adj g t := fun rel sr ts hts => by
      obtain ⟨e1, e2⟩ := allSome_is hts
      refine ⟨e1, fun i hi => ?_⟩
      obtain ⟨g, t, k1, k2, k3⟩ := e2 i hi
      have hg : g ∈ sortG rel lot := List.mem_of_getElem? k1
      exact ⟨g, t, k1, k2, treeF_ok sy k (((sortG_inv sr nd).asc g hg).imp fun z => Nat.ne_of_lt z) k3⟩
    split at h
    · rename_i h1
      cases h
      obtain ⟨x, rfl⟩ := List.length_eq_one_iff.mp h1
      exact ⟨trivial, .refl _, trivial, (fun z => by cases z), fun z => by cases z⟩
    · split at h
      · rename_i h2
        obtain ⟨ts, hts, rfl⟩ := Option.map_eq_some_iff.mp h
        obtain ⟨e1, e2⟩ := part adj sy ts hts
        obtain ⟨a1, a2, a3⟩ := node_ok (al := false) (fun x y z => z) sy nd h2 e1 e2 fun g t hg ht z => insep_no hg (ht.topS z)
        exact ⟨a1, a2, a3, fun _ => (sortG_inv sy nd).more h2 nd, fun z => by cases z⟩
      · split at h
        · rename_i h2
          obtain ⟨ts, hts, rfl⟩ := Option.map_eq_some_iff.mp h
          obtain ⟨e1, e2⟩ := part (co adj) (co_sy sy) ts hts
          obtain ⟨a1, a2, a3⟩ := node_ok (adj := adj) (al := true) (fun x y z => by simpa [co] using z) (co_sy sy) nd h2 e1 e2 fun g t hg ht z => insep_no hg (ht.topA z)
          exact ⟨a1, a2, a3, (fun z => by cases z), fun _ => (sortG_inv (co_sy sy) nd).more h2 nd⟩
        · cases h
/-- where there is no tree, there is a bare row -/
theorem treeF_none {adj : Nat → Nat → Bool} (sy : ∀ x y, adj x y = adj y x) : ∀ (k : Nat) {lot : List Nat}, lot.Nodup → lot ≠ [] → lot.length ≤ k → treeF adj k lot = none → P4 adj lot
  | 0, lot, _, hne, hk, _ => absurd (List.length_eq_zero_iff.mp (Nat.le_zero.mp hk)) hne
  | k + 1, lot, nd, hne, hk, h => by
    unfold treeF at h
    have part : ∀ (rel : Nat → Nat → Bool), (∀ x y, rel x y = rel y x) → 1 < (sortG rel lot).length → allSome ((sortG rel lot).map (treeF adj k)) = none → P4 adj lot := fun rel sr h1 hn => by
      have I := sortG_inv sr nd
      obtain ⟨g, hg, e⟩ := List.mem_map.mp (allSome_none.mp hn)
      have hl := flat_len I.ne hg h1
      rw [I.perm.length_eq] at hl
      refine (treeF_none sy k ((I.asc g hg).imp fun z => Nat.ne_of_lt z) (I.ne g hg) (by omega) e).mono fun x hx => ?_
      exact I.perm.mem_iff.mp (List.mem_flatMap.mpr ⟨g, hg, hx⟩)
    split at h
    · cases h
    · rename_i hl1
      split at h
      · rename_i h2
        exact part adj sy h2 (Option.map_eq_none_iff.mp h)
      · rename_i h2
        split at h
        · rename_i h3
          exact part (co adj) (co_sy sy) h3 (Option.map_eq_none_iff.mp h)
        · rename_i h3
          have hpos := List.length_pos_iff.mpr hne
          rcases seinsche sy nd (by omega) with z | z | z
          · exact z
          · exact absurd z ((sortG_inv sy nd).single (by omega))
          · exact absurd z ((sortG_inv (co_sy sy) nd).single (by omega))
mutual
/-- a map that a tree tells has no bare row -/
theorem tells_no {adj : Nat → Nat → Bool} (sy : ∀ x y, adj x y = adj y x) : ∀ t : Tr, Tells adj t → ¬ P4 adj t.hs
  | .leaf h, _, ⟨a, b, c, d, ⟨m1, m2, _⟩, ⟨n1, _⟩, _⟩ => by
    have m1 : a = h := by simpa [Tr.hs] using m1
    have m2 : b = h := by simpa [Tr.hs] using m2
    exact n1 (by rw [m1, m2])
  | .node al ps, ht, p => tells_noL sy al ps ht p
theorem tells_noL {adj : Nat → Nat → Bool} (sy : ∀ x y, adj x y = adj y x) (al : Bool) : ∀ ps : List Tr, TellsL adj al ps → ¬ P4 adj (Tr.hsL ps)
  | [], _, ⟨a, b, c, d, ⟨m1, _⟩, _⟩ => by simp [Tr.hsL] at m1
  | p :: ps, ⟨h1, h2, h3⟩, ⟨a, b, c, d, ⟨m1, m2, m3, m4⟩, ns, ⟨e1, e2, e3⟩, f1, f2, f3⟩ => by
    -- two houses that are not as the pair's word says are on one side
    have link : ∀ x y, x ∈ Tr.hsL (p :: ps) → y ∈ Tr.hsL (p :: ps) → adj x y ≠ al → (x ∈ p.hs → y ∈ p.hs ∨ (y ∈ p.hs ∧ y ∈ Tr.hsL ps)) ∧ (x ∈ Tr.hsL ps → y ∈ Tr.hsL ps) := fun x y hx hy hne => by
      rw [Tr.hsL, List.mem_append] at hx hy
      refine ⟨fun hx => ?_, fun hx => ?_⟩
      · rcases hy with hy | hy
        · exact .inl hy
        · exact absurd (h2 x hx y hy) hne
      · rcases hy with hy | hy
        · exact absurd ((sy x y).trans (h2 y hy x hx)) hne
        · exact hy
    have fin1 : a ∈ p.hs → b ∈ p.hs → c ∈ p.hs → d ∈ p.hs → False := fun k1 k2 k3 k4 => tells_no sy p h1 ⟨a, b, c, d, ⟨k1, k2, k3, k4⟩, ns, ⟨e1, e2, e3⟩, f1, f2, f3⟩
    have fin2 : a ∈ Tr.hsL ps → b ∈ Tr.hsL ps → c ∈ Tr.hsL ps → d ∈ Tr.hsL ps → False := fun k1 k2 k3 k4 => tells_noL sy al ps h3 ⟨a, b, c, d, ⟨k1, k2, k3, k4⟩, ns, ⟨e1, e2, e3⟩, f1, f2, f3⟩
    have one : ∀ {x y : Nat}, (y ∈ p.hs ∨ (y ∈ p.hs ∧ y ∈ Tr.hsL ps)) → y ∈ p.hs := fun h => h.elim id fun z => z.1
    have ma := m1
    rw [Tr.hsL, List.mem_append] at ma
    cases al with
    | false =>
      have l1 := link a b m1 m2 (by rw [e1]; simp)
      have l2 := link b c m2 m3 (by rw [e2]; simp)
      have l3 := link c d m3 m4 (by rw [e3]; simp)
      rcases ma with ma | ma
      · have kb := one (x := a) (l1.1 ma)
        have kc := one (x := a) (l2.1 kb)
        exact fin1 ma kb kc (one (x := a) (l3.1 kc))
      · have kb := l1.2 ma
        have kc := l2.2 kb
        exact fin2 ma kb kc (l3.2 kc)
    | true =>
      have l1 := link a c m1 m3 (by rw [f1]; simp)
      have l2 := link a d m1 m4 (by rw [f2]; simp)
      have l3 := link d b m4 m2 (by rw [sy, f3]; simp)
      rcases ma with ma | ma
      · have kd := one (x := a) (l2.1 ma)
        exact fin1 ma (one (x := a) (l3.1 kd)) (one (x := a) (l1.1 ma)) kd
      · have kd := l2.2 ma
        exact fin2 ma (l3.2 kd) (l1.2 ma) kd
end
end GM
end
section
set_option Elab.async false
set_option linter.all false
namespace GM
open Mp (isort leb)
/-! What a tree tells, as pairs; its need. -/
mutual
theorem tells_congr {adj adj' : Nat → Nat → Bool} : ∀ t : Tr, (∀ x ∈ t.hs, ∀ y ∈ t.hs, adj x y = adj' x y) → Tells adj t → Tells adj' t
  | .leaf _, _, _ => trivial
  | .node al ps, h, k => tells_congrL al ps h k
theorem tells_congrL {adj adj' : Nat → Nat → Bool} (al : Bool) : ∀ ps : List Tr, (∀ x ∈ Tr.hsL ps, ∀ y ∈ Tr.hsL ps, adj x y = adj' x y) → TellsL adj al ps → TellsL adj' al ps
  | [], _, _ => trivial
  | p :: ps, h, ⟨h1, h2, h3⟩ => by
    have l : ∀ x ∈ p.hs, x ∈ Tr.hsL (p :: ps) := fun x hx => by rw [Tr.hsL]; exact List.mem_append_left _ hx
    have r : ∀ x ∈ Tr.hsL ps, x ∈ Tr.hsL (p :: ps) := fun x hx => by rw [Tr.hsL]; exact List.mem_append_right _ hx
    exact ⟨tells_congr p (fun x hx y hy => h x (l x hx) y (l y hy)) h1, fun x hx y hy => by rw [← h x (l x hx) y (r y hy)]; exact h2 x hx y hy, tells_congrL al ps (fun x hx y hy => h x (r x hx) y (r y hy)) h3⟩
end
mutual
/-- neighbors, by the tree -/
def tAdj : Tr → Nat → Nat → Bool
  | .leaf _ => fun _ _ => false
  | .node al ps => tAdjL al ps
def tAdjL (al : Bool) : List Tr → Nat → Nat → Bool
  | [] => fun _ _ => false
  | p :: ps => fun x y => if x ∈ p.hs then (if y ∈ p.hs then tAdj p x y else al) else (if y ∈ p.hs then al else tAdjL al ps x y)
end
mutual
theorem tAdj_sy : ∀ (t : Tr) (x y : Nat), tAdj t x y = tAdj t y x
  | .leaf _, _, _ => rfl
  | .node al ps, x, y => tAdjL_sy al ps x y
theorem tAdjL_sy (al : Bool) : ∀ (ps : List Tr) (x y : Nat), tAdjL al ps x y = tAdjL al ps y x
  | [], _, _ => rfl
  | p :: ps, x, y => by
    show (if x ∈ p.hs then (if y ∈ p.hs then tAdj p x y else al) else (if y ∈ p.hs then al else tAdjL al ps x y)) = (if y ∈ p.hs then (if x ∈ p.hs then tAdj p y x else al) else (if x ∈ p.hs then al else tAdjL al ps y x))
    rw [tAdj_sy p x y, tAdjL_sy al ps x y]
    split <;> split <;> rfl
end
mutual
theorem tAdj_irr : ∀ (t : Tr) (x : Nat), x ∈ t.hs → tAdj t x x = false
  | .leaf _, _, _ => rfl
  | .node al ps, x, h => tAdjL_irr al ps x h
theorem tAdjL_irr (al : Bool) : ∀ (ps : List Tr) (x : Nat), x ∈ Tr.hsL ps → tAdjL al ps x x = false
  | [], _, _ => rfl
  | p :: ps, x, h => by
    show (if x ∈ p.hs then (if x ∈ p.hs then tAdj p x x else al) else (if x ∈ p.hs then al else tAdjL al ps x x)) = false
    by_cases k : x ∈ p.hs
    · rw [if_pos k, if_pos k]
      exact tAdj_irr p x k
    · rw [if_neg k, if_neg k]
      rw [Tr.hsL, List.mem_append] at h
      exact tAdjL_irr al ps x (h.resolve_left k)
end
mutual
theorem tAdj_tells : ∀ t : Tr, t.hs.Nodup → Tells (tAdj t) t
  | .leaf _, _ => trivial
  | .node al ps, nd => tAdjL_tells al ps nd
theorem tAdjL_tells (al : Bool) : ∀ ps : List Tr, (Tr.hsL ps).Nodup → TellsL (tAdjL al ps) al ps
  | [], _ => trivial
  | p :: ps, nd => by
    rw [Tr.hsL] at nd
    obtain ⟨n1, n2, n3⟩ := List.nodup_append.mp nd
    have no : ∀ y ∈ Tr.hsL ps, y ∉ p.hs := fun y hy hz => n3 y hz y hy rfl
    refine ⟨tells_congr p (fun x hx y hy => ?_) (tAdj_tells p n1), fun x hx y hy => ?_, tells_congrL al ps (fun x hx y hy => ?_) (tAdjL_tells al ps n2)⟩
    · show _ = if x ∈ p.hs then (if y ∈ p.hs then tAdj p x y else al) else _
      rw [if_pos hx, if_pos hy]
    · show (if x ∈ p.hs then (if y ∈ p.hs then tAdj p x y else al) else _) = al
      rw [if_pos hx, if_neg (no y hy)]
    · show _ = if x ∈ p.hs then _ else (if y ∈ p.hs then al else tAdjL al ps x y)
      rw [if_neg (no x hx), if_neg (no y hy)]
end
/-! pairs told -/
def mm (x y : Nat) : Nat × Nat := (min x y, max x y)
def crossP (A B : List Nat) : List (Nat × Nat) := A.flatMap fun one => B.map fun other => mm one other
mutual
def tpP : Tr → List (Nat × Nat)
  | .leaf _ => []
  | .node al ps => tpPL al ps [] []
def tpPL (al : Bool) : List Tr → List (Nat × Nat) → List Nat → List (Nat × Nat)
  | [], pairs, _ => pairs
  | p :: ps, pairs, ahead => tpPL al ps (pairs ++ tpP p ++ (if al then crossP ahead p.hs else [])) (ahead ++ p.hs)
end
mutual
def tpL : Tr → List (Nat × Nat)
  | .leaf _ => []
  | .node al ps => tpLL al ps [] []
def tpLL (al : Bool) : List Tr → List (Nat × Nat) → List Nat → List (Nat × Nat)
  | [], pairs, _ => pairs
  | p :: ps, pairs, ahead => tpLL al ps (pairs ++ tpL p ++ (if al then crossP p.hs ahead else [])) (ahead ++ p.hs)
end
theorem mm_comm (x y : Nat) : mm x y = mm y x := by
  unfold mm
  rw [Nat.min_comm, Nat.max_comm]
theorem cross_cons {a : Nat} {B : List Nat} : ∀ {A : List Nat}, (crossP B (a :: A)).Perm ((B.map fun b => mm b a) ++ crossP B A) := fun {A} => by
  induction B with
  | nil => exact .refl _
  | cons b B ih =>
    unfold crossP at ih ⊢
    rw [List.flatMap_cons, List.flatMap_cons, List.map_cons, List.map_cons]
    refine List.Perm.cons _ ?_
    refine (List.Perm.append_left _ ih).trans ?_
    show ((A.map fun other => mm b other) ++ ((B.map fun b => mm b a) ++ B.flatMap fun one => A.map fun other => mm one other)).Perm ((B.map fun b => mm b a) ++ ((A.map fun other => mm b other) ++ B.flatMap fun one => A.map fun other => mm one other))
    rw [← List.append_assoc, ← List.append_assoc]
    exact List.Perm.append_right _ List.perm_append_comm
theorem cross_perm : ∀ (A B : List Nat), (crossP A B).Perm (crossP B A)
  | [], B => by
    have : crossP B [] = [] := by
      unfold crossP
      rw [List.flatMap_eq_nil_iff]
      intro _ _
      rfl
    rw [this]
    exact .refl _
  | a :: A, B => by
    refine List.Perm.trans ?_ cross_cons.symm
    show ((B.map fun b => mm a b) ++ crossP A B).Perm _
    rw [show (B.map fun b => mm a b) = B.map fun b => mm b a from List.map_congr_left fun b _ => mm_comm a b]
    exact List.Perm.append_left _ (cross_perm A B)
mutual
theorem tp_perm : ∀ t : Tr, (tpP t).Perm (tpL t)
  | .leaf _ => .refl _
  | .node al ps => tp_permL al ps _ _ [] (.refl _)
theorem tp_permL (al : Bool) : ∀ (ps : List Tr) (P L : List (Nat × Nat)) (A : List Nat), P.Perm L → (tpPL al ps P A).Perm (tpLL al ps L A)
  | [], _, _, _, h => h
  | p :: ps, P, L, A, h => by
    refine tp_permL al ps _ _ _ ((h.append (tp_perm p)).append ?_)
    split
    · exact cross_perm _ _
    · exact .refl _
end
theorem mem_cross {A B : List Nat} {p : Nat × Nat} : p ∈ crossP A B ↔ ∃ a ∈ A, ∃ b ∈ B, p = mm a b := by
  unfold crossP
  simp only [List.mem_flatMap, List.mem_map]
  exact ⟨fun ⟨a, ha, b, hb, e⟩ => ⟨a, ha, b, hb, e.symm⟩, fun ⟨a, ha, b, hb, e⟩ => ⟨a, ha, b, hb, e.symm⟩⟩
theorem mm_inj {a b c d : Nat} (h : mm a b = mm c d) : (a = c ∧ b = d) ∨ (a = d ∧ b = c) := by
  unfold mm at h
  rw [Prod.mk.injEq] at h
  omega
theorem cross_nodup {A B : List Nat} (ha : A.Nodup) (hb : B.Nodup) (hd : ∀ x ∈ A, x ∉ B) : (crossP A B).Nodup := by
  refine List.pairwise_flatMap.mpr ⟨fun a haA => List.pairwise_map.mpr (List.Pairwise.imp_of_mem (fun {x y} hx hy z e => ?_) hb), List.Pairwise.imp_of_mem (fun {a c} haA hcA z x hx y hy e => ?_) ha⟩
  · rcases mm_inj e with ⟨_, e⟩ | ⟨e1, e2⟩
    · exact z e
    · exact hd a haA (e1 ▸ hy)
  · obtain ⟨b, hb, rfl⟩ := List.mem_map.mp hx
    obtain ⟨d, hd', rfl⟩ := List.mem_map.mp hy
    rcases mm_inj e with ⟨e, _⟩ | ⟨e1, _⟩
    · exact z e
    · exact hd a haA (e1 ▸ hd')
/-- all pairs between the houses, told by adj -/
def Prs (adj : Nat → Nat → Bool) (A : List Nat) (L : List (Nat × Nat)) : Prop := L.Nodup ∧ ∀ p, p ∈ L ↔ p.1 < p.2 ∧ p.1 ∈ A ∧ p.2 ∈ A ∧ adj p.1 p.2 = true
theorem prs_join {adj : Nat → Nat → Bool} {al : Bool} {A B : List Nat} {P Q : List (Nat × Nat)} (sy : ∀ x y, adj x y = adj y x) (nd : (A ++ B).Nodup) (hP : Prs adj A P) (hQ : Prs adj B Q) (h : ∀ x ∈ A, ∀ y ∈ B, adj x y = al) : Prs adj (A ++ B) (P ++ Q ++ (if al then crossP A B else [])) := by
  obtain ⟨n1, n2, n3⟩ := List.nodup_append.mp nd
  have dis : ∀ x ∈ A, x ∉ B := fun x hx hy => n3 x hx x hy rfl
  have hin : ∀ p ∈ P, p.1 ∈ A ∧ p.2 ∈ A := fun p hp => ⟨((hP.2 p).mp hp).2.1, ((hP.2 p).mp hp).2.2.1⟩
  have hin2 : ∀ p ∈ Q, p.1 ∈ B ∧ p.2 ∈ B := fun p hp => ⟨((hQ.2 p).mp hp).2.1, ((hQ.2 p).mp hp).2.2.1⟩
  have hcr : ∀ p ∈ crossP A B, (p.1 ∈ A ∧ p.2 ∈ B) ∨ (p.1 ∈ B ∧ p.2 ∈ A) := fun p hp => by
    obtain ⟨a, ha, b, hb, rfl⟩ := mem_cross.mp hp
    unfold mm
    simp only
    rcases Nat.le_total a b with z | z
    · rw [Nat.min_eq_left z, Nat.max_eq_right z]; exact .inl ⟨ha, hb⟩
    · rw [Nat.min_eq_right z, Nat.max_eq_left z]; exact .inr ⟨hb, ha⟩
  refine ⟨?_, fun p => ?_⟩
  · refine List.nodup_append.mpr ⟨List.nodup_append.mpr ⟨hP.1, hQ.1, fun a ha b hb e => ?_⟩, ?_, fun a ha b hb e => ?_⟩
    · subst e
      exact dis _ (hin a ha).1 (hin2 a hb).1
    · cases al with
      | true => exact cross_nodup n1 n2 dis
      | false => exact List.Pairwise.nil
    · subst e
      cases al with
      | false => cases hb
      | true =>
        have hc := hcr a hb
        rcases List.mem_append.mp ha with ha | ha
        · have := hin a ha
          rcases hc with hc | hc
          · exact dis _ this.2 hc.2
          · exact dis _ this.1 hc.1
        · have := hin2 a ha
          rcases hc with hc | hc
          · exact dis _ hc.1 this.1
          · exact dis _ hc.2 this.2
  · rw [List.mem_append, List.mem_append, hP.2, hQ.2]
    constructor
    · rintro ((⟨h1, h2, h3, h4⟩ | ⟨h1, h2, h3, h4⟩) | hc)
      · exact ⟨h1, List.mem_append_left _ h2, List.mem_append_left _ h3, h4⟩
      · exact ⟨h1, List.mem_append_right _ h2, List.mem_append_right _ h3, h4⟩
      · cases al with
        | false => cases hc
        | true =>
          obtain ⟨a, ha, b, hb, rfl⟩ := mem_cross.mp hc
          have hab : a ≠ b := fun e => dis a ha (e ▸ hb)
          have hadj := h a ha b hb
          unfold mm
          simp only
          rcases Nat.le_total a b with z | z
          · rw [Nat.min_eq_left z, Nat.max_eq_right z]
            exact ⟨by omega, List.mem_append_left _ ha, List.mem_append_right _ hb, hadj⟩
          · rw [Nat.min_eq_right z, Nat.max_eq_left z]
            exact ⟨by omega, List.mem_append_right _ hb, List.mem_append_left _ ha, by rw [sy]; exact hadj⟩
    · rintro ⟨h1, h2, h3, h4⟩
      rcases List.mem_append.mp h2 with h2 | h2
      · rcases List.mem_append.mp h3 with h3 | h3
        · exact .inl (.inl ⟨h1, h2, h3, h4⟩)
        · have := h _ h2 _ h3
          rw [h4] at this
          subst this
          refine .inr (mem_cross.mpr ⟨p.1, h2, p.2, h3, ?_⟩)
          unfold mm
          rw [Nat.min_eq_left (by omega), Nat.max_eq_right (by omega)]
      · rcases List.mem_append.mp h3 with h3 | h3
        · have := h _ h3 _ h2
          rw [sy, h4] at this
          subst this
          refine .inr (mem_cross.mpr ⟨p.2, h3, p.1, h2, ?_⟩)
          unfold mm
          rw [Nat.min_eq_right (by omega), Nat.max_eq_left (by omega)]
        · exact .inl (.inr ⟨h1, h2, h3, h4⟩)
mutual
theorem tp_prs {adj : Nat → Nat → Bool} (sy : ∀ x y, adj x y = adj y x) : ∀ t : Tr, t.hs.Nodup → Tells adj t → (∀ x ∈ t.hs, adj x x = false) → Prs adj t.hs (tpP t)
  | .leaf h, _, _, irr => by
    refine ⟨List.Pairwise.nil, fun p => ⟨(fun z => by cases z), fun ⟨h1, h2, h3, _⟩ => ?_⟩⟩
    rw [Tr.hs, List.mem_singleton] at h2 h3
    omega
  | .node al ps, nd, ht, irr => by
    have := tp_prsL sy al ps [] [] (by simpa [Tr.hs] using nd) ⟨List.Pairwise.nil, fun p => by simp⟩ ht (fun x hx => by cases hx) irr
    exact this
theorem tp_prsL {adj : Nat → Nat → Bool} (sy : ∀ x y, adj x y = adj y x) (al : Bool) : ∀ (ps : List Tr) (P : List (Nat × Nat)) (A : List Nat), (A ++ Tr.hsL ps).Nodup → Prs adj A P → TellsL adj al ps → (∀ x ∈ A, ∀ y ∈ Tr.hsL ps, adj x y = al) → (∀ x ∈ Tr.hsL ps, adj x x = false) → Prs adj (A ++ Tr.hsL ps) (tpPL al ps P A)
  | [], P, A, nd, hP, _, _, _ => by
    show Prs adj (A ++ []) P
    rw [List.append_nil]
    exact hP
  | p :: ps, P, A, nd, hP, ⟨h1, h2, h3⟩, hA, irr => by
    rw [Tr.hsL, ← List.append_assoc] at nd ⊢
    obtain ⟨m1, m2, m3⟩ := List.nodup_append.mp nd
    have np : p.hs.Nodup := (List.nodup_append.mp m1).2.1
    have l : ∀ x ∈ p.hs, x ∈ Tr.hsL (p :: ps) := fun x hx => by rw [Tr.hsL]; exact List.mem_append_left _ hx
    have r : ∀ x ∈ Tr.hsL ps, x ∈ Tr.hsL (p :: ps) := fun x hx => by rw [Tr.hsL]; exact List.mem_append_right _ hx
    refine tp_prsL sy al ps _ (A ++ p.hs) nd (prs_join sy m1 hP (tp_prs sy p np h1 fun x hx => irr x (l x hx)) fun x hx y hy => hA x hx y (l y hy)) h3 (fun x hx y hy => ?_) fun x hx => irr x (r x hx)
    rcases List.mem_append.mp hx with hx | hx
    · exact hA x hx y (r y hy)
    · exact h2 x hx y hy
end
/-! the need of a tree's map -/
mutual
def om : Tr → Nat
  | .leaf _ => 1
  | .node al ps => omL al ps
def omL (al : Bool) : List Tr → Nat
  | [] => 0
  | p :: ps => if al then om p + omL al ps else max (om p) (omL al ps)
end
/-- houses each two of which are neighbors -/
def Clq (adj : Nat → Nat → Bool) (C : List Nat) : Prop := C.Nodup ∧ C.Pairwise fun x y => adj x y = true
mutual
theorem clique_of {adj : Nat → Nat → Bool} : ∀ t : Tr, Tells adj t → t.hs.Nodup → ∃ C, Clq adj C ∧ (∀ x ∈ C, x ∈ t.hs) ∧ C.length = om t
  | .leaf h, _, _ => ⟨[h], ⟨List.pairwise_singleton _ _, List.pairwise_singleton _ _⟩, fun x hx => hx, rfl⟩
  | .node al ps, ht, nd => clique_ofL al ps ht nd
theorem clique_ofL {adj : Nat → Nat → Bool} (al : Bool) : ∀ ps : List Tr, TellsL adj al ps → (Tr.hsL ps).Nodup → ∃ C, Clq adj C ∧ (∀ x ∈ C, x ∈ Tr.hsL ps) ∧ C.length = omL al ps
  | [], _, _ => ⟨[], ⟨List.Pairwise.nil, List.Pairwise.nil⟩, (fun _ z => by cases z), rfl⟩
  | p :: ps, ⟨h1, h2, h3⟩, nd => by
    rw [Tr.hsL] at nd
    obtain ⟨n1, n2, n3⟩ := List.nodup_append.mp nd
    obtain ⟨C, ⟨c1, c2⟩, c3, c4⟩ := clique_of p h1 n1
    obtain ⟨D, ⟨d1, d2⟩, d3, d4⟩ := clique_ofL al ps h3 n2
    have l : ∀ x ∈ C, x ∈ Tr.hsL (p :: ps) := fun x hx => by rw [Tr.hsL]; exact List.mem_append_left _ (c3 x hx)
    have r : ∀ x ∈ D, x ∈ Tr.hsL (p :: ps) := fun x hx => by rw [Tr.hsL]; exact List.mem_append_right _ (d3 x hx)
    cases al with
    | true =>
      refine ⟨C ++ D, ⟨List.nodup_append.mpr ⟨c1, d1, fun a ha b hb => n3 a (c3 a ha) b (d3 b hb)⟩, List.pairwise_append.mpr ⟨c2, d2, fun a ha b hb => h2 a (c3 a ha) b (d3 b hb)⟩⟩, fun x hx => ?_, by rw [List.length_append, c4, d4]; rfl⟩
      rcases List.mem_append.mp hx with hx | hx
      · exact l x hx
      · exact r x hx
    | false =>
      show ∃ C : List Nat, Clq adj C ∧ (∀ x ∈ C, x ∈ Tr.hsL (p :: ps)) ∧ C.length = max (om p) (omL false ps)
      rcases Nat.le_total (om p) (omL false ps) with z | z
      · rw [Nat.max_eq_right z]
        exact ⟨D, ⟨d1, d2⟩, r, d4⟩
      · rw [Nat.max_eq_left z]
        exact ⟨C, ⟨c1, c2⟩, l, c4⟩
end
/-- a painting with so many paints -/
def Pntg (adj : Nat → Nat → Bool) (A : List Nat) (f : Nat → Nat) (k : Nat) : Prop := (∀ x ∈ A, 1 ≤ f x ∧ f x ≤ k) ∧ ∀ x ∈ A, ∀ y ∈ A, adj x y = true → f x ≠ f y
mutual
theorem paint_of {adj : Nat → Nat → Bool} (sy : ∀ x y, adj x y = adj y x) : ∀ t : Tr, Tells adj t → t.hs.Nodup → (∀ x ∈ t.hs, adj x x = false) → ∃ f, Pntg adj t.hs f (om t)
  | .leaf h, _, _, irr => by
    refine ⟨fun _ => 1, fun x _ => ⟨Nat.le_refl _, Nat.le_refl _⟩, fun x hx y hy ha => ?_⟩
    rw [Tr.hs, List.mem_singleton] at hx hy
    rw [hx, hy, irr h (by simp [Tr.hs])] at ha
    cases ha
  | .node al ps, ht, nd, irr => paint_ofL sy al ps ht nd irr
theorem paint_ofL {adj : Nat → Nat → Bool} (sy : ∀ x y, adj x y = adj y x) (al : Bool) : ∀ ps : List Tr, TellsL adj al ps → (Tr.hsL ps).Nodup → (∀ x ∈ Tr.hsL ps, adj x x = false) → ∃ f, Pntg adj (Tr.hsL ps) f (omL al ps)
  | [], _, _, _ => ⟨fun _ => 1, (fun _ z => by cases z), (fun _ z => by cases z)⟩
  | p :: ps, ⟨h1, h2, h3⟩, nd, irr => by
    rw [Tr.hsL] at nd irr ⊢
    obtain ⟨n1, n2, n3⟩ := List.nodup_append.mp nd
    obtain ⟨f, f1, f2⟩ := paint_of sy p h1 n1 fun x hx => irr x (List.mem_append_left _ hx)
    obtain ⟨g, g1, g2⟩ := paint_ofL sy al ps h3 n2 fun x hx => irr x (List.mem_append_right _ hx)
    have no : ∀ y ∈ Tr.hsL ps, y ∉ p.hs := fun y hy hz => n3 y hz y hy rfl
    refine ⟨fun x => if x ∈ p.hs then f x else (if al then om p + g x else g x), fun x hx => ?_, fun x hx y hy ha => ?_⟩
    · rcases List.mem_append.mp hx with hx | hx
      · have := f1 x hx
        simp only [if_pos hx]
        cases al with
        | true => exact ⟨this.1, Nat.le_trans this.2 (Nat.le_add_right _ _)⟩
        | false => exact ⟨this.1, Nat.le_trans this.2 (Nat.le_max_left _ _)⟩
      · have := g1 x hx
        simp only [if_neg (no x hx)]
        cases al with
        | true => exact ⟨by simp only [if_true]; omega, by show om p + g x ≤ om p + omL true ps; omega⟩
        | false => exact ⟨by simpa using this.1, Nat.le_trans (by simpa using this.2) (Nat.le_max_right _ _)⟩
    · rcases List.mem_append.mp hx with hx | hx
      · rcases List.mem_append.mp hy with hy | hy
        · simp only [if_pos hx, if_pos hy]
          exact f2 x hx y hy ha
        · have hal : al = true := by rw [← h2 x hx y hy]; exact ha
          have := f1 x hx
          have := g1 y hy
          simp only [if_pos hx, if_neg (no y hy), hal, if_true]
          omega
      · rcases List.mem_append.mp hy with hy | hy
        · have hal : al = true := by rw [← h2 y hy x hx, sy]; exact ha
          have := f1 y hy
          have := g1 x hx
          simp only [if_pos hy, if_neg (no x hx), hal, if_true]
          omega
        · simp only [if_neg (no x hx), if_neg (no y hy)]
          have := g2 x hx y hy ha
          cases al with
          | true => simp only [if_true]; omega
          | false => simpa using this
end
/-! paintings, as the law lists them -/
/-- a painting of a lot, place by place -/
structure PtL (adj : Nat → Nat → Bool) (lot : List Nat) (pots : Nat) (t : List Nat) : Prop where
  len : t.length = lot.length
  rng : ∀ i, i < lot.length → 1 ≤ t.getD i 0 ∧ t.getD i 0 ≤ pots
  ne : ∀ i k, i < lot.length → k < i → adj (lot.getD i 0) (lot.getD k 0) = true → t.getD k 0 ≠ t.getD i 0
theorem lw_of {adj : Nat → Nat → Bool} {lot : List Nat} {pots : Nat} {f : Nat → Nat} (hf : ∀ x ∈ lot, 1 ≤ f x ∧ f x ≤ pots) (hne : ∀ x ∈ lot, ∀ y ∈ lot, adj x y = true → f x ≠ f y) : ∀ (rest dn : List Nat) (W : List (List Nat)), lot = dn ++ rest → dn.map f ∈ W → lot.map f ∈ lwFrom adj lot pots (rest.zipIdx dn.length) W
  | [], dn, W, e, h => by
    rw [e, List.append_nil]
    exact h
  | x :: rest, dn, W, e, h => by
    rw [List.zipIdx_cons]
    have hx : x ∈ lot := by rw [e]; exact List.mem_append_right _ List.mem_cons_self
    have ih := lw_of hf hne rest (dn ++ [x]) (lwStep adj lot pots dn.length x W) (by rw [e, List.append_assoc]; rfl) (by
      refine List.mem_flatMap.mpr ⟨dn.map f, h, List.mem_map.mpr ⟨f x, List.mem_filter.mpr ⟨List.mem_range'_1.mpr ⟨(hf x hx).1, by have := (hf x hx).2; omega⟩, ?_⟩, by rw [List.map_append]; rfl⟩⟩
      rw [Bool.not_eq_true', decide_eq_false_iff_not]
      intro z
      unfold barred at z
      obtain ⟨k, hk, e2⟩ := List.mem_map.mp z
      obtain ⟨hk, ha⟩ := List.mem_filter.mp hk
      have hk := List.mem_range.mp hk
      have e3 : lot.getD k 0 = dn.getD k 0 := by rw [e]; exact getD_l hk
      rw [e3] at ha
      have hm : dn.getD k 0 ∈ lot := by rw [e]; exact List.mem_append_left _ (getD_mem hk)
      have e4 : (dn.map f).getD k 0 = f (dn.getD k 0) := by
        rw [List.getD_eq_getElem?_getD, List.getElem?_map, List.getD_eq_getElem?_getD, List.getElem?_eq_getElem hk]
        rfl
      rw [e4] at e2
      exact hne x hx _ hm ha e2.symm)
    rw [List.length_append, List.length_singleton] at ih
    exact ih
theorem ways_of_paint {adj : Nat → Nat → Bool} {lot : List Nat} {k : Nat} {f : Nat → Nat} (h : Pntg adj lot f k) : lawWays adj lot k ≠ [] := fun z => by
  have := lw_of (pots := k) h.1 h.2 lot [] [[]] rfl (List.mem_singleton.mpr rfl)
  show False
  unfold lawWays at z
  rw [show (List.zipIdx lot ([] : List Nat).length) = lot.zipIdx from rfl, z] at this
  cases this
theorem lw_is {adj : Nat → Nat → Bool} {lot : List Nat} {pots : Nat} : ∀ (rest dn : List Nat) (W : List (List Nat)), lot = dn ++ rest → (∀ t ∈ W, PtL adj dn pots t) → ∀ t ∈ lwFrom adj lot pots (rest.zipIdx dn.length) W, PtL adj lot pots t
  | [], dn, W, e, h, t, ht => by
    rw [e, List.append_nil]
    exact h t ht
  | x :: rest, dn, W, e, h, t, ht => by
    rw [List.zipIdx_cons] at ht
    have ih := lw_is (adj := adj) (lot := lot) (pots := pots) rest (dn ++ [x]) (lwStep adj lot pots dn.length x W) (by rw [e, List.append_assoc]; rfl) (fun t ht => by
      obtain ⟨s, hs, ht⟩ := List.mem_flatMap.mp ht
      obtain ⟨c, hc, rfl⟩ := List.mem_map.mp ht
      obtain ⟨hc, hb⟩ := List.mem_filter.mp hc
      have hc := List.mem_range'_1.mp hc
      rw [Bool.not_eq_true', decide_eq_false_iff_not] at hb
      have g := h s hs
      have hl := g.len
      have cg : ∀ k, k < dn.length → (dn ++ [x]).getD k 0 = dn.getD k 0 := fun k hk => getD_l hk
      have tg : ∀ k, k < dn.length → (s ++ [c]).getD k 0 = s.getD k 0 := fun k hk => getD_l (by omega)
      have ce : (dn ++ [x]).getD dn.length 0 = x := getD_e
      have te : (s ++ [c]).getD dn.length 0 = c := by rw [← hl]; exact getD_e
      refine ⟨by simp [hl], fun i hi => ?_, fun i k hi hk ha => ?_⟩
      all_goals rw [List.length_append, List.length_singleton] at hi
      · rcases Nat.lt_or_ge i dn.length with z | z
        · rw [tg i z]; exact g.rng i z
        · rw [show i = dn.length by omega, te]; omega
      · rcases Nat.lt_or_ge i dn.length with z | z
        · rw [cg i z, cg k (by omega)] at ha
          rw [tg i z, tg k (by omega)]
          exact g.ne i k z hk ha
        · have : i = dn.length := by omega
          subst this
          rw [ce, cg k hk] at ha
          rw [te, tg k hk]
          intro e2
          refine hb (List.mem_map.mpr ⟨k, List.mem_filter.mpr ⟨List.mem_range.mpr hk, ?_⟩, e2⟩)
          show adj x (lot.getD k 0) = true
          rw [show lot.getD k 0 = dn.getD k 0 by rw [e]; exact getD_l hk]
          exact ha) t
    rw [List.length_append, List.length_singleton] at ih
    exact ih ht
/-- a painting has as many paints as neighbors that are all unlike -/
theorem clique_le {adj : Nat → Nat → Bool} {lot C : List Nat} {k : Nat} (sy : ∀ x y, adj x y = adj y x) (h : lawWays adj lot k ≠ []) (hc : Clq adj C) (hin : ∀ x ∈ C, x ∈ lot) : C.length ≤ k := by
  obtain ⟨t, ht⟩ := List.exists_mem_of_ne_nil _ h
  have P := lw_is (adj := adj) (pots := k) (lot := lot) lot [] [[]] rfl (fun t ht => by
    rw [List.mem_singleton.mp ht]
    exact ⟨rfl, fun _ h => absurd h (Nat.not_lt_zero _), fun _ _ h => absurd h (Nat.not_lt_zero _)⟩) t ht
  let f : Nat → Nat := fun x => t.getD (lot.idxOf x) 0
  have fi : ∀ x ∈ C, lot.idxOf x < lot.length ∧ lot.getD (lot.idxOf x) 0 = x := fun x hx => by
    have h1 := List.idxOf_lt_length_of_mem (hin x hx)
    exact ⟨h1, by rw [List.getD_eq_getElem?_getD, List.getElem?_eq_getElem h1]; exact List.getElem_idxOf h1⟩
  have hnd : (C.map f).Nodup := List.pairwise_map.mpr (List.Pairwise.imp_of_mem (fun {x y} hx hy ha => ?_) (List.Pairwise.and hc.1 hc.2))
  · have := List.Nodup.length_le_of_subset hnd (l₂ := List.range' 1 k) fun p hp => by
      obtain ⟨x, hx, rfl⟩ := List.mem_map.mp hp
      have := P.rng _ (fi x hx).1
      exact List.mem_range'_1.mpr (by
        show 1 ≤ t.getD (lot.idxOf x) 0 ∧ t.getD (lot.idxOf x) 0 < 1 + k
        omega)
    rwa [List.length_map, List.length_range'] at this
  · obtain ⟨hxy, ha⟩ := ha
    obtain ⟨x1, x2⟩ := fi x hx
    obtain ⟨y1, y2⟩ := fi y hy
    rcases Nat.lt_trichotomy (lot.idxOf x) (lot.idxOf y) with z | z | z
    · exact P.ne _ _ y1 z (by rw [x2, y2, sy]; exact ha)
    · exact absurd (by rw [← x2, ← y2, z]) hxy
    · exact fun e => P.ne _ _ x1 z (by rw [x2, y2]; exact ha) e.symm
end GM
end
section
set_option Elab.async false
set_option linter.all false
set_option maxRecDepth 100000
/-! The defs of k02 that k01 has not. -/
namespace Mk
open PySem Mp
/-- keeps_together -/
abbrev F_keeps_together (c_share : Nat) : FD := ⟨4, 5, (.seq (.ite (.cmp .eq (.var 1) (.con (.str "side"))) (.ret (.call c_share (.cons (.idx (.var 0) (.var 2)) (.cons (.var 3) .nil)))) .skip) (.ret (.not (.gen true (.one 4) (.itr .seq (.cons (.var 3) .nil)) (.con (.bl true)) (.cmp .mem (.var 4) (.idx (.var 0) (.var 2)))))))⟩
/-- groups_for -/
abbrev F_groups_for (c_keeps_together : Nat) : FD := ⟨3, 10, (.seq (.asg (.one 3) (.lst .nil)) (.seq (.for_ (.one 4) (.itr .seq (.cons (.var 1) .nil)) (.seq (.asg (.one 5) (.comp (.one 6) (.itr .seq (.cons (.var 3) .nil)) (.call c_keeps_together (.cons (.var 0) (.cons (.var 2) (.cons (.var 4) (.cons (.var 6) .nil))))) (.var 6))) (.seq (.asg (.one 7) (.comp (.one 6) (.itr .seq (.cons (.var 3) .nil)) (.cmp .nmem (.var 6) (.var 5)) (.var 6))) (.seq (.asg (.one 8) (.bin .add (.lst (.cons (.tup (.cons (.var 4) .nil)) .nil)) (.var 5))) (.asg (.one 3) (.bin .add (.var 7) (.lst (.cons (.prim .tuple (.cons (.prim .sorted (.cons (.comp2 (.one 6) (.itr .seq (.cons (.var 8) .nil)) (.con (.bl true)) (.one 9) (.itr .seq (.cons (.var 6) .nil)) (.con (.bl true)) (.var 9)) .nil)) .nil)) .nil)))))))) (.ret (.prim .sorted (.cons (.var 3) .nil)))))⟩
/-- tree_of_lot -/
abbrev F_tree_of_lot (c_groups_for c_tree_of_lot : Nat) : FD := ⟨2, 6, (.seq (.ite (.cmp .eq (.prim .len (.cons (.var 1) .nil)) (.con (.int (1)))) (.ret (.idx (.var 1) (.con (.int (0))))) .skip) (.seq (.for_ (.one 2) (.itr .seq (.cons (.tup (.cons (.con (.str "side")) (.cons (.con (.str "all")) .nil))) .nil)) (.seq (.asg (.one 3) (.call c_groups_for (.cons (.var 0) (.cons (.var 1) (.cons (.var 2) .nil))))) (.ite (.cmp .gt (.prim .len (.cons (.var 3) .nil)) (.con (.int (1)))) (.seq (.asg (.one 4) (.comp (.one 5) (.itr .seq (.cons (.var 3) .nil)) (.con (.bl true)) (.call c_tree_of_lot (.cons (.var 0) (.cons (.var 5) .nil))))) (.ret (.ite (.cmp .mem (.con .non) (.var 4)) (.con .non) (.tup (.cons (.var 2) (.cons (.prim .tuple (.cons (.var 4) .nil)) .nil)))))) .skip))) (.ret (.con .non))))⟩
/-- tree -/
abbrev F_tree (c_check_map c_tree_of_lot c_neighbors c_every_house : Nat) : FD := ⟨1, 1, (.seq (.drop (.call c_check_map (.cons (.var 0) .nil))) (.ret (.call c_tree_of_lot (.cons (.call c_neighbors (.cons (.var 0) .nil)) (.cons (.call c_every_house (.cons (.var 0) .nil)) .nil)))))⟩
/-- _law_houses -/
abbrev F__law_houses (c__law_houses : Nat) : FD := ⟨1, 3, (.seq (.asg (.one 1) (.lst .nil)) (.seq (.for_ (.one 2) (.itr .seq (.cons (.ite (.prim (.isI [3]) (.cons (.var 0) .nil)) (.idx (.var 0) (.con (.int (1)))) (.tup .nil)) .nil)) (.asg (.one 1) (.bin .add (.var 1) (.call c__law_houses (.cons (.var 2) .nil))))) (.ret (.ite (.prim (.isI [3]) (.cons (.var 0) .nil)) (.var 1) (.lst (.cons (.var 0) .nil))))))⟩
/-- _law_told -/
abbrev F__law_told (c__law_told c__law_houses : Nat) : FD := ⟨1, 6, (.seq (.par [1, 2] (.cons (.lst .nil) (.cons (.lst .nil) .nil))) (.seq (.for_ (.one 3) (.itr .seq (.cons (.ite (.prim (.isI [3]) (.cons (.var 0) .nil)) (.idx (.var 0) (.con (.int (1)))) (.tup .nil)) .nil)) (.seq (.asg (.one 1) (.bin .add (.var 1) (.call c__law_told (.cons (.var 3) .nil)))) (.seq (.ite (.cmp .eq (.idx (.var 0) (.con (.int (0)))) (.con (.str "all"))) (.for_ (.one 4) (.itr .seq (.cons (.call c__law_houses (.cons (.var 3) .nil)) .nil)) (.asg (.one 1) (.bin .add (.var 1) (.comp (.one 5) (.itr .seq (.cons (.var 2) .nil)) (.con (.bl true)) (.tup (.cons (.prim .min (.cons (.var 4) (.cons (.var 5) .nil))) (.cons (.prim .max (.cons (.var 4) (.cons (.var 5) .nil))) .nil))))))) .skip) (.asg (.one 2) (.bin .add (.var 2) (.call c__law_houses (.cons (.var 3) .nil))))))) (.ret (.var 1))))⟩
/-- _law_plain -/
abbrev F__law_plain (c__law_houses c__law_plain : Nat) : FD := ⟨2, 4, (.seq (.ite (.not (.prim (.isI [3]) (.cons (.var 0) .nil))) (.ret (.con (.bl true))) .skip) (.seq (.asg (.one 2) (.comp (.one 3) (.itr .seq (.cons (.idx (.var 0) (.con (.int (1)))) .nil)) (.con (.bl true)) (.prim .min (.cons (.call c__law_houses (.cons (.var 3) .nil)) .nil)))) (.seq (.ite (.or (.cmp .eq (.idx (.var 0) (.con (.int (0)))) (.var 1)) (.cmp .ne (.var 2) (.prim .sorted (.cons (.var 2) .nil)))) (.ret (.con (.bl false))) .skip) (.ret (.cmp .eq (.comp (.one 3) (.itr .seq (.cons (.idx (.var 0) (.con (.int (1)))) .nil)) (.not (.call c__law_plain (.cons (.var 3) (.cons (.idx (.var 0) (.con (.int (0)))) .nil)))) (.var 3)) (.lst .nil))))))⟩
/-- is_joint -/
abbrev F_is_joint : FD := ⟨1, 1, (.seq (.ite (.or (.not (.prim (.isI [3]) (.cons (.var 0) .nil))) (.or (.cmp .ne (.prim .len (.cons (.var 0) .nil)) (.con (.int (2)))) (.cmp .nmem (.idx (.var 0) (.con (.int (0)))) (.tup (.cons (.con (.str "side")) (.cons (.con (.str "all")) .nil)))))) (.ret (.con (.bl false))) .skip) (.ret (.and (.prim (.isI [3]) (.cons (.idx (.var 0) (.con (.int (1)))) .nil)) (.cmp .ge (.prim .len (.cons (.idx (.var 0) (.con (.int (1)))) .nil)) (.con (.int (2)))))))⟩
/-- is_tree -/
abbrev F_is_tree (c_is_joint c_is_number : Nat) : FD := ⟨1, 5, (.seq (.par [1, 2] (.cons (.newC (.cons (.var 0) .nil)) (.cons (.newC .nil) .nil))) (.seq (.while_ (.and (.var 1) (.cmp .le (.bin .add (.prim .len (.cons (.var 1) .nil)) (.prim .len (.cons (.var 2) .nil))) (.con (.int (7))))) (.seq (.asg (.one 3) (.meth .pop (.var 1) .nil)) (.ite (.call c_is_joint (.cons (.var 3) .nil)) (.drop (.meth .extend (.var 1) (.cons (.idx (.var 3) (.con (.int (1)))) .nil))) (.drop (.meth .append (.var 2) (.cons (.var 3) .nil)))))) (.seq (.ite (.or (.var 1) (.not (.gen true (.one 4) (.itr .seq (.cons (.var 2) .nil)) (.con (.bl true)) (.call c_is_number (.cons (.var 4) (.cons (.con (.int (0))) (.cons (.bin .sub (.con (.int (7))) (.con (.int (1)))) .nil))))))) (.ret (.con (.bl false))) .skip) (.ret (.cmp .eq (.prim .sorted (.cons (.var 2) .nil)) (.rng1 false (.prim .len (.cons (.var 2) .nil))))))))⟩
/-- check_tree -/
abbrev F_check_tree (c_is_tree : Nat) : FD := ⟨1, 1, (.ite (.not (.call c_is_tree (.cons (.var 0) .nil))) .never .skip)⟩
/-- houses_in -/
abbrev F_houses_in (c_houses_in : Nat) : FD := ⟨1, 3, (.seq (.ite (.prim (.isI [0]) (.cons (.var 0) .nil)) (.ret (.lst (.cons (.var 0) .nil))) .skip) (.ret (.comp2 (.one 1) (.itr .seq (.cons (.idx (.var 0) (.con (.int (1)))) .nil)) (.con (.bl true)) (.one 2) (.itr .seq (.cons (.call c_houses_in (.cons (.var 1) .nil)) .nil)) (.con (.bl true)) (.var 2))))⟩
/-- told_pairs -/
abbrev F_told_pairs (c_houses_in c_told_pairs : Nat) : FD := ⟨1, 9, (.seq (.ite (.prim (.isI [0]) (.cons (.var 0) .nil)) (.ret (.lst .nil)) .skip) (.seq (.asg (.tup [1, 2]) (.var 0)) (.seq (.par [3, 4] (.cons (.lst .nil) (.cons (.lst .nil) .nil))) (.seq (.for_ (.one 5) (.itr .seq (.cons (.var 2) .nil)) (.seq (.asg (.one 6) (.call c_houses_in (.cons (.var 5) .nil))) (.seq (.asg (.one 3) (.bin .add (.var 3) (.call c_told_pairs (.cons (.var 5) .nil)))) (.seq (.ite (.cmp .eq (.var 1) (.con (.str "all"))) (.asg (.one 3) (.bin .add (.var 3) (.comp2 (.one 7) (.itr .seq (.cons (.var 4) .nil)) (.con (.bl true)) (.one 8) (.itr .seq (.cons (.var 6) .nil)) (.con (.bl true)) (.tup (.cons (.prim .min (.cons (.var 7) (.cons (.var 8) .nil))) (.cons (.prim .max (.cons (.var 7) (.cons (.var 8) .nil))) .nil)))))) .skip) (.asg (.one 4) (.bin .add (.var 4) (.var 6))))))) (.ret (.var 3))))))⟩
/-- map_of -/
abbrev F_map_of (c_check_tree c_houses_in c_told_pairs : Nat) : FD := ⟨1, 1, (.seq (.drop (.call c_check_tree (.cons (.var 0) .nil))) (.ret (.tup (.cons (.prim .len (.cons (.call c_houses_in (.cons (.var 0) .nil)) .nil)) (.cons (.prim .tuple (.cons (.prim .sorted (.cons (.call c_told_pairs (.cons (.var 0) .nil)) .nil)) .nil)) .nil)))))⟩
/-- shows_tree -/
abbrev F_shows_tree (c_check_map c_is_tree c_map_of : Nat) : FD := ⟨2, 2, (.seq (.drop (.call c_check_map (.cons (.var 0) .nil))) (.ret (.and (.call c_is_tree (.cons (.var 1) .nil)) (.cmp .eq (.call c_map_of (.cons (.var 1) .nil)) (.var 0)))))⟩
/-- _law_drawn -/
abbrev F__law_drawn (c__law_taken c__law_pick c__law_drawn : Nat) : FD := ⟨2, 7, (.seq (.ite (.cmp .eq (.prim .len (.cons (.var 1) .nil)) (.con (.int (1)))) (.ret (.idx (.var 1) (.con (.int (0))))) .skip) (.seq (.asg (.one 2) (.comp (.one 3) (.itr .range1 (.cons (.bin .add (.con (.int (2))) (.call c__law_taken (.cons (.var 0) (.cons (.prim .min (.cons (.con (.int (3))) (.cons (.bin .sub (.prim .len (.cons (.var 1) .nil)) (.con (.int (1)))) .nil))) .nil)))) .nil)) (.con (.bl true)) (.newC .nil))) (.seq (.for_ (.tup [4, 5]) (.itr .enum (.cons (.var 1) .nil)) (.drop (.meth .append (.idx (.var 2) (.ite (.cmp .lt (.var 4) (.prim .len (.cons (.var 2) .nil))) (.var 4) (.call c__law_taken (.cons (.var 0) (.cons (.prim .len (.cons (.var 2) .nil)) .nil))))) (.cons (.var 5) .nil)))) (.ret (.tup (.cons (.call c__law_pick (.cons (.var 0) (.cons (.lst (.cons (.con (.str "side")) (.cons (.con (.str "all")) .nil))) .nil))) (.cons (.prim .tuple (.cons (.comp (.one 6) (.itr .seq (.cons (.var 2) .nil)) (.con (.bl true)) (.call c__law_drawn (.cons (.var 0) (.cons (.var 6) .nil)))) .nil)) .nil)))))))⟩
/-- tree_need -/
abbrev F_tree_need (c_map_of c_need c_every_house : Nat) : FD := ⟨1, 2, (.seq (.asg (.one 1) (.call c_map_of (.cons (.var 0) .nil))) (.ret (.call c_need (.cons (.var 1) (.cons (.call c_every_house (.cons (.var 1) .nil)) .nil)))))⟩
/-- tree_paintings -/
abbrev F_tree_paintings (c_count_paintings c_map_of : Nat) : FD := ⟨2, 2, (.ret (.call c_count_paintings (.cons (.call c_map_of (.cons (.var 0) .nil)) (.cons (.var 1) .nil))))⟩
end Mk
end
section
set_option Elab.async false
set_option linter.all false
set_option maxRecDepth 100000
set_option maxHeartbeats 400000
/-! Trees as data; what is read from them. -/
namespace Mk
open PySem Mp GM
open Dat (enc)
abbrev wD (al : Bool) : D := .str (if al then "all" else "side")
mutual
def tD : Tr → D
  | .leaf h => .int (h : Nat)
  | .node al ps => .tup [wD al, .tup (tDs ps)]
def tDs : List Tr → List D
  | [] => []
  | p :: ps => tD p :: tDs ps
end
theorem tDs_map : ∀ ps : List Tr, tDs ps = ps.map tD
  | [] => rfl
  | p :: ps => by rw [tDs, tDs_map ps, List.map_cons]
theorem tD_node {al : Bool} {ps : List Tr} : tD (.node al ps) = .tup [wD al, .tup (ps.map tD)] := by rw [tD, tDs_map]
theorem tD_leaf {h : Nat} : tD (.leaf h) = enc h := rfl
mutual
def tHt : Tr → Nat
  | .leaf _ => 0
  | .node _ ps => tHtL ps + 1
def tHtL : List Tr → Nat
  | [] => 0
  | p :: ps => max (tHt p) (tHtL ps)
end
mutual
def wf : Tr → Prop
  | .leaf _ => True
  | .node _ ps => 2 ≤ ps.length ∧ wfL ps
def wfL : List Tr → Prop
  | [] => True
  | p :: ps => wf p ∧ wfL ps
end
theorem wfL_iff : ∀ {ps : List Tr}, wfL ps ↔ ∀ p ∈ ps, wf p
  | [] => by simp [wfL]
  | p :: ps => by rw [wfL, wfL_iff (ps := ps), List.forall_mem_cons]
theorem ht_le {p : Tr} : ∀ {ps : List Tr}, p ∈ ps → tHt p ≤ tHtL ps
  | q :: ps, h => by
    rw [tHtL]
    rcases List.mem_cons.mp h with rfl | h
    · exact Nat.le_max_left _ _
    · exact Nat.le_trans (ht_le h) (Nat.le_max_right _ _)
theorem ht_lt {p : Tr} {al : Bool} {ps : List Tr} (h : p ∈ ps) : tHt p < tHt (.node al ps) := by
  rw [tHt]
  exact Nat.lt_succ_of_le (ht_le h)
mutual
theorem wf_pos : ∀ {t : Tr}, wf t → 1 ≤ t.hs.length
  | .leaf _, _ => Nat.le_refl _
  | .node _ ps, ⟨h1, h2⟩ => Nat.le_trans (Nat.le_trans (by decide) h1) (wf_posL h2)
theorem wf_posL : ∀ {ps : List Tr}, wfL ps → ps.length ≤ (Tr.hsL ps).length
  | [], _ => Nat.le_refl _
  | p :: ps, ⟨h1, h2⟩ => by
    rw [Tr.hsL, List.length_append, List.length_cons]
    have := wf_pos h1
    have := wf_posL h2
    omega
end
theorem hs_le {p : Tr} : ∀ {ps : List Tr}, p ∈ ps → p.hs.length ≤ (Tr.hsL ps).length
  | q :: ps, h => by
    rw [Tr.hsL, List.length_append]
    rcases List.mem_cons.mp h with rfl | h
    · exact Nat.le_add_right _ _
    · have := hs_le h
      omega
/-- a part is smaller -/
theorem hs_lt {p : Tr} {ps : List Tr} (h : p ∈ ps) (w : wfL ps) (h2 : 2 ≤ ps.length) : p.hs.length < (Tr.hsL ps).length := by
  obtain ⟨a, b, rfl⟩ := List.append_of_mem h
  rw [Tr.hsL_flat, List.flatMap_append, List.flatMap_cons, List.length_append, List.length_append, ← Tr.hsL_flat, ← Tr.hsL_flat]
  have w' := wfL_iff.mp w
  have h3 := wf_posL (wfL_iff.mpr fun q hq => w' q (List.mem_append_left _ hq) : wfL a)
  have h4 := wf_posL (wfL_iff.mpr fun q hq => w' q (List.mem_append_right _ (List.mem_cons_of_mem _ hq)) : wfL b)
  rw [List.length_append, List.length_cons] at h2
  omega
structure Good (t : Tr) : Prop where
  wf : wf t
  most : t.hs.length ≤ 7
theorem Good.part {al : Bool} {ps : List Tr} {p : Tr} (g : Good (.node al ps)) (h : p ∈ ps) : Good p :=
  ⟨wfL_iff.mp g.wf.2 p h, Nat.le_trans (hs_le h) g.most⟩
theorem Good.many {al : Bool} {ps : List Tr} (g : Good (.node al ps)) : ps.length ≤ 7 := Nat.le_trans (wf_posL g.wf.2) g.most
theorem Good.ht {t : Tr} (g : Good t) : tHt t < t.hs.length := by
  obtain ⟨w, _⟩ := g
  suffices h : ∀ k (t : Tr), t.hs.length ≤ k → Mk.wf t → tHt t < t.hs.length from h _ t (Nat.le_refl _) w
  intro k
  induction k with
  | zero => intro t h w; have := wf_pos w; omega
  | succ k ih =>
    intro t h w
    cases t with
    | leaf _ => exact Nat.zero_lt_one
    | node al ps =>
      rw [tHt]
      show tHtL ps + 1 < (Tr.hsL ps).length
      have h : (Tr.hsL ps).length ≤ k + 1 := h
      have aux : ∀ qs : List Tr, (∀ q ∈ qs, tHt q + 1 < (Tr.hsL ps).length) → 1 < (Tr.hsL ps).length → tHtL qs + 1 < (Tr.hsL ps).length := by
        intro qs
        induction qs with
        | nil => intro _ h; exact h
        | cons q qs ih =>
          intro h1 h2
          rw [tHtL]
          have := h1 q List.mem_cons_self
          have := ih (fun x hx => h1 x (List.mem_cons_of_mem _ hx)) h2
          omega
      refine aux ps (fun q hq => ?_) (Nat.lt_of_lt_of_le w.1 (wf_posL w.2))
      have h5 := hs_lt hq w.2 w.1
      have := ih q (by omega) (wfL_iff.mp w.2 q hq)
      omega
mutual
theorem tD_pl : ∀ t : Tr, D.low 0 (tD t) = true
  | .leaf _ => rfl
  | .node al ps => by
    rw [tD]
    show (D.low 0 (wD al) && (D.low 0 (.tup (tDs ps)) && true)) = true
    rw [show D.low 0 (.tup (tDs ps)) = true by rw [D.low]; exact tDs_pl ps]
    rfl
theorem tDs_pl : ∀ ps : List Tr, D.lows 0 (tDs ps) = true
  | [] => rfl
  | p :: ps => by
    rw [tDs, D.lows, tD_pl p, tDs_pl ps]
    rfl
end
theorem hs_node {al : Bool} {ps : List Tr} : (Tr.node al ps).hs.map (enc (α := Nat)) = ps.flatMap fun p => p.hs.map enc := by
  show (Tr.hsL ps).map enc = _
  rw [Tr.hsL_flat, List.map_flatMap]
theorem filter_all {α : Type} {l : List α} : l.filter (fun _ => true) = l := List.filter_eq_self.mpr fun _ _ => rfl
section
variable {C : CallF} {a b c : E} {env : Mp.Env} {st st1 : St} {r : Res D}
theorem iet (h : bnd (ev C c env) truth st = .ok true st1) (h2 : ev C a env st1 = r) : ev C (.ite c a b) env st = r := by
  simp only [ev]
  exact bk2 h h2
theorem ief (h : bnd (ev C c env) truth st = .ok false st1) (h2 : ev C b env st1 = r) : ev C (.ite c a b) env st = r := by
  simp only [ev]
  exact bk2 h h2
end
section
variable {T : List FD}
def SpHin (T : List FD) (i : Nat) : Prop := ∀ (n : Nat) (t : Tr) (st : St), tHt t < n → Good t → Low st → run T n i [tD t] st = .ok (dL t.hs) st
theorem hin_ok {i : Nat} (hT : T[i]? = some (F_houses_in i)) : SpHin T i := fun n => by
  induction n with
  | zero => intro t st h; exact absurd h (Nat.not_lt_zero _)
  | succ m ih =>
    intro t st h g hs
    cases t with
    | leaf x => exact run_pl hs hT rfl (pl_L (l := [x])) (sqr (ift (tb (pr (al (vr rfl) al0) rfl)) (rt (ls1 (v := x) (vr rfl)))))
    | node al_ ps =>
      have hm := g.most
      rw [tD_node]
      refine run_pl hs hT rfl pl_L (sq (ife (tb (pr (al (vr rfl) al0) rfl)) sk) (rt ?_))
      rw [dL, hs_node]
      refine cmp20 (β := Nat) (xs := ps) (f := tD) (fun p => p.hs.map enc) (it_tup (ix (vr rfl) cn rfl)) rfl (fun p hp => ⟨_, rfl, p.hs, none, enc, fun _ => true, enc, it_lst (cl (al (vr rfl) al0) (ih p st (by have := ht_lt (al := al_) hp; omega) (g.part hp) hs)), rfl, fun y hy => ⟨_, rfl, rfl, fun _ => vr rfl⟩, by rw [filter_all]⟩) ?_
      rw [← hs_node (al := al_), List.length_map]
      exact Nat.le_trans hm (by decide)
def SpLHin (T : List FD) (i : Nat) : Prop := ∀ (n : Nat) (t : Tr) (st : St), tHt t < n → Good t → Low st → run T n i [tD t] st = .ok (dL t.hs) st
theorem hsL_snoc {ps : List Tr} {x : Tr} : Tr.hsL (ps ++ [x]) = Tr.hsL ps ++ x.hs := by
  rw [Tr.hsL_flat, List.flatMap_append, ← Tr.hsL_flat, List.flatMap_singleton]
theorem hsL_pre {dn ps : List Tr} (h : dn <+: ps) : (Tr.hsL dn).length ≤ (Tr.hsL ps).length := by
  obtain ⟨t, rfl⟩ := h
  rw [Tr.hsL_flat, Tr.hsL_flat, List.flatMap_append, List.length_append]
  exact Nat.le_add_right _ _
theorem lhin_ok {i : Nat} (hT : T[i]? = some (F__law_houses i)) : SpLHin T i := fun n => by
  induction n with
  | zero => intro t st h; exact absurd h (Nat.not_lt_zero _)
  | succ m ih =>
    intro t st h g hs
    cases t with
    | leaf x =>
      exact run_pl hs hT rfl (pl_L (l := [x])) (sq (asg (ls al0 (Nat.zero_le _)) rfl) (sq (env1 := [some (enc x), some (.lst []), none]) (st1 := st) rfl (rt (ief (tb (k := false) (pr (al (vr rfl) al0) rfl)) (ls1 (v := x) (vr rfl))))))
    | node al_ ps =>
      have hm := g.most
      rw [tD_node]
      have cond : ∀ env : Mp.Env, env[0]? = some (some (.tup [wD al_, .tup (ps.map tD)])) → bnd (ev (run T m) (.prim (.isI [3]) (.cons (.var 0) .nil)) env) truth st = .ok true st := fun env he => tb (pr (al (vr he) al0) rfl)
      obtain ⟨env2, st2, h1, ⟨y2, rfl⟩, rfl⟩ := for1 (C := run T m) (p := .one 2) (e := .itr .seq (.cons (.ite (.prim (.isI [3]) (.cons (.var 0) .nil)) (.idx (.var 0) (.con (.int (1)))) (.tup .nil)) .nil)) (s := (.asg (.one 1) (.bin .add (.var 1) (.call i (.cons (.var 2) .nil)))))
        (env := [some (.tup [wD al_, .tup (ps.map tD)]), some (dL ([] : List Nat)), none]) (st := st) (f := tD) (xs := ps)
        (fun dn env s => (∃ y2, env = [some (.tup [wD al_, .tup (ps.map tD)]), some (dL (Tr.hsL dn)), y2]) ∧ s = st)
        (it_tup (iet (cond _ rfl) (ix (vr rfl) cn rfl))) ⟨⟨none, rfl⟩, rfl⟩ fun x dn env s hx hp ⟨⟨y2, e1⟩, e2⟩ => by
            subst e1 e2
            have h7 := hsL_pre hp
            rw [hsL_snoc] at h7 ⊢
            refine ⟨_, _, s, rfl, asg (bn (vr rfl) (cl (al (vr rfl) al0) (ih x s (by have := ht_lt (al := al_) hx; omega) (g.part hx) hs)) (addL (Nat.le_trans h7 (Nat.le_trans hm (by decide))))) rfl, rfl, ⟨_, rfl⟩, rfl⟩
      refine run_pl hs hT rfl pl_L (sq (asg (ls al0 (Nat.zero_le _)) rfl) (sq h1 (rt (iet (cond _ rfl) (vr rfl)))))
end
end Mk
end
section
set_option Elab.async false
set_option linter.all false
set_option maxRecDepth 100000
set_option maxHeartbeats 400000
/-! What trees tell; plain trees. -/
namespace Mk
open PySem Mp GM
open Dat (enc)
mutual
theorem tpP_len : ∀ t : Tr, (tpP t).length ≤ t.hs.length * t.hs.length
  | .leaf _ => Nat.zero_le _
  | .node al ps => by
    have := tpPL_len al ps [] []
    simp only [List.length_nil, Nat.zero_add, Nat.mul_zero, Nat.add_zero] at this
    exact this
theorem tpPL_len (al : Bool) : ∀ (ps : List Tr) (P : List (Nat × Nat)) (A : List Nat), (tpPL al ps P A).length + A.length * A.length ≤ P.length + (A.length + (Tr.hsL ps).length) * (A.length + (Tr.hsL ps).length)
  | [], P, A => by
    show P.length + _ ≤ P.length + (A.length + 0) * (A.length + 0)
    exact Nat.le_refl _
  | p :: ps, P, A => by
    have h1 := tpP_len p
    have h2 := tpPL_len al ps (P ++ tpP p ++ (if al then crossP A p.hs else [])) (A ++ p.hs)
    have h3 : (if al then crossP A p.hs else []).length ≤ A.length * p.hs.length := by
      split
      · unfold crossP
        rw [List.length_flatMap]
        have : (A.map fun one => (p.hs.map fun other => mm one other).length) = A.map fun _ => p.hs.length := List.map_congr_left fun _ _ => List.length_map _
        rw [this, List.map_const', List.sum_replicate_nat]
        exact Nat.le_refl _
      · exact Nat.zero_le _
    rw [Tr.hsL, List.length_append]
    rw [List.length_append, List.length_append, List.length_append] at h2
    show (tpPL al ps _ _).length + _ ≤ _
    generalize (tpPL al ps (P ++ tpP p ++ (if al then crossP A p.hs else [])) (A ++ p.hs)).length = L at *
    generalize (if al then crossP A p.hs else []).length = X at *
    generalize (tpP p).length = Y at *
    generalize A.length = a at *
    generalize p.hs.length = b at *
    generalize (Tr.hsL ps).length = c at *
    generalize P.length = d at *
    have e : (a + (b + c)) * (a + (b + c)) = (a + b + c) * (a + b + c) := by rw [Nat.add_assoc]
    rw [e]
    generalize (a + b + c) * (a + b + c) = Z at *
    have e2 : (a + b) * (a + b) = a * a + a * b + (a * b + b * b) := by
      rw [Nat.add_mul, Nat.mul_add, Nat.mul_add, Nat.mul_comm b a]
    rw [e2] at h2
    omega
end
theorem tpPL_pre (al : Bool) : ∀ (ps : List Tr) (P : List (Nat × Nat)) (A : List Nat), P.length ≤ (tpPL al ps P A).length
  | [], _, _ => Nat.le_refl _
  | p :: ps, P, A => by
    refine Nat.le_trans ?_ (tpPL_pre al ps _ _)
    rw [List.length_append, List.length_append]
    omega
theorem tpLL_pre (al : Bool) : ∀ (ps : List Tr) (P : List (Nat × Nat)) (A : List Nat), P.length ≤ (tpLL al ps P A).length
  | [], _, _ => Nat.le_refl _
  | p :: ps, P, A => by
    refine Nat.le_trans ?_ (tpLL_pre al ps _ _)
    rw [List.length_append, List.length_append]
    omega
theorem Good.pairs {t : Tr} (g : Good t) : (tpP t).length ≤ 49 := Nat.le_trans (tpP_len t) (Nat.mul_le_mul g.most g.most)
theorem Good.pairsL {t : Tr} (g : Good t) : (tpL t).length ≤ 49 := by
  rw [← (tp_perm t).length_eq]
  exact g.pairs
theorem cross_map {A B : List Nat} : (crossP A B).map enc = A.flatMap fun a => B.map fun b => enc (mm a b) := by
  unfold crossP
  rw [List.map_flatMap]
  congr 1
  funext a
  rw [List.map_map]
  rfl
theorem ok_w {al : Bool} : D.ok (wD al) = true := by
  show PyData.strOk (if al then "all" else "side" : Str) = true
  cases al <;> decide +kernel
theorem w_eq {al be : Bool} : D.eq (wD al) (wD be) = (al == be) := by
  show ((if al then "all" else "side" : Str) == (if be then "all" else "side" : Str)) = _
  cases al <;> cases be <;> decide +kernel
theorem ww_eq {al be : Bool} {st : St} : cmpD .eq (wD al) (wD be) st = .ok (.bl (al == be)) st := by
  show cmpS .eq (wD al) (wD be) st = _
  simp only [cmpS, ok_w, Bool.and_self, if_true, w_eq, Mp.ret]
theorem word_eq {al : Bool} {st : St} : cmpD .eq (wD al) (.str "all") st = .ok (.bl al) st := by
  refine (ww_eq (be := true)).trans ?_
  cases al <;> rfl
theorem side_eq {al : Bool} {st : St} : cmpD .eq (wD al) (.str "side") st = .ok (.bl (!al)) st := by
  refine (ww_eq (be := false)).trans ?_
  cases al <;> rfl
theorem mm_ev {C : CallF} {env : Mp.Env} {st : St} {i j x y : Nat} (h1 : env[i]? = some (some (enc x))) (h2 : env[j]? = some (some (enc y))) :
    ev C (.tup (.cons (.prim .min (.cons (.var i) (.cons (.var j) .nil))) (.cons (.prim .max (.cons (.var i) (.cons (.var j) .nil))) .nil))) env st = .ok (enc (mm x y)) st :=
  tp (al (pr (al (vr h1) (al (vr h2) al0)) prim_min2) (al (pr (al (vr h1) (al (vr h2) al0)) prim_max2) al0)) (by show 2 ≤ line; decide)
section
variable {T : List FD}
def SpTold (T : List FD) (i : Nat) : Prop := ∀ (n : Nat) (t : Tr) (st : St), tHt t + 1 < n → Good t → Low st → run T n i [tD t] st = .ok (dL (tpP t)) st
theorem told_ok {i c : Nat} (hT : T[i]? = some (F_told_pairs c i)) (k1 : SpHin T c) : SpTold T i := fun n => by
  induction n with
  | zero => intro t st h; exact absurd h (Nat.not_lt_zero _)
  | succ m ih =>
    intro t st h g hs
    cases t with
    | leaf x => exact run_pl hs hT rfl (pl_L (l := ([] : List (Nat × Nat)))) (sqr (ift (tb (pr (al (vr rfl) al0) rfl)) (rt (ls al0 (Nat.zero_le _)))))
    | node al_ ps =>
      have hm := g.most
      have hp49 := g.pairs
      rw [tD_node]
      have hm : (Tr.hsL ps).length ≤ 7 := hm
      have hp49 : (tpPL al_ ps [] []).length ≤ 49 := hp49
      show _ = Res.ok (dL (tpPL al_ ps [] [])) st
      obtain ⟨env2, st2, h1, rfl, P, y5, y6, rfl, hP⟩ := for1 (C := run T m) (p := .one 5) (e := .itr .seq (.cons (.var 2) .nil)) (s := (.seq (.asg (.one 6) (.call c (.cons (.var 5) .nil))) (.seq (.asg (.one 3) (.bin .add (.var 3) (.call i (.cons (.var 5) .nil)))) (.seq (.ite (.cmp .eq (.var 1) (.con (.str "all"))) (.asg (.one 3) (.bin .add (.var 3) (.comp2 (.one 7) (.itr .seq (.cons (.var 4) .nil)) (.con (.bl true)) (.one 8) (.itr .seq (.cons (.var 6) .nil)) (.con (.bl true)) (.tup (.cons (.prim .min (.cons (.var 7) (.cons (.var 8) .nil))) (.cons (.prim .max (.cons (.var 7) (.cons (.var 8) .nil))) .nil)))))) .skip) (.asg (.one 4) (.bin .add (.var 4) (.var 6)))))))
        (env := [some (.tup [wD al_, .tup (ps.map tD)]), some (wD al_), some (.tup (ps.map tD)), some (dL ([] : List (Nat × Nat))), some (dL ([] : List Nat)), none, none, none, none]) (st := st) (f := tD) (xs := ps)
        (fun dn env s => s = st ∧ ∃ (P : List (Nat × Nat)) (y5 y6 : Option D), env = [some (.tup [wD al_, .tup (ps.map tD)]), some (wD al_), some (.tup (ps.map tD)), some (dL P), some (dL (Tr.hsL dn)), y5, y6, none, none] ∧ ∀ rest, dn ++ rest = ps → tpPL al_ rest P (Tr.hsL dn) = tpPL al_ ps [] [])
        (it_tup (vr rfl)) ⟨rfl, [], none, none, rfl, fun rest e => by rw [← e]; rfl⟩ fun x dn env s hx hp ⟨e2, P, y5, y6, e1, hP⟩ => by
          subst e1 e2
          obtain ⟨rest, he⟩ := hp
          have he' : dn ++ (x :: rest) = ps := by rw [← he, List.append_assoc]; rfl
          have q := hP _ he'
          have hh := hsL_pre (⟨rest, he⟩ : dn ++ [x] <+: ps)
          rw [hsL_snoc] at hh ⊢
          rw [tpPL] at q
          have q2 := tpPL_pre al_ rest (P ++ tpP x ++ (if al_ then crossP (Tr.hsL dn) x.hs else [])) (Tr.hsL dn ++ x.hs)
          rw [q] at q2
          have gx := g.part hx
          have hx2 := ht_lt (al := al_) hx
          have q3 : (P ++ tpP x).length ≤ 49 := by rw [List.length_append] at q2; omega
          have s1 : exec (run T m) (.asg (.one 6) (.call c (.cons (.var 5) .nil))) [some (.tup [wD al_, .tup (ps.map tD)]), some (wD al_), some (.tup (ps.map tD)), some (dL P), some (dL (Tr.hsL dn)), some (tD x), y6, none, none] s = .next [some (.tup [wD al_, .tup (ps.map tD)]), some (wD al_), some (.tup (ps.map tD)), some (dL P), some (dL (Tr.hsL dn)), some (tD x), some (dL x.hs), none, none] s :=
            asg (cl (al (vr rfl) al0) (k1 m x s (by omega) gx hs)) rfl
          have s2 : exec (run T m) (.asg (.one 3) (.bin .add (.var 3) (.call i (.cons (.var 5) .nil)))) [some (.tup [wD al_, .tup (ps.map tD)]), some (wD al_), some (.tup (ps.map tD)), some (dL P), some (dL (Tr.hsL dn)), some (tD x), some (dL x.hs), none, none] s = .next [some (.tup [wD al_, .tup (ps.map tD)]), some (wD al_), some (.tup (ps.map tD)), some (dL (P ++ tpP x)), some (dL (Tr.hsL dn)), some (tD x), some (dL x.hs), none, none] s :=
            asg (bn (vr rfl) (cl (al (vr rfl) al0) (ih x s (by omega) gx hs)) (addL (Nat.le_trans q3 (by decide)))) rfl
          have s3 : exec (run T m) (.ite (.cmp .eq (.var 1) (.con (.str "all"))) (.asg (.one 3) (.bin .add (.var 3) (.comp2 (.one 7) (.itr .seq (.cons (.var 4) .nil)) (.con (.bl true)) (.one 8) (.itr .seq (.cons (.var 6) .nil)) (.con (.bl true)) (.tup (.cons (.prim .min (.cons (.var 7) (.cons (.var 8) .nil))) (.cons (.prim .max (.cons (.var 7) (.cons (.var 8) .nil))) .nil)))))) .skip) [some (.tup [wD al_, .tup (ps.map tD)]), some (wD al_), some (.tup (ps.map tD)), some (dL (P ++ tpP x)), some (dL (Tr.hsL dn)), some (tD x), some (dL x.hs), none, none] s = .next [some (.tup [wD al_, .tup (ps.map tD)]), some (wD al_), some (.tup (ps.map tD)), some (dL (P ++ tpP x ++ (if al_ then crossP (Tr.hsL dn) x.hs else []))), some (dL (Tr.hsL dn)), some (tD x), some (dL x.hs), none, none] s := by
            refine iff_ (tb (cm (vr rfl) cn word_eq)) ?_
            cases al_ with
            | false =>
              rw [if_neg (by simp), if_neg (by simp), List.append_nil]
              exact sk (C := run T m)
            | true =>
              rw [if_pos rfl, if_pos rfl]
              rw [if_pos rfl] at q2
              refine asg (bn (y := dL (P ++ tpP x)) (z := dL (crossP (Tr.hsL dn) x.hs)) (st1 := s) (st2 := s) (vr rfl) ?_ (addL (Nat.le_trans (Nat.le_trans q2 hp49) (by decide)))) rfl
              rw [show dL (crossP (Tr.hsL dn) x.hs) = .lst ((Tr.hsL dn).flatMap fun a => x.hs.map fun b => enc (mm a b)) by rw [dL, cross_map]]
              refine cmp20 (β := Nat) (xs := Tr.hsL dn) (f := enc (α := Nat)) (fun a => x.hs.map fun b => enc (mm a b)) (it_lst (vr rfl)) rfl (fun a ha => ⟨_, rfl, x.hs, none, enc (α := Nat), fun _ => true, fun b => enc (mm a b), it_lst (vr rfl), rfl, fun b hb => ⟨_, rfl, rfl, fun _ => mm_ev rfl rfl⟩, by rw [filter_all]⟩) ?_
              rw [← cross_map, List.length_map]
              rw [List.length_append] at q2
              exact Nat.le_trans (show _ ≤ 49 by omega) (by decide)
          refine ⟨_, _, s, rfl, sq s1 (sq s2 (sq s3 (asg (bn (vr rfl) (vr rfl) (addL (Nat.le_trans hh (Nat.le_trans hm (by decide))))) rfl))), rfl, rfl, _, _, _, rfl, fun rest' e => ?_⟩
          have : rest' = rest := by
            rw [← he] at e
            exact List.append_cancel_left e
          rw [this]
          exact q
      have hP := hP [] (List.append_nil _)
      have hP : P = tpPL al_ ps [] [] := hP
      subst hP
      exact run_pl hs hT rfl pl_L (sq (ife (tb (pr (al (vr rfl) al0) rfl)) sk) (sq (asg (vr rfl) rfl) (sq (env1 := [some (.tup [wD al_, .tup (ps.map tD)]), some (wD al_), some (.tup (ps.map tD)), some (dL ([] : List (Nat × Nat))), some (dL ([] : List Nat)), none, none, none, none]) (st1 := st2) rfl (sq h1 (rt (vr rfl))))))
def SpLTold (T : List FD) (i : Nat) : Prop := ∀ (n : Nat) (t : Tr) (st : St), tHt t + 1 < n → Good t → Low st → run T n i [tD t] st = .ok (dL (tpL t)) st
theorem cross_snoc {A B : List Nat} {x : Nat} : crossP (A ++ [x]) B = crossP A B ++ B.map fun o => mm x o := by
  unfold crossP
  rw [List.flatMap_append, List.flatMap_singleton]
theorem cross_most {dn A B : List Nat} (h : dn <+: A) : (crossP dn B).length ≤ (crossP A B).length := flat_pre h
theorem ltold_ok {i c : Nat} (hT : T[i]? = some (F__law_told i c)) (k1 : SpLHin T c) : SpLTold T i := fun n => by
  induction n with
  | zero => intro t st h; exact absurd h (Nat.not_lt_zero _)
  | succ m ih =>
    intro t st h g hs
    cases t with
    | leaf x => exact run_pl hs hT rfl (pl_L (l := ([] : List (Nat × Nat)))) (sq (env1 := [some (enc x), some (dL ([] : List (Nat × Nat))), some (dL ([] : List Nat)), none, none, none]) (st1 := st) rfl (sq (env1 := [some (enc x), some (dL ([] : List (Nat × Nat))), some (dL ([] : List Nat)), none, none, none]) (st1 := st) rfl (rt (vr rfl))))
    | node al_ ps =>
      have hm := g.most
      have hp49 := g.pairsL
      rw [tD_node]
      have hm : (Tr.hsL ps).length ≤ 7 := hm
      have hp49 : (tpLL al_ ps [] []).length ≤ 49 := hp49
      show _ = Res.ok (dL (tpLL al_ ps [] [])) st
      have cond : ∀ env : Mp.Env, env[0]? = some (some (.tup [wD al_, .tup (ps.map tD)])) → bnd (ev (run T m) (.prim (.isI [3]) (.cons (.var 0) .nil)) env) truth st = .ok true st := fun env he => tb (pr (al (vr he) al0) rfl)
      obtain ⟨env2, st2, h1, rfl, P, y3, y4, rfl, hP⟩ := for1 (C := run T m) (p := .one 3) (e := .itr .seq (.cons (.ite (.prim (.isI [3]) (.cons (.var 0) .nil)) (.idx (.var 0) (.con (.int (1)))) (.tup .nil)) .nil)) (s := (.seq (.asg (.one 1) (.bin .add (.var 1) (.call i (.cons (.var 3) .nil)))) (.seq (.ite (.cmp .eq (.idx (.var 0) (.con (.int (0)))) (.con (.str "all"))) (.for_ (.one 4) (.itr .seq (.cons (.call c (.cons (.var 3) .nil)) .nil)) (.asg (.one 1) (.bin .add (.var 1) (.comp (.one 5) (.itr .seq (.cons (.var 2) .nil)) (.con (.bl true)) (.tup (.cons (.prim .min (.cons (.var 4) (.cons (.var 5) .nil))) (.cons (.prim .max (.cons (.var 4) (.cons (.var 5) .nil))) .nil))))))) .skip) (.asg (.one 2) (.bin .add (.var 2) (.call c (.cons (.var 3) .nil)))))))
        (env := [some (.tup [wD al_, .tup (ps.map tD)]), some (dL ([] : List (Nat × Nat))), some (dL ([] : List Nat)), none, none, none]) (st := st) (f := tD) (xs := ps)
        (fun dn env s => s = st ∧ ∃ (P : List (Nat × Nat)) (y3 y4 : Option D), env = [some (.tup [wD al_, .tup (ps.map tD)]), some (dL P), some (dL (Tr.hsL dn)), y3, y4, none] ∧ ∀ rest, dn ++ rest = ps → tpLL al_ rest P (Tr.hsL dn) = tpLL al_ ps [] [])
        (it_tup (iet (cond _ rfl) (ix (vr rfl) cn rfl))) ⟨rfl, [], none, none, rfl, fun rest e => by rw [← e]; rfl⟩ fun x dn env s hx hp ⟨e2, P, y3, y4, e1, hP⟩ => by
          subst e1 e2
          obtain ⟨rest, he⟩ := hp
          have he' : dn ++ (x :: rest) = ps := by rw [← he, List.append_assoc]; rfl
          have q := hP _ he'
          have hh := hsL_pre (⟨rest, he⟩ : dn ++ [x] <+: ps)
          rw [hsL_snoc] at hh ⊢
          rw [tpLL] at q
          have q2 := tpLL_pre al_ rest (P ++ tpL x ++ (if al_ then crossP x.hs (Tr.hsL dn) else [])) (Tr.hsL dn ++ x.hs)
          rw [q] at q2
          have gx := g.part hx
          have hx2 := ht_lt (al := al_) hx
          have q3 : (P ++ tpL x).length ≤ 49 := by rw [List.length_append] at q2; omega
          have s2 : exec (run T m) (.asg (.one 1) (.bin .add (.var 1) (.call i (.cons (.var 3) .nil)))) [some (.tup [wD al_, .tup (ps.map tD)]), some (dL P), some (dL (Tr.hsL dn)), some (tD x), y4, none] s = .next [some (.tup [wD al_, .tup (ps.map tD)]), some (dL (P ++ tpL x)), some (dL (Tr.hsL dn)), some (tD x), y4, none] s :=
            asg (bn (vr rfl) (cl (al (vr rfl) al0) (ih x s (by omega) gx hs)) (addL (Nat.le_trans q3 (by decide)))) rfl
          obtain ⟨y4', s3⟩ : ∃ y4', exec (run T m) (.ite (.cmp .eq (.idx (.var 0) (.con (.int (0)))) (.con (.str "all"))) (.for_ (.one 4) (.itr .seq (.cons (.call c (.cons (.var 3) .nil)) .nil)) (.asg (.one 1) (.bin .add (.var 1) (.comp (.one 5) (.itr .seq (.cons (.var 2) .nil)) (.con (.bl true)) (.tup (.cons (.prim .min (.cons (.var 4) (.cons (.var 5) .nil))) (.cons (.prim .max (.cons (.var 4) (.cons (.var 5) .nil))) .nil))))))) .skip) [some (.tup [wD al_, .tup (ps.map tD)]), some (dL (P ++ tpL x)), some (dL (Tr.hsL dn)), some (tD x), y4, none] s = .next [some (.tup [wD al_, .tup (ps.map tD)]), some (dL (P ++ tpL x ++ (if al_ then crossP x.hs (Tr.hsL dn) else []))), some (dL (Tr.hsL dn)), some (tD x), y4', none] s := by
            cases al_ with
            | false =>
              refine ⟨y4, ife (tb (cm (ix (vr rfl) cn rfl) cn word_eq)) ?_⟩
              rw [if_neg (by simp), List.append_nil]
              exact sk (C := run T m)
            | true =>
              rw [if_pos rfl]
              rw [if_pos rfl] at q2
              obtain ⟨env3, st3, h3, rfl, y4', rfl⟩ := for1 (C := run T m) (p := .one 4) (e := .itr .seq (.cons (.call c (.cons (.var 3) .nil)) .nil)) (s := (.asg (.one 1) (.bin .add (.var 1) (.comp (.one 5) (.itr .seq (.cons (.var 2) .nil)) (.con (.bl true)) (.tup (.cons (.prim .min (.cons (.var 4) (.cons (.var 5) .nil))) (.cons (.prim .max (.cons (.var 4) (.cons (.var 5) .nil))) .nil)))))))
                (env := [some (.tup [wD true, .tup (ps.map tD)]), some (dL (P ++ tpL x)), some (dL (Tr.hsL dn)), some (tD x), y4, none]) (st := s) (f := enc (α := Nat)) (xs := x.hs)
                (fun d2 env sx => sx = s ∧ ∃ y4, env = [some (.tup [wD true, .tup (ps.map tD)]), some (dL (P ++ tpL x ++ crossP d2 (Tr.hsL dn))), some (dL (Tr.hsL dn)), some (tD x), y4, none])
                (it_lst (cl (al (vr rfl) al0) (k1 m x s (by omega) gx hs))) ⟨rfl, y4, by rw [show crossP [] (Tr.hsL dn) = [] from rfl, List.append_nil]⟩ fun a d2 env sx ha hp2 ⟨e2, y4, e1⟩ => by
                  subst e1 e2
                  have r1 := cross_most (B := Tr.hsL dn) hp2
                  rw [cross_snoc] at r1 ⊢
                  rw [List.length_append] at q2
                  rw [List.length_append] at r1
                  refine ⟨_, _, sx, rfl, asg (bn (vr rfl) (cmpA (xs := Tr.hsL dn) (f := enc (α := Nat)) (fun b => mm a b) (it_lst (vr rfl)) rfl (fun b hb => ⟨_, rfl, mm_ev rfl rfl⟩) (Nat.le_trans (show _ ≤ 7 by rw [List.length_append] at hh; omega) (by decide))) (addL ?_)) rfl, rfl, rfl, some (enc a), ?_⟩
                  · rw [List.length_append, List.length_append]
                    exact Nat.le_trans (show _ ≤ 49 by omega) (by decide)
                  · rw [← List.append_assoc (P ++ tpL x)]
                    rfl
              exact ⟨_, ift (tb (cm (ix (vr rfl) cn rfl) cn word_eq)) h3⟩
          refine ⟨_, _, s, rfl, sq s2 (sq s3 (asg (bn (vr rfl) (cl (al (vr rfl) al0) (k1 m x s (by omega) gx hs)) (addL (Nat.le_trans hh (Nat.le_trans hm (by decide))))) rfl)), rfl, rfl, _, _, _, rfl, fun rest' e => ?_⟩
          have : rest' = rest := by
            rw [← he] at e
            exact List.append_cancel_left e
          rw [this]
          exact q
      have hP := hP [] (List.append_nil _)
      have hP : P = tpLL al_ ps [] [] := hP
      subst hP
      exact run_pl hs hT rfl pl_L (sq (env1 := [some (.tup [wD al_, .tup (ps.map tD)]), some (dL ([] : List (Nat × Nat))), some (dL ([] : List Nat)), none, none, none]) (st1 := st2) rfl (sq h1 (rt (vr rfl))))
end
end Mk
end
section
set_option Elab.async false
set_option linter.all false
set_option maxRecDepth 100000
set_option maxHeartbeats 400000
/-! Sorting numbers and pairs; plain trees; joints; trees. -/
namespace Mk
open PySem Mp GM
open Dat (enc)
theorem ne_L {α : Type} [DecidableEq α] [Dat α] {x y : List α} {st : St} [Decidable (x = y)] (h : Dat.lv α ≤ 59 := by decide) : cmpS .ne (dL x) (dL y) st = .ok (.bl (!decide (x = y))) st := by
  have e : D.eq (dL x) (dL y) = decide (x = y) := by
    simp only [D.eq, eqs_map]
    congr
  simp only [cmpS, ok_L h, Bool.and_self, if_true, Mp.ret, e]
theorem sorted_N {l : List Nat} {st : St} {d : D} (hd : deref d st = .ok (dL l) st) : primD .sorted [d] st = .ok (dL (isort leb l)) st := by
  have hok : (l.map enc).all D.ok = true := List.all_eq_true.mpr fun d hd => by
    obtain ⟨x, hx, rfl⟩ := List.mem_map.mp hd
    exact ok_of
  have hal : (l.map enc).all (fun a => (l.map enc).all fun b => D.alike a b) = true := List.all_eq_true.mpr fun d hd => List.all_eq_true.mpr fun e he => by
    obtain ⟨x, hx, rfl⟩ := List.mem_map.mp hd
    obtain ⟨y, hy, rfl⟩ := List.mem_map.mp he
    exact Dat.alike x y
  have hs : sortable (l.map enc) = true := by
    unfold sortable
    simp only [Bool.and_eq_true, Bool.or_eq_true]
    refine ⟨⟨hok, ?_⟩, .inl (.inr (List.all_eq_true.mpr fun d hd => ?_))⟩
    · cases l with
      | nil => rfl
      | cons x r => exact hal
    · obtain ⟨x, hx, rfl⟩ := List.mem_map.mp hd
      rfl
  refine (pD (fun _ z => by cases z) hd).trans ?_
  simp only [primS, hs, if_true, isort_enc, Mp.ret]
theorem sorted_P {l : List (Nat × Nat)} {st : St} : primD .sorted [dL l] st = .ok (dL (isort leb l)) st := by
  have hok : (l.map enc).all D.ok = true := List.all_eq_true.mpr fun d hd => by
    obtain ⟨x, hx, rfl⟩ := List.mem_map.mp hd
    exact ok_of
  have hal : (l.map enc).all (fun a => (l.map enc).all fun b => D.alike a b) = true := List.all_eq_true.mpr fun d hd => List.all_eq_true.mpr fun e he => by
    obtain ⟨x, hx, rfl⟩ := List.mem_map.mp hd
    obtain ⟨y, hy, rfl⟩ := List.mem_map.mp he
    exact Dat.alike x y
  have hs : sortable (l.map enc) = true := by
    unfold sortable
    simp only [Bool.and_eq_true, Bool.or_eq_true]
    refine ⟨⟨hok, ?_⟩, .inl (.inl (List.all_eq_true.mpr fun d hd => ?_))⟩
    · cases l with
      | nil => rfl
      | cons x r => exact hal
    · obtain ⟨x, hx, rfl⟩ := List.mem_map.mp hd
      rfl
  refine (pD (fun _ z => by cases z) (e := dL l) rfl).trans ?_
  simp only [primS, hs, if_true, isort_enc, Mp.ret]
theorem natSort_eq {l m : List Nat} (p : l.Perm m) (h : m.Pairwise fun a b => a ≤ b) : isort leb l = m :=
  List.Perm.eq_of_pairwise (fun _ _ _ _ a b => Nat.le_antisymm a b) sortN h (isort_perm.trans p)
theorem natSort_perm {l m : List Nat} (p : l.Perm m) : isort leb l = isort leb m := natSort_eq (p.trans isort_perm.symm) sortN
theorem lebP {p q : Nat × Nat} : leb p q = true ↔ p.1 < q.1 ∨ (p.1 = q.1 ∧ p.2 ≤ q.2) := by
  unfold leb
  rw [Bool.not_eq_true', Bool.eq_false_iff, Ne, ltb_iff]
  omega
theorem prSort {l : List (Nat × Nat)} : (isort leb l).Pairwise fun a b => leb a b = true :=
  isort_sorted (fun a b => by rw [lebP, lebP]; omega) (fun a b c h k => by rw [lebP] at *; omega)
theorem prSort_eq {l m : List (Nat × Nat)} (p : l.Perm m) (h : m.Pairwise fun a b => leb a b = true) : isort leb l = m :=
  List.Perm.eq_of_pairwise (fun x y _ _ a b => by rw [lebP] at a b; exact Prod.ext (by omega) (by omega)) prSort h (isort_perm.trans p)
theorem prSort_perm {l m : List (Nat × Nat)} (p : l.Perm m) : isort leb l = isort leb m := prSort_eq (p.trans isort_perm.symm) prSort
abbrev wO : Option Bool → D
  | none => .non
  | some al => wD al
theorem wO_eq {al : Bool} {w : Option Bool} {st : St} : cmpD .eq (wD al) (wO w) st = .ok (.bl (decide (some al = w))) st := by
  cases w with
  | none =>
    show cmpS .eq (wD al) .non st = _
    simp only [cmpS, ok_w, show D.ok .non = true from rfl, Bool.and_self, if_true, Mp.ret]
    rfl
  | some be =>
    refine ww_eq.trans ?_
    cases al <;> cases be <;> rfl
theorem hs_ne {t : Tr} (w : wf t) : t.hs ≠ [] := fun z => by
  have := wf_pos w
  rw [z] at this
  exact absurd this (by decide)
section
variable {T : List FD}
def SpPlain (T : List FD) (i : Nat) : Prop := ∀ (n : Nat) (t : Tr) (w : Option Bool) (st : St), tHt t + 1 < n → Good t → Plain t → t.top ≠ w ∨ w = none → Low st → run T n i [tD t, wO w] st = .ok (.bl true) st
theorem plain_ok {i c : Nat} (hT : T[i]? = some (F__law_plain c i)) (k1 : SpLHin T c) : SpPlain T i := fun n => by
  induction n with
  | zero => intro t w st h; exact absurd h (Nat.not_lt_zero _)
  | succ m ih =>
    intro t w st h g hp hw hs
    cases t with
    | leaf x => exact run_pl hs hT rfl rfl (sqr (ift (tb (nt (k := false) (tb (pr (al (vr rfl) al0) rfl)))) (rt cn)))
    | node al_ ps =>
      have hm := g.many
      obtain ⟨p1, p2, p3⟩ := hp
      rw [plainL_iff] at p3
      rw [tD_node]
      have hsort : isort leb (ps.map fun p => minOf p.hs) = ps.map fun p => minOf p.hs := by
        refine natSort_eq (.refl _) (List.pairwise_map.mpr (List.Pairwise.imp_of_mem (fun {p q} hp hq z => ?_) p2))
        have m1 := minOf_is (hs_ne (g.part hp).wf)
        have m2 := minOf_is (hs_ne (g.part hq).wf)
        exact z _ m1.1 m1.2 _ m2.1
      have s2 : ev (run T m) (.comp (.one 3) (.itr .seq (.cons (.idx (.var 0) (.con (.int (1)))) .nil)) (.con (.bl true)) (.prim .min (.cons (.call c (.cons (.var 3) .nil)) .nil))) [some (.tup [wD al_, .tup (ps.map tD)]), some (wO w), none, none] st = .ok (dL (ps.map fun p => minOf p.hs)) st :=
        cmpA (xs := ps) (f := tD) (fun p => minOf p.hs) (it_tup (ix (vr rfl) cn rfl)) rfl (fun p hp => ⟨_, rfl, pr (al (cl (al (vr rfl) al0) (k1 m p st (by have := ht_lt (al := al_) hp; omega) (g.part hp) hs)) al0) (prim_min (minOf_is (hs_ne (g.part hp).wf)).1 (minOf_is (hs_ne (g.part hp).wf)).2)⟩) (Nat.le_trans hm (by decide))
      have e1 : decide (some al_ = w) = false := decide_eq_false fun z => by
        rcases hw with hw | hw
        · exact hw z
        · rw [hw] at z; cases z
      have c1 : cmpD .eq (wD al_) (wO w) st = .ok (.bl false) st := by rw [wO_eq, e1]
      have c2 : cmpD .ne (dL (ps.map fun p => minOf p.hs)) (dL (isort leb (ps.map fun p => minOf p.hs))) st = .ok (.bl false) st := by
        rw [hsort]
        refine (ne_L (α := Nat) (x := ps.map fun p => minOf p.hs) (y := ps.map fun p => minOf p.hs)).trans ?_
        rw [decide_eq_true rfl]
        rfl
      have s4 : ev (run T m) (.comp (.one 3) (.itr .seq (.cons (.idx (.var 0) (.con (.int (1)))) .nil)) (.not (.call i (.cons (.var 3) (.cons (.idx (.var 0) (.con (.int (0)))) .nil)))) (.var 3)) [some (.tup [wD al_, .tup (ps.map tD)]), some (wO w), some (dL (ps.map fun p => minOf p.hs)), none] st = .ok (.lst []) st := by
        have := cmp_ (C := run T m) (p := .one 3) (st := st) (xs := ps) (f := tD) (x := .itr .seq (.cons (.idx (.var 0) (.con (.int (1)))) .nil)) (c := .not (.call i (.cons (.var 3) (.cons (.idx (.var 0) (.con (.int (0)))) .nil)))) (e := .var 3) (env := [some (.tup [wD al_, .tup (ps.map tD)]), some (wO w), some (dL (ps.map fun p => minOf p.hs)), none]) (g := none) (fun _ => false) tD (it_tup (ix (vr rfl) cn rfl)) rfl (fun p hp => ⟨_, rfl, tb (nt (k := true) (tb (cl (al (vr rfl) (al (ix (vr rfl) cn rfl) al0)) (ih p (some al_) st (by have := ht_lt (al := al_) hp; omega) (g.part hp) (p3 p hp).2 (.inl (p3 p hp).1) hs)))), fun z => by cases z⟩) (by rw [List.filter_eq_nil_iff.mpr (by simp)]; exact Nat.zero_le _)
        rw [List.filter_eq_nil_iff.mpr (by simp)] at this
        exact this
      exact run_pl hs hT rfl rfl (sq (ife (tb (nt (k := true) (tb (pr (al (vr rfl) al0) rfl)))) sk) (sq (asg s2 rfl) (sq (ife (tb (orr (k := false) (m := false) (cm (ix (vr rfl) cn rfl) (vr rfl) c1) fun _ => cm (vr rfl) (pr (al (vr rfl) al0) (sorted_N rfl)) c2)) sk) (rt (cm s4 (ls al0 (Nat.zero_le _)) rfl)))))
end
end Mk
end
section
set_option Elab.async false
set_option linter.all false
set_option maxRecDepth 100000
set_option maxHeartbeats 400000
/-! Joints; trees told from others. -/
namespace Mk
open PySem Mp GM
open Dat (enc)
mutual
theorem D.same_refl : ∀ d : D, D.same d d = true
  | .non => rfl
  | .bl b => by simp [D.same]
  | .int i => by simp [D.same]
  | .str s => by simp [D.same]
  | .tup l => by rw [D.same]; exact D.sames_refl l
  | .lst l => by rw [D.same]; exact D.sames_refl l
  | .scr l => by simp [D.same]
  | .cell k => by simp [D.same]
  | .dct t ks vs => by rw [D.same, D.sames_refl ks, D.sames_refl vs]; simp
theorem D.sames_refl : ∀ l : List D, D.sames l l = true
  | [] => rfl
  | a :: r => by rw [D.sames, D.same_refl a, D.sames_refl r]; rfl
end
theorem low_snoc' {st : St} {l : List D} (hs : Low st) (h : ∀ d ∈ l, D.low st.length d = true) : Low (st ++ [.lst l]) := by
  unfold Low at *
  rw [List.all_append, Bool.and_eq_true, List.length_append]
  refine ⟨List.all_eq_true.mpr fun c hc => ?_, List.all_eq_true.mpr fun c hc => ?_⟩
  · have := List.all_eq_true.mp hs c hc
    cases c with
    | lst m => exact D.lows_mono (Nat.le_add_right _ _) _ this
    | dct t ks vs =>
      have this : (D.lows st.length ks && D.lows st.length vs) = true := this
      rw [Bool.and_eq_true] at this
      show (D.lows _ ks && D.lows _ vs) = true
      rw [D.lows_mono (Nat.le_add_right _ _) _ this.1, D.lows_mono (Nat.le_add_right _ _) _ this.2]
      rfl
  · rw [List.mem_singleton.mp hc]
    exact D.lows_iff.mpr fun d hd => D.low_mono (Nat.le_add_right _ _) d (h d hd)
section
variable {st : St} {A B : List D}
theorem two_a : (st ++ [Cell.lst A, Cell.lst B])[st.length]? = some (.lst A) := by rw [List.getElem?_append_right (Nat.le_refl _), Nat.sub_self]; rfl
theorem two_b : (st ++ [Cell.lst A, Cell.lst B])[st.length + 1]? = some (.lst B) := by rw [List.getElem?_append_right (Nat.le_add_right _ _), Nat.add_sub_cancel_left]; rfl
theorem set_a {X : List D} : (st ++ [Cell.lst A, Cell.lst B]).set st.length (.lst X) = st ++ [Cell.lst X, Cell.lst B] := by rw [List.set_append_right _ _ (Nat.le_refl _), Nat.sub_self]; rfl
theorem set_b {X : List D} : (st ++ [Cell.lst A, Cell.lst B]).set (st.length + 1) (.lst X) = st ++ [Cell.lst A, Cell.lst X] := by rw [List.set_append_right _ _ (Nat.le_add_right _ _), Nat.add_sub_cancel_left]; rfl
theorem der_a : deref (.cell st.length) (st ++ [Cell.lst A, Cell.lst B]) = .ok (.lst A) (st ++ [Cell.lst A, Cell.lst B]) := by simp only [deref, two_a]
theorem der_b : deref (.cell (st.length + 1)) (st ++ [Cell.lst A, Cell.lst B]) = .ok (.lst B) (st ++ [Cell.lst A, Cell.lst B]) := by simp only [deref, two_b]
theorem lstC_a : lstC (.cell st.length) (st ++ [Cell.lst A, Cell.lst B]) = .ok () (st ++ [Cell.lst A, Cell.lst B]) := by simp only [lstC, two_a]
theorem lstC_b : lstC (.cell (st.length + 1)) (st ++ [Cell.lst A, Cell.lst B]) = .ok () (st ++ [Cell.lst A, Cell.lst B]) := by simp only [lstC, two_b]
theorem low_two (hs : Low st) (ha : ∀ d ∈ A, D.low st.length d = true) (hb : ∀ d ∈ B, D.low st.length d = true) : Low (st ++ [Cell.lst A, Cell.lst B]) := by
  have := low_snoc' (low_snoc' hs ha) (l := B) fun d hd => D.low_mono (by rw [List.length_append]; omega) d (hb d hd)
  rw [List.append_assoc] at this
  exact this
theorem pop_a {d : D} : methD .pop (.cell st.length) [] (st ++ [Cell.lst (A ++ [d]), Cell.lst B]) = .ok d (st ++ [Cell.lst A, Cell.lst B]) := by
  simp only [methD, two_a]
  rw [List.getLast?_append, List.getLast?_singleton]
  simp only [Option.some_or, List.dropLast_concat, set_a]
theorem ext_a {m : List D} (h : A.length + m.length ≤ line) : methD .extend (.cell st.length) [.tup m] (st ++ [Cell.lst A, Cell.lst B]) = .ok .non (st ++ [Cell.lst (A ++ m), Cell.lst B]) := by
  simp only [methD, two_a, Nat.ble_eq_true_of_le h, set_a]
theorem app_b {d : D} (h : B.length < line) : methD .append (.cell (st.length + 1)) [d] (st ++ [Cell.lst A, Cell.lst B]) = .ok .non (st ++ [Cell.lst A, Cell.lst (B ++ [d])]) := by
  simp only [methD, two_b, h, decide_true, if_true, set_b]
theorem len_a : primD .len [.cell st.length] (st ++ [Cell.lst A, Cell.lst B]) = .ok (.int A.length) (st ++ [Cell.lst A, Cell.lst B]) := (pD (fun _ z => by cases z) der_a).trans rfl
theorem len_b : primD .len [.cell (st.length + 1)] (st ++ [Cell.lst A, Cell.lst B]) = .ok (.int B.length) (st ++ [Cell.lst A, Cell.lst B]) := (pD (fun _ z => by cases z) der_b).trans rfl
end
theorem w_nmem {al : Bool} {st : St} : cmpD .nmem (wD al) (.tup [.str "side", .str "all"]) st = .ok (.bl false) st := by
  show cmpS .nmem (wD al) (.tup [wD false, wD true]) st = _
  have e : D.ok (.tup [wD false, wD true]) = true := by
    have h1 := ok_w (al := false)
    have h2 := ok_w (al := true)
    have h1 : PyData.strOk (if false then "all" else "side" : Str) = true := h1
    have h2 : PyData.strOk (if true then "all" else "side" : Str) = true := h2
    show (PyData.strOk _ && (PyData.strOk _ && true)) = true
    rw [h1, h2]
    rfl
  simp only [cmpS, ok_w, e, Bool.and_self, if_true, List.any, w_eq, Mp.ret]
  cases al <;> rfl
theorem any_nmem {st : St} : cmpD .nmem (.str "any") (.tup [.str "side", .str "all"]) st = .ok (.bl true) st := by
  show cmpS .nmem (.str "any") (.tup [wD false, wD true]) st = _
  have e : D.ok (.tup [wD false, wD true]) = true := by
    have h1 : PyData.strOk (if false then "all" else "side" : Str) = true := ok_w (al := false)
    have h2 : PyData.strOk (if true then "all" else "side" : Str) = true := ok_w (al := true)
    show (PyData.strOk _ && (PyData.strOk _ && true)) = true
    rw [h1, h2]
    rfl
  have e2 : D.ok (.str "any") = true := by
    show PyData.strOk "any" = true
    decide +kernel
  have e3 : D.eq (wD false) (.str "any") = false := by
    show (("side" : Str) == ("any" : Str)) = false
    decide +kernel
  have e4 : D.eq (wD true) (.str "any") = false := by
    show (("all" : Str) == ("any" : Str)) = false
    decide +kernel
  simp only [cmpS, e2, e, Bool.and_self, if_true, List.any, e3, e4, Mp.ret]
  rfl
/-- what is no tree, at a glance -/
inductive Odd (st : St) : D → Prop
  | non : Odd st .non
  | bl : Odd st (.bl true)
  | int : Odd st (.int 7)
  | one (x : D) : Odd st (.tup [x])
  | side (x : D) : Odd st (.tup [wD false, .tup [x]])
  | any (x : D) : Odd st (.tup [.str "any", x])
  | lst (x : List D) : Odd st (.lst x)
  | slst (x : List D) : Odd st (.tup [wD false, .lst x])
  | dct (k : Nat) : st[k]? = some (.dct 0 [] []) → Odd st (.cell k)
theorem Odd.more {st : St} {d : D} (h : Odd st d) (x : St) : Odd (st ++ x) d := by
  cases h with
  | dct k hk => exact .dct k (by rw [List.getElem?_append_left (List.getElem?_eq_some_iff.mp hk).1]; exact hk)
  | non => exact .non
  | bl => exact .bl
  | int => exact .int
  | one x => exact .one x
  | side x => exact .side x
  | any x => exact .any x
  | lst x => exact .lst x
  | slst x => exact .slst x
section
variable {T : List FD}
def SpJoint (T : List FD) (i : Nat) : Prop := ∀ (n : Nat) (st : St), 1 ≤ n → Low st → (∀ x : Nat, run T n i [enc x] st = .ok (.bl false) st) ∧ (∀ (al : Bool) (l : List D), 2 ≤ l.length → run T n i [.tup [wD al, .tup l]] st = .ok (.bl true) st) ∧ ∀ d, Odd st d → run T n i [d] st = .ok (.bl false) st
theorem joint_ok {i : Nat} (hT : T[i]? = some F_is_joint) : SpJoint T i := fun n st hn hs => by
  obtain ⟨m, rfl⟩ := Nat.exists_eq_add_of_le' hn
  refine ⟨fun x => ?_, fun al_ l h2 => ?_, fun d hd => ?_⟩
  · exact run_pl hs hT rfl rfl (sqr (ift (tb (k := true) (orr (k := true) (m := false) (nt (k := false) (tb (pr (al (vr rfl) al0) rfl))) fun z => by cases z)) (rt cn)))
  · refine run_pl hs hT rfl rfl (sq (ife (tb (k := false) (orr (k := false) (m := false) (nt (k := true) (tb (pr (al (vr rfl) al0) rfl))) fun _ => orr (k := false) (m := false) (cm (pr (al (vr rfl) al0) rfl) cn rfl) fun _ => cm (ix (vr rfl) cn rfl) (tp (al cn (al cn al0)) (by show 2 ≤ line; decide)) w_nmem)) sk) (rt (an (k := true) (m := true) (pr (al (ix (vr rfl) cn rfl) al0) rfl) fun _ => cm (pr (al (ix (vr rfl) cn rfl) al0) rfl) cn ?_)))
    show Mp.ret (D.bl (decide ((2 : Int) ≤ (l.length : Int)))) st = _
    rw [decide_eq_true (by omega)]
    rfl
  · have no3 : (primD (.isI [3]) [d] st = .ok (.bl false) st) → run T (m + 1) i [d] st = .ok (.bl false) st := fun h => run_pl hs hT rfl rfl (sqr (ift (tb (k := true) (orr (k := true) (m := false) (nt (k := false) (tb (pr (al (vr rfl) al0) h))) fun z => by cases z)) (rt cn)))
    cases hd with
    | non => exact no3 rfl
    | bl => exact no3 rfl
    | int => exact no3 rfl
    | one x => exact run_pl hs hT rfl rfl (sqr (ift (tb (k := true) (orr (k := false) (m := true) (nt (k := true) (tb (pr (al (vr rfl) al0) rfl))) fun _ => orr (k := true) (m := false) (cm (pr (al (vr rfl) al0) rfl) cn rfl) fun z => by cases z)) (rt cn)))
    | side x =>
      exact run_pl hs hT rfl rfl (sq (ife (tb (k := false) (orr (k := false) (m := false) (nt (k := true) (tb (pr (al (vr rfl) al0) rfl))) fun _ => orr (k := false) (m := false) (cm (pr (al (vr rfl) al0) rfl) cn rfl) fun _ => cm (ix (vr rfl) cn rfl) (tp (al cn (al cn al0)) (by show 2 ≤ line; decide)) w_nmem)) sk) (rt (an (k := true) (m := false) (pr (al (ix (vr rfl) cn rfl) al0) rfl) fun _ => cm (pr (al (ix (vr rfl) cn rfl) al0) rfl) cn rfl)))
    | any x =>
      exact run_pl hs hT rfl rfl (sqr (ift (tb (k := true) (orr (k := false) (m := true) (nt (k := true) (tb (pr (al (vr rfl) al0) rfl))) fun _ => orr (k := false) (m := true) (cm (pr (al (vr rfl) al0) rfl) cn rfl) fun _ => cm (ix (vr rfl) cn rfl) (tp (al cn (al cn al0)) (by show 2 ≤ line; decide)) any_nmem)) (rt cn)))
    | lst x => exact no3 rfl
    | slst x =>
      exact run_pl hs hT rfl rfl (sq (ife (tb (k := false) (orr (k := false) (m := false) (nt (k := true) (tb (pr (al (vr rfl) al0) rfl))) fun _ => orr (k := false) (m := false) (cm (pr (al (vr rfl) al0) rfl) cn rfl) fun _ => cm (ix (vr rfl) cn rfl) (tp (al cn (al cn al0)) (by show 2 ≤ line; decide)) w_nmem)) sk) (rt (an (k := false) (m := false) (pr (al (ix (vr rfl) cn rfl) al0) rfl) fun z => by cases z)))
    | dct k hk => exact no3 (by
        show bnd (deref (.cell k)) _ st = _
        have : deref (.cell k) st = .ok (.dct 0 [] []) st := by simp only [deref, hk]
        exact bk2 this rfl)
def SpNumOdd (T : List FD) (i : Nat) : Prop := ∀ (n : Nat) (st : St), 1 ≤ n → Low st → ∀ d, Odd st d → run T n i [d, .int 0, .int 6] st = .ok (.bl false) st
theorem numOdd_ok {i : Nat} (hT : T[i]? = some F_is_number) : SpNumOdd T i := fun n st hn hs d hd => by
  obtain ⟨m, rfl⟩ := Nat.exists_eq_add_of_le' hn
  have no0 : (primD (.isI [0]) [d] st = .ok (.bl false) st) → run T (m + 1) i [d, .int 0, .int 6] st = .ok (.bl false) st := fun h => run_pl hs hT rfl rfl (rt (an (k := false) (m := false) (pr (al (vr rfl) al0) h) fun z => by cases z))
  cases hd with
  | non => exact no0 rfl
  | bl => exact run_pl hs hT rfl rfl (rt (an (k := true) (m := false) (pr (al (vr rfl) al0) rfl) fun _ => an (k := false) (m := false) (nt (k := true) (tb (pr (al (vr rfl) al0) rfl))) fun z => by cases z))
  | int => exact run_pl hs hT rfl rfl (rt (an (k := true) (m := false) (pr (al (vr rfl) al0) rfl) fun _ => an (k := true) (m := false) (nt (k := false) (tb (pr (al (vr rfl) al0) rfl))) fun _ => chn (k := true) (m := false) (vr rfl) (vr rfl) rfl (vr rfl) rfl))
  | one x => exact no0 rfl
  | side x => exact no0 rfl
  | any x => exact no0 rfl
  | lst x => exact no0 rfl
  | slst x => exact no0 rfl
  | dct k hk => exact no0 (by
      show bnd (deref (.cell k)) _ st = _
      have : deref (.cell k) st = .ok (.dct 0 [] []) st := by simp only [deref, hk]
      exact bk2 this rfl)
end
end Mk
end
section
set_option Elab.async false
set_option linter.all false
set_option maxRecDepth 100000
set_option maxHeartbeats 400000
/-! Trees checked. -/
namespace Mk
open PySem Mp GM
open Dat (enc)
mutual
def tSz : Tr → Nat
  | .leaf _ => 1
  | .node _ ps => 1 + tSzL ps
def tSzL : List Tr → Nat
  | [] => 0
  | p :: ps => tSz p + tSzL ps
end
theorem szL_app : ∀ a b : List Tr, tSzL (a ++ b) = tSzL a + tSzL b
  | [], b => (Nat.zero_add _).symm
  | p :: a, b => by
    rw [List.cons_append, tSzL, tSzL, szL_app a b, Nat.add_assoc]
mutual
theorem sz_le : ∀ {t : Tr}, wf t → tSz t + 1 ≤ 2 * t.hs.length
  | .leaf _, _ => Nat.le_refl _
  | .node _ ps, ⟨h1, h2⟩ => by
    have := sz_leL h2
    rw [tSz]
    show _ ≤ 2 * (Tr.hsL ps).length
    omega
theorem sz_leL : ∀ {ps : List Tr}, wfL ps → tSzL ps + ps.length ≤ 2 * (Tr.hsL ps).length
  | [], _ => Nat.le_refl _
  | p :: ps, ⟨h1, h2⟩ => by
    have := sz_le h1
    have := sz_leL h2
    rw [tSzL, Tr.hsL, List.length_append, List.length_cons]
    omega
end
section
variable {T : List FD}
abbrev wC : E := .and (.var 1) (.cmp .le (.bin .add (.prim .len (.cons (.var 1) .nil)) (.prim .len (.cons (.var 2) .nil))) (.con (.int (7))))
abbrev wB (c : Nat) : S := .seq (.asg (.one 3) (.meth .pop (.var 1) .nil)) (.ite (.call c (.cons (.var 3) .nil)) (.drop (.meth .extend (.var 1) (.cons (.idx (.var 3) (.con (.int (1)))) .nil))) (.drop (.meth .append (.var 2) (.cons (.var 3) .nil))))
abbrev wE (d0 : D) (st : St) (y : Option D) : Mp.Env := [some d0, some (.cell st.length), some (.cell (st.length + 1)), y, none]
theorem cond_go {C : CallF} {d0 : D} {st : St} {y : Option D} {A B : List D} (hA : A ≠ []) (h : A.length + B.length ≤ 7) : bnd (ev C wC (wE d0 st y)) truth (st ++ [Cell.lst A, Cell.lst B]) = .ok true (st ++ [Cell.lst A, Cell.lst B]) := by
  have h1 : ev C (.cmp .le (.bin .add (.prim .len (.cons (.var 1) .nil)) (.prim .len (.cons (.var 2) .nil))) (.con (.int (7)))) (wE d0 st y) (st ++ [Cell.lst A, Cell.lst B]) = .ok (.bl true) (st ++ [Cell.lst A, Cell.lst B]) := by
    refine cm (bn (pr (al (vr rfl) al0) len_a) (pr (al (vr rfl) al0) len_b) rfl) cn ?_
    show Mp.ret (D.bl (decide ((A.length : Int) + (B.length : Int) ≤ 7))) _ = _
    rw [decide_eq_true (by omega)]
    rfl
  refine tb ?_
  simp only [ev]
  refine bk2 (v := .cell st.length) (st1 := st ++ [Cell.lst A, Cell.lst B]) rfl ?_
  refine bk2 (v := true) (st1 := st ++ [Cell.lst A, Cell.lst B]) ?_ h1
  refine bk2 der_a ?_
  cases A with
  | nil => exact absurd rfl hA
  | cons a r => rfl
theorem cond_no {C : CallF} {d0 : D} {st : St} {y : Option D} {B : List D} : bnd (ev C wC (wE d0 st y)) truth (st ++ [Cell.lst [], Cell.lst B]) = .ok false (st ++ [Cell.lst [], Cell.lst B]) := by
  have e : truth (.cell st.length) (st ++ [Cell.lst [], Cell.lst B]) = .ok false (st ++ [Cell.lst [], Cell.lst B]) := bk2 der_a rfl
  refine bk2 (v := .cell st.length) (st1 := st ++ [Cell.lst [], Cell.lst B]) ?_ e
  simp only [ev]
  refine bk2 (v := .cell st.length) (st1 := st ++ [Cell.lst [], Cell.lst B]) rfl ?_
  exact bk2 e rfl
theorem walk_ok {c m : Nat} {d0 : D} {st : St} (k1 : SpJoint T c) (hm : 1 ≤ m) (hs : Low st) : ∀ (k : Nat) (S : List Tr) (H : List Nat) (y : Option D) (fuel : Nat), tSzL S ≤ k → k < fuel → wfL S → (Tr.hsL S).length + H.length ≤ 7 →
    ∃ (H' : List Nat) (y' : Option D), whileL (ev (run T m) wC) (Mp.exec (run T m) (wB c)) fuel (wE d0 st y) (st ++ [Cell.lst (S.map tD), Cell.lst (H.map enc)]) = .next (wE d0 st y') (st ++ [Cell.lst [], Cell.lst (H'.map enc)]) ∧ H'.Perm (H ++ Tr.hsL S) := by
  intro k
  induction k with
  | zero =>
    intro S H y fuel h1 h2 h3 h4
    obtain ⟨f, rfl⟩ := Nat.exists_eq_add_of_lt h2
    cases S with
    | nil =>
      refine ⟨H, y, ?_, by rw [show Tr.hsL [] = [] from rfl, List.append_nil]⟩
      rw [show 0 + f + 1 = f + 1 by omega]
      unfold whileL
      simp only [run', List.map_nil, cond_no]
    | cons p S =>
      rw [tSzL] at h1
      cases p with
      | leaf _ => rw [tSz] at h1; omega
      | node _ _ => rw [tSz] at h1; omega
  | succ k ih =>
    intro S H y fuel h1 h2 h3 h4
    obtain ⟨f, rfl⟩ : ∃ f, fuel = f + 1 := ⟨fuel - 1, by omega⟩
    rcases List.eq_nil_or_concat S with rfl | ⟨S, p, rfl⟩
    · refine ⟨H, y, ?_, by rw [show Tr.hsL [] = [] from rfl, List.append_nil]⟩
      unfold whileL
      simp only [run', List.map_nil, cond_no]
    · rw [List.concat_eq_append] at *
      have w := wfL_iff.mp h3
      have wS : wfL S := wfL_iff.mpr fun q hq => w q (List.mem_append_left _ hq)
      have wp : wf p := w p (List.mem_append_right _ List.mem_cons_self)
      have hl := wf_posL wS
      have hp := wf_pos wp
      rw [hsL_snoc, List.length_append] at h4
      rw [szL_app] at h1
      have go := cond_go (C := run T m) (d0 := d0) (st := st) (y := y) (A := (S ++ [p]).map tD) (B := H.map enc) (by simp) (by rw [List.length_map, List.length_map, List.length_append, List.length_singleton]; omega)
      have lw : ∀ (A : List Tr) (B : List Nat), Low (st ++ [Cell.lst (A.map tD), Cell.lst (B.map enc)]) := fun A B => low_two hs (fun d hd => by
        obtain ⟨q, _, rfl⟩ := List.mem_map.mp hd
        exact D.low_mono (Nat.zero_le _) _ (tD_pl q)) fun d hd => by
        obtain ⟨q, _, rfl⟩ := List.mem_map.mp hd
        rfl
      have pop : Mp.exec (run T m) (.asg (.one 3) (.meth .pop (.var 1) .nil)) (wE d0 st y) (st ++ [Cell.lst ((S ++ [p]).map tD), Cell.lst (H.map enc)]) = .next (wE d0 st (some (tD p))) (st ++ [Cell.lst (S.map tD), Cell.lst (H.map enc)]) := by
        rw [List.map_append]
        exact asg (mth (vr rfl) lstC_a al0 pop_a) rfl
      cases p with
      | leaf x =>
        rw [tSzL, tSz] at h1
        obtain ⟨H', y', g1, g2⟩ := ih S (H ++ [x]) (some (enc x)) f (by omega) (by omega) wS (by rw [List.length_append, List.length_singleton]; show _ ≤ 7; have : (Tr.leaf x).hs.length = 1 := rfl; omega)
        refine ⟨H', y', ?_, g2.trans ?_⟩
        · unfold whileL
          simp only [run', go]
          have body : Mp.exec (run T m) (wB c) (wE d0 st y) (st ++ [Cell.lst ((S ++ [Tr.leaf x]).map tD), Cell.lst (H.map enc)]) = .next (wE d0 st (some (enc x))) (st ++ [Cell.lst (S.map tD), Cell.lst ((H ++ [x]).map enc)]) := by
            refine sq pop (ife (tb (cl (al (vr rfl) al0) ((k1 m _ hm (lw S H)).1 x))) (drp (d := .non) (mth (vr rfl) lstC_b (al (vr rfl) al0) ?_)))
            rw [List.map_append]
            exact app_b (by rw [List.length_map]; exact Nat.lt_of_le_of_lt (show H.length ≤ 7 by omega) (by decide))
          rw [body]
          exact g1
        · rw [hsL_snoc, List.append_assoc]
          exact List.Perm.append_left _ List.perm_append_comm
      | node al_ qs =>
        rw [tSzL, tSz] at h1
        have h1 : tSzL S + (1 + tSzL qs + 0) ≤ k + 1 := h1
        have h4 : (Tr.hsL S).length + (Tr.hsL qs).length + H.length ≤ 7 := h4
        obtain ⟨w1, w2⟩ := wp
        have hq := wf_posL w2
        have wSq : wfL (S ++ qs) := wfL_iff.mpr fun q hq => by
          rcases List.mem_append.mp hq with z | z
          · exact wfL_iff.mp wS q z
          · exact wfL_iff.mp w2 q z
        have eSq : Tr.hsL (S ++ qs) = Tr.hsL S ++ Tr.hsL qs := by rw [Tr.hsL_flat, List.flatMap_append, ← Tr.hsL_flat, ← Tr.hsL_flat]
        obtain ⟨H', y', g1, g2⟩ := ih (S ++ qs) H (some (tD (.node al_ qs))) f (by rw [szL_app]; omega) (by omega) wSq (by rw [eSq, List.length_append]; omega)
        refine ⟨H', y', ?_, ?_⟩
        · unfold whileL
          simp only [run', go]
          have body : Mp.exec (run T m) (wB c) (wE d0 st y) (st ++ [Cell.lst ((S ++ [Tr.node al_ qs]).map tD), Cell.lst (H.map enc)]) = .next (wE d0 st (some (tD (.node al_ qs)))) (st ++ [Cell.lst ((S ++ qs).map tD), Cell.lst (H.map enc)]) := by
            refine sq pop ?_
            rw [tD_node]
            refine ift (tb (cl (al (vr rfl) al0) ((k1 m _ hm (lw S H)).2.1 al_ (qs.map tD) (by rw [List.length_map]; exact w1)))) (drp (d := .non) (mth (vr rfl) lstC_a (al (ix (vr rfl) cn rfl) al0) ?_))
            rw [List.map_append]
            exact ext_a (by rw [List.length_map, List.length_map]; exact Nat.le_trans (show _ ≤ 7 by omega) (by decide))
          rw [body]
          exact g1
        · rw [eSq] at g2
          rw [hsL_snoc]
          exact g2
def SpTreeT (T : List FD) (i : Nat) : Prop := ∀ (n : Nat) (st : St), 2 ≤ n → Low st → (∀ t, Good t → (∀ x ∈ t.hs, x ≤ 6) → run T n i [tD t] st = .ok (.bl (decide (isort leb t.hs = List.range t.hs.length))) st) ∧ ∀ d, Odd st d → D.low st.length d = true → run T n i [d] st = .ok (.bl false) st
theorem rgD {x : Nat} {st : St} {t : Bool} (hx : x ≤ 16777216) : rngD t (.int 0) (.int x) st = .ok (if t then .tup ((List.range x).map enc) else dL (List.range x)) st := by
  have e1 : Nat.ble ((x : Int) - 0).toNat line = true := Nat.ble_eq_true_of_le (by show ((x : Int) - 0).toNat ≤ 16777216; omega)
  simp only [rngD, rangeOk_of (i := 0) (by omega) (by omega), rangeOk_of (i := x) (by omega) (by omega), e1, Bool.and_self, if_true, Mp.ret]
  rw [show ((x : Int) - 0).toNat = x by omega, upto_zero]
theorem rg1L {C : CallF} {env : Mp.Env} {a : E} {st st1 : St} {x : Nat} (h : ev C a env st = .ok (.int x) st1) (hx : x ≤ 16777216) : ev C (.rng1 false a) env st = .ok (dL (List.range x)) st1 := by
  simp only [ev]
  exact bk2 h (rgD hx)
theorem rg1T {C : CallF} {env : Mp.Env} {a : E} {st st1 : St} {x : Nat} (h : ev C a env st = .ok (.int x) st1) (hx : x ≤ 16777216) : ev C (.rng1 true a) env st = .ok (enc (List.range x)) st1 := by
  simp only [ev]
  exact bk2 h (rgD hx)
theorem or_go {C : CallF} {d0 : D} {st : St} {y : Option D} {B : List D} {g : E} {k : Bool} (h : ev C g (wE d0 st y) (st ++ [Cell.lst [], Cell.lst B]) = .ok (.bl k) (st ++ [Cell.lst [], Cell.lst B])) :
    bnd (ev C (.or (.var 1) g) (wE d0 st y)) truth (st ++ [Cell.lst [], Cell.lst B]) = .ok k (st ++ [Cell.lst [], Cell.lst B]) := by
  refine tb ?_
  simp only [ev]
  refine bk2 (v := .cell st.length) (st1 := st ++ [Cell.lst [], Cell.lst B]) rfl ?_
  exact bk2 (bk2 der_a rfl) h
theorem tree_ok {i c d : Nat} (hT : T[i]? = some (F_is_tree c d)) (k1 : SpJoint T c) (k2 : SpNum T d) (k3 : SpNumOdd T d) : SpTreeT T i := fun n st hn hs => by
  obtain ⟨m, rfl⟩ := Nat.exists_eq_add_of_le' hn
  have par : ∀ d0 : D, Mp.exec (run T (m + 1)) (.par [1, 2] (.cons (.newC (.cons (.var 0) .nil)) (.cons (.newC .nil) .nil))) [some d0, none, none, none, none] st = .next (wE d0 st none) (st ++ [Cell.lst [d0], Cell.lst []]) := fun d0 => by
    have h1 : bnd (ev (run T (m + 1)) (.cons (.newC (.cons (.var 0) .nil)) (.cons (.newC .nil) .nil)) [some d0, none, none, none, none]) listOf st = .ok [.cell st.length, .cell (st.length + 1)] (st ++ [Cell.lst [d0], Cell.lst []]) := by
      refine al (nw (al (vr rfl) al0) (by show 1 ≤ line; decide)) ?_
      have := nw (C := run T (m + 1)) (env := [some d0, none, none, none, none]) (a := .nil) (st := st ++ [Cell.lst [d0]]) al0 (Nat.zero_le _)
      rw [List.length_append, List.append_assoc] at this
      exact al this al0
    simp only [Mp.exec, run', h1]
    rfl
  refine ⟨fun t g h6 => ?_, fun d0 hd hlow => ?_⟩
  · have hsz := sz_le g.wf
    have hm := g.most
    obtain ⟨H, y', w1, w2⟩ := walk_ok (c := c) (d0 := tD t) (st := st) (m := m + 1) k1 (by omega) hs (tSzL [t]) [t] [] none 1000 (Nat.le_refl _) (by rw [tSzL, tSzL]; omega) ⟨g.wf, trivial⟩ (by rw [Tr.hsL, Tr.hsL, List.append_nil]; exact hm)
    rw [Tr.hsL, Tr.hsL, List.append_nil, List.nil_append] at w2
    have hlen := w2.length_eq
    have lw : Low (st ++ [Cell.lst [], Cell.lst (H.map enc)]) := low_two hs (fun _ z => by cases z) fun d hd => by
      obtain ⟨q, _, rfl⟩ := List.mem_map.mp hd
      rfl
    have src : ∀ env : Mp.Env, env[2]? = some (some (.cell (st.length + 1))) → bnd (ev (run T (m + 1)) (.itr .seq (.cons (.var 2) .nil)) env) srcOf (st ++ [Cell.lst [], Cell.lst (H.map enc)]) = .ok (H.map enc, some (st.length + 1, H.map enc)) (st ++ [Cell.lst [], Cell.lst (H.map enc)]) := fun env he => it (al (vr he) al0) (bk2 der_b rfl)
    have ck : chk (some (st.length + 1, H.map enc)) (st ++ [Cell.lst [], Cell.lst (H.map enc)]) = .ok () (st ++ [Cell.lst [], Cell.lst (H.map enc)]) := by simp only [chk, two_b, D.sames_refl]
    have gen : ev (run T (m + 1)) (.not (.gen true (.one 4) (.itr .seq (.cons (.var 2) .nil)) (.con (.bl true)) (.call d (.cons (.var 4) (.cons (.con (.int (0))) (.cons (.bin .sub (.con (.int (7))) (.con (.int (1)))) .nil)))))) (wE (tD t) st y') (st ++ [Cell.lst [], Cell.lst (H.map enc)]) = .ok (.bl false) (st ++ [Cell.lst [], Cell.lst (H.map enc)]) :=
      nt (k := true) (tb (gen_all (f := enc (α := Nat)) (src _ rfl) ck fun x hx => ⟨_, rfl, cl (al (vr rfl) (al cn (al (bn cn cn rfl) al0))) (num_t k2 (by omega) lw (by show (0 : Int) ≤ (x : Int); omega) (by have := h6 x (w2.mem_iff.mp hx); show (x : Int) ≤ 6; omega))⟩))
    have rng : ev (run T (m + 1)) (.rng1 false (.prim .len (.cons (.var 2) .nil))) (wE (tD t) st y') (st ++ [Cell.lst [], Cell.lst (H.map enc)]) = .ok (dL (List.range H.length)) (st ++ [Cell.lst [], Cell.lst (H.map enc)]) := by
      exact rg1L ((pr (al (vr rfl) al0) len_b).trans (by rw [List.length_map])) (by omega)
    have fin : ev (run T (m + 1)) (.cmp .eq (.prim .sorted (.cons (.var 2) .nil)) (.rng1 false (.prim .len (.cons (.var 2) .nil)))) (wE (tD t) st y') (st ++ [Cell.lst [], Cell.lst (H.map enc)]) = .ok (.bl (decide (isort leb t.hs = List.range t.hs.length))) (st ++ [Cell.lst [], Cell.lst (H.map enc)]) := by
      rw [← natSort_perm w2, ← hlen]
      exact cm (pr (al (vr rfl) al0) (sorted_N der_b)) rng (eq_L (x := isort leb H) (y := List.range H.length))
    exact run_ret hT rfl (sq (par (tD t)) (sq (env1 := wE (tD t) st y') (st1 := st ++ [Cell.lst [], Cell.lst (H.map enc)]) w1 (sq (ife (or_go gen) sk) (rt fin)))) (leave_own hs rfl)
  · have lw1 : ∀ B : List D, (∀ d ∈ B, D.low st.length d = true) → Low (st ++ [Cell.lst [], Cell.lst B]) := fun B hB => low_two hs (fun _ z => by cases z) hB
    have lwd := lw1 [d0] fun d hd => by rw [List.mem_singleton.mp hd]; exact hlow
    have lw0 := lw1 [] fun d hd => by cases hd
    have w1 : whileL (ev (run T (m + 1)) wC) (Mp.exec (run T (m + 1)) (wB c)) 1000 (wE d0 st none) (st ++ [Cell.lst [d0], Cell.lst []]) = .next (wE d0 st (some d0)) (st ++ [Cell.lst [], Cell.lst [d0]]) := by
      have go := cond_go (C := run T (m + 1)) (d0 := d0) (st := st) (y := none) (A := [d0]) (B := []) (by simp) (by show 1 + 0 ≤ 7; omega)
      have body : Mp.exec (run T (m + 1)) (wB c) (wE d0 st none) (st ++ [Cell.lst [d0], Cell.lst []]) = .next (wE d0 st (some d0)) (st ++ [Cell.lst [], Cell.lst [d0]]) :=
        sq (asg (mth (vr rfl) lstC_a al0 (pop_a (A := []))) rfl) (ife (tb (cl (al (vr rfl) al0) ((k1 (m + 1) _ (by omega) lw0).2.2 d0 (hd.more _)))) (drp (d := .non) (mth (vr rfl) lstC_b (al (vr rfl) al0) (app_b (B := []) (by show 0 < line; decide)))))
      unfold whileL
      simp only [run', go, body]
      unfold whileL
      simp only [run', cond_no]
    have gen : ev (run T (m + 1)) (.not (.gen true (.one 4) (.itr .seq (.cons (.var 2) .nil)) (.con (.bl true)) (.call d (.cons (.var 4) (.cons (.con (.int (0))) (.cons (.bin .sub (.con (.int (7))) (.con (.int (1)))) .nil)))))) (wE d0 st (some d0)) (st ++ [Cell.lst [], Cell.lst [d0]]) = .ok (.bl true) (st ++ [Cell.lst [], Cell.lst [d0]]) := by
      have hc := k3 (m + 1) _ (by omega) lwd d0 (hd.more _)
      have ck : chk (some (st.length + 1, [d0])) (st ++ [Cell.lst [], Cell.lst [d0]]) = .ok () (st ++ [Cell.lst [], Cell.lst [d0]]) := by simp only [chk, two_b, D.sames_refl]
      exact nt (k := false) (tb (genA (f := id) (fun _ => false) (xs := [d0]) (it (al (vr rfl) al0) (bk2 der_b rfl)) ck fun x hx => ⟨_, rfl, cl (al (vr rfl) (al cn (al (bn cn cn rfl) al0))) (by rw [List.mem_singleton.mp hx]; exact hc)⟩))
    exact run_ret hT rfl (sq (par d0) (sq (env1 := wE d0 st (some d0)) (st1 := st ++ [Cell.lst [], Cell.lst [d0]]) w1 (sqr (ift (or_go gen) (rt cn))))) (leave_own hs rfl)
end
end Mk
end
section
set_option Elab.async false
set_option linter.all false
set_option maxRecDepth 100000
set_option maxHeartbeats 400000
/-! Trees built from lots. -/
namespace Mk
open PySem Mp GM
open Dat (enc)
def relT (ps : Prs) (al : Bool) : Nat → Nat → Bool := if al then co (adj ps) else adj ps
theorem relT_sy (ps : Prs) (al : Bool) (x y : Nat) : relT ps al x y = relT ps al y x := by
  cases al
  · exact adj_sy ps x y
  · exact co_sy (adj_sy ps) x y
mutual
theorem plain_wf : ∀ {t : Tr}, Plain t → wf t
  | .leaf _, _ => trivial
  | .node _ ps, ⟨h1, _, h3⟩ => ⟨h1, plain_wfL h3⟩
theorem plain_wfL : ∀ {al : Bool} {ps : List Tr}, PlainL al ps → wfL ps
  | _, [], _ => trivial
  | _, p :: ps, ⟨h1, h2⟩ => ⟨plain_wf h1.2, plain_wfL h2⟩
end
mutual
theorem tD_shp : ∀ (t : Tr) (n : Nat), 2 * tHt t ≤ n → D.shp n (tD t) = true
  | .leaf _, n, _ => by cases n <;> rfl
  | .node al ps, n, h => by
    rw [tHt] at h
    obtain ⟨m, rfl⟩ : ∃ m, n = m + 2 := ⟨n - 2, by omega⟩
    rw [tD]
    show (D.shp (m + 1) (wD al) && (D.shp (m + 1) (.tup (tDs ps)) && true)) = true
    have h1 : D.shp (m + 1) (wD al) = true := ok_w (al := al)
    have h2 : D.shp (m + 1) (.tup (tDs ps)) = true := tDs_shp ps m (by omega)
    rw [h1, h2]
    rfl
theorem tDs_shp : ∀ (ps : List Tr) (n : Nat), 2 * tHtL ps ≤ n → D.shps n (tDs ps) = true
  | [], n, _ => rfl
  | p :: ps, n, h => by
    rw [tHtL] at h
    rw [tDs, D.shps, tD_shp p n (by omega), tDs_shp ps n (by omega)]
    rfl
end
def tO : Option Tr → D
  | none => .non
  | some t => tD t
theorem allSome_map {α : Type} : ∀ {l : List (Option α)} {r : List α}, allSome l = some r → l = r.map some
  | [], r, h => by cases h; rfl
  | none :: l, r, h => by cases h
  | some a :: l, r, h => by
    rw [allSome] at h
    obtain ⟨s, h1, rfl⟩ := Option.map_eq_some_iff.mp h
    rw [allSome_map h1]
    rfl
theorem tD_non {t : Tr} : D.eq (tD t) .non = false := by
  cases t with
  | leaf _ => rfl
  | node _ _ => rw [tD_node]; rfl
section
variable {T : List FD}
def SpKeep (T : List FD) (i : Nat) : Prop := ∀ (n : Nat) (st : St), 2 ≤ n → Low st → ∀ (N : Nat) (ps : Prs) (al : Bool) (h : Nat) (g : List Nat), h < N → (∀ x ∈ g, x < N) → run T n i [dL (beside N ps), wD al, enc h, enc g] st = .ok (.bl (g.any fun o => relT ps al h o)) st
theorem keep_ok {i c : Nat} (hT : T[i]? = some (F_keeps_together c)) (k1 : SpShare T c) : SpKeep T i := fun n st hn hs N ps al_ h g hh hg => by
  obtain ⟨m, rfl⟩ := Nat.exists_eq_add_of_le' hn
  cases al_ with
  | false =>
    refine run_pl hs hT rfl rfl (sqr (ift (tb (cm (vr rfl) cn side_eq)) (rt (cl (al (ix (vr rfl) (vr rfl) (ixL (beside_at hh))) (al (vr rfl) al0)) ?_))))
    rw [k1 _ _ (by omega) hs, any_in hg]
    rfl
  | true =>
    refine run_pl hs hT rfl rfl (sq (ife (tb (cm (vr rfl) cn side_eq)) sk) (rt ?_))
    have e : ∀ g : List Nat, (∀ x ∈ g, x < N) → (g.any fun o => relT ps true h o) = !(g.all fun o => decide (o ∈ nbs N ps h)) := fun g => by
      induction g with
      | nil => intro _; rfl
      | cons a g ih =>
        intro hg
        rw [List.any_cons, List.all_cons, ih (fun x hx => hg x (List.mem_cons_of_mem _ hx)), Bool.not_and]
        congr 1
        show (!adj ps h a) = _
        congr 1
        rw [Bool.eq_iff_iff, decide_eq_true_iff, mem_nb]
        exact ⟨fun z => ⟨hg a List.mem_cons_self, z⟩, fun z => z.2⟩
    rw [e g hg]
    exact nt (tb (genA (f := enc (α := Nat)) (fun o => decide (o ∈ nbs N ps h)) (it_tup (vr rfl)) rfl fun o ho => ⟨_, rfl, cm (vr rfl) (ix (vr rfl) (vr rfl) (ixL (beside_at hh))) mem_⟩))
def SpGrp (T : List FD) (i : Nat) : Prop := ∀ (n : Nat) (st : St), 3 ≤ n → Low st → ∀ (N : Nat) (ps : Prs) (al : Bool) (lot : List Nat), lot.Nodup → (∀ x ∈ lot, x < N) → lot.length ≤ 7 → run T n i [dL (beside N ps), enc lot, wD al] st = .ok (dL (sortG (relT ps al) lot)) st
theorem grp_len {rel : Nat → Nat → Bool} {dn : List Nat} {G : List (List Nat)} (I : GInv rel dn G) : G.length ≤ dn.length ∧ (∀ g ∈ G, g.length ≤ dn.length) ∧ ∀ g ∈ G, ∀ x ∈ g, x ∈ dn := by
  have hp := I.perm.length_eq
  refine ⟨?_, fun g hg => ?_, fun g hg x hx => I.perm.mem_iff.mp (List.mem_flatMap.mpr ⟨g, hg, hx⟩)⟩
  · rw [← hp]
    have aux : ∀ l : List (List Nat), (∀ g ∈ l, g ≠ []) → l.length ≤ (l.flatMap id).length := fun l => by
      induction l with
      | nil => intro _; exact Nat.le_refl _
      | cons a l ih =>
        intro h
        rw [List.flatMap_cons, List.length_append, List.length_cons]
        have h1 := ih fun g hg => h g (List.mem_cons_of_mem _ hg)
        have h2 := List.length_pos_iff.mpr (h a List.mem_cons_self)
        show _ ≤ a.length + _
        omega
    exact aux G I.ne
  · rw [← hp]
    obtain ⟨a, b, rfl⟩ := List.append_of_mem hg
    rw [List.flatMap_append, List.flatMap_cons, List.length_append, List.length_append]
    show _ ≤ _ + (g.length + _)
    omega
theorem grp_ok {i c : Nat} (hT : T[i]? = some (F_groups_for c)) (k1 : SpKeep T c) : SpGrp T i := fun n st hn hs N ps al_ lot nd hlt hl => by
  obtain ⟨m, rfl⟩ := Nat.exists_eq_add_of_le' hn
  obtain ⟨env2, st2, h1, rfl, y4, y5, y7, y8, rfl⟩ := for1 (C := run T (m + 2)) (p := .one 4) (e := .itr .seq (.cons (.var 1) .nil)) (s := (.seq (.asg (.one 5) (.comp (.one 6) (.itr .seq (.cons (.var 3) .nil)) (.call c (.cons (.var 0) (.cons (.var 2) (.cons (.var 4) (.cons (.var 6) .nil))))) (.var 6))) (.seq (.asg (.one 7) (.comp (.one 6) (.itr .seq (.cons (.var 3) .nil)) (.cmp .nmem (.var 6) (.var 5)) (.var 6))) (.seq (.asg (.one 8) (.bin .add (.lst (.cons (.tup (.cons (.var 4) .nil)) .nil)) (.var 5))) (.asg (.one 3) (.bin .add (.var 7) (.lst (.cons (.prim .tuple (.cons (.prim .sorted (.cons (.comp2 (.one 6) (.itr .seq (.cons (.var 8) .nil)) (.con (.bl true)) (.one 9) (.itr .seq (.cons (.var 6) .nil)) (.con (.bl true)) (.var 9)) .nil)) .nil)) .nil))))))))
    (env := [some (dL (beside N ps)), some (enc lot), some (wD al_), some (dL ([] : List (List Nat))), none, none, none, none, none, none]) (st := st) (f := enc (α := Nat)) (xs := lot)
    (fun dn env s => s = st ∧ ∃ (y4 y5 y7 y8 : Option D), env = [some (dL (beside N ps)), some (enc lot), some (wD al_), some (dL (groupsF (relT ps al_) dn)), y4, y5, none, y7, y8, none])
    (it_tup (vr rfl)) ⟨rfl, none, none, none, none, rfl⟩ fun x dn env s hx hp ⟨e2, y4, y5, y7, y8, e1⟩ => by
      subst e1 e2
      obtain ⟨rest, he⟩ := hp
      have nd2 : (dn ++ [x]).Nodup := by
        rw [← he] at nd
        exact (List.nodup_append.mp nd).1
      have hin : ∀ y ∈ dn, y ∈ lot := fun y hy => by rw [← he]; exact List.mem_append_left _ (List.mem_append_left _ hy)
      have hd : dn.length + 1 ≤ lot.length := by rw [← he, List.length_append, List.length_append, List.length_singleton]; omega
      have I := groups_inv (relT_sy ps al_) (List.nodup_append.mp nd2).1
      obtain ⟨g1, g2, g3⟩ := grp_len I
      have J := groups_inv (relT_sy ps al_) nd2
      have eG : groupsF (relT ps al_) (dn ++ [x]) = joinG (relT ps al_) (groupsF (relT ps al_) dn) x := by
        unfold groupsF
        rw [List.foldl_append]
        rfl
      obtain ⟨j1, j2, j3⟩ := grp_len J
      rw [eG] at j1 j2 ⊢
      generalize hG : groupsF (relT ps al_) dn = G at *
      have s1 : ev (run T (m + 2)) (.comp (.one 6) (.itr .seq (.cons (.var 3) .nil)) (.call c (.cons (.var 0) (.cons (.var 2) (.cons (.var 4) (.cons (.var 6) .nil))))) (.var 6)) [some (dL (beside N ps)), some (enc lot), some (wD al_), some (dL G), some (enc x), y5, none, y7, y8, none] s = .ok (dL (keptG (relT ps al_) G x)) s := by
        have := cmpE (C := run T (m + 2)) (p := .one 6) (st := s) (xs := G) (f := enc (α := List Nat)) (x := .itr .seq (.cons (.var 3) .nil)) (c := .call c (.cons (.var 0) (.cons (.var 2) (.cons (.var 4) (.cons (.var 6) .nil))))) (e := .var 6) (env := [some (dL (beside N ps)), some (enc lot), some (wD al_), some (dL G), some (enc x), y5, none, y7, y8, none]) (g := none) (fun g => g.any fun o => relT ps al_ x o) id (it_lst (vr rfl)) rfl (fun g hg => ⟨_, rfl, tb (cl (al (vr rfl) (al (vr rfl) (al (vr rfl) (al (vr rfl) al0)))) (k1 _ _ (by omega) hs N ps al_ x g (hlt x hx) fun y hy => hlt y (hin y (g3 g hg y hy)))), fun _ => vr rfl⟩) (Nat.le_trans (show _ ≤ 7 by omega) (by decide))
        rw [List.map_id] at this
        exact this
      generalize hK : keptG (relT ps al_) G x = K at *
      have hKG : ∀ g ∈ K, g ∈ G := fun g hg => by rw [← hK] at hg; exact (List.mem_filter.mp hg).1
      have hKl : K.length ≤ G.length := by rw [← hK]; exact List.length_filter_le _ _
      have s2 : ev (run T (m + 2)) (.comp (.one 6) (.itr .seq (.cons (.var 3) .nil)) (.cmp .nmem (.var 6) (.var 5)) (.var 6)) [some (dL (beside N ps)), some (enc lot), some (wD al_), some (dL G), some (enc x), some (dL K), none, y7, y8, none] s = .ok (dL (G.filter fun g => !decide (g ∈ K))) s := by
        have := cmpE (C := run T (m + 2)) (p := .one 6) (st := s) (xs := G) (f := enc (α := List Nat)) (x := .itr .seq (.cons (.var 3) .nil)) (c := .cmp .nmem (.var 6) (.var 5)) (e := .var 6) (env := [some (dL (beside N ps)), some (enc lot), some (wD al_), some (dL G), some (enc x), some (dL K), none, y7, y8, none]) (g := none) (fun g => !decide (g ∈ K)) id (it_lst (vr rfl)) rfl (fun g hg => ⟨_, rfl, tb (cm (vr rfl) (vr rfl) (nmemL_ (x := g) (l := K))), fun _ => vr rfl⟩) (Nat.le_trans (show _ ≤ 7 by omega) (by decide))
        rw [List.map_id] at this
        exact this
      have s3 : ev (run T (m + 2)) (.bin .add (.lst (.cons (.tup (.cons (.var 4) .nil)) .nil)) (.var 5)) [some (dL (beside N ps)), some (enc lot), some (wD al_), some (dL G), some (enc x), some (dL K), none, some (dL (G.filter fun g => !decide (g ∈ K))), y8, none] s = .ok (dL ([x] :: K)) s :=
        bn (ls1 (v := [x]) (tp1 (v := x) (vr rfl))) (vr rfl) (addL (xs := [[x]]) (ys := K) (by rw [List.length_append]; exact Nat.le_trans (show 1 + K.length ≤ 8 by omega) (by decide)))
      have jmem : isort leb (([x] :: K).flatMap id) ∈ joinG (relT ps al_) G x := by
        unfold joinG
        rw [hK]
        exact List.mem_append_right _ List.mem_cons_self
      have jl := j2 _ jmem
      rw [isort_perm.length_eq, List.length_append, List.length_singleton] at jl
      have s4 : ev (run T (m + 2)) (.comp2 (.one 6) (.itr .seq (.cons (.var 8) .nil)) (.con (.bl true)) (.one 9) (.itr .seq (.cons (.var 6) .nil)) (.con (.bl true)) (.var 9)) [some (dL (beside N ps)), some (enc lot), some (wD al_), some (dL G), some (enc x), some (dL K), none, some (dL (G.filter fun g => !decide (g ∈ K))), some (dL ([x] :: K)), none] s = .ok (dL (([x] :: K).flatMap id)) s := by
        have e : dL (([x] :: K).flatMap id) = .lst (([x] :: K).flatMap fun g => g.map enc) := by
          rw [dL, List.map_flatMap]
          rfl
        rw [e]
        refine cmp20 (β := Nat) (xs := [x] :: K) (f := enc (α := List Nat)) (fun g => g.map enc) (it_lst (vr rfl)) rfl (fun g hg => ⟨_, rfl, g, none, enc (α := Nat), fun _ => true, enc, it_tup (vr rfl), rfl, fun y hy => ⟨_, rfl, rfl, fun _ => vr rfl⟩, by rw [filter_all]⟩) ?_
        have : (([x] :: K).flatMap fun g => g.map (enc (α := Nat))).length = (([x] :: K).flatMap id).length := by
          rw [← List.length_map (f := enc (α := Nat)), List.map_flatMap]
          rfl
        rw [this]
        exact Nat.le_trans (show _ ≤ 8 by omega) (by decide)
      have jlen := j1
      unfold joinG at jlen
      rw [hK, List.length_append] at jlen
      have s5 : ev (run T (m + 2)) (.bin .add (.var 7) (.lst (.cons (.prim .tuple (.cons (.prim .sorted (.cons (.comp2 (.one 6) (.itr .seq (.cons (.var 8) .nil)) (.con (.bl true)) (.one 9) (.itr .seq (.cons (.var 6) .nil)) (.con (.bl true)) (.var 9)) .nil)) .nil)) .nil))) [some (dL (beside N ps)), some (enc lot), some (wD al_), some (dL G), some (enc x), some (dL K), none, some (dL (G.filter fun g => !decide (g ∈ K))), some (dL ([x] :: K)), none] s = .ok (dL (joinG (relT ps al_) G x)) s := by
        unfold joinG
        rw [hK]
        refine bn (vr rfl) (ls1 (v := isort leb (([x] :: K).flatMap id)) (pr (al (pr (al s4 al0) (sorted_N rfl)) al0) rfl)) (addL ?_)
        rw [List.length_append]
        rw [List.length_append, List.length_singleton] at jlen
        exact Nat.le_trans (show _ ≤ 8 by rw [List.length_singleton] at *; omega) (by decide)
      exact ⟨_, _, s, rfl, sq (asg s1 rfl) (sq (asg s2 rfl) (sq (asg s3 rfl) (asg s5 rfl))), rfl, rfl, _, _, _, _, rfl⟩
  have I := groups_inv (relT_sy ps al_) nd
  exact run_pl hs hT rfl pl_L (sq (env1 := [some (dL (beside N ps)), some (enc lot), some (wD al_), some (dL ([] : List (List Nat))), none, none, none, none, none, none]) (st1 := st2) rfl (sq h1 (rt (pr (al (vr rfl) al0) (sorted_T (l := groupsF (relT ps al_) lot) (h2 := .inl I.ne))))))
end
end Mk
end
section
set_option Elab.async false
set_option linter.all false
set_option maxRecDepth 100000
set_option maxHeartbeats 400000
/-! The tree of a lot, of a town; maps of trees. -/
namespace Mk
open PySem Mp GM
open Dat (enc)
theorem treeF_good {ps : Prs} {k : Nat} {lot : List Nat} {t : Tr} (nd : lot.Nodup) (hl : lot.length ≤ 7) (h : treeF (adj ps) k lot = some t) : Good t := by
  have g := treeF_ok (adj_sy ps) k nd h
  exact ⟨plain_wf g.plain, by rw [g.perm.length_eq]; exact hl⟩
theorem for_ex {C : CallF} {p : Pat} {e : E} {s : S} {env : Mp.Env} {st st1 : St} {xs : List D} {g : Option (Nat × List D)} (h : bnd (ev C e env) srcOf st = .ok (xs, g) st1) : Mp.exec C (.for_ p e s) env st = forL p (Mp.exec C s) g xs env st1 := by
  simp only [Mp.exec, run', h]
theorem forL_ret {p : Pat} {b : Mp.Env → St → Out} {g : Option (Nat × List D)} {x d : D} {r : List D} {env env' : Mp.Env} {st st2 : St} (h1 : p.bind x env = some env') (h2 : b env' st = .ret d st2) : forL p b g (x :: r) env st = .ret d st2 := by
  unfold forL
  simp only [h1, h2]
theorem forL_next {p : Pat} {b : Mp.Env → St → Out} {x : D} {r : List D} {env env' env2 : Mp.Env} {st st2 : St} (h1 : p.bind x env = some env') (h2 : b env' st = .next env2 st2) : forL p b none (x :: r) env st = forL p b none r env2 st2 := by
  conv =>
    lhs
    unfold forL
  simp only [h1, h2]
  rfl
section
variable {T : List FD}
def SpTol (T : List FD) (i : Nat) : Prop := ∀ (k n : Nat) (lot : List Nat) (st : St) (N : Nat) (ps : Prs), k + 3 ≤ n → lot.length ≤ k → lot ≠ [] → lot.Nodup → (∀ x ∈ lot, x < N) → lot.length ≤ 7 → Low st → run T n i [dL (beside N ps), enc lot] st = .ok (tO (treeF (adj ps) k lot)) st
abbrev tolB (c i : Nat) : S := .seq (.asg (.one 3) (.call c (.cons (.var 0) (.cons (.var 1) (.cons (.var 2) .nil))))) (.ite (.cmp .gt (.prim .len (.cons (.var 3) .nil)) (.con (.int (1)))) (.seq (.asg (.one 4) (.comp (.one 5) (.itr .seq (.cons (.var 3) .nil)) (.con (.bl true)) (.call i (.cons (.var 0) (.cons (.var 5) .nil))))) (.ret (.ite (.cmp .mem (.con .non) (.var 4)) (.con .non) (.tup (.cons (.var 2) (.cons (.prim .tuple (.cons (.var 4) .nil)) .nil)))))) .skip)
theorem some_ok {l : List Tr} {st : St} (h : ∀ t ∈ l, Good t) : cmpD .mem .non (.lst (l.map tD)) st = .ok (.bl false) st := by
  show cmpS .mem .non (.lst (l.map tD)) st = _
  have e : D.ok (.lst (l.map tD)) = true := by
    show D.shps 59 (l.map tD) = true
    have aux : ∀ l : List Tr, (∀ t ∈ l, Good t) → D.shps 59 (l.map tD) = true := fun l => by
      induction l with
      | nil => intro _; rfl
      | cons a l ih =>
        intro h
        have ga := h a List.mem_cons_self
        have := ga.ht
        have := ga.most
        rw [List.map_cons, D.shps, tD_shp a 59 (by omega), ih fun t ht => h t (List.mem_cons_of_mem _ ht)]
        rfl
    exact aux l h
  have e2 : (l.map tD).any (fun z => D.eq z .non) = false := by
    rw [List.any_eq_false]
    intro z hz
    obtain ⟨t, _, rfl⟩ := List.mem_map.mp hz
    rw [tD_non]
    simp
  simp only [cmpS, show D.ok .non = true from rfl, e, Bool.and_self, if_true, e2, Mp.ret]
theorem none_in {l : List (Option Tr)} {st : St} (h : ∀ t, some t ∈ l → Good t) (hn : none ∈ l) : cmpD .mem .non (.lst (l.map tO)) st = .ok (.bl true) st := by
  show cmpS .mem .non (.lst (l.map tO)) st = _
  have e : D.ok (.lst (l.map tO)) = true := by
    show D.shps 59 (l.map tO) = true
    have aux : ∀ l : List (Option Tr), (∀ t, some t ∈ l → Good t) → D.shps 59 (l.map tO) = true := fun l => by
      induction l with
      | nil => intro _; rfl
      | cons a l ih =>
        intro h
        have ih := ih fun t ht => h t (List.mem_cons_of_mem _ ht)
        cases a with
        | none => exact ih
        | some a =>
          have ga := h a List.mem_cons_self
          have := ga.ht
          have := ga.most
          show (D.shp 59 (tD a) && D.shps 59 (l.map tO)) = true
          rw [tD_shp a 59 (by omega), ih]
          rfl
    exact aux l h
  have e2 : (l.map tO).any (fun z => D.eq z .non) = true := List.any_eq_true.mpr ⟨.non, List.mem_map.mpr ⟨none, hn, rfl⟩, rfl⟩
  simp only [cmpS, show D.ok .non = true from rfl, e, Bool.and_self, if_true, e2, Mp.ret]
theorem tol_ok {i c : Nat} (hT : T[i]? = some (F_tree_of_lot c i)) (k1 : SpGrp T c) : SpTol T i := fun k => by
  induction k with
  | zero => intro n lot st N ps _ h hne; exact absurd (List.length_eq_zero_iff.mp (Nat.le_zero.mp h)) hne
  | succ k ih =>
    intro n lot st N ps hn hk hne nd hlt hl hs
    obtain ⟨m, rfl⟩ := Nat.exists_eq_add_of_le' (Nat.le_trans (show 1 ≤ k + 1 + 3 by omega) hn)
    have hn : k + 3 ≤ m := by omega
    by_cases h1 : lot.length = 1
    · obtain ⟨x, rfl⟩ := List.length_eq_one_iff.mp h1
      have e : treeF (adj ps) (k + 1) [x] = some (.leaf x) := by
        unfold treeF
        rfl
      rw [e]
      exact run_pl hs hT rfl rfl (sqr (ift (tb (cm (pr (al (vr rfl) al0) rfl) cn rfl)) (rt (ix (vr rfl) cn (ixT (xs := [x]) (i := 0) rfl)))))
    · have hlen : bnd (ev (run T m) (.cmp .eq (.prim .len (.cons (.var 1) .nil)) (.con (.int (1)))) [some (dL (beside N ps)), some (enc lot), none, none, none, none]) truth st = .ok false st := by
        refine tb (cm (pr (al (vr rfl) al0) prim_len) cn ((eq_ (α := Nat) (x := lot.length) (y := 1)).trans ?_))
        rw [decide_eq_false h1]
      have body : ∀ (al : Bool) (y3 : Option D), (¬ 1 < (sortG (relT ps al) lot).length → Mp.exec (run T m) (tolB c i) [some (dL (beside N ps)), some (enc lot), some (wD al), y3, none, none] st = .next [some (dL (beside N ps)), some (enc lot), some (wD al), some (dL (sortG (relT ps al) lot)), none, none] st) ∧
          (1 < (sortG (relT ps al) lot).length → Mp.exec (run T m) (tolB c i) [some (dL (beside N ps)), some (enc lot), some (wD al), y3, none, none] st = .ret (tO ((allSome ((sortG (relT ps al) lot).map (treeF (adj ps) k))).map (.node al))) st) := fun al_ y3 => by
        have I := sortG_inv (relT_sy ps al_) nd
        obtain ⟨g1, g2, g3⟩ := grp_len I
        have s1 : Mp.exec (run T m) (.asg (.one 3) (.call c (.cons (.var 0) (.cons (.var 1) (.cons (.var 2) .nil))))) [some (dL (beside N ps)), some (enc lot), some (wD al_), y3, none, none] st = .next [some (dL (beside N ps)), some (enc lot), some (wD al_), some (dL (sortG (relT ps al_) lot)), none, none] st :=
          asg (cl (al (vr rfl) (al (vr rfl) (al (vr rfl) al0))) (k1 _ _ (by omega) hs N ps al_ lot nd hlt hl)) rfl
        have c1 : ∀ b : Bool, b = decide (1 < (sortG (relT ps al_) lot).length) → bnd (ev (run T m) (.cmp .gt (.prim .len (.cons (.var 3) .nil)) (.con (.int (1)))) [some (dL (beside N ps)), some (enc lot), some (wD al_), some (dL (sortG (relT ps al_) lot)), none, none]) truth st = .ok b st := fun b hb => by
          rw [hb]
          exact tb (cm (pr (al (vr rfl) al0) prim_lenL) cn (gt_n (a := (sortG (relT ps al_) lot).length) (b := 1)))
        refine ⟨fun h => sq s1 (ife (c1 false (decide_eq_false h).symm) sk), fun h => sq s1 (ift (c1 true (decide_eq_true h).symm) ?_)⟩
        have hsub : ∀ g ∈ sortG (relT ps al_) lot, g.length ≤ k := fun g hg => by
          have := flat_len I.ne hg h
          rw [I.perm.length_eq] at this
          omega
        have s2 : ev (run T m) (.comp (.one 5) (.itr .seq (.cons (.var 3) .nil)) (.con (.bl true)) (.call i (.cons (.var 0) (.cons (.var 5) .nil)))) [some (dL (beside N ps)), some (enc lot), some (wD al_), some (dL (sortG (relT ps al_) lot)), none, none] st = .ok (.lst (((sortG (relT ps al_) lot).map (treeF (adj ps) k)).map tO)) st := by
          rw [List.map_map]
          exact cmp0 (xs := sortG (relT ps al_) lot) (f := enc (α := List Nat)) (fun g => tO (treeF (adj ps) k g)) (it_lst (vr rfl)) rfl (fun g hg => ⟨_, rfl, cl (al (vr rfl) (al (vr rfl) al0)) (ih m g st N ps hn (hsub g hg) (I.ne g hg) ((I.asc g hg).imp fun z => Nat.ne_of_lt z) (fun x hx => hlt x (g3 g hg x hx)) (Nat.le_trans (g2 g hg) hl) hs)⟩) (Nat.le_trans (show _ ≤ 7 by omega) (by decide))
        have gd : ∀ t, some t ∈ (sortG (relT ps al_) lot).map (treeF (adj ps) k) → Good t := fun t ht => by
          obtain ⟨g, hg, e⟩ := List.mem_map.mp ht
          exact treeF_good ((I.asc g hg).imp fun z => Nat.ne_of_lt z) (Nat.le_trans (g2 g hg) hl) e
        refine sq (asg s2 rfl) (rt ?_)
        cases q : allSome ((sortG (relT ps al_) lot).map (treeF (adj ps) k)) with
        | none =>
          exact iet (tb (cm cn (vr rfl) (none_in gd (allSome_none.mp q)))) cn
        | some ts =>
          have e := allSome_map q
          rw [e] at gd ⊢
          rw [List.map_map]
          have hts : ts.length ≤ 7 := by
            have := congrArg List.length e
            rw [List.length_map, List.length_map] at this
            omega
          show ev _ _ [_, _, _, _, some (.lst (ts.map tD)), none] st = .ok (tD (.node al_ ts)) st
          rw [tD_node]
          exact ief (tb (cm cn (vr rfl) (some_ok fun t ht => gd t (List.mem_map_of_mem ht)))) (tp (al (vr rfl) (al (pr (al (vr rfl) al0) rfl) al0)) (by show 2 ≤ line; decide))
      have src : bnd (ev (run T m) (.itr .seq (.cons (.tup (.cons (.con (.str "side")) (.cons (.con (.str "all")) .nil))) .nil)) [some (dL (beside N ps)), some (enc lot), none, none, none, none]) srcOf st = .ok ([wD false, wD true], none) st := it_tup (tp (al cn (al cn al0)) (by show 2 ≤ line; decide))
      have eT : treeF (adj ps) (k + 1) lot = if 1 < (sortG (relT ps false) lot).length then (allSome ((sortG (relT ps false) lot).map (treeF (adj ps) k))).map (.node false) else if 1 < (sortG (relT ps true) lot).length then (allSome ((sortG (relT ps true) lot).map (treeF (adj ps) k))).map (.node true) else none := by
        show (if lot.length = 1 then _ else _) = _
        rw [if_neg h1]
        rfl
      rw [eT]
      have pl : Pl (tO (if 1 < (sortG (relT ps false) lot).length then (allSome ((sortG (relT ps false) lot).map (treeF (adj ps) k))).map (.node false) else if 1 < (sortG (relT ps true) lot).length then (allSome ((sortG (relT ps true) lot).map (treeF (adj ps) k))).map (.node true) else none)) := by
        generalize (if 1 < (sortG (relT ps false) lot).length then (allSome ((sortG (relT ps false) lot).map (treeF (adj ps) k))).map (Tr.node false) else if 1 < (sortG (relT ps true) lot).length then (allSome ((sortG (relT ps true) lot).map (treeF (adj ps) k))).map (Tr.node true) else none) = z
        cases z with
        | none => rfl
        | some t => exact tD_pl t
      refine run_pl hs hT rfl pl (sq (ife hlen sk) ?_)
      by_cases b1 : 1 < (sortG (relT ps false) lot).length
      · rw [if_pos b1]
        exact sqr ((for_ex src).trans (forL_ret rfl ((body false none).2 b1)))
      · rw [if_neg b1]
        by_cases b2 : 1 < (sortG (relT ps true) lot).length
        · rw [if_pos b2]
          exact sqr ((for_ex src).trans ((forL_next rfl ((body false none).1 b1)).trans (forL_ret rfl ((body true _).2 b2))))
        · rw [if_neg b2]
          exact sq ((for_ex src).trans ((forL_next rfl ((body false none).1 b1)).trans ((forL_next rfl ((body true _).1 b2)).trans rfl))) (rt cn)
end
end Mk
end
section
set_option Elab.async false
set_option linter.all false
set_option maxRecDepth 100000
set_option maxHeartbeats 400000
/-! Maps of trees; what holds of them. -/
namespace Mk
open PySem Mp GM
open Dat (enc)
structure TreeG (t : Tr) : Prop where
  good : Good t
  perm : t.hs.Perm (List.range t.hs.length)
theorem TreeG.six {t : Tr} (g : TreeG t) : ∀ x ∈ t.hs, x ≤ 6 := fun x hx => by
  have h1 := List.mem_range.mp (g.perm.mem_iff.mp hx)
  have := g.good.most
  omega
theorem TreeG.sort {t : Tr} (g : TreeG t) : isort leb t.hs = List.range t.hs.length := natSort_eq g.perm (List.pairwise_lt_range.imp fun z => Nat.le_of_lt z)
theorem TreeG.nd {t : Tr} (g : TreeG t) : t.hs.Nodup := g.perm.nodup_iff.mpr List.nodup_range
def mapP (t : Tr) : Prs := isort leb (tpP t)
theorem town_of {A : List Nat} {N : Nat} {L : List (Nat × Nat)} {a : Nat → Nat → Bool} (h : GM.Prs a A L) (hA : A.Perm (List.range N)) (h1 : 1 ≤ N) (h2 : N ≤ 7) : Town N (isort leb L) := by
  refine ⟨h1, h2, fun p hp => ?_, ?_⟩
  · have hp := (h.2 p).mp (isort_perm.mem_iff.mp hp)
    exact ⟨hp.1, List.mem_range.mp (hA.mem_iff.mp hp.2.2.1)⟩
  · have s := prSort (l := L)
    have nd : (isort leb L).Nodup := isort_perm.nodup_iff.mpr h.1
    refine (List.Pairwise.and s nd).imp fun {p q} ⟨z, w⟩ => ?_
    rw [ltb_iff]
    rw [lebP] at z
    have : p.1 = q.1 → p.2 ≠ q.2 := fun e1 e2 => w (Prod.ext e1 e2)
    omega
theorem prs_adj {A : List Nat} {L : List (Nat × Nat)} {a : Nat → Nat → Bool} (sy : ∀ x y, a x y = a y x) (irr : ∀ x ∈ A, a x x = false) (h : GM.Prs a A L) : ∀ x ∈ A, ∀ y ∈ A, a x y = adj (isort leb L) x y := fun x hx y hy => by
  have e : ∀ p, p ∈ isort leb L ↔ p.1 < p.2 ∧ p.1 ∈ A ∧ p.2 ∈ A ∧ a p.1 p.2 = true := fun p => isort_perm.mem_iff.trans (h.2 p)
  rw [Bool.eq_iff_iff]
  unfold adj
  rw [Bool.or_eq_true, decide_eq_true_iff, decide_eq_true_iff, e, e]
  simp only
  constructor
  · intro z
    rcases Nat.lt_trichotomy x y with k | k | k
    · exact .inl ⟨k, hx, hy, z⟩
    · subst k; rw [irr x hx] at z; cases z
    · exact .inr ⟨k, hy, hx, by rw [sy]; exact z⟩
  · rintro (⟨_, _, _, z⟩ | ⟨_, _, _, z⟩)
    · exact z
    · rw [sy]; exact z
theorem TreeG.prs {t : Tr} (g : TreeG t) : GM.Prs (tAdj t) t.hs (tpP t) := tp_prs (tAdj_sy t) t g.nd (tAdj_tells t g.nd) fun x hx => tAdj_irr t x hx
theorem TreeG.town {t : Tr} (g : TreeG t) : Town t.hs.length (mapP t) := town_of g.prs g.perm (wf_pos g.good.wf) g.good.most
theorem TreeG.tells {t : Tr} (g : TreeG t) : Tells (adj (mapP t)) t := tells_congr t (prs_adj (tAdj_sy t) (fun x hx => tAdj_irr t x hx) g.prs) (tAdj_tells t g.nd)
theorem town_irr {N : Nat} {ps : Prs} (h : Town N ps) (x : Nat) : adj ps x x = false := by
  cases q : adj ps x x with
  | false => rfl
  | true => exact absurd rfl (h.adj_lt q).2.2
/-- a tree that tells the pairs of a town shows it -/
theorem shown {N : Nat} {ps : Prs} {t : Tr} (h : Town N ps) (ht : Tells (adj ps) t) (hp : t.hs.Perm (List.range N)) : mapP t = ps ∧ isort leb (tpL t) = ps := by
  have nd : t.hs.Nodup := hp.nodup_iff.mpr List.nodup_range
  have k := tp_prs (adj_sy ps) t nd ht fun x _ => town_irr h x
  have srt : ps.Pairwise fun a b => leb a b = true := h.asc.imp fun {a b} z => by
    rw [ltb_iff] at z
    rw [lebP]
    omega
  have hperm : (tpP t).Perm ps := (List.perm_ext_iff_of_nodup k.1 h.nodup).mpr fun p => by
    rw [k.2 p]
    constructor
    · rintro ⟨a1, a2, a3, a4⟩
      unfold adj at a4
      rw [Bool.or_eq_true, decide_eq_true_iff, decide_eq_true_iff] at a4
      rcases a4 with z | z
      · exact z
      · have := (h.lt _ z).1
        simp only at this
        omega
    · intro z
      have hz := h.lt p z
      refine ⟨hz.1, hp.mem_iff.mpr (List.mem_range.mpr (by omega)), hp.mem_iff.mpr (List.mem_range.mpr hz.2), ?_⟩
      unfold adj
      rw [Bool.or_eq_true, decide_eq_true_iff]
      exact .inl z
  exact ⟨prSort_eq hperm srt, prSort_eq ((tp_perm t).symm.trans hperm) srt⟩
theorem p4_rows {N : Nat} {ps : Prs} (h : Town N ps) : P4 (adj ps) (List.range N) ↔ bareL N ps ≠ [] := by
  unfold bareL
  have e : isort leb (progRows N (adj ps)) ≠ [] ↔ ∃ r, r ∈ progRows N (adj ps) := by
    constructor
    · intro z
      cases q : isort leb (progRows N (adj ps)) with
      | nil => exact absurd q z
      | cons a r => exact ⟨a, isort_perm.mem_iff.mp (by rw [q]; exact List.mem_cons_self)⟩
    · rintro ⟨r, hr⟩ z
      have := isort_perm (le := leb).mem_iff.mpr hr
      rw [z] at this
      cases this
  rw [e]
  constructor
  · rintro ⟨a, b, c, d, ⟨m1, m2, m3, m4⟩, ⟨n1, n2, n3, n4, n5, n6⟩, ⟨a1, a2, a3⟩, f1, f2, f3⟩
    rw [List.mem_range] at m1 m2 m3 m4
    rcases Nat.lt_or_ge a d with z | z
    · exact ⟨_, (mem_progRows (adj_sy ps)).mpr ⟨a, b, c, d, rfl, ⟨⟨m1, m2, m3, m4⟩, ⟨n1, n2, n3, n4, n5, n6⟩, ⟨a1, a2, a3⟩, f1, f2, f3⟩, z⟩⟩
    · have sy := adj_sy ps
      exact ⟨_, (mem_progRows (adj_sy ps)).mpr ⟨d, c, b, a, rfl, ⟨⟨m4, m3, m2, m1⟩, ⟨n6.symm, n5.symm, n3.symm, n4.symm, n2.symm, n1.symm⟩, ⟨by rw [sy]; exact a3, by rw [sy]; exact a2, by rw [sy]; exact a1⟩, by rw [sy]; exact f3, by rw [sy]; exact f2, by rw [sy]; exact f1⟩, by omega⟩⟩
  · rintro ⟨r, hr⟩
    obtain ⟨a, b, c, d, _, ⟨⟨m1, m2, m3, m4⟩, n, e1, e2⟩, _⟩ := (mem_progRows (adj_sy ps)).mp hr
    exact ⟨a, b, c, d, ⟨List.mem_range.mpr m1, List.mem_range.mpr m2, List.mem_range.mpr m3, List.mem_range.mpr m4⟩, n, e1, e2⟩
theorem pw_all {α : Type} {R : α → α → Prop} (sy : ∀ {x y}, R x y → R y x) : ∀ {C : List α}, C.Pairwise R → ∀ x ∈ C, ∀ y ∈ C, x ≠ y → R x y
  | [], _, _, hx, _, _, _ => by cases hx
  | a :: C, h, x, hx, y, hy, n => by
    obtain ⟨h1, h2⟩ := List.pairwise_cons.mp h
    rcases List.mem_cons.mp hx with e1 | kx
    · rcases List.mem_cons.mp hy with e2 | ky
      · exact absurd (e1.trans e2.symm) n
      · exact e1 ▸ h1 y ky
    · rcases List.mem_cons.mp hy with e2 | ky
      · exact sy (e2 ▸ h1 x kx)
      · exact pw_all sy h2 x kx y ky n
/-- the tree of a town -/
theorem tree_some {N : Nat} {ps : Prs} {t : Tr} (h : Town N ps) (e : treeF (adj ps) N (List.range N) = some t) : TreeOk (adj ps) (List.range N) t ∧ TreeG t ∧ t.hs.length = N ∧ bareL N ps = [] := by
  have k := treeF_ok (adj_sy ps) N List.nodup_range e
  have hl : t.hs.length = N := by rw [k.perm.length_eq, List.length_range]
  refine ⟨k, ⟨⟨plain_wf k.plain, by rw [hl]; exact h.most⟩, by rw [hl]; exact k.perm⟩, hl, ?_⟩
  cases q : bareL N ps with
  | nil => rfl
  | cons a r =>
    have := (p4_rows h).mpr (by rw [q]; exact fun z => by cases z)
    exact absurd (this.mono fun x hx => k.perm.mem_iff.mpr hx) (tells_no (adj_sy ps) t k.tells)
theorem tree_none {N : Nat} {ps : Prs} (h : Town N ps) (e : treeF (adj ps) N (List.range N) = none) : bareL N ps ≠ [] := by
  have := h.pos
  exact (p4_rows h).mp (treeF_none (adj_sy ps) N List.nodup_range (fun z => by
    have := congrArg List.length z
    rw [List.length_range] at this
    have : N = 0 := this
    omega) (by rw [List.length_range]; exact Nat.le_refl _) e)
theorem TreeG.again {t : Tr} (g : TreeG t) : ∃ u, treeF (adj (mapP t)) t.hs.length (List.range t.hs.length) = some u := by
  cases q : treeF (adj (mapP t)) t.hs.length (List.range t.hs.length) with
  | some u => exact ⟨u, rfl⟩
  | none =>
    have := (p4_rows g.town).mpr (tree_none g.town q)
    exact absurd (this.mono fun x hx => g.perm.mem_iff.mpr hx) (tells_no (adj_sy _) t g.tells)
theorem TreeG.need {t : Tr} (g : TreeG t) : few t.hs.length (mapP t) (List.range t.hs.length) = om t := by
  have ht := g.town
  have hN : ∀ x ∈ List.range t.hs.length, x < t.hs.length := fun x hx => List.mem_range.mp hx
  obtain ⟨f1, f2, f3⟩ := few_is (ps := mapP t) hN
  have hr : ∀ x ∈ t.hs, x ∈ List.range t.hs.length := fun x hx => g.perm.mem_iff.mp hx
  obtain ⟨C, c1, c2, c3⟩ := clique_of t g.tells g.nd
  obtain ⟨f, hf⟩ := paint_of (adj_sy (mapP t)) t g.tells g.nd fun x _ => town_irr ht x
  have hf2 : Pntg (adj (mapP t)) (List.range t.hs.length) f (om t) := ⟨fun x hx => hf.1 x (g.perm.mem_iff.mpr hx), fun x hx y hy => hf.2 x (g.perm.mem_iff.mpr hx) y (g.perm.mem_iff.mpr hy)⟩
  have h1 := clique_le (adj_sy (mapP t)) f2 c1 fun x hx => hr x (c2 x hx)
  have h2 : ¬ om t < few t.hs.length (mapP t) (List.range t.hs.length) := fun z => ways_of_paint hf2 (f1 _ z)
  omega
theorem TreeG.most {t : Tr} (g : TreeG t) : ∃ L, (ofSize (mutLots t.hs.length (mapP t)) (maxOf ((mutLots t.hs.length (mapP t)).map List.length)))[0]? = some L ∧ L.length = om t := by
  have ht := g.town
  have hne := map_ne (f := List.length) (mutLots_ne (N := t.hs.length) (ps := mapP t))
  obtain ⟨m1, m2⟩ := maxOf_is hne
  obtain ⟨x, hx, hxl⟩ := List.mem_map.mp m1
  have mem : x ∈ ofSize (mutLots t.hs.length (mapP t)) (maxOf ((mutLots t.hs.length (mapP t)).map List.length)) := isort_perm.mem_iff.mpr (List.mem_filter.mpr ⟨hx, decide_eq_true hxl⟩)
  have hr : ∀ x ∈ t.hs, x ∈ List.range t.hs.length := fun x hx => g.perm.mem_iff.mp hx
  have hN : ∀ x ∈ List.range t.hs.length, x < t.hs.length := fun x hx => List.mem_range.mp hx
  have eq : maxOf ((mutLots t.hs.length (mapP t)).map List.length) = om t := by
    refine Nat.le_antisymm ?_ ?_
    · have hx2 := List.mem_filter.mp hx
      obtain ⟨l1, l2, l3⟩ := lots_is hx2.1
      have hb := hx2.2
      unfold mutualB at hb
      rw [List.all_eq_true] at hb
      have cq : Clq (adj (mapP t)) x := ⟨l1.imp fun z => Nat.ne_of_lt z, List.Pairwise.imp_of_mem (fun {a b} ha hb' z => by
        have h1 := hb a ha
        rw [List.all_eq_true] at h1
        have h2 := h1 b (List.mem_filter.mpr ⟨hb', by simpa using Nat.ne_of_gt z⟩)
        exact ((mem_nb _ _).mp (of_decide_eq_true h2)).2) l1⟩
      obtain ⟨f1, f2, f3⟩ := few_is (ps := mapP t) hN
      have := clique_le (adj_sy (mapP t)) f2 cq fun y hy => List.mem_range.mpr (l2 y hy)
      rw [g.need] at this
      omega
    · obtain ⟨C, c1, c2, c3⟩ := clique_of t g.tells g.nd
      have cs := sortN_lt c1.1
      have cin : isort leb C ∈ mutLots t.hs.length (mapP t) := by
        refine List.mem_filter.mpr ⟨lots_of cs fun x hx => hN x (hr x (c2 x (isort_perm.mem_iff.mp hx))), ?_⟩
        unfold mutualB
        rw [List.all_eq_true]
        intro a ha
        rw [List.all_eq_true]
        intro b hb
        obtain ⟨hb, hne⟩ := List.mem_filter.mp hb
        have hne : b ≠ a := by simpa using hne
        have ha' := isort_perm.mem_iff.mp ha
        have hb' := isort_perm.mem_iff.mp hb
        refine decide_eq_true ((mem_nb _ _).mpr ⟨hN b (hr b (c2 b hb')), ?_⟩)
        have all : ∀ x ∈ C, ∀ y ∈ C, x ≠ y → adj (mapP t) x y = true := fun x hx y hy => pw_all (R := fun x y => adj (mapP t) x y = true) (fun {x y} h => by rw [adj_sy]; exact h) c1.2 x hx y hy
        exact all a ha' b hb' (Ne.symm hne)
      have := m2 _ (List.mem_map_of_mem cin)
      rw [isort_perm.length_eq] at this
      omega
  obtain ⟨L, h1, h2, h3⟩ : ∃ L, _ ∧ (ofSize (mutLots t.hs.length (mapP t)) (maxOf ((mutLots t.hs.length (mapP t)).map List.length)))[0]? = some L ∧ L ∈ ofSize (mutLots t.hs.length (mapP t)) (maxOf ((mutLots t.hs.length (mapP t)).map List.length)) := first_of (fun z => by rw [z] at mem; cases mem)
  refine ⟨L, h2, ?_⟩
  have := (List.mem_filter.mp (isort_perm.mem_iff.mp h3)).2
  rw [← eq]
  exact of_decide_eq_true this
end Mk
end
section
set_option Elab.async false
set_option linter.all false
set_option maxRecDepth 100000
set_option maxHeartbeats 400000
/-! Runs: the tree of a town, maps of trees. -/
namespace Mk
open PySem Mp GM
open Dat (enc)
section
variable {T : List FD}
def SpTree0 (T : List FD) (i : Nat) : Prop := ∀ (n : Nat) (st : St), 12 ≤ n → Low st → ∀ (N : Nat) (ps : Prs), Town N ps → run T n i [dTown N ps] st = .ok (tO (treeF (adj ps) N (List.range N))) st
theorem pl_tO {z : Option Tr} : Pl (tO z) := by
  cases z with
  | none => rfl
  | some t => exact tD_pl t
theorem tree0_ok {i c d e f : Nat} (hT : T[i]? = some (F_tree c d e f)) (k1 : SpMap T c) (k2 : SpTol T d) (k3 : SpNbs T e) (k4 : SpEvery T f) : SpTree0 T i := fun n st hn hs N ps ht => by
  obtain ⟨m, rfl⟩ := Nat.exists_eq_add_of_le' hn
  have hm := ht.most
  have hp := ht.pos
  exact run_pl hs hT rfl pl_tO (sq (drp (cl (al (vr rfl) al0) (k1 _ _ (by omega) hs N ps ht))) (rt (cl (al (cl (al (vr rfl) al0) (k3 _ _ (by omega) hs N ps hm)) (al (cl (al (vr rfl) al0) (k4 _ _ (by omega) hs N ps hm)) al0)) (k2 N _ (List.range N) st N ps (by omega) (by rw [List.length_range]; exact Nat.le_refl _) (fun z => by
    have := congrArg List.length z
    rw [List.length_range] at this
    have : N = 0 := this
    omega) List.nodup_range (fun x hx => List.mem_range.mp hx) (by rw [List.length_range]; exact hm) hs))))
def SpCTree (T : List FD) (i : Nat) : Prop := ∀ (n : Nat) (st : St), 3 ≤ n → Low st → ∀ t, TreeG t → run T n i [tD t] st = .ok .non st
theorem tree_true {i n : Nat} {st : St} (k : SpTreeT T i) (hn : 2 ≤ n) (hs : Low st) {t : Tr} (g : TreeG t) : run T n i [tD t] st = .ok (.bl true) st := by
  rw [(k n st hn hs).1 t g.good g.six, decide_eq_true g.sort]
theorem ctree_ok {i c : Nat} (hT : T[i]? = some (F_check_tree c)) (k1 : SpTreeT T c) : SpCTree T i := fun n st hn hs t g => by
  obtain ⟨m, rfl⟩ := Nat.exists_eq_add_of_le' hn
  exact run_next hT rfl (ife (tb (nt (k := true) (tb (cl (al (vr rfl) al0) (tree_true k1 (by omega) hs g))))) sk) (leave_pl hs rfl)
def SpMapOf (T : List FD) (i : Nat) : Prop := ∀ (n : Nat) (st : St), 10 ≤ n → Low st → ∀ t, TreeG t → run T n i [tD t] st = .ok (dTown t.hs.length (mapP t)) st
theorem dTown_pl {N : Nat} {ps : Prs} : Pl (dTown N ps) := Dat.pl ((N, ps) : Nat × Prs)
theorem mapOf_ok {i c d e : Nat} (hT : T[i]? = some (F_map_of c d e)) (k1 : SpCTree T c) (k2 : SpHin T d) (k3 : SpTold T e) : SpMapOf T i := fun n st hn hs t g => by
  obtain ⟨m, rfl⟩ := Nat.exists_eq_add_of_le' hn
  have h1 := g.good.ht
  have h2 := g.good.most
  exact run_pl hs hT rfl dTown_pl (sq (drp (cl (al (vr rfl) al0) (k1 _ _ (by omega) hs t g))) (rt (tp (al (pr (al (cl (al (vr rfl) al0) (k2 _ t st (by omega) g.good hs)) al0) prim_lenL) (al (pr (al (pr (al (cl (al (vr rfl) al0) (k3 _ t st (by omega) g.good hs)) al0) sorted_P) al0) rfl) al0)) (by show 2 ≤ line; decide))))
structure ShowsAt (T : List FD) (i n : Nat) (st : St) (N : Nat) (ps : Prs) : Prop where
  yes : ∀ t, TreeG t → run T n i [dTown N ps, tD t] st = .ok (.bl (decide (((t.hs.length, mapP t) : Nat × Prs) = (N, ps)))) st
  no : ∀ t, Good t → (∀ x ∈ t.hs, x ≤ 6) → isort leb t.hs ≠ List.range t.hs.length → run T n i [dTown N ps, tD t] st = .ok (.bl false) st
  odd : ∀ d, Odd st d → D.low st.length d = true → run T n i [dTown N ps, d] st = .ok (.bl false) st
def SpShows (T : List FD) (i : Nat) : Prop := ∀ (n : Nat) (st : St), 12 ≤ n → Low st → ∀ (N : Nat) (ps : Prs), Town N ps → ShowsAt T i n st N ps
theorem shows_ok {i c d e : Nat} (hT : T[i]? = some (F_shows_tree c d e)) (k1 : SpMap T c) (k2 : SpTreeT T d) (k3 : SpMapOf T e) : SpShows T i := fun n st hn hs N ps ht => by
  obtain ⟨m, rfl⟩ := Nat.exists_eq_add_of_le' hn
  have h1 : ∀ d0 : D, Mp.exec (run T (m + 11)) (.drop (.call c (.cons (.var 0) .nil))) [some (dTown N ps), some d0] st = .next [some (dTown N ps), some d0] st := fun d0 => drp (cl (al (vr rfl) al0) (k1 _ _ (by omega) hs N ps ht))
  refine ⟨fun t g => ?_, fun t g h6 hne => ?_, fun d0 hd hl => ?_⟩
  · exact run_pl hs hT rfl rfl (sq (h1 _) (rt (an (k := true) (cl (al (vr rfl) al0) (tree_true k2 (by omega) hs g)) fun _ => cm (cl (al (vr rfl) al0) (k3 _ _ (by omega) hs t g)) (vr rfl) (eq_ (α := Nat × Prs) (x := (t.hs.length, mapP t)) (y := (N, ps))))))
  · have := (k2 (m + 11) st (by omega) hs).1 t g h6
    rw [decide_eq_false hne] at this
    exact run_pl hs hT rfl rfl (sq (h1 _) (rt (an (k := false) (m := false) (cl (al (vr rfl) al0) this) fun z => by cases z)))
  · exact run_pl hs hT rfl rfl (sq (h1 _) (rt (an (k := false) (m := false) (cl (al (vr rfl) al0) ((k2 (m + 11) st (by omega) hs).2 d0 hd hl)) fun z => by cases z)))
def SpTNeed (T : List FD) (i : Nat) : Prop := ∀ (n : Nat) (st : St), 12 ≤ n → Low st → ∀ t, TreeG t → run T n i [tD t] st = .ok (enc (om t)) st
theorem full_lot {N : Nat} : List.range N ∈ lots N := lots_of List.pairwise_lt_range fun x hx => List.mem_range.mp hx
theorem tneed_ok {i c d e : Nat} (hT : T[i]? = some (F_tree_need c d e)) (k1 : SpMapOf T c) (k2 : SpNeed T d) (k3 : SpEvery T e) : SpTNeed T i := fun n st hn hs t g => by
  obtain ⟨m, rfl⟩ := Nat.exists_eq_add_of_le' hn
  have := k2 (m + 11) st (by omega) hs t.hs.length (mapP t) (List.range t.hs.length) g.town full_lot
  rw [g.need] at this
  exact run_pl hs hT rfl (Dat.pl _) (sq (asg (cl (al (vr rfl) al0) (k1 _ _ (by omega) hs t g)) rfl) (rt (cl (al (vr rfl) (al (cl (al (vr rfl) al0) (k3 _ _ (by omega) hs _ _ g.good.most)) al0)) this)))
def SpTPaint (T : List FD) (i : Nat) : Prop := ∀ (n : Nat) (st : St), 12 ≤ n → Low st → ∀ t, TreeG t → ∀ p, p ≤ 9 → run T n i [tD t, enc p] st = .ok (enc (sm (fun P => prm p P.length) (parts (frT t.hs.length (mapP t)) (List.range t.hs.length) [[]]))) st
theorem tpaint_ok {i c d : Nat} (hT : T[i]? = some (F_tree_paintings c d)) (k1 : SpCount T c) (k2 : SpMapOf T d) : SpTPaint T i := fun n st hn hs t g p hp => by
  obtain ⟨m, rfl⟩ := Nat.exists_eq_add_of_le' hn
  exact run_pl hs hT rfl (Dat.pl _) (rt (cl (al (cl (al (vr rfl) al0) (k2 _ _ (by omega) hs t g)) (al (vr rfl) al0)) (k1 _ _ (by omega) hs _ _ p g.town hp)))
end
end Mk
end
section
set_option Elab.async false
set_option linter.all false
set_option maxRecDepth 100000
set_option maxHeartbeats 400000
/-! Trees drawn. -/
namespace Mk
open PySem Mp GM
open Dat (enc)
theorem ltn2 {a b : Nat} {st : St} : cmpD .lt (enc a) (enc b) st = .ok (.bl (decide (a < b))) st := by
  show Mp.ret (D.bl (decide ((a : Int) < (b : Int)))) st = _
  rw [show decide ((a : Int) < (b : Int)) = decide (a < b) by simp only [Int.ofNat_lt]]
  rfl
/-- d is the list l, here and in all that grows from here -/
def IsL (d : D) (l : List Nat) (rest : St) : Prop := ∀ (c : Cell) (r : St), rest <+: r → deref d (c :: r) = .ok (dL l) (c :: r) ∧ chk (guardOf d (l.map enc)) (c :: r) = .ok () (c :: r)
theorem isL_pure {l : List Nat} {rest : St} : IsL (dL l) l rest := fun c r _ => ⟨rfl, rfl⟩
theorem isL_cell {l : List Nat} {rest : St} {j : Nat} (h : rest[j]? = some (.lst (l.map enc))) : IsL (.cell (j + 1)) l rest := fun c r hr => by
  have e : (c :: r)[j + 1]? = some (.lst (l.map enc)) := by
    obtain ⟨t, rfl⟩ := hr
    rw [List.getElem?_cons_succ, List.getElem?_append_left (List.getElem?_eq_some_iff.mp h).1]
    exact h
  exact ⟨by simp only [deref, e], by simp only [guardOf, chk, e, D.sames_refl]⟩
theorem low_many {st L : St} (hs : Low st) (h : ∀ c ∈ L, Cell.low 0 c = true) : Low (st ++ L) := by
  have mono : ∀ (c : Cell) (a b : Nat), a ≤ b → Cell.low a c = true → Cell.low b c = true := fun c a b hab q => by
    cases c with
    | lst m => exact D.lows_mono hab m q
    | dct t ks vs =>
      simp only [Cell.low, Bool.and_eq_true] at q ⊢
      exact ⟨D.lows_mono hab ks q.1, D.lows_mono hab vs q.2⟩
  unfold Low at *
  rw [List.all_append, Bool.and_eq_true, List.length_append]
  exact ⟨List.all_eq_true.mpr fun c hc => mono c _ _ (Nat.le_add_right _ _) (List.all_eq_true.mp hs c hc), List.all_eq_true.mpr fun c hc => mono c _ _ (Nat.zero_le _) (h c hc)⟩
abbrev cellsOf (Ps : List (List Nat)) : St := Ps.map fun p => Cell.lst (p.map enc)
theorem cells_low {Ps : List (List Nat)} : ∀ c ∈ cellsOf Ps, Cell.low 0 c = true := fun c hc => by
  obtain ⟨p, _, rfl⟩ := List.mem_map.mp hc
  exact lows_map p
theorem at_cell {c : Cell} {rest L : St} {j : Nat} : (c :: (rest ++ L))[rest.length + 1 + j]? = L[j]? := by
  rw [show rest.length + 1 + j = (rest.length + j) + 1 by omega, List.getElem?_cons_succ, List.getElem?_append_right (by omega)]
  congr 1
  omega
theorem set_cell {c y : Cell} {rest L : St} {j : Nat} : (c :: (rest ++ L)).set (rest.length + 1 + j) y = c :: (rest ++ L.set j y) := by
  rw [show rest.length + 1 + j = (rest.length + j) + 1 by omega, List.set_cons_succ, List.set_append_right _ _ (by omega)]
  congr 3
  omega
theorem new_all {C : CallF} : ∀ (xs : List D) (env : Mp.Env) (st : St), compL (.one 3) (ev C (.con (.bl true))) (ev C (.newC .nil)) env none xs st = .ok ((List.range' st.length xs.length).map D.cell) (st ++ List.replicate xs.length (.lst []))
  | [], env, st => by
    rw [List.length_nil, List.replicate_zero, List.append_nil]
    rfl
  | x :: r, env, st => by
    unfold compL
    refine bk2 (v := env.set 3 (some x)) (st1 := st) rfl (bk2 (v := true) (st1 := st) rfl ?_)
    refine bk2 (v := .cell st.length) (st1 := st ++ [.lst []]) (nw al0 (Nat.zero_le _)) (bk2 (v := ()) (st1 := st ++ [.lst []]) rfl ?_)
    have := new_all (C := C) r env (st ++ [Cell.lst []])
    refine bk2 this ?_
    rw [List.length_append, List.append_assoc]
    rfl
theorem set_perm : ∀ {Ps : List (List Nat)} {j : Nat} {p : List Nat} {h : Nat}, Ps[j]? = some p → ((Ps.set j (p ++ [h])).flatMap id).Perm (Ps.flatMap id ++ [h])
  | [], _, _, _, e => by cases e
  | q :: Ps, 0, p, h, e => by
    cases e
    rw [List.set_cons_zero, List.flatMap_cons, List.flatMap_cons]
    show (q ++ [h] ++ Ps.flatMap id).Perm (q ++ Ps.flatMap id ++ [h])
    rw [List.append_assoc, List.append_assoc]
    exact List.Perm.append_left _ List.perm_append_comm
  | q :: Ps, j + 1, p, h, e => by
    rw [List.set_cons_succ, List.flatMap_cons, List.flatMap_cons, List.append_assoc]
    exact List.Perm.append_left _ (set_perm (by simpa using e))
theorem zip_pre {l : List Nat} {dn : List (Nat × Nat)} {x : Nat × Nat} (h : dn ++ [x] <+: l.zipIdx) : x.2 = dn.length ∧ dn.length < l.length := by
  obtain ⟨t, e⟩ := h
  have h1 : l.zipIdx[dn.length]? = some x := by
    rw [← e, List.append_assoc, List.getElem?_append_right (Nat.le_refl _), Nat.sub_self]
    rfl
  have h2 := (List.getElem?_eq_some_iff.mp h1).1
  rw [List.length_zipIdx] at h2
  rw [List.getElem?_zipIdx, List.getElem?_eq_getElem h2] at h1
  cases h1
  exact ⟨Nat.zero_add _, h2⟩
theorem cells_zip : ∀ (Ps : List (List Nat)) (a : Nat), (List.range' (a + 1) Ps.length).map D.cell = (Ps.zipIdx a).map fun q => D.cell (q.2 + 1)
  | [], a => rfl
  | p :: Ps, a => by
    rw [List.length_cons, List.range'_succ, List.zipIdx_cons, List.map_cons, List.map_cons, cells_zip Ps (a + 1)]
theorem zip_flat : ∀ (Ps : List (List Nat)) (a : Nat), ((Ps.zipIdx a).flatMap fun q => q.1) = Ps.flatMap id
  | [], a => rfl
  | p :: Ps, a => by
    rw [List.zipIdx_cons, List.flatMap_cons, List.flatMap_cons, zip_flat Ps (a + 1)]
    rfl
section
variable {T : List FD}
def SpWord (T : List FD) (i : Nat) : Prop := ∀ (n : Nat), 2 ≤ n → ∀ (ns : List Int) (c : Cell) (rest : St), Row ns c → Low (c :: rest) → ∃ (al : Bool) (c' : Cell), Row ns c' ∧ run T n i [.cell 0, .lst [wD false, wD true]] (c :: rest) = .ok (wD al) (c' :: rest)
theorem wD_pl {al : Bool} : Pl (wD al) := rfl
theorem word_ok {i t : Nat} (hT : T[i]? = some (F__law_pick t)) (k1 : SpTaken T t) : SpWord T i := fun n hn ns c rest hc hs => by
  obtain ⟨k, rfl⟩ := Nat.exists_eq_add_of_le' hn
  obtain ⟨v, c', hv, hc', g⟩ := k1 (k + 1) (by omega) ns c rest 2 hc hs (by decide) (by decide)
  have e : ∃ al, ∀ st : St, idxD (.lst [wD false, wD true]) (enc v) st = .ok (wD al) st := by
    rcases (by omega : v = 0 ∨ v = 1) with rfl | rfl
    · exact ⟨false, fun _ => rfl⟩
    · exact ⟨true, fun _ => rfl⟩
  obtain ⟨al_, e⟩ := e
  exact ⟨al_, c', hc', run_ret hT rfl (rt (ix (vr rfl) (cl (al (vr rfl) (al (pr (al (vr rfl) al0) rfl) al0)) g) (e _))) (leave_pl (st := c' :: rest) (hc'.lows hs) wD_pl)⟩
def SpDrawn (T : List FD) (i : Nat) : Prop := ∀ (k n : Nat) (ns : List Int) (c : Cell) (rest : St) (l : List Nat) (d : D), k + 3 ≤ n → l.length ≤ k → 1 ≤ l.length → l.length ≤ 7 → Row ns c → Low (c :: rest) → IsL d l rest → ∃ (t : Tr) (c' : Cell), Row ns c' ∧ wf t ∧ t.hs.Perm l ∧ run T n i [.cell 0, d] (c :: rest) = .ok (tD t) (c' :: rest)
theorem drawn_all {i m k : Nat} {ns : List Int} {rest : St} {env : Mp.Env} (he : env.length = 7) (h0 : env[0]? = some (some (.cell 0))) (ih : ∀ (c : Cell) (l : List Nat) (d : D), l.length ≤ k → 1 ≤ l.length → l.length ≤ 7 → Row ns c → Low (c :: rest) → IsL d l rest → ∃ (t : Tr) (c' : Cell), Row ns c' ∧ wf t ∧ t.hs.Perm l ∧ run T m i [.cell 0, d] (c :: rest) = .ok (tD t) (c' :: rest)) :
    ∀ (Q : List (List Nat × Nat)) (c : Cell), (∀ q ∈ Q, rest[q.2]? = some (.lst (q.1.map enc)) ∧ 1 ≤ q.1.length ∧ q.1.length ≤ k ∧ q.1.length ≤ 7) → Row ns c → Low (c :: rest) →
    ∃ (ts : List Tr) (c' : Cell), Row ns c' ∧ compL (.one 6) (ev (run T m) (.con (.bl true))) (ev (run T m) (.call i (.cons (.var 0) (.cons (.var 6) .nil)))) env none (Q.map fun q => D.cell (q.2 + 1)) (c :: rest) = .ok (ts.map tD) (c' :: rest) ∧ ts.length = Q.length ∧ wfL ts ∧ (Tr.hsL ts).Perm (Q.flatMap fun q => q.1)
  | [], c, _, hc, hs => ⟨[], c, hc, rfl, rfl, trivial, .refl _⟩
  | q :: Q, c, h, hc, hs => by
    obtain ⟨h1, h2, h3, h4⟩ := h q List.mem_cons_self
    obtain ⟨t, c1, r1, w1, p1, g1⟩ := ih c q.1 (.cell (q.2 + 1)) h3 h2 h4 hc hs (isL_cell h1)
    obtain ⟨ts, c2, r2, g2, l2, w2, p2⟩ := drawn_all he h0 ih Q c1 (fun x hx => h x (List.mem_cons_of_mem _ hx)) r1 (r1.lows hs)
    refine ⟨t :: ts, c2, r2, ?_, by rw [List.length_cons, List.length_cons, l2], ⟨w1, w2⟩, ?_⟩
    · rw [List.map_cons]
      unfold compL
      refine bk2 (v := env.set 6 (some (.cell (q.2 + 1)))) (st1 := c :: rest) rfl (bk2 (v := true) (st1 := c :: rest) rfl ?_)
      have e6 : (env.set 6 (some (.cell (q.2 + 1))))[6]? = some (some (.cell (q.2 + 1))) := by rw [List.getElem?_set_self (by omega)]
      have e0 : (env.set 6 (some (.cell (q.2 + 1))))[0]? = some (some (.cell 0)) := by rw [List.getElem?_set_ne (by decide)]; exact h0
      refine bk2 (cl (al (vr e0) (al (vr e6) al0)) g1) (bk2 (v := ()) (st1 := c1 :: rest) rfl ?_)
      exact bk2 g2 rfl
    · rw [Tr.hsL, List.flatMap_cons]
      exact p1.append p2
theorem drawn_ok {i t p : Nat} (hT : T[i]? = some (F__law_drawn t p i)) (k1 : SpTaken T t) (k2 : SpWord T p) : SpDrawn T i := fun k => by
  induction k with
  | zero => intro n ns c rest l d _ h1 h2; omega
  | succ k ih =>
    intro n ns c rest l d hn hk h1 h7 hc hs hL
    obtain ⟨m, rfl⟩ := Nat.exists_eq_add_of_le' (Nat.le_trans (show 1 ≤ k + 1 + 3 by omega) hn)
    have hlen : ∀ (c : Cell) (r : St), rest <+: r → primD .len [d] (c :: r) = .ok (enc l.length) (c :: r) := fun c r hr => (pD (fun _ z => by cases z) (hL c r hr).1).trans (by
      show Mp.ret (D.int ((l.map enc).length : Nat)) _ = _
      rw [List.length_map]
      rfl)
    by_cases hone : l.length = 1
    · obtain ⟨x, rfl⟩ := List.length_eq_one_iff.mp hone
      refine ⟨.leaf x, c, hc, trivial, .refl _, run_pl hs hT rfl rfl (sqr (ift (tb (cm (pr (al (vr rfl) al0) (hlen c rest (List.prefix_refl _))) cn rfl)) (rt (ix (vr rfl) cn (bk2 (hL c rest (List.prefix_refl _)).1 rfl)))))⟩
    · have c0 : bnd (ev (run T m) (.cmp .eq (.prim .len (.cons (.var 1) .nil)) (.con (.int (1)))) [some (.cell 0), some d, none, none, none, none, none]) truth (c :: rest) = .ok false (c :: rest) := by
        refine tb (cm (pr (al (vr rfl) al0) (hlen c rest (List.prefix_refl _))) cn ((eq_ (α := Nat) (x := l.length) (y := 1)).trans ?_))
        rw [decide_eq_false hone]
      obtain ⟨v, c1, hv, hc1, g1⟩ := k1 m (by omega) ns c rest (min 3 (l.length - 1)) hc hs (by omega) (by omega)
      have hM : v + 2 ≤ l.length := by omega
      have s1a : ev (run T m) (.bin .add (.con (.int (2))) (.call t (.cons (.var 0) (.cons (.prim .min (.cons (.con (.int (3))) (.cons (.bin .sub (.prim .len (.cons (.var 1) .nil)) (.con (.int (1)))) .nil))) .nil)))) [some (.cell 0), some d, none, none, none, none, none] (c :: rest) = .ok (.int ((2 + v : Nat) : Int)) (c1 :: rest) := by
        refine bn cn (cl (al (vr rfl) (al (pr (al cn (al (bn (pr (al (vr rfl) al0) (hlen c rest (List.prefix_refl _))) cn (w := enc (l.length - 1)) (st3 := c :: rest) ?_) al0)) (prim_min2 (a := 3) (b := l.length - 1))) al0)) g1) ?_
        · show Mp.ret (D.int ((l.length : Int) - 1)) _ = _
          rw [show ((l.length : Int) - 1) = ((l.length - 1 : Nat) : Int) by omega]
          rfl
        · show Mp.ret (D.int ((2 : Int) + (v : Int))) _ = _
          rw [show ((2 : Int) + (v : Int)) = ((2 + v : Nat) : Int) by omega]
          rfl
      have s1b : ev (run T m) (.comp (.one 3) (.itr .range1 (.cons (.bin .add (.con (.int (2))) (.call t (.cons (.var 0) (.cons (.prim .min (.cons (.con (.int (3))) (.cons (.bin .sub (.prim .len (.cons (.var 1) .nil)) (.con (.int (1)))) .nil))) .nil)))) .nil)) (.con (.bl true)) (.newC .nil)) [some (.cell 0), some d, none, none, none, none, none] (c :: rest) = .ok (.lst ((List.range' (rest.length + 1) (2 + v)).map D.cell)) (c1 :: (rest ++ cellsOf (List.replicate (2 + v) []))) := by
        have src := it_rng1 (n := 2 + v) s1a (by omega) (by omega) (by omega)
        have nw := new_all (C := run T m) ((List.range (2 + v)).map (enc (α := Nat))) (wipeE [some (.cell 0), some d, none, none, none, none, none] [3]) (c1 :: rest)
        rw [List.length_map, List.length_range] at nw
        show bnd (bnd (ev (run T m) (.itr .range1 _) _) srcOf) _ _ = _
        refine bk2 src (bk2 nw ?_)
        rw [show cellsOf (List.replicate (2 + v) []) = List.replicate (2 + v) (Cell.lst []) from (List.map_replicate ..).trans rfl]
        show retLst _ _ = _
        unfold retLst
        rw [lenOk_of (by rw [List.length_map, List.length_range']; exact Nat.le_trans (show 2 + v ≤ 7 by omega) (by decide))]
        rfl
      have lw : ∀ (c' : Cell) (Ps : List (List Nat)), Row ns c' → Low (c' :: (rest ++ cellsOf Ps)) := fun c' Ps h => low_many (st := c' :: rest) (h.lows hs) cells_low
      obtain ⟨env2, st2, h2, c2, Ps, y4, y5, rfl, rfl, hc2, hPl, hPp, hPn⟩ := for1 (C := run T m) (p := .tup [4, 5]) (e := .itr .enum (.cons (.var 1) .nil)) (s := (.drop (.meth .append (.idx (.var 2) (.ite (.cmp .lt (.var 4) (.prim .len (.cons (.var 2) .nil))) (.var 4) (.call t (.cons (.var 0) (.cons (.prim .len (.cons (.var 2) .nil)) .nil))))) (.cons (.var 5) .nil))))
        (env := [some (.cell 0), some d, some (.lst ((List.range' (rest.length + 1) (2 + v)).map D.cell)), none, none, none, none]) (st := c1 :: (rest ++ cellsOf (List.replicate (2 + v) []))) (st1 := c1 :: (rest ++ cellsOf (List.replicate (2 + v) []))) (g := guardOf d (l.map enc)) (f := fun p : Nat × Nat => .tup [.int p.2, enc p.1]) (xs := l.zipIdx)
        (fun dn env s => ∃ (c' : Cell) (Ps : List (List Nat)) (y4 y5 : Option D), env = [some (.cell 0), some d, some (.lst ((List.range' (rest.length + 1) (2 + v)).map D.cell)), none, y4, y5, none] ∧ s = c' :: (rest ++ cellsOf Ps) ∧ Row ns c' ∧ Ps.length = 2 + v ∧ (Ps.flatMap id).Perm (dn.map (·.1)) ∧ ∀ j, j < dn.length → j < 2 + v → ∃ p, Ps[j]? = some p ∧ p ≠ [])
        (it (al (vr rfl) al0) (by
          show bnd (deref d) _ _ = _
          refine bk2 (hL c1 _ (List.prefix_append _ _)).1 ?_
          refine bk2 (v := l.map enc) (st1 := c1 :: (rest ++ cellsOf (List.replicate (2 + v) []))) rfl ?_
          show Res.ok (numbered 0 (l.map enc), guardOf d (l.map enc)) _ = _
          rw [numbered_map]))
        ⟨c1, List.replicate (2 + v) [], none, none, rfl, rfl, hc1, List.length_replicate .., by
          rw [show (List.replicate (2 + v) ([] : List Nat)).flatMap id = [] from List.flatMap_eq_nil_iff.mpr fun x hx => List.eq_of_mem_replicate hx]
          exact .refl _, fun j h => absurd h (Nat.not_lt_zero _)⟩ fun x dn env s hx hp ⟨c', Ps, y4, y5, e1, e2, hc', hPl, hPp, hPn⟩ => by
          subst e1 e2
          obtain ⟨z1, z2⟩ := zip_pre hp
          have len2 : ∀ st : St, primD .len [.lst ((List.range' (rest.length + 1) (2 + v)).map D.cell)] st = .ok (enc (2 + v)) st := fun st => by
            show Mp.ret (D.int (((List.range' (rest.length + 1) (2 + v)).map D.cell).length : Nat)) _ = _
            rw [List.length_map, List.length_range']
            rfl
          have idx : ∃ (j : Nat) (c3 : Cell), j < 2 + v ∧ Row ns c3 ∧ (dn.length < 2 + v → j = dn.length) ∧ ev (run T m) (.ite (.cmp .lt (.var 4) (.prim .len (.cons (.var 2) .nil))) (.var 4) (.call t (.cons (.var 0) (.cons (.prim .len (.cons (.var 2) .nil)) .nil)))) [some (.cell 0), some d, some (.lst ((List.range' (rest.length + 1) (2 + v)).map D.cell)), none, some (.int x.2), some (enc x.1), none] (c' :: (rest ++ cellsOf Ps)) = .ok (.int j) (c3 :: (rest ++ cellsOf Ps)) := by
            rw [z1]
            by_cases q : dn.length < 2 + v
            · refine ⟨dn.length, c', q, hc', fun _ => rfl, iet (tb (cm (vr rfl) (pr (al (vr rfl) al0) (len2 _)) ?_)) (vr rfl)⟩
              exact (ltn2 (a := dn.length) (b := 2 + v)).trans (by rw [decide_eq_true q])
            · obtain ⟨w, c3, hw, hc3, g3⟩ := k1 m (by omega) ns c' (rest ++ cellsOf Ps) (2 + v) hc' (lw c' Ps hc') (by omega) (by omega)
              refine ⟨w, c3, hw, hc3, fun z => absurd z q, ief (tb (cm (vr rfl) (pr (al (vr rfl) al0) (len2 _)) ?_)) (cl (al (vr rfl) (al (pr (al (vr rfl) al0) (len2 _)) al0)) g3)⟩
              exact (ltn2 (a := dn.length) (b := 2 + v)).trans (by rw [decide_eq_false q])
          obtain ⟨j, c3, hj, hc3, hjd, ej⟩ := idx
          obtain ⟨pj, hpj⟩ : ∃ pj, Ps[j]? = some pj := ⟨_, List.getElem?_eq_getElem (by omega)⟩
          have ecell : idxD (.lst ((List.range' (rest.length + 1) (2 + v)).map D.cell)) (.int j) (c3 :: (rest ++ cellsOf Ps)) = .ok (.cell (rest.length + 1 + j)) (c3 :: (rest ++ cellsOf Ps)) := by
            have := atI_map (f := D.cell) (xs := List.range' (rest.length + 1) (2 + v)) (i := j) (v := rest.length + 1 + j) (by rw [List.getElem?_range' (by omega), Nat.one_mul])
            show opt (L2.atI ((List.range' (rest.length + 1) (2 + v)).map D.cell) (j : Int)) _ = _
            rw [this]
            rfl
          have eat : (c3 :: (rest ++ cellsOf Ps))[rest.length + 1 + j]? = some (.lst (pj.map enc)) := by
            rw [at_cell, List.getElem?_map, hpj]
            rfl
          have elst : lstC (.cell (rest.length + 1 + j)) (c3 :: (rest ++ cellsOf Ps)) = .ok () (c3 :: (rest ++ cellsOf Ps)) := by simp only [lstC, eat]
          have hpl : pj.length ≤ 7 := by
            have h1 := hPp.length_eq
            rw [List.length_map] at h1
            have h2 : pj.length ≤ (Ps.flatMap id).length := by
              obtain ⟨a, b, e⟩ := List.append_of_mem (List.mem_of_getElem? hpj)
              rw [e, List.flatMap_append, List.flatMap_cons, List.length_append, List.length_append]
              show _ ≤ _ + (pj.length + _)
              omega
            omega
          have eapp : methD .append (.cell (rest.length + 1 + j)) [enc x.1] (c3 :: (rest ++ cellsOf Ps)) = .ok .non (c3 :: (rest ++ cellsOf (Ps.set j (pj ++ [x.1])))) := by
            simp only [methD, eat, List.length_map]
            rw [decide_eq_true (show pj.length < line from Nat.lt_of_le_of_lt hpl (by decide))]
            simp only [if_true, set_cell]
            have e : cellsOf (Ps.set j (pj ++ [x.1])) = (cellsOf Ps).set j (Cell.lst (pj.map enc ++ [enc x.1])) := by
              refine List.map_set.trans ?_
              rw [List.map_append]
              rfl
            rw [e]
          refine ⟨_, _, c3 :: (rest ++ cellsOf (Ps.set j (pj ++ [x.1]))), rfl, drp (d := .non) (mth (ix (vr rfl) ej ecell) elst (al (vr rfl) al0) eapp), (hL c3 _ (List.prefix_append _ _)).2, c3, Ps.set j (pj ++ [x.1]), some (.int x.2), some (enc x.1), rfl, rfl, hc3, by rw [List.length_set]; exact hPl, ?_, fun i2 hi hi2 => ?_⟩
          · rw [List.map_append]
            exact (set_perm hpj).trans (hPp.append_right _)
          · by_cases q : i2 = j
            · subst q
              exact ⟨_, List.getElem?_set_self (by omega), by simp⟩
            · rw [List.getElem?_set_ne (Ne.symm q)]
              rw [List.length_append, List.length_singleton] at hi
              refine hPn i2 ?_ hi2
              by_cases w : i2 = dn.length
              · subst w
                exact absurd (hjd hi2).symm q
              · omega
      rw [List.length_zipIdx] at hPn
      rw [List.zipIdx_map_fst] at hPp
      have hne : ∀ p ∈ Ps, p ≠ [] := fun p hp => by
        obtain ⟨j, hj, rfl⟩ := List.mem_iff_getElem.mp hp
        obtain ⟨p', e1, e2⟩ := hPn j (by omega) (by omega)
        rw [List.getElem?_eq_getElem hj] at e1
        cases e1
        exact e2
      obtain ⟨al_, c3, hc3, g3⟩ := k2 m (by omega) ns c2 (rest ++ cellsOf Ps) hc2 (lw c2 Ps hc2)
      have hq : ∀ q ∈ Ps.zipIdx rest.length, (rest ++ cellsOf Ps)[q.2]? = some (.lst (q.1.map enc)) ∧ 1 ≤ q.1.length ∧ q.1.length ≤ k ∧ q.1.length ≤ 7 := fun q hq => by
        obtain ⟨h1, h2⟩ := List.mk_mem_zipIdx_iff_le_and_getElem?_sub.mp (show (q.1, q.2) ∈ _ from hq)
        have hm := List.mem_of_getElem? h2
        have lt := flat_len hne hm (by omega)
        rw [hPp.length_eq] at lt
        refine ⟨?_, List.length_pos_iff.mpr (hne _ hm), by omega, by omega⟩
        rw [List.getElem?_append_right h1, List.getElem?_map, h2]
        rfl
      obtain ⟨ts, c4, hc4, g4, l4, w4, p4⟩ := drawn_all (T := T) (i := i) (m := m) (k := k) (ns := ns) (rest := rest ++ cellsOf Ps) (env := wipeE [some (.cell 0), some d, some (.lst ((List.range' (rest.length + 1) (2 + v)).map D.cell)), none, y4, y5, none] [6]) rfl rfl (fun c l d a1 a2 a3 a4 a5 a6 => ih m ns c _ l d (by omega) a1 a2 a3 a4 a5 a6) (Ps.zipIdx rest.length) c3 hq hc3 (lw c3 Ps hc3)
      rw [List.length_zipIdx] at l4
      rw [zip_flat] at p4
      have s3 : ev (run T m) (.comp (.one 6) (.itr .seq (.cons (.var 2) .nil)) (.con (.bl true)) (.call i (.cons (.var 0) (.cons (.var 6) .nil)))) [some (.cell 0), some d, some (.lst ((List.range' (rest.length + 1) (2 + v)).map D.cell)), none, y4, y5, none] (c3 :: (rest ++ cellsOf Ps)) = .ok (.lst (ts.map tD)) (c4 :: (rest ++ cellsOf Ps)) := by
        have src : bnd (ev (run T m) (.itr .seq (.cons (.var 2) .nil)) [some (.cell 0), some d, some (.lst ((List.range' (rest.length + 1) (2 + v)).map D.cell)), none, y4, y5, none]) srcOf (c3 :: (rest ++ cellsOf Ps)) = .ok ((Ps.zipIdx rest.length).map (fun q => D.cell (q.2 + 1)), none) (c3 :: (rest ++ cellsOf Ps)) := by
          rw [← cells_zip, hPl]
          exact it_lst (vr rfl)
        show bnd (bnd (ev (run T m) (.itr .seq _) _) srcOf) _ _ = _
        refine bk2 src (bk2 g4 ?_)
        show retLst _ _ = _
        unfold retLst
        rw [lenOk_of (by rw [List.length_map]; exact Nat.le_trans (show _ ≤ 7 by omega) (by decide))]
      refine ⟨.node al_ ts, c4, hc4, ⟨by omega, w4⟩, p4.trans hPp, ?_⟩
      rw [tD_node]
      exact run_ret hT rfl (sq (ife c0 sk) (sq (asg s1b rfl) (sq h2 (rt (tp (al (cl (al (vr rfl) (al (ls (al cn (al cn al0)) (by show 2 ≤ line; decide)) al0)) g3) (al (pr (al s3 al0) rfl) al0)) (by show 2 ≤ line; decide)))))) (by
        have := leave_own (st := c4 :: rest) (st1 := cellsOf Ps) (d := tD (.node al_ ts)) (hc4.lows hs) (tD_pl _)
        rw [tD_node] at this
        exact this)
end
end Mk
end
section
set_option Elab.async false
set_option linter.all false
set_option maxRecDepth 100000
set_option maxHeartbeats 800000
namespace K02
open PySem Mp GM Mk
open Dat (enc)
abbrev fLaw : FD := ⟨1, 14, (.seq (.asg (.one 1) (.newC (.cons (.var 0) (.cons (.con (.int (0))) (.cons (.con (.int (1664))) (.cons (.con (.int (0))) .nil)))))) (.seq (.asg (.one 2) (.call 2 (.cons (.var 1) (.cons (.con (.int (7))) .nil)))) (.seq (.asg (.one 3) (.call 15 (.cons (.var 2) .nil))) (.seq (.ite (.or (.cmp .ne (.cmp .is (.var 3) (.con .non)) (.cmp .ne (.call 18 (.cons (.var 2) .nil)) (.lst .nil))) (.cmp .ne (.cmp .is (.var 3) (.con .non)) (.cmp .ne (.call 20 (.cons (.var 2) .nil)) (.tup .nil)))) (.ret (.con (.bl false))) .skip) (.seq (.ite (.cmp .isn (.var 3) (.con .non)) (.seq (.ite (.or (.cmp .ne (.prim .sorted (.cons (.call 22 (.cons (.var 3) .nil)) .nil)) (.prim .list (.cons (.idx (.var 2) (.con (.int (1)))) .nil))) (.cmp .ne (.prim .sorted (.cons (.call 21 (.cons (.var 3) .nil)) .nil)) (.rng1 false (.idx (.var 2) (.con (.int (0))))))) (.ret (.con (.bl false))) .skip) (.ite (.or (.not (.call 23 (.cons (.var 3) (.cons (.con .non) .nil)))) (.not (.call 30 (.cons (.var 2) (.cons (.var 3) .nil))))) (.ret (.con (.bl false))) .skip)) .skip) (.seq (.asg (.one 4) (.bin .add (.con (.int (1))) (.call 0 (.cons (.var 1) (.cons (.con (.int (7))) .nil))))) (.seq (.asg (.one 5) (.rngC (.var 4))) (.seq (.asg (.one 6) (.call 32 (.cons (.var 1) (.cons (.comp (.one 7) (.itr .range1 (.cons (.var 4) .nil)) (.con (.bl true)) (.meth .popAt (.var 5) (.cons (.call 0 (.cons (.var 1) (.cons (.prim .len (.cons (.var 5) .nil)) .nil))) .nil))) .nil)))) (.seq (.asg (.one 8) (.tup (.cons (.var 4) (.cons (.prim .tuple (.cons (.prim .sorted (.cons (.call 22 (.cons (.var 6) .nil)) .nil)) .nil)) .nil)))) (.seq (.ite (.or (.not (.call 33 (.cons (.call 29 (.cons (.var 6) .nil)) (.cons (.var 8) .nil)))) (.not (.call 30 (.cons (.var 8) (.cons (.var 6) .nil))))) (.ret (.con (.bl false))) .skip) (.seq (.ite (.cmp .ne (.call 30 (.cons (.var 2) (.cons (.var 6) .nil))) (.cmp .eq (.var 8) (.var 2))) (.ret (.con (.bl false))) .skip) (.seq (.par [9, 10] (.cons (.call 15 (.cons (.var 8) .nil)) (.cons (.rng1 true (.var 4)) .nil))) (.seq (.ite (.or (.cmp .is (.var 9) (.con .non)) (.or (.not (.call 23 (.cons (.var 9) (.cons (.con .non) .nil)))) (.cmp .ne (.prim .sorted (.cons (.call 22 (.cons (.var 9) .nil)) .nil)) (.prim .list (.cons (.idx (.var 8) (.con (.int (1)))) .nil))))) (.ret (.con (.bl false))) .skip) (.seq (.ite (.or (.cmp .ne (.call 39 (.cons (.var 6) .nil)) (.call 38 (.cons (.var 8) (.cons (.var 10) .nil)))) (.cmp .ne (.call 39 (.cons (.var 6) .nil)) (.prim .len (.cons (.idx (.call 43 (.cons (.var 8) .nil)) (.con (.int (0)))) .nil)))) (.ret (.con (.bl false))) .skip) (.seq (.asg (.one 11) (.call 0 (.cons (.var 1) (.cons (.con (.int (10))) .nil)))) (.seq (.ite (.not (.call 33 (.cons (.call 46 (.cons (.var 6) (.cons (.var 11) .nil))) (.cons (.call 45 (.cons (.var 8) (.cons (.var 11) .nil))) .nil)))) (.ret (.con (.bl false))) .skip) (.seq (.asg (.one 12) (.lst (.cons (.con .non) (.cons (.con (.bl true)) (.cons (.con (.int (7))) (.cons (.tup (.cons (.var 6) .nil)) (.cons (.tup (.cons (.con (.str "side")) (.cons (.tup (.cons (.var 6) .nil)) .nil))) (.cons (.tup (.cons (.con (.str "any")) (.cons (.tup (.cons (.con (.int (0))) (.cons (.con (.int (1))) .nil))) .nil))) (.cons (.lst (.cons (.con (.str "side")) (.cons (.tup (.cons (.con (.int (0))) (.cons (.con (.int (1))) .nil))) .nil))) (.cons (.tup (.cons (.con (.str "side")) (.cons (.lst (.cons (.con (.int (0))) (.cons (.con (.int (1))) .nil))) .nil))) (.cons (.newD 0) .nil))))))))))) (.ret (.cmp .eq (.comp (.one 13) (.itr .seq (.cons (.bin .add (.var 12) (.lst (.cons (.tup (.cons (.con (.str "all")) (.cons (.tup (.cons (.con (.int (0))) (.cons (.con (.int (0))) .nil))) .nil))) (.cons (.tup (.cons (.con (.str "all")) (.cons (.tup (.cons (.con (.int (0))) (.cons (.con (.int (2))) .nil))) .nil))) .nil)))) .nil)) (.call 30 (.cons (.var 2) (.cons (.var 13) .nil))) (.var 13)) (.lst .nil))))))))))))))))))))⟩
def T : List FD := [F__law_taken, F__law_town 0, F__law_any 1 0, F_is_number, F_are_houses 3, F_is_ascending, F_is_lot 4 5, F_are_pairs 6 5, F_check_map 3 7, F_share, F_keeps_together 9, F_groups_for 10, F_tree_of_lot 11 12, F_neighbors, F_every_house, F_tree 8 12 13 14, F__law_lots, F__law_near, F__law_rows 16 17, F_goes_on 9, F_bare_rows 8 13 19, F__law_houses 21, F__law_told 22 21, F__law_plain 21 23, F_is_joint, F_is_tree 24 3, F_check_tree 25, F_houses_in 27, F_told_pairs 27 28, F_map_of 26 27 28, F_shows_tree 8 25 29, F__law_pick 0, F__law_drawn 0 31 32, F__law_alike 33, F_check_lot 6, F_ways_with 9, F_ways_to_part 35, F_fewest_paints 36, F_need 8 34 37 13, F_tree_need 29 38 14, F_all_lots, F_is_mutual, F_lots_of_size, F_most_mutual 8 13 40 41 42, F_check_number 3, F_count_paintings 8 44 36 13 14, F_tree_paintings 45 29, fLaw]
theorem s_taken : SpTaken T 0 := taken_ok rfl
theorem s_town : SpTown T 1 := town_ok rfl s_taken
theorem s_any : SpAny T 2 := any_ok rfl s_town s_taken
theorem s_num : SpNum T 3 := num_ok rfl
theorem s_numOdd : SpNumOdd T 3 := numOdd_ok rfl
theorem s_houses : SpHouses T 4 := houses_ok rfl s_num
theorem s_asc : SpAsc T 5 := asc_ok rfl
theorem s_lot : SpLot T 6 := lot_ok rfl s_houses s_asc
theorem s_pairs : SpPairs T 7 := pairs_ok rfl s_lot s_asc
theorem s_map : SpMap T 8 := map_ok rfl s_num s_pairs
theorem s_share : SpShare T 9 := share_ok rfl
theorem s_keep : SpKeep T 10 := keep_ok rfl s_share
theorem s_grp : SpGrp T 11 := grp_ok rfl s_keep
theorem s_tol : SpTol T 12 := tol_ok rfl s_grp
theorem s_nbs : SpNbs T 13 := nbs_ok rfl
theorem s_every : SpEvery T 14 := every_ok rfl
theorem s_tree0 : SpTree0 T 15 := tree0_ok rfl s_map s_tol s_nbs s_every
theorem s_llots : SpLLots T 16 := llots_ok rfl
theorem s_lnear : SpLNear T 17 := lnear_ok rfl
theorem s_lrows : SpLRows T 18 := lrows_ok rfl s_llots s_lnear
theorem s_goes : SpGoes T 19 := goes_ok rfl s_share
theorem s_rows : SpRows T 20 := rows_ok rfl s_map s_nbs s_goes
theorem s_lhin : SpLHin T 21 := lhin_ok rfl
theorem s_ltold : SpLTold T 22 := ltold_ok rfl s_lhin
theorem s_plain : SpPlain T 23 := plain_ok rfl s_lhin
theorem s_joint : SpJoint T 24 := joint_ok rfl
theorem s_treeT : SpTreeT T 25 := tree_ok rfl s_joint s_num s_numOdd
theorem s_ctree : SpCTree T 26 := ctree_ok rfl s_treeT
theorem s_hin : SpHin T 27 := hin_ok rfl
theorem s_told : SpTold T 28 := told_ok rfl s_hin
theorem s_mapOf : SpMapOf T 29 := mapOf_ok rfl s_ctree s_hin s_told
theorem s_shows : SpShows T 30 := shows_ok rfl s_map s_treeT s_mapOf
theorem s_word : SpWord T 31 := word_ok rfl s_taken
theorem s_drawn : SpDrawn T 32 := drawn_ok rfl s_taken s_word
theorem s_alike : SpAlike T 33 := alike_ok rfl
theorem s_clot : SpCLot T 34 := clot_ok rfl s_lot
theorem s_with : SpWith T 35 := with_ok rfl s_share
theorem s_part : SpPart T 36 := part_ok rfl s_with
theorem s_few : SpFew T 37 := few_ok rfl s_part
theorem s_need : SpNeed T 38 := need_ok rfl s_map s_clot s_few s_nbs
theorem s_tneed : SpTNeed T 39 := tneed_ok rfl s_mapOf s_need s_every
theorem s_lots : SpLots T 40 := lots_ok rfl
theorem s_mutual : SpMutual T 41 := mutual_ok rfl
theorem s_size : SpSize T 42 := size_ok rfl
theorem s_most : SpMost T 43 := most_ok rfl s_map s_nbs s_lots s_mutual s_size
theorem s_cnum : SpCNum T 44 := cnum_ok rfl s_num
theorem s_count : SpCount T 45 := count_ok rfl s_map s_cnum s_part s_nbs s_every
theorem s_tpaint : SpTPaint T 46 := tpaint_ok rfl s_count s_mapOf
theorem ixN_nat {n v : Nat} (h : v < n) : L2.ixN n (v : Int) = some v := by
  unfold L2.ixN
  rw [if_pos (by omega), if_pos (by omega)]
  rfl
theorem erase_map {f : Nat → D} : ∀ (l : List Nat) (i : Nat), (l.map f).eraseIdx i = (l.eraseIdx i).map f
  | [], _ => rfl
  | _ :: _, 0 => rfl
  | a :: l, i + 1 => by
    rw [List.map_cons, List.eraseIdx_cons_succ, List.eraseIdx_cons_succ, List.map_cons, erase_map l i]
theorem erase_perm : ∀ {l : List Nat} {i : Nat} (h : i < l.length), (l[i] :: l.eraseIdx i).Perm l
  | [], _, h => absurd h (Nat.not_lt_zero _)
  | a :: l, 0, _ => .refl _
  | a :: l, i + 1, h => by
    rw [List.eraseIdx_cons_succ, List.getElem_cons_succ]
    exact (List.Perm.swap a _ _).trans ((erase_perm (Nat.lt_of_succ_lt_succ h)).cons a)
theorem popAt_ {c : Cell} {names : List Nat} {v : Nat} (h : v < names.length) (hl : names.length ≤ 7) : methD .popAt (.cell 1) [.int (v : Int)] [c, .lst (names.map enc)] = .ok (enc names[v]) [c, .lst ((names.eraseIdx v).map enc)] := by
  show (match (if Nat.ble (names.map enc).length line then L2.ixN (names.map enc).length (v : Int) else none) with | some j => (match (names.map enc)[j]? with | some x => Res.ok x ([c, Cell.lst (names.map enc)].set 1 (.lst ((names.map enc).eraseIdx j))) | none => .bad) | none => .bad) = _
  rw [List.length_map, if_pos (Nat.ble_eq_true_of_le (Nat.le_trans hl (by decide))), ixN_nat h]
  simp only [List.getElem?_map, List.getElem?_eq_getElem h, Option.map_some, erase_map]
  rfl
abbrev popE : E := .meth .popAt (.var 5) (.cons (.call 0 (.cons (.var 1) (.cons (.prim .len (.cons (.var 5) .nil)) .nil))) .nil)
theorem low2 {ns : List Int} {c : Cell} {l : List Nat} (h : Row ns c) : Low [c, .lst (l.map enc)] := low_snoc (st := [c]) (h.lows (rest := []) (c := .lst []) rfl) (pl_map _)
theorem pops {ns : List Int} : ∀ (xs : List D) (names : List Nat) (c : Cell) (env : Mp.Env), xs.length = names.length → names.length ≤ 7 → Row ns c → env.length = 14 → env[1]? = some (some (.cell 0)) → env[5]? = some (some (.cell 1)) →
    ∃ (L : List Nat) (c' : Cell), Row ns c' ∧ compL (.one 7) (ev (run T 12) (.con (.bl true))) (ev (run T 12) popE) env none xs [c, .lst (names.map enc)] = .ok (L.map enc) [c', .lst []] ∧ L.Perm names
  | [], [], c, env, _, _, hc, _, _, _ => ⟨[], c, hc, rfl, .refl _⟩
  | [], _ :: _, _, _, h, _, _, _, _, _ => by cases h
  | x :: xs, names, c, env, h, hl, hc, he, h1, h5 => by
    have hpos : 1 ≤ names.length := by rw [← h]; exact Nat.succ_le_succ (Nat.zero_le _)
    obtain ⟨v, c1, hv, hc1, g1⟩ := s_taken 12 (by omega) ns c [.lst (names.map enc)] names.length hc (low2 hc) hpos (by omega)
    have hlen : (names.eraseIdx v).length + 1 = names.length := by rw [List.length_eraseIdx_of_lt hv]; omega
    obtain ⟨L, c2, hc2, g2, p2⟩ := pops xs (names.eraseIdx v) c1 env (by rw [List.length_cons] at h; omega) (by omega) hc1 he h1 h5
    refine ⟨names[v] :: L, c2, hc2, ?_, (p2.cons _).trans (erase_perm hv)⟩
    have e1 : (env.set 7 (some x))[1]? = some (some (.cell 0)) := by rw [List.getElem?_set_ne (by decide)]; exact h1
    have e5 : (env.set 7 (some x))[5]? = some (some (.cell 1)) := by rw [List.getElem?_set_ne (by decide)]; exact h5
    have len1 : primD .len [.cell 1] [c, .lst (names.map enc)] = .ok (.int names.length) [c, .lst (names.map enc)] := by
      show Res.ok (D.int ((names.map enc).length : Nat)) _ = _
      rw [List.length_map]
    unfold compL
    refine bk2 (v := env.set 7 (some x)) (st1 := [c, .lst (names.map enc)]) rfl (bk2 (v := true) (st1 := [c, .lst (names.map enc)]) rfl ?_)
    refine bk2 (v := enc names[v]) (st1 := [c1, .lst ((names.eraseIdx v).map enc)]) (mth (vr e5) rfl (al (cl (al (vr e1) (al (pr (al (vr e5) al0) len1) al0)) g1) al0) (popAt_ hv hl)) (bk2 (v := ()) (st1 := [c1, .lst ((names.eraseIdx v).map enc)]) rfl ?_)
    exact bk2 g2 rfl
theorem is_non {z : Option Tr} {st : St} : cmpD .is (tO z) .non st = .ok (.bl z.isNone) st := by
  cases z with
  | none => rfl
  | some t => cases t <;> rfl
theorem isn_non {z : Option Tr} {st : St} : cmpD .isn (tO z) .non st = .ok (.bl z.isSome) st := by
  cases z with
  | none => rfl
  | some t => cases t <;> rfl
theorem ne_bl {a b : Bool} {st : St} : cmpD .ne (.bl a) (.bl b) st = .ok (.bl (a != b)) st := by cases a <;> cases b <;> rfl
theorem ne_same {α : Type} [DecidableEq α] [Dat α] {x y : List α} {st : St} (h : Dat.lv α ≤ 59 := by decide) (e : x = y) : cmpD .ne (dL x) (dL y) st = .ok (.bl false) st := by
  refine (ne_L h).trans ?_
  rw [decide_eq_true e]
  rfl
theorem newD_ {C : CallF} {env : Mp.Env} {st : St} : ev C (.newD 0) env st = .ok (.cell st.length) (st ++ [.dct 0 [] []]) := rfl
theorem parx {C : CallF} {is : List Nat} {e : E} {env env1 : Mp.Env} {st st1 : St} {l : List D} (h : bnd (ev C e env) listOf st = .ok l st1) (h2 : setAll is l env = some env1) : Mp.exec C (.par is e) env st = .next env1 st1 := by
  simp only [Mp.exec, run', h, h2]
theorem rgC {C : CallF} {a : E} {env : Mp.Env} {st st1 : St} {x : Nat} (h : ev C a env st = .ok (.int x) st1) (hx : x ≤ 16777216) : ev C (.rngC a) env st = .ok (.cell st1.length) (st1 ++ [.lst ((List.range x).map enc)]) := by
  simp only [ev]
  refine bk2 h ?_
  have e1 : Nat.ble (x : Int).toNat line = true := Nat.ble_eq_true_of_le (by show (x : Int).toNat ≤ 16777216; omega)
  simp only [rngCD, rangeOk_of (i := x) (by omega) (by omega), e1, Bool.and_self, if_true]
  rw [show (x : Int).toNat = x by omega, upto_zero]
  unfold newCell
  rw [lenOk_of (by rw [List.length_map, List.length_range]; exact hx)]
theorem fit_town {N : Nat} {ps : Prs} (h : ps.length ≤ 100) : D.fit 3 (dTown N ps) = true := by
  have h2 : ∀ p ∈ ps, D.fit 1 (enc p) = true := fun p hp => by
    show (Nat.ble 2 1000000 && D.fits 0 [enc p.1, enc p.2]) = true
    rfl
  have h1 : D.fit 2 (enc ps) = true := fit_T (n := 1) (by omega) h2
  show (Nat.ble 2 1000000 && D.fits 2 [enc N, enc ps]) = true
  rw [show D.fits 2 [enc N, enc ps] = true from D.fits_of fun d hd => by
    rcases List.mem_cons.mp hd with rfl | hd
    · exact fit_num
    · rw [List.mem_singleton.mp hd]; exact h1]
  rfl
theorem main (ns : List Int) (hns : ns.length ≤ 63) : ∃ st, run T 13 47 [.scr ns] [] = .ok (.bl true) st := by
  refine ⟨[], ?_⟩
  have hc0 : Row ns (.lst [.scr ns, .int 0, .int 1664, .int 0]) := ⟨0, 1664, 0, by omega, by omega, by omega, rfl⟩
  obtain ⟨N, ps, c1, ht, hN6, hc1, g1⟩ := s_any 12 (by omega) ns _ [] 7 hc0 rfl (by omega) (by omega)
  have hN := ht.most
  have hpos := ht.pos
  have lw1 : Low [c1] := hc1.lows (rest := []) (c := .lst []) rfl
  obtain ⟨v, c2, hv, hc2, g2⟩ := s_taken 12 (by omega) ns c1 [] 7 hc1 lw1 (by omega) (by omega)
  have lw2 : Low [c2] := hc2.lows (rest := []) (c := .lst []) rfl
  generalize hF : treeF (adj ps) N (List.range N) = F
  have t0 := s_tree0 12 [c1] (by omega) lw1 N ps ht
  rw [hF] at t0
  -- names popped
  have hrl : (List.range (1 + v)).length = 1 + v := List.length_range
  obtain ⟨L, c3, hc3, g3, p3⟩ := pops (ns := ns) ((List.range (1 + v)).map (enc (α := Nat))) (List.range (1 + v)) c2 (wipeE [some (.scr ns), some (.cell 0), some (dTown N ps), some (tO F), some (enc (1 + v)), some (.cell 1), none, none, none, none, none, none, none, none] [7]) (by rw [List.length_map]) (by omega) hc2 rfl rfl rfl
  have hLl : L.length = 1 + v := by rw [p3.length_eq, hrl]
  have lw3 : Low [c3, .lst []] := low2 (l := []) hc3
  obtain ⟨t, c4, hc4, w4, p4, g4⟩ := s_drawn 7 12 ns c3 [.lst []] L (dL L) (by omega) (by omega) (by omega) (by omega) hc3 lw3 isL_pure
  have lw4 : Low [c4, .lst []] := low2 (l := []) hc4
  have htl : t.hs.length = 1 + v := by rw [p4.length_eq, hLl]
  have tg : TreeG t := ⟨⟨w4, by omega⟩, by rw [htl]; exact p4.trans p3⟩
  have tht := tg.good.ht
  have tt := tg.town
  rw [htl] at tt
  obtain ⟨u, hu⟩ := tg.again
  obtain ⟨uk, ug, ul, ub⟩ := tree_some tg.town hu
  obtain ⟨um, us⟩ := shown tg.town uk.tells uk.perm
  have uht := ug.good.ht
  rw [htl] at hu ul
  obtain ⟨paints, c5, hp5, hc5, g5⟩ := s_taken 12 (by omega) ns c4 [.lst []] 10 hc4 lw4 (by omega) (by omega)
  have lw5 : Low [c5, .lst []] := low2 (l := []) hc5
  have lw6 : Low [c5, .lst [], .dct 0 [] []] := by
    have h1 := hc5.low 3
    show (Cell.low 3 c5 && _) = true
    rw [h1]
    rfl
  have htt : ((t.hs.length, mapP t) : Nat × Prs) = (1 + v, mapP t) := by rw [htl]
  have hsL : primD .sorted [dL (tpL t)] [c4, .lst []] = .ok (dL (mapP t)) [c4, .lst []] := by
    refine sorted_P.trans ?_
    rw [show isort leb (tpL t) = mapP t from prSort_perm (tp_perm t).symm]
  have hmap := s_mapOf 12 [c4, .lst []] (by omega) lw4 t tg
  rw [htl] at hmap
  have hneed : few (1 + v) (mapP t) (List.range (1 + v)) = om t := by
    have := tg.need
    rw [htl] at this
    exact this
  obtain ⟨L0, m0, m1⟩ := tg.most
  rw [htl] at m0
  have htp := s_tpaint 12 [c5, .lst []] (by omega) lw5 t tg paints (by omega)
  rw [htl] at htp
  have hcnt := s_count 12 [c5, .lst []] (by omega) lw5 (1 + v) (mapP t) paints tt (by omega)
  have hFb : (F.isNone != !decide (bareL N ps = [])) = false := by
    cases F with
    | none => rw [decide_eq_false (tree_none ht hF)]; rfl
    | some f => rw [decide_eq_true (tree_some ht hF).2.2.2]; rfl
  refine run_ret (fd := fLaw) (n := 12) (st1 := [c5, .lst [], .dct 0 [] []]) (d := .bl true) rfl rfl ?_ (leave_own (st := []) (st1 := [c5, .lst [], .dct 0 [] []]) rfl rfl)
  refine sq (env1 := [some (.scr ns), some (.cell 0), none, none, none, none, none, none, none, none, none, none, none, none]) (st1 := [.lst [.scr ns, .int 0, .int 1664, .int 0]]) (asg (nw (al (vr rfl) (al cn (al cn (al cn al0)))) (by show 4 ≤ line; decide)) rfl) ?_
  refine sq (env1 := [some (.scr ns), some (.cell 0), some (dTown N ps), none, none, none, none, none, none, none, none, none, none, none]) (st1 := [c1]) (asg (cl (al (vr rfl) (al cn al0)) g1) rfl) ?_
  refine sq (env1 := [some (.scr ns), some (.cell 0), some (dTown N ps), some (tO F), none, none, none, none, none, none, none, none, none, none]) (st1 := [c1]) (asg (cl (al (vr rfl) al0) t0) rfl) ?_
  refine sq (env1 := [some (.scr ns), some (.cell 0), some (dTown N ps), some (tO F), none, none, none, none, none, none, none, none, none, none]) (st1 := [c1]) (ife (tb (orr (k := false) (m := false) (cm (cm (vr rfl) cn is_non) (cm (cl (al (vr rfl) al0) (s_lrows 12 _ (by omega) lw1 N ps ht)) (ls al0 (Nat.zero_le _)) (ne_L (x := bareL N ps) (y := []))) (ne_bl.trans (by rw [hFb]))) fun _ => cm (cm (vr rfl) cn is_non) (cm (cl (al (vr rfl) al0) (s_rows 12 _ (by omega) lw1 N ps ht)) (tp al0 (Nat.zero_le _)) (ne_ (α := List (List Nat)) (x := bareL N ps) (y := []))) (ne_bl.trans (by rw [hFb])))) sk) ?_
  refine sq (env1 := [some (.scr ns), some (.cell 0), some (dTown N ps), some (tO F), none, none, none, none, none, none, none, none, none, none]) (st1 := [c1]) ?_ ?_
  · cases F with
    | none => exact ife (tb (cm (vr rfl) cn (isn_non (z := none)))) sk
    | some f =>
      obtain ⟨fk, fg, fl, fb⟩ := tree_some ht hF
      obtain ⟨fm, fs⟩ := shown ht fk.tells fk.perm
      have fht := fg.good.ht
      have fmo := fg.good.most
      have fsh := (s_shows 12 [c1] (by omega) lw1 N ps ht).yes f fg
      rw [decide_eq_true (by rw [fl, fm])] at fsh
      refine ift (tb (cm (vr rfl) cn (isn_non (z := some f)))) (sq (env1 := [some (.scr ns), some (.cell 0), some (dTown N ps), some (tD f), none, none, none, none, none, none, none, none, none, none]) (st1 := [c1]) (ife (tb (orr (k := false) (m := false) (cm (pr (al (cl (al (vr rfl) al0) (s_ltold 12 f _ (by omega) fg.good lw1)) al0) sorted_P) (pr (al (ix (vr rfl) cn rfl) al0) rfl) (ne_same (e := fs))) fun _ => cm (pr (al (cl (al (vr rfl) al0) (s_lhin 12 f _ (by omega) fg.good lw1)) al0) (sorted_N rfl)) (rg1L (ix (vr rfl) cn rfl) (by omega)) (ne_same (e := by rw [fg.sort, fl])))) sk) (ife (tb (orr (k := false) (m := false) (nt (k := true) (tb (cl (al (vr rfl) (al cn al0)) (s_plain 12 f none _ (by omega) fg.good fk.plain (.inr rfl) lw1)))) fun _ => nt (k := true) (tb (cl (al (vr rfl) (al (vr rfl) al0)) fsh)))) sk))
  refine sq (env1 := [some (.scr ns), some (.cell 0), some (dTown N ps), some (tO F), some (enc (1 + v)), none, none, none, none, none, none, none, none, none]) (st1 := [c2]) (asg (bn cn (cl (al (vr rfl) (al cn al0)) g2) rfl) rfl) ?_
  refine sq (env1 := [some (.scr ns), some (.cell 0), some (dTown N ps), some (tO F), some (enc (1 + v)), some (.cell 1), none, none, none, none, none, none, none, none]) (st1 := [c2, .lst ((List.range (1 + v)).map enc)]) (asg (rgC (vr rfl) (by omega)) rfl) ?_
  have s8 : ev (run T 12) (.comp (.one 7) (.itr .range1 (.cons (.var 4) .nil)) (.con (.bl true)) popE) [some (.scr ns), some (.cell 0), some (dTown N ps), some (tO F), some (enc (1 + v)), some (.cell 1), none, none, none, none, none, none, none, none] [c2, .lst ((List.range (1 + v)).map enc)] = .ok (dL L) [c3, .lst []] := by
    have src : bnd (ev (run T 12) (.itr .range1 (.cons (.var 4) .nil)) [some (.scr ns), some (.cell 0), some (dTown N ps), some (tO F), some (enc (1 + v)), some (.cell 1), none, none, none, none, none, none, none, none]) srcOf [c2, .lst ((List.range (1 + v)).map enc)] = .ok ((List.range (1 + v)).map enc, none) [c2, .lst ((List.range (1 + v)).map enc)] := it_rng1 (n := 1 + v) (i := ((1 + v : Nat) : Int)) (vr rfl) (by omega) (by omega) (by omega)
    show bnd (bnd (ev (run T 12) (.itr .range1 _) _) srcOf) _ _ = _
    refine bk2 src (bk2 g3 ?_)
    show retLst _ _ = _
    unfold retLst
    rw [lenOk_of (by rw [List.length_map, hLl]; exact Nat.le_trans (show 1 + v ≤ 7 by omega) (by decide))]
  refine sq (env1 := [some (.scr ns), some (.cell 0), some (dTown N ps), some (tO F), some (enc (1 + v)), some (.cell 1), some (tD t), none, none, none, none, none, none, none]) (st1 := [c4, .lst []]) (asg (cl (al (vr rfl) (al s8 al0)) g4) rfl) ?_
  refine sq (env1 := [some (.scr ns), some (.cell 0), some (dTown N ps), some (tO F), some (enc (1 + v)), some (.cell 1), some (tD t), none, some (dTown (1 + v) (mapP t)), none, none, none, none, none]) (st1 := [c4, .lst []]) (asg (tp (al (vr rfl) (al (pr (al (pr (al (cl (al (vr rfl) al0) (s_ltold 12 t _ (by omega) tg.good lw4)) al0) hsL) al0) rfl) al0)) (by show 2 ≤ line; decide)) rfl) ?_
  have sh1 := (s_shows 12 [c4, .lst []] (by omega) lw4 (1 + v) (mapP t) tt).yes t tg
  rw [decide_eq_true htt] at sh1
  refine sq (env1 := [some (.scr ns), some (.cell 0), some (dTown N ps), some (tO F), some (enc (1 + v)), some (.cell 1), some (tD t), none, some (dTown (1 + v) (mapP t)), none, none, none, none, none]) (st1 := [c4, .lst []]) (ife (tb (orr (k := false) (m := false) (nt (k := true) (tb (cl (al (cl (al (vr rfl) al0) hmap) (al (vr rfl) al0)) (s_alike 3 _ (fit_town tt.len) 12 _ (by omega) lw4)))) fun _ => nt (k := true) (tb (cl (al (vr rfl) (al (vr rfl) al0)) sh1)))) sk) ?_
  have sh2 := (s_shows 12 [c4, .lst []] (by omega) lw4 N ps ht).yes t tg
  rw [show decide (((t.hs.length, mapP t) : Nat × Prs) = (N, ps)) = decide (((1 + v, mapP t) : Nat × Prs) = (N, ps)) by rw [htl]] at sh2
  refine sq (env1 := [some (.scr ns), some (.cell 0), some (dTown N ps), some (tO F), some (enc (1 + v)), some (.cell 1), some (tD t), none, some (dTown (1 + v) (mapP t)), none, none, none, none, none]) (st1 := [c4, .lst []]) (ife (tb (cm (cl (al (vr rfl) (al (vr rfl) al0)) sh2) (cm (vr rfl) (vr rfl) (eq_ (α := Nat × Prs) (x := (1 + v, mapP t)) (y := (N, ps)))) (ne_bl.trans (by rw [bne_self_eq_false])))) sk) ?_
  have tu := s_tree0 12 [c4, .lst []] (by omega) lw4 (1 + v) (mapP t) tt
  rw [hu] at tu
  refine sq (env1 := [some (.scr ns), some (.cell 0), some (dTown N ps), some (tO F), some (enc (1 + v)), some (.cell 1), some (tD t), none, some (dTown (1 + v) (mapP t)), some (tD u), some (enc (List.range (1 + v))), none, none, none]) (st1 := [c4, .lst []]) (parx (al (cl (al (vr rfl) al0) tu) (al (rg1T (vr rfl) (by omega)) al0)) rfl) ?_
  refine sq (env1 := [some (.scr ns), some (.cell 0), some (dTown N ps), some (tO F), some (enc (1 + v)), some (.cell 1), some (tD t), none, some (dTown (1 + v) (mapP t)), some (tD u), some (enc (List.range (1 + v))), none, none, none]) (st1 := [c4, .lst []]) (ife (tb (orr (k := false) (m := false) (cm (vr rfl) cn (is_non (z := some u))) fun _ => orr (k := false) (m := false) (nt (k := true) (tb (cl (al (vr rfl) (al cn al0)) (s_plain 12 u none _ (by omega) ug.good uk.plain (.inr rfl) lw4)))) fun _ => cm (pr (al (cl (al (vr rfl) al0) (s_ltold 12 u _ (by omega) ug.good lw4)) al0) sorted_P) (pr (al (ix (vr rfl) cn rfl) al0) rfl) (ne_same (e := us)))) sk) ?_
  have nd1 := s_need 12 [c4, .lst []] (by omega) lw4 (1 + v) (mapP t) (List.range (1 + v)) tt full_lot
  rw [hneed] at nd1
  have om1 : ∀ st : St, cmpD .ne (enc (om t)) (enc (om t)) st = .ok (.bl false) st := fun st => (ne_ (α := Nat) (x := om t) (y := om t)).trans (by rw [decide_eq_true rfl]; rfl)
  have lenL0 : primD .len [enc L0] [c4, .lst []] = .ok (enc (om t)) [c4, .lst []] := prim_len.trans (by rw [m1])
  refine sq (env1 := [some (.scr ns), some (.cell 0), some (dTown N ps), some (tO F), some (enc (1 + v)), some (.cell 1), some (tD t), none, some (dTown (1 + v) (mapP t)), some (tD u), some (enc (List.range (1 + v))), none, none, none]) (st1 := [c4, .lst []]) (ife (tb (orr (k := false) (m := false) (cm (cl (al (vr rfl) al0) (s_tneed 12 _ (by omega) lw4 t tg)) (cl (al (vr rfl) (al (vr rfl) al0)) nd1) (om1 _)) fun _ => cm (cl (al (vr rfl) al0) (s_tneed 12 _ (by omega) lw4 t tg)) (pr (al (ix (cl (al (vr rfl) al0) (s_most 12 _ (by omega) lw4 (1 + v) (mapP t) tt)) cn (ixT (i := 0) m0)) al0) lenL0) (om1 _))) sk) ?_
  refine sq (env1 := [some (.scr ns), some (.cell 0), some (dTown N ps), some (tO F), some (enc (1 + v)), some (.cell 1), some (tD t), none, some (dTown (1 + v) (mapP t)), some (tD u), some (enc (List.range (1 + v))), some (enc paints), none, none]) (st1 := [c5, .lst []]) (asg (cl (al (vr rfl) (al cn al0)) g5) rfl) ?_
  refine sq (env1 := [some (.scr ns), some (.cell 0), some (dTown N ps), some (tO F), some (enc (1 + v)), some (.cell 1), some (tD t), none, some (dTown (1 + v) (mapP t)), some (tD u), some (enc (List.range (1 + v))), some (enc paints), none, none]) (st1 := [c5, .lst []]) (ife (tb (nt (k := true) (tb (cl (al (cl (al (vr rfl) (al (vr rfl) al0)) htp) (al (cl (al (vr rfl) (al (vr rfl) al0)) hcnt) al0)) (s_alike 0 _ fit_num 12 _ (by omega) lw5))))) sk) ?_
  refine sq (env1 := [some (.scr ns), some (.cell 0), some (dTown N ps), some (tO F), some (enc (1 + v)), some (.cell 1), some (tD t), none, some (dTown (1 + v) (mapP t)), some (tD u), some (enc (List.range (1 + v))), some (enc paints), some (.lst [.non, .bl true, .int 7, .tup [tD t], .tup [wD false, .tup [tD t]], .tup [.str "any", .tup [.int 0, .int 1]], .lst [wD false, .tup [.int 0, .int 1]], .tup [wD false, .lst [.int 0, .int 1]], .cell 2]), none]) (st1 := [c5, .lst [], .dct 0 [] []]) (asg (ls (al cn (al cn (al cn (al (tp (al (vr rfl) al0) (by show 1 ≤ line; decide)) (al (tp (al cn (al (tp (al (vr rfl) al0) (by show 1 ≤ line; decide)) al0)) (by show 2 ≤ line; decide)) (al (tp (al cn (al (tp (al cn (al cn al0)) (by show 2 ≤ line; decide)) al0)) (by show 2 ≤ line; decide)) (al (ls (al cn (al (tp (al cn (al cn al0)) (by show 2 ≤ line; decide)) al0)) (by show 2 ≤ line; decide)) (al (tp (al cn (al (ls (al cn (al cn al0)) (by show 2 ≤ line; decide)) al0)) (by show 2 ≤ line; decide)) (al (newD_ (st := [c5, .lst []])) al0))))))))) (by show 9 ≤ line; decide)) rfl) ?_
  have shw := s_shows 12 [c5, .lst [], .dct 0 [] []] (by omega) lw6 N ps ht
  have tlow : D.low 3 (tD t) = true := D.low_mono (Nat.zero_le _) _ (tD_pl t)
  have all : ∀ x ∈ ([.non, .bl true, .int 7, .tup [tD t], .tup [wD false, .tup [tD t]], .tup [.str "any", .tup [.int 0, .int 1]], .lst [wD false, .tup [.int 0, .int 1]], .tup [wD false, .lst [.int 0, .int 1]], .cell 2, .tup [wD true, .tup [.int 0, .int 0]], .tup [wD true, .tup [.int 0, .int 2]]] : List D), run T 12 30 [dTown N ps, x] [c5, .lst [], .dct 0 [] []] = .ok (.bl false) [c5, .lst [], .dct 0 [] []] := by
    refine List.forall_mem_cons.mpr ⟨shw.odd _ .non rfl, List.forall_mem_cons.mpr ⟨shw.odd _ .bl rfl, List.forall_mem_cons.mpr ⟨shw.odd _ .int rfl, List.forall_mem_cons.mpr ⟨shw.odd _ (.one _) ?_, List.forall_mem_cons.mpr ⟨shw.odd _ (.side _) ?_, List.forall_mem_cons.mpr ⟨shw.odd _ (.any _) rfl, List.forall_mem_cons.mpr ⟨shw.odd _ (.lst _) rfl, List.forall_mem_cons.mpr ⟨shw.odd _ (.slst _) rfl, List.forall_mem_cons.mpr ⟨shw.odd _ (.dct 2 rfl) rfl, List.forall_mem_cons.mpr ⟨?_, List.forall_mem_cons.mpr ⟨?_, List.forall_mem_nil _⟩⟩⟩⟩⟩⟩⟩⟩⟩⟩⟩
    · show (D.low 3 (tD t) && true) = true
      rw [tlow]
      rfl
    · show (D.low 3 (wD false) && (D.low 3 (.tup [tD t]) && true)) = true
      rw [show D.low 3 (.tup [tD t]) = (D.low 3 (tD t) && true) from rfl, tlow]
      rfl
    · exact shw.no (.node true [.leaf 0, .leaf 0]) ⟨⟨by decide, trivial, trivial, trivial⟩, by decide⟩ (by decide) (by decide)
    · exact shw.no (.node true [.leaf 0, .leaf 2]) ⟨⟨by decide, trivial, trivial, trivial⟩, by decide⟩ (by decide) (by decide)
  refine rt (cm (y := .lst []) (st1 := [c5, .lst [], .dct 0 [] []]) ?_ (ls al0 (Nat.zero_le _)) rfl)
  have fin := cmp_ (C := run T 12) (p := .one 13) (st := [c5, .lst [], .dct 0 [] []]) (xs := [.non, .bl true, .int 7, .tup [tD t], .tup [wD false, .tup [tD t]], .tup [.str "any", .tup [.int 0, .int 1]], .lst [wD false, .tup [.int 0, .int 1]], .tup [wD false, .lst [.int 0, .int 1]], .cell 2, .tup [wD true, .tup [.int 0, .int 0]], .tup [wD true, .tup [.int 0, .int 2]]]) (f := id) (x := .itr .seq (.cons (.bin .add (.var 12) (.lst (.cons (.tup (.cons (.con (.str "all")) (.cons (.tup (.cons (.con (.int (0))) (.cons (.con (.int (0))) .nil))) .nil))) (.cons (.tup (.cons (.con (.str "all")) (.cons (.tup (.cons (.con (.int (0))) (.cons (.con (.int (2))) .nil))) .nil))) .nil)))) .nil)) (c := .call 30 (.cons (.var 2) (.cons (.var 13) .nil))) (e := .var 13) (env := [some (.scr ns), some (.cell 0), some (dTown N ps), some (tO F), some (enc (1 + v)), some (.cell 1), some (tD t), none, some (dTown (1 + v) (mapP t)), some (tD u), some (enc (List.range (1 + v))), some (enc paints), some (.lst [.non, .bl true, .int 7, .tup [tD t], .tup [wD false, .tup [tD t]], .tup [.str "any", .tup [.int 0, .int 1]], .lst [wD false, .tup [.int 0, .int 1]], .tup [wD false, .lst [.int 0, .int 1]], .cell 2]), none]) (g := none) (fun _ => false) id
    (it_lst (bn (vr rfl) (ls (al (tp (al cn (al (tp (al cn (al cn al0)) (by show 2 ≤ line; decide)) al0)) (by show 2 ≤ line; decide)) (al (tp (al cn (al (tp (al cn (al cn al0)) (by show 2 ≤ line; decide)) al0)) (by show 2 ≤ line; decide)) al0)) (by show 2 ≤ line; decide)) rfl)) rfl (fun x hx => ⟨_, rfl, tb (cl (al (vr rfl) (al (vr rfl) al0)) (all x hx)), fun z => by cases z⟩) (by rw [List.filter_eq_nil_iff.mpr (by simp)]; exact Nat.zero_le _)
  rw [List.filter_eq_nil_iff.mpr (by simp)] at fin
  exact fin
end K02
end
section
set_option Elab.async false
set_option linter.all false
set_option maxRecDepth 100000
namespace K02
open PySem PySem.Spec L2 PyProof.Rows Mp
set_option maxHeartbeats 0
abbrev topS (i : Nat) : Stmt := PySem.Challenge.pw_maskpaint_k02_whole_trees.main.body.getD i (.Pass ⟨0, 0, 0, 0⟩)
/-- 0: _law_taken -/
def d0 : Dd := ⟨"_law_taken", topS 52, ["row", "many", "found", "cell"], 2, 0, []⟩
/-- 1: _law_town -/
def d1 : Dd := ⟨"_law_town", topS 53, ["row", "houses", "share_v", "found", "one", "other"], 3, 0, [3]⟩
/-- 2: _law_any -/
def d2 : Dd := ⟨"_law_any", topS 54, ["row", "most", "town", "pairs", "one", "other"], 2, 0, []⟩
/-- 3: is_number -/
def d3 : Dd := ⟨"is_number", topS 9, ["value", "least", "most"], 3, 0, []⟩
/-- 4: are_houses -/
def d4 : Dd := ⟨"are_houses", topS 10, ["value", "houses", "house"], 2, 1, []⟩
/-- 5: is_ascending -/
def d5 : Dd := ⟨"is_ascending", topS 11, ["values", "at"], 1, 1, []⟩
/-- 6: is_lot -/
def d6 : Dd := ⟨"is_lot", topS 12, ["value", "houses"], 2, 0, []⟩
/-- 7: are_pairs -/
def d7 : Dd := ⟨"are_pairs", topS 13, ["value", "houses", "pair"], 2, 1, []⟩
/-- 8: check_map -/
def d8 : Dd := ⟨"check_map", topS 14, ["town", "houses", "pairs"], 1, 0, []⟩
/-- 9: share -/
def d9 : Dd := ⟨"share", topS 22, ["lot", "other_lot", "house"], 2, 1, []⟩
/-- 10: keeps_together -/
def d10 : Dd := ⟨"keeps_together", topS 44, ["beside", "word", "house", "group", "other"], 4, 1, []⟩
/-- 11: groups_for -/
def d11 : Dd := ⟨"groups_for", topS 45, ["beside", "lot", "word", "groups", "house", "kept", "group", "others", "joined", "one"], 3, 0, []⟩
/-- 12: tree_of_lot -/
def d12 : Dd := ⟨"tree_of_lot", topS 46, ["beside", "lot", "word", "groups", "parts", "group"], 2, 0, []⟩
/-- 13: neighbors -/
def d13 : Dd := ⟨"neighbors", topS 18, ["town", "houses", "pairs", "other", "house"], 1, 0, []⟩
/-- 14: every_house -/
def d14 : Dd := ⟨"every_house", topS 19, ["town"], 1, 0, []⟩
/-- 15: tree -/
def d15 : Dd := ⟨"tree", topS 47, ["town"], 1, 0, []⟩
/-- 16: _law_lots -/
def d16 : Dd := ⟨"_law_lots", topS 55, ["many", "found", "one", "lot"], 1, 2, []⟩
/-- 17: _law_near -/
def d17 : Dd := ⟨"_law_near", topS 56, ["town", "one", "other"], 3, 0, []⟩
/-- 18: _law_rows -/
def d18 : Dd := ⟨"_law_rows", topS 57, ["town", "found", "lot", "one", "four", "house", "two", "three", "there"], 1, 0, [1]⟩
/-- 19: goes_on -/
def d19 : Dd := ⟨"goes_on", topS 33, ["beside", "row", "house"], 3, 0, []⟩
/-- 20: bare_rows -/
def d20 : Dd := ⟨"bare_rows", topS 34, ["town", "beside", "rows", "house", "_", "row"], 1, 0, []⟩
/-- 21: _law_houses -/
def d21 : Dd := ⟨"_law_houses", topS 58, ["value", "found", "part"], 1, 0, []⟩
/-- 22: _law_told -/
def d22 : Dd := ⟨"_law_told", topS 59, ["value", "found", "lots", "part", "one", "other"], 1, 0, []⟩
/-- 23: _law_plain -/
def d23 : Dd := ⟨"_law_plain", topS 60, ["value", "word", "least", "part"], 2, 0, []⟩
/-- 24: is_joint -/
def d24 : Dd := ⟨"is_joint", topS 38, ["value"], 1, 0, []⟩
/-- 25: is_tree -/
def d25 : Dd := ⟨"is_tree", topS 39, ["value", "waiting", "houses", "part", "house"], 1, 1, [1, 2]⟩
/-- 26: check_tree -/
def d26 : Dd := ⟨"check_tree", topS 40, ["value"], 1, 0, []⟩
/-- 27: houses_in -/
def d27 : Dd := ⟨"houses_in", topS 41, ["part", "inner", "house"], 1, 0, []⟩
/-- 28: told_pairs -/
def d28 : Dd := ⟨"told_pairs", topS 42, ["part", "word", "inner_parts", "pairs", "ahead", "inner", "houses", "one", "other"], 1, 0, []⟩
/-- 29: map_of -/
def d29 : Dd := ⟨"map_of", topS 43, ["value"], 1, 0, []⟩
/-- 30: shows_tree -/
def d30 : Dd := ⟨"shows_tree", topS 48, ["town", "value"], 2, 0, []⟩
/-- 31: _law_pick -/
def d31 : Dd := ⟨"_law_pick", topS 61, ["row", "things"], 2, 0, []⟩
/-- 32: _law_drawn -/
def d32 : Dd := ⟨"_law_drawn", topS 62, ["row", "houses", "parts", "turn", "at", "house", "part"], 2, 0, []⟩
/-- 33: _law_alike -/
def d33 : Dd := ⟨"_law_alike", topS 63, ["found", "due", "k"], 2, 0, []⟩
/-- 34: check_lot -/
def d34 : Dd := ⟨"check_lot", topS 15, ["town", "lot"], 2, 0, []⟩
/-- 35: ways_with -/
def d35 : Dd := ⟨"ways_with", topS 24, ["beside", "heaps", "house", "ways", "at", "heap"], 3, 0, [3]⟩
/-- 36: ways_to_part -/
def d36 : Dd := ⟨"ways_to_part", topS 25, ["beside", "lot", "ways", "house", "heaps", "way"], 2, 0, []⟩
/-- 37: fewest_paints -/
def d37 : Dd := ⟨"fewest_paints", topS 26, ["beside", "lot", "heaps"], 2, 0, []⟩
/-- 38: need -/
def d38 : Dd := ⟨"need", topS 30, ["town", "lot"], 2, 0, []⟩
/-- 39: tree_need -/
def d39 : Dd := ⟨"tree_need", topS 49, ["value", "town"], 1, 0, []⟩
/-- 40: all_lots -/
def d40 : Dd := ⟨"all_lots", topS 20, ["town", "lots", "house", "lot"], 1, 0, []⟩
/-- 41: is_mutual -/
def d41 : Dd := ⟨"is_mutual", topS 23, ["beside", "lot", "house", "other"], 2, 1, []⟩
/-- 42: lots_of_size -/
def d42 : Dd := ⟨"lots_of_size", topS 21, ["lots", "size", "lot"], 2, 0, []⟩
/-- 43: most_mutual -/
def d43 : Dd := ⟨"most_mutual", topS 32, ["town", "beside", "lots", "lot"], 1, 0, []⟩
/-- 44: check_number -/
def d44 : Dd := ⟨"check_number", topS 16, ["value", "least", "most"], 3, 0, []⟩
/-- 45: count_paintings -/
def d45 : Dd := ⟨"count_paintings", topS 31, ["town", "paints", "ways", "heaps"], 2, 0, []⟩
/-- 46: tree_paintings -/
def d46 : Dd := ⟨"tree_paintings", topS 50, ["value", "paints"], 2, 0, []⟩
/-- 47: law -/
def d47 : Dd := ⟨"law", topS 64, ["script", "row", "town", "found", "many", "names", "value", "turn", "told", "again", "lot", "paints", "odd", "bad"], 1, 0, [1, 5]⟩
def dds : List Dd := [d0, d1, d2, d3, d4, d5, d6, d7, d8, d9, d10, d11, d12, d13, d14, d15, d16, d17, d18, d19, d20, d21, d22, d23, d24, d25, d26, d27, d28, d29, d30, d31, d32, d33, d34, d35, d36, d37, d38, d39, d40, d41, d42, d43, d44, d45, d46, d47]
def tx : Tx := ⟨[], fsOf 0 dds, [("MOST_HOUSES", .int 7), ("SIDE", .str "side"), ("ALL", .str "all"), ("ROW_LENGTH", .int 4), ("MOST_PAINTS", .int 9)], ["int", "len", "range", "tuple", "isinstance", "bool", "all", "any", "sorted", "min", "max", "list", "enumerate", "str", "sum"], [("perm", .perm)]⟩
end K02
end
set_option Elab.async false
set_option linter.all false
set_option maxRecDepth 100000
set_option maxHeartbeats 0
namespace K02
open PySem PySem.Spec L2 PyProof.Rows Mp
theorem sb0 : SB d0 := fun _ _ _ _ _ _ us hl => match us, hl with
  | [_, _], _ => rfl
theorem sb1 : SB d1 := fun _ _ _ _ _ _ us hl => match us, hl with
  | [_, _, _], _ => rfl
theorem sb2 : SB d2 := fun _ _ _ _ _ _ us hl => match us, hl with
  | [_, _], _ => rfl
theorem sb3 : SB d3 := fun _ _ _ _ _ _ us hl => match us, hl with
  | [_, _, _], _ => rfl
theorem sb4 : SB d4 := fun _ _ _ _ _ _ us hl => match us, hl with
  | [_, _], _ => rfl
theorem sb5 : SB d5 := fun _ _ _ _ _ _ us hl => match us, hl with
  | [_], _ => rfl
theorem sb6 : SB d6 := fun _ _ _ _ _ _ us hl => match us, hl with
  | [_, _], _ => rfl
theorem sb7 : SB d7 := fun _ _ _ _ _ _ us hl => match us, hl with
  | [_, _], _ => rfl
theorem sb8 : SB d8 := fun _ _ _ _ _ _ us hl => match us, hl with
  | [_], _ => rfl
theorem sb9 : SB d9 := fun _ _ _ _ _ _ us hl => match us, hl with
  | [_, _], _ => rfl
theorem sb10 : SB d10 := fun _ _ _ _ _ _ us hl => match us, hl with
  | [_, _, _, _], _ => rfl
theorem sb11 : SB d11 := fun _ _ _ _ _ _ us hl => match us, hl with
  | [_, _, _], _ => rfl
theorem sb12 : SB d12 := fun _ _ _ _ _ _ us hl => match us, hl with
  | [_, _], _ => rfl
theorem sb13 : SB d13 := fun _ _ _ _ _ _ us hl => match us, hl with
  | [_], _ => rfl
theorem sb14 : SB d14 := fun _ _ _ _ _ _ us hl => match us, hl with
  | [_], _ => rfl
theorem sb15 : SB d15 := fun _ _ _ _ _ _ us hl => match us, hl with
  | [_], _ => rfl
theorem sb16 : SB d16 := fun _ _ _ _ _ _ us hl => match us, hl with
  | [_], _ => rfl
theorem sb17 : SB d17 := fun _ _ _ _ _ _ us hl => match us, hl with
  | [_, _, _], _ => rfl
theorem sb18 : SB d18 := fun _ _ _ _ _ _ us hl => match us, hl with
  | [_], _ => rfl
theorem sb19 : SB d19 := fun _ _ _ _ _ _ us hl => match us, hl with
  | [_, _, _], _ => rfl
theorem sb20 : SB d20 := fun _ _ _ _ _ _ us hl => match us, hl with
  | [_], _ => rfl
theorem sb21 : SB d21 := fun _ _ _ _ _ _ us hl => match us, hl with
  | [_], _ => rfl
theorem sb22 : SB d22 := fun _ _ _ _ _ _ us hl => match us, hl with
  | [_], _ => rfl
theorem sb23 : SB d23 := fun _ _ _ _ _ _ us hl => match us, hl with
  | [_, _], _ => rfl
theorem sb24 : SB d24 := fun _ _ _ _ _ _ us hl => match us, hl with
  | [_], _ => rfl
theorem sb25 : SB d25 := fun _ _ _ _ _ _ us hl => match us, hl with
  | [_], _ => rfl
theorem sb26 : SB d26 := fun _ _ _ _ _ _ us hl => match us, hl with
  | [_], _ => rfl
theorem sb27 : SB d27 := fun _ _ _ _ _ _ us hl => match us, hl with
  | [_], _ => rfl
theorem sb28 : SB d28 := fun _ _ _ _ _ _ us hl => match us, hl with
  | [_], _ => rfl
theorem sb29 : SB d29 := fun _ _ _ _ _ _ us hl => match us, hl with
  | [_], _ => rfl
theorem sb30 : SB d30 := fun _ _ _ _ _ _ us hl => match us, hl with
  | [_, _], _ => rfl
theorem sb31 : SB d31 := fun _ _ _ _ _ _ us hl => match us, hl with
  | [_, _], _ => rfl
theorem sb32 : SB d32 := fun _ _ _ _ _ _ us hl => match us, hl with
  | [_, _], _ => rfl
theorem sb33 : SB d33 := fun _ _ _ _ _ _ us hl => match us, hl with
  | [_, _], _ => rfl
theorem sb34 : SB d34 := fun _ _ _ _ _ _ us hl => match us, hl with
  | [_, _], _ => rfl
theorem sb35 : SB d35 := fun _ _ _ _ _ _ us hl => match us, hl with
  | [_, _, _], _ => rfl
theorem sb36 : SB d36 := fun _ _ _ _ _ _ us hl => match us, hl with
  | [_, _], _ => rfl
theorem sb37 : SB d37 := fun _ _ _ _ _ _ us hl => match us, hl with
  | [_, _], _ => rfl
theorem sb38 : SB d38 := fun _ _ _ _ _ _ us hl => match us, hl with
  | [_, _], _ => rfl
theorem sb39 : SB d39 := fun _ _ _ _ _ _ us hl => match us, hl with
  | [_], _ => rfl
theorem sb40 : SB d40 := fun _ _ _ _ _ _ us hl => match us, hl with
  | [_], _ => rfl
theorem sb41 : SB d41 := fun _ _ _ _ _ _ us hl => match us, hl with
  | [_, _], _ => rfl
theorem sb42 : SB d42 := fun _ _ _ _ _ _ us hl => match us, hl with
  | [_, _], _ => rfl
theorem sb43 : SB d43 := fun _ _ _ _ _ _ us hl => match us, hl with
  | [_], _ => rfl
theorem sb44 : SB d44 := fun _ _ _ _ _ _ us hl => match us, hl with
  | [_, _, _], _ => rfl
theorem sb45 : SB d45 := fun _ _ _ _ _ _ us hl => match us, hl with
  | [_, _], _ => rfl
theorem sb46 : SB d46 := fun _ _ _ _ _ _ us hl => match us, hl with
  | [_, _], _ => rfl
theorem sb47 : SB d47 := fun _ _ _ _ _ _ us hl => match us, hl with
  | [_], _ => rfl
theorem sbs : ∀ d ∈ dds, SB d := List.forall_mem_cons.mpr ⟨sb0, List.forall_mem_cons.mpr ⟨sb1, List.forall_mem_cons.mpr ⟨sb2, List.forall_mem_cons.mpr ⟨sb3, List.forall_mem_cons.mpr ⟨sb4, List.forall_mem_cons.mpr ⟨sb5, List.forall_mem_cons.mpr ⟨sb6, List.forall_mem_cons.mpr ⟨sb7, List.forall_mem_cons.mpr ⟨sb8, List.forall_mem_cons.mpr ⟨sb9, List.forall_mem_cons.mpr ⟨sb10, List.forall_mem_cons.mpr ⟨sb11, List.forall_mem_cons.mpr ⟨sb12, List.forall_mem_cons.mpr ⟨sb13, List.forall_mem_cons.mpr ⟨sb14, List.forall_mem_cons.mpr ⟨sb15, List.forall_mem_cons.mpr ⟨sb16, List.forall_mem_cons.mpr ⟨sb17, List.forall_mem_cons.mpr ⟨sb18, List.forall_mem_cons.mpr ⟨sb19, List.forall_mem_cons.mpr ⟨sb20, List.forall_mem_cons.mpr ⟨sb21, List.forall_mem_cons.mpr ⟨sb22, List.forall_mem_cons.mpr ⟨sb23, List.forall_mem_cons.mpr ⟨sb24, List.forall_mem_cons.mpr ⟨sb25, List.forall_mem_cons.mpr ⟨sb26, List.forall_mem_cons.mpr ⟨sb27, List.forall_mem_cons.mpr ⟨sb28, List.forall_mem_cons.mpr ⟨sb29, List.forall_mem_cons.mpr ⟨sb30, List.forall_mem_cons.mpr ⟨sb31, List.forall_mem_cons.mpr ⟨sb32, List.forall_mem_cons.mpr ⟨sb33, List.forall_mem_cons.mpr ⟨sb34, List.forall_mem_cons.mpr ⟨sb35, List.forall_mem_cons.mpr ⟨sb36, List.forall_mem_cons.mpr ⟨sb37, List.forall_mem_cons.mpr ⟨sb38, List.forall_mem_cons.mpr ⟨sb39, List.forall_mem_cons.mpr ⟨sb40, List.forall_mem_cons.mpr ⟨sb41, List.forall_mem_cons.mpr ⟨sb42, List.forall_mem_cons.mpr ⟨sb43, List.forall_mem_cons.mpr ⟨sb44, List.forall_mem_cons.mpr ⟨sb45, List.forall_mem_cons.mpr ⟨sb46, List.forall_mem_cons.mpr ⟨sb47, List.forall_mem_nil SB⟩⟩⟩⟩⟩⟩⟩⟩⟩⟩⟩⟩⟩⟩⟩⟩⟩⟩⟩⟩⟩⟩⟩⟩⟩⟩⟩⟩⟩⟩⟩⟩⟩⟩⟩⟩⟩⟩⟩⟩⟩⟩⟩⟩⟩⟩⟩⟩
theorem scs : dds.all SC = true := by kernel_rfl
theorem trs : trAll tx 2 40 dds = some T := by kernel_rfl
end K02
open PySem PySem.W PyProof.Rows Mp
set_option maxHeartbeats 0 in
theorem PySem.Challenge.cw_maskpaint_k02_whole_trees_holds : PySem.Challenge.rw_maskpaint_k02_whole_trees.Holds := by
  w_on; o_law; k_head; (case hw => w_witness2)
  k_fill
  refine Mp.walk_T (l := PySem.Challenge.rw_maskpaint_k02_whole_trees) (n := 63) (k := 3 * 13) (x := "script") rfl (by decide) rfl ⟨rfl, by decide, by decide⟩ (fun w h Y => PySem.W.km_in_of Y) ?F
  case F =>
    intro w mg fa h X G TF hmg
    refine' Mp.law_at (dds := K02.dds) (t := K02.tx) (T := K02.T) (g := 2) (fuel := 40) (m := 13) (iL := 47) (dL := K02.d47) X G TF hmg rfl K02.trs K02.scs K02.sbs ?rc rfl rfl rfl K02.main (Mp.kd_cons (d := K02.d0) ?a0 ?l0 ?c0 ?k0 ?z0 (Mp.kd_cons (d := K02.d1) ?a1 ?l1 ?c1 ?k1 ?z1 (Mp.kd_cons (d := K02.d2) ?a2 ?l2 ?c2 ?k2 ?z2 (Mp.kd_cons (d := K02.d3) ?a3 ?l3 ?c3 ?k3 ?z3 (Mp.kd_tab (d := K02.d4) ?a4 ?l4 ?c4 ?k4 ?p4 ?q4 ?n4 (Mp.kd_tab (d := K02.d5) ?a5 ?l5 ?c5 ?k5 ?p5 ?q5 ?n5 (Mp.kd_cons (d := K02.d6) ?a6 ?l6 ?c6 ?k6 ?z6 (Mp.kd_tab (d := K02.d7) ?a7 ?l7 ?c7 ?k7 ?p7 ?q7 ?n7 (Mp.kd_cons (d := K02.d8) ?a8 ?l8 ?c8 ?k8 ?z8 (Mp.kd_tab (d := K02.d9) ?a9 ?l9 ?c9 ?k9 ?p9 ?q9 ?n9 (Mp.kd_tab (d := K02.d10) ?a10 ?l10 ?c10 ?k10 ?p10 ?q10 ?n10 (Mp.kd_cons (d := K02.d11) ?a11 ?l11 ?c11 ?k11 ?z11 (Mp.kd_cons (d := K02.d12) ?a12 ?l12 ?c12 ?k12 ?z12 (Mp.kd_cons (d := K02.d13) ?a13 ?l13 ?c13 ?k13 ?z13 (Mp.kd_cons (d := K02.d14) ?a14 ?l14 ?c14 ?k14 ?z14 (Mp.kd_cons (d := K02.d15) ?a15 ?l15 ?c15 ?k15 ?z15 (Mp.kd_tab (d := K02.d16) ?a16 ?l16 ?c16 ?k16 ?p16 ?q16 ?n16 (Mp.kd_cons (d := K02.d17) ?a17 ?l17 ?c17 ?k17 ?z17 (Mp.kd_cons (d := K02.d18) ?a18 ?l18 ?c18 ?k18 ?z18 (Mp.kd_cons (d := K02.d19) ?a19 ?l19 ?c19 ?k19 ?z19 (Mp.kd_cons (d := K02.d20) ?a20 ?l20 ?c20 ?k20 ?z20 (Mp.kd_cons (d := K02.d21) ?a21 ?l21 ?c21 ?k21 ?z21 (Mp.kd_cons (d := K02.d22) ?a22 ?l22 ?c22 ?k22 ?z22 (Mp.kd_cons (d := K02.d23) ?a23 ?l23 ?c23 ?k23 ?z23 (Mp.kd_cons (d := K02.d24) ?a24 ?l24 ?c24 ?k24 ?z24 (Mp.kd_tab (d := K02.d25) ?a25 ?l25 ?c25 ?k25 ?p25 ?q25 ?n25 (Mp.kd_cons (d := K02.d26) ?a26 ?l26 ?c26 ?k26 ?z26 (Mp.kd_cons (d := K02.d27) ?a27 ?l27 ?c27 ?k27 ?z27 (Mp.kd_cons (d := K02.d28) ?a28 ?l28 ?c28 ?k28 ?z28 (Mp.kd_cons (d := K02.d29) ?a29 ?l29 ?c29 ?k29 ?z29 (Mp.kd_cons (d := K02.d30) ?a30 ?l30 ?c30 ?k30 ?z30 (Mp.kd_cons (d := K02.d31) ?a31 ?l31 ?c31 ?k31 ?z31 (Mp.kd_cons (d := K02.d32) ?a32 ?l32 ?c32 ?k32 ?z32 (Mp.kd_cons (d := K02.d33) ?a33 ?l33 ?c33 ?k33 ?z33 (Mp.kd_cons (d := K02.d34) ?a34 ?l34 ?c34 ?k34 ?z34 (Mp.kd_cons (d := K02.d35) ?a35 ?l35 ?c35 ?k35 ?z35 (Mp.kd_cons (d := K02.d36) ?a36 ?l36 ?c36 ?k36 ?z36 (Mp.kd_cons (d := K02.d37) ?a37 ?l37 ?c37 ?k37 ?z37 (Mp.kd_cons (d := K02.d38) ?a38 ?l38 ?c38 ?k38 ?z38 (Mp.kd_cons (d := K02.d39) ?a39 ?l39 ?c39 ?k39 ?z39 (Mp.kd_cons (d := K02.d40) ?a40 ?l40 ?c40 ?k40 ?z40 (Mp.kd_tab (d := K02.d41) ?a41 ?l41 ?c41 ?k41 ?p41 ?q41 ?n41 (Mp.kd_cons (d := K02.d42) ?a42 ?l42 ?c42 ?k42 ?z42 (Mp.kd_cons (d := K02.d43) ?a43 ?l43 ?c43 ?k43 ?z43 (Mp.kd_cons (d := K02.d44) ?a44 ?l44 ?c44 ?k44 ?z44 (Mp.kd_cons (d := K02.d45) ?a45 ?l45 ?c45 ?k45 ?z45 (Mp.kd_cons (d := K02.d46) ?a46 ?l46 ?c46 ?k46 ?z46 (Mp.kd_cons (d := K02.d47) ?a47 ?l47 ?c47 ?k47 ?z47 (Mp.kd_nil))))))))))))))))))))))))))))))))))))))))))))))))) ?ap (Mp.csNs_int ?cs0 (Mp.csNs_str ?cs1 (Mp.csNs_str ?cs2 (Mp.csNs_int ?cs3 (Mp.csNs_int ?cs4 (Mp.csNs_nil)))))) (Mp.blNs_cons ?bl0 (Mp.blNs_cons ?bl1 (Mp.blNs_cons ?bl2 (Mp.blNs_cons ?bl3 (Mp.blNs_cons ?bl4 (Mp.blNs_cons ?bl5 (Mp.blNs_cons ?bl6 (Mp.blNs_cons ?bl7 (Mp.blNs_cons ?bl8 (Mp.blNs_cons ?bl9 (Mp.blNs_cons ?bl10 (Mp.blNs_cons ?bl11 (Mp.blNs_cons ?bl12 (Mp.blNs_cons ?bl13 (Mp.blNs_cons ?bl14 (Mp.blNs_nil)))))))))))))))) (Mp.imNs_cons ?im0 (fun _ z => by cases z) (Mp.imNs_nil))
    (case a0 => k_is)
    (case l0 => k_is)
    (case c0 => k_is)
    (case k0 => k_is)
    (case z0 => rfl)
    (case a1 => k_is)
    (case l1 => k_is)
    (case c1 => k_is)
    (case k1 => k_is)
    (case z1 => rfl)
    (case a2 => k_is)
    (case l2 => k_is)
    (case c2 => k_is)
    (case k2 => k_is)
    (case z2 => rfl)
    (case a3 => k_is)
    (case l3 => k_is)
    (case c3 => k_is)
    (case k3 => k_is)
    (case z3 => rfl)
    (case a4 => k_is)
    (case l4 => k_is)
    (case c4 => k_is)
    (case k4 => k_is)
    (case p4 => k_is)
    (case q4 => rfl)
    (case n4 => kernel_rfl)
    (case a5 => k_is)
    (case l5 => k_is)
    (case c5 => k_is)
    (case k5 => k_is)
    (case p5 => k_is)
    (case q5 => rfl)
    (case n5 => kernel_rfl)
    (case a6 => k_is)
    (case l6 => k_is)
    (case c6 => k_is)
    (case k6 => k_is)
    (case z6 => rfl)
    (case a7 => k_is)
    (case l7 => k_is)
    (case c7 => k_is)
    (case k7 => k_is)
    (case p7 => k_is)
    (case q7 => rfl)
    (case n7 => kernel_rfl)
    (case a8 => k_is)
    (case l8 => k_is)
    (case c8 => k_is)
    (case k8 => k_is)
    (case z8 => rfl)
    (case a9 => k_is)
    (case l9 => k_is)
    (case c9 => k_is)
    (case k9 => k_is)
    (case p9 => k_is)
    (case q9 => rfl)
    (case n9 => kernel_rfl)
    (case a10 => k_is)
    (case l10 => k_is)
    (case c10 => k_is)
    (case k10 => k_is)
    (case p10 => k_is)
    (case q10 => rfl)
    (case n10 => kernel_rfl)
    (case a11 => k_is)
    (case l11 => k_is)
    (case c11 => k_is)
    (case k11 => k_is)
    (case z11 => rfl)
    (case a12 => k_is)
    (case l12 => k_is)
    (case c12 => k_is)
    (case k12 => k_is)
    (case z12 => rfl)
    (case a13 => k_is)
    (case l13 => k_is)
    (case c13 => k_is)
    (case k13 => k_is)
    (case z13 => rfl)
    (case a14 => k_is)
    (case l14 => k_is)
    (case c14 => k_is)
    (case k14 => k_is)
    (case z14 => rfl)
    (case a15 => k_is)
    (case l15 => k_is)
    (case c15 => k_is)
    (case k15 => k_is)
    (case z15 => rfl)
    (case a16 => k_is)
    (case l16 => k_is)
    (case c16 => k_is)
    (case k16 => k_is)
    (case p16 => k_is)
    (case q16 => rfl)
    (case n16 => kernel_rfl)
    (case a17 => k_is)
    (case l17 => k_is)
    (case c17 => k_is)
    (case k17 => k_is)
    (case z17 => rfl)
    (case a18 => k_is)
    (case l18 => k_is)
    (case c18 => k_is)
    (case k18 => k_is)
    (case z18 => rfl)
    (case a19 => k_is)
    (case l19 => k_is)
    (case c19 => k_is)
    (case k19 => k_is)
    (case z19 => rfl)
    (case a20 => k_is)
    (case l20 => k_is)
    (case c20 => k_is)
    (case k20 => k_is)
    (case z20 => rfl)
    (case a21 => k_is)
    (case l21 => k_is)
    (case c21 => k_is)
    (case k21 => k_is)
    (case z21 => rfl)
    (case a22 => k_is)
    (case l22 => k_is)
    (case c22 => k_is)
    (case k22 => k_is)
    (case z22 => rfl)
    (case a23 => k_is)
    (case l23 => k_is)
    (case c23 => k_is)
    (case k23 => k_is)
    (case z23 => rfl)
    (case a24 => k_is)
    (case l24 => k_is)
    (case c24 => k_is)
    (case k24 => k_is)
    (case z24 => rfl)
    (case a25 => k_is)
    (case l25 => k_is)
    (case c25 => k_is)
    (case k25 => k_is)
    (case p25 => k_is)
    (case q25 => rfl)
    (case n25 => kernel_rfl)
    (case a26 => k_is)
    (case l26 => k_is)
    (case c26 => k_is)
    (case k26 => k_is)
    (case z26 => rfl)
    (case a27 => k_is)
    (case l27 => k_is)
    (case c27 => k_is)
    (case k27 => k_is)
    (case z27 => rfl)
    (case a28 => k_is)
    (case l28 => k_is)
    (case c28 => k_is)
    (case k28 => k_is)
    (case z28 => rfl)
    (case a29 => k_is)
    (case l29 => k_is)
    (case c29 => k_is)
    (case k29 => k_is)
    (case z29 => rfl)
    (case a30 => k_is)
    (case l30 => k_is)
    (case c30 => k_is)
    (case k30 => k_is)
    (case z30 => rfl)
    (case a31 => k_is)
    (case l31 => k_is)
    (case c31 => k_is)
    (case k31 => k_is)
    (case z31 => rfl)
    (case a32 => k_is)
    (case l32 => k_is)
    (case c32 => k_is)
    (case k32 => k_is)
    (case z32 => rfl)
    (case a33 => k_is)
    (case l33 => k_is)
    (case c33 => k_is)
    (case k33 => k_is)
    (case z33 => rfl)
    (case a34 => k_is)
    (case l34 => k_is)
    (case c34 => k_is)
    (case k34 => k_is)
    (case z34 => rfl)
    (case a35 => k_is)
    (case l35 => k_is)
    (case c35 => k_is)
    (case k35 => k_is)
    (case z35 => rfl)
    (case a36 => k_is)
    (case l36 => k_is)
    (case c36 => k_is)
    (case k36 => k_is)
    (case z36 => rfl)
    (case a37 => k_is)
    (case l37 => k_is)
    (case c37 => k_is)
    (case k37 => k_is)
    (case z37 => rfl)
    (case a38 => k_is)
    (case l38 => k_is)
    (case c38 => k_is)
    (case k38 => k_is)
    (case z38 => rfl)
    (case a39 => k_is)
    (case l39 => k_is)
    (case c39 => k_is)
    (case k39 => k_is)
    (case z39 => rfl)
    (case a40 => k_is)
    (case l40 => k_is)
    (case c40 => k_is)
    (case k40 => k_is)
    (case z40 => rfl)
    (case a41 => k_is)
    (case l41 => k_is)
    (case c41 => k_is)
    (case k41 => k_is)
    (case p41 => k_is)
    (case q41 => rfl)
    (case n41 => kernel_rfl)
    (case a42 => k_is)
    (case l42 => k_is)
    (case c42 => k_is)
    (case k42 => k_is)
    (case z42 => rfl)
    (case a43 => k_is)
    (case l43 => k_is)
    (case c43 => k_is)
    (case k43 => k_is)
    (case z43 => rfl)
    (case a44 => k_is)
    (case l44 => k_is)
    (case c44 => k_is)
    (case k44 => k_is)
    (case z44 => rfl)
    (case a45 => k_is)
    (case l45 => k_is)
    (case c45 => k_is)
    (case k45 => k_is)
    (case z45 => rfl)
    (case a46 => k_is)
    (case l46 => k_is)
    (case c46 => k_is)
    (case k46 => k_is)
    (case z46 => rfl)
    (case a47 => k_is)
    (case l47 => k_is)
    (case c47 => k_is)
    (case k47 => k_is)
    (case z47 => rfl)
    (case cs0 => k_is)
    (case cs1 => k_is)
    (case cs2 => k_is)
    (case cs3 => k_is)
    (case cs4 => k_is)
    (case bl0 => k_is)
    (case bl1 => k_is)
    (case bl2 => k_is)
    (case bl3 => k_is)
    (case bl4 => k_is)
    (case bl5 => k_is)
    (case bl6 => k_is)
    (case bl7 => k_is)
    (case bl8 => k_is)
    (case bl9 => k_is)
    (case bl10 => k_is)
    (case bl11 => k_is)
    (case bl12 => k_is)
    (case bl13 => k_is)
    (case bl14 => k_is)
    (case im0 => k_is)
    (case ap => decide +kernel)
    (case rc => kernel_rfl)
