import PyProof.Rows.All
import Wide.All
import OpenK.AllK
import Wide.FinOn
import HandS.List
import KE.KMathGC
import HandS.ForMost
import HandS.Deep
import HandS.Walk
import HandS.Lambda
import HandS.TupAny
import HandS.TupLe
import HandS.IsInst
import HandS.Conv
import HandS.AnyAll
import KE.SortData
import KE.SortKeyHeap
import KE.DataCmp
import HandS.Flow
import KE.GoesEnum
import HandS.GenOver
import PyProof.GenRules
import PyProof.GenQ
import HandS.SortKw
import KE.SortUse
import HandS.Style
import HandS.EndOwn
import KE.KNest
import HandS.Words
import PySem.Challenge.RW_maskpaint_k01_whole_maps
section
set_option Elab.async false
set_option linter.all false
/-! Data and the evaluator of the pure subset. -/
namespace Mp
open PySem

/-- data: what a value tells -/
inductive D where
  | non
  | bl (b : Bool)
  | int (i : Int)
  | str (s : Str)
  | tup (l : List D)
  | lst (l : List D)
  /-- the script -/
  | scr (l : List Int)
  /-- something that may change, by its place in the state -/
  | cell (k : Nat)
  deriving Inhabited

inductive Cell where
  | lst (l : List D)
  deriving Inhabited

abbrev St := List Cell
abbrev Env := List (Option D)

inductive Res (α : Type) where
  | ok (a : α) (st : St)
  | bad

abbrev M (α : Type) := St → Res α
def bnd {α β : Type} (m : M α) (f : α → M β) : M β := fun st => match m st with
  | .ok a st' => f a st'
  | .bad => .bad
def ret {α : Type} (a : α) : M α := fun st => .ok a st
def bad {α : Type} : M α := fun _ => .bad
def opt {α : Type} : Option α → M α
  | some a => ret a
  | none => bad
def guard' (b : Bool) : M Unit := fun st => match b with
  | true => .ok () st
  | false => .bad

/-! ### equality -/
mutual
def D.eq : D → D → Bool
  | .non, .non => true
  | .bl a, .bl b => a == b
  | .bl a, .int j => (if a then (1 : Int) else 0) == j
  | .int i, .bl b => i == (if b then (1 : Int) else 0)
  | .int i, .int j => i == j
  | .str a, .str b => a == b
  | .tup a, .tup b => D.eqs a b
  | .lst a, .lst b => D.eqs a b
  | _, _ => false
def D.eqs : List D → List D → Bool
  | [], [] => true
  | a :: r, b :: s => D.eq a b && D.eqs r s
  | _, _ => false
end
mutual
/-- plain data of at most so many levels -/
def D.shp : Nat → D → Bool
  | n, .tup l => match n with | 0 => false | n + 1 => D.shps n l
  | n, .lst l => match n with | 0 => false | n + 1 => D.shps n l
  | _, .cell _ => false
  | _, .scr _ => false
  | _, .str s => PyData.strOk s
  | _, _ => true
def D.shps : Nat → List D → Bool
  | _, [] => true
  | n, a :: r => D.shp n a && D.shps n r
end
/-- plain data, at most sixty levels -/
def D.ok (d : D) : Bool := D.shp 60 d

/-! ### order: of intsOf; of texts; of tuples and lists of alike data -/
mutual
def D.lt : D → D → Bool
  | .int i, .int j => decide (i < j)
  | .tup a, .tup b => D.lts a b
  | .lst a, .lst b => D.lts a b
  | .str a, .str b => decide (a.cps.toList < b.cps.toList)
  | _, _ => false
def D.lts : List D → List D → Bool
  | [], [] => false
  | [], _ :: _ => true
  | _ :: _, [] => false
  | a :: r, b :: s => if D.eq a b then D.lts r s else D.lt a b
end
mutual
/-- alike: one may be compared with the other -/
def D.alike : D → D → Bool
  | .int _, .int _ => true
  | .str _, .str _ => true
  | .tup a, .tup b => D.alikes a b
  | .lst a, .lst b => D.alikes a b
  | _, _ => false
def D.alikes : List D → List D → Bool
  | [], _ => true
  | _, [] => true
  | a :: r, b :: s => D.alike a b && D.alikes r s
end
/-- put into a sorted list, ahead of all that are not less -/
def ins {α : Type} (le : α → α → Bool) (x : α) : List α → List α
  | [] => [x]
  | y :: r => if le x y then x :: y :: r else y :: ins le x r
def isort {α : Type} (le : α → α → Bool) : List α → List α
  | [] => []
  | x :: r => ins le x (isort le r)
def leD (a b : D) : Bool := !D.lt b a

/-! ### syntax -/
inductive Bin where
  | add | sub | mul | fdiv | mod | pow
  deriving DecidableEq
inductive Cmp where
  | eq | ne | lt | le | gt | ge | mem | nmem | is | isn
  deriving DecidableEq
inductive Prim where
  | len | tuple | list | sorted | min | max | sum | int | perm
  /-- isinstance; the classes by numbers: int 0, bool 1, str 2, tuple 3, list 4 -/
  | isI (cs : List Nat)
  deriving DecidableEq
inductive Itk where
  | seq | range1 | range2 | enum
  deriving DecidableEq
inductive Meth where
  | append
  deriving DecidableEq
inductive Pat where
  | one (i : Nat)
  | tup (l : List Nat)
  deriving DecidableEq
inductive E where
  | var (i : Nat)
  | con (d : D)
  | nil
  | cons (a b : E)
  | tup (a : E)
  | lst (a : E)
  /-- a list that will change -/
  | newC (a : E)
  | bin (o : Bin) (a b : E)
  | neg (a : E)
  | cmp (o : Cmp) (a b : E)
  | chain (o p : Cmp) (a b c : E)
  | and (a b : E)
  | or (a b : E)
  | not (a : E)
  | ite (c a b : E)
  | call (f : Nat) (a : E)
  | prim (p : Prim) (a : E)
  | meth (m : Meth) (o a : E)
  | idx (a i : E)
  | slice (l h : Bool) (a lo hi : E)
  /-- what is walked: its items -/
  | itr (k : Itk) (a : E)
  | comp (p : Pat) (s c e : E)
  | comp2 (p : Pat) (s c : E) (q : Pat) (t d e : E)
  /-- all (true), any (false) of a generator expression -/
  | gen (all : Bool) (p : Pat) (s c e : E)
  | gen2 (all : Bool) (p : Pat) (s c : E) (q : Pat) (t d e : E)
  /-- sorted(a, key=lambda x: (len(x), x)) -/
  | sortLen (a : E)
  /-- a range made a tuple (true), a list (false) -/
  | rng1 (t : Bool) (a : E)
  | rng2 (t : Bool) (a b : E)
inductive S where
  | skip
  | seq (a b : S)
  | asg (p : Pat) (e : E)
  /-- names = expressions, side by side -/
  | par (l : List Nat) (e : E)
  | setIdx (o i e : E)
  /-- an int grows -/
  | aug (i : Nat) (e : E)
  | drop (e : E)
  | ite (c : E) (a b : S)
  | for_ (p : Pat) (s : E) (b : S)
  | while_ (c : E) (b : S)
  | ret (e : E)
  | never

/-! ### operations on data -/
/-- the longest sequence -/
def line : Nat := 16777216
def lenOk (l : List D) : Bool := Nat.ble l.length line
def deref (d : D) : M D := fun st => match d with
  | .cell k => match st[k]? with
    | some (.lst l) => .ok (.lst l) st
    | none => .bad
  | d => .ok d st
def retLst (l : List D) : M D := fun st => match lenOk l with
  | true => .ok (.lst l) st
  | false => .bad
def retTup (l : List D) : M D := fun st => match lenOk l with
  | true => .ok (.tup l) st
  | false => .bad
def newCell (l : List D) : M D := fun st => match lenOk l with
  | true => .ok (.cell st.length) (st ++ [.lst l])
  | false => .bad
def mulOk (i j : Int) : Bool := (decide (-(2 ^ 64) < i) && decide (i < 2 ^ 64)) || (decide (-(2 ^ 64) < j) && decide (j < 2 ^ 64))
def binI (o : Bin) (i j : Int) : M D := match o with
  | .add => ret (.int (i + j))
  | .sub => ret (.int (i - j))
  | .mul => if mulOk i j then ret (.int (i * j)) else bad
  | .fdiv => if j != 0 && decide (j.natAbs < 1073741824) then ret (.int (i.fdiv j)) else bad
  | .mod => if j != 0 then ret (.int (i.fmod j)) else bad
  | .pow => if decide (0 ≤ j) && decide (j ≤ 1000) && decide (i.natAbs < 2 ^ 64) then ret (.int (i ^ j.toNat)) else bad
def binS (o : Bin) (a b : D) : M D := match o, a, b with
  | o, .int i, .int j => binI o i j
  | .add, .tup l, .tup r => retTup (l ++ r)
  | .add, .lst l, .lst r => retLst (l ++ r)
  | .mul, .lst l, .int k => if decide (0 ≤ k) && decide (k < 2 ^ 63) && Nat.ble (l.length * k.toNat) line then ret (.lst (List.replicate k.toNat l).flatten) else bad
  | _, _, _ => bad
def binD (o : Bin) (a b : D) : M D := bnd (deref a) fun a => bnd (deref b) fun b => binS o a b
def isNon (d : D) : Bool := match d with
  | .non => true
  | _ => false
def cmpS (o : Cmp) (a b : D) : M D := match o with
  | .eq => if a.ok && b.ok then ret (.bl (D.eq a b)) else bad
  | .ne => if a.ok && b.ok then ret (.bl (!D.eq a b)) else bad
  | .mem => match b with
    | .tup l => if a.ok && D.ok b then ret (.bl (l.any fun z => D.eq z a)) else bad
    | .lst l => if a.ok && D.ok b then ret (.bl (l.any fun z => D.eq z a)) else bad
    | _ => bad
  | .nmem => match b with
    | .tup l => if a.ok && D.ok b then ret (.bl (!l.any fun z => D.eq z a)) else bad
    | .lst l => if a.ok && D.ok b then ret (.bl (!l.any fun z => D.eq z a)) else bad
    | _ => bad
  | .lt => match a, b with
    | .int i, .int j => ret (.bl (decide (i < j)))
    | .tup l, .tup r => if D.ok a && D.ok b && D.alikes l r then ret (.bl (D.lts l r)) else bad
    | _, _ => bad
  | .le => match a, b with
    | .int i, .int j => ret (.bl (decide (i ≤ j)))
    | _, _ => bad
  | .gt => match a, b with
    | .int i, .int j => ret (.bl (decide (j < i)))
    | _, _ => bad
  | .ge => match a, b with
    | .int i, .int j => ret (.bl (decide (j ≤ i)))
    | _, _ => bad
  | .is => match b with
    | .non => ret (.bl (isNon a))
    | _ => bad
  | .isn => match b with
    | .non => ret (.bl (!isNon a))
    | _ => bad
def cmpD (o : Cmp) (a b : D) : M D := bnd (deref a) fun a => bnd (deref b) fun b => cmpS o a b
def idxS (a i : D) : M D := match a, i with
  | .tup l, .int i => opt (L2.atI l i)
  | .lst l, .int i => opt (L2.atI l i)
  | .scr l, .int i => opt ((L2.atI l i).map D.int)
  | _, _ => bad
def idxD (a i : D) : M D := bnd (deref a) fun a => idxS a i
/-- a bound of a slice: left out, or an int -/
def bound (there : Bool) (d : D) : Option (Option Int) := match there, d with
  | false, _ => some none
  | true, .int i => some (some i)
  | _, _ => none
def cut (l : List D) (lo hi : Option Int) : List D := (l.drop (HT.sIx l.length 0 lo)).take (HT.sIx l.length l.length hi - HT.sIx l.length 0 lo)
def sliceS (a : D) (lo hi : Option (Option Int)) : M D := match a, lo, hi with
  | .tup l, some x, some y => ret (.tup (cut l x y))
  | .lst l, some x, some y => ret (.lst (cut l x y))
  | _, _, _ => bad
def sliceD (a : D) (lo hi : Option (Option Int)) : M D := bnd (deref a) fun a => sliceS a lo hi
def intsOf : List D → Option (List Int)
  | [] => some []
  | .int i :: r => (intsOf r).map (i :: ·)
  | _ => none
def leastI : List Int → Option Int
  | [] => none
  | i :: r => some (r.foldl min i)
def mostI : List Int → Option Int
  | [] => none
  | i :: r => some (r.foldl max i)
def kindOk (d : D) (c : Nat) : Bool := match d, c with
  | .int _, 0 => true
  | .bl _, 0 => true
  | .bl _, 1 => true
  | .str _, 2 => true
  | .tup _, 3 => true
  | .lst _, 4 => true
  | .cell _, 4 => true
  | _, _ => false
/-- an empty tuple, alone -/
def isE (l : List D) : Bool := match l with
  | [.tup []] => true
  | _ => false
/-- what may be put in order -/
def sortable (l : List D) : Bool := l.all D.ok && (match l with
  | [] => true
  | x :: r => l.all fun a => l.all fun b => D.alike a b) && ((l.all fun d => match d with | .tup (_ :: _) => true | _ => false) || (l.all fun d => match d with | .int _ => true | .str _ => true | _ => false) || isE l)
def items : D → Option (List D)
  | .tup l => some l
  | .lst l => some l
  | _ => none
def primS (p : Prim) (l : List D) : M D := match p, l with
  | .len, [.tup l] => ret (.int l.length)
  | .len, [.lst l] => ret (.int l.length)
  | .len, [.scr l] => ret (.int l.length)
  | .tuple, [.tup l] => ret (.tup l)
  | .tuple, [.lst l] => ret (.tup l)
  | .list, [.tup l] => ret (.lst l)
  | .list, [.lst l] => ret (.lst l)
  | .sorted, [.lst l] => if sortable l then ret (.lst (isort leD l)) else bad
  | .min, [.lst l] => opt (((intsOf l).bind leastI).map D.int)
  | .max, [.lst l] => opt (((intsOf l).bind mostI).map D.int)
  | .min, [.int i, .int j] => ret (.int (if j < i then j else i))
  | .max, [.int i, .int j] => ret (.int (if j > i then j else i))
  | .sum, [.lst l] => opt ((intsOf l).map fun l => .int l.sum)
  | .int, [.int i] => ret (.int i)
  | .int, [.bl b] => ret (.int (if b then 1 else 0))
  | .perm, [.int n, .int k] => if decide (0 ≤ n) && decide (n < 64) && decide (0 ≤ k) && decide (k < 64) then ret (.int (PySem.W.mcPerm n k)) else bad
  | .isI cs, [.scr _] => bad
  | .isI cs, [d] => ret (.bl (cs.any (kindOk d)))
  | _, _ => bad
/-- the first one may be a cell -/
def primD (p : Prim) (l : List D) : M D := match p, l with
  | .isI cs, l => primS (.isI cs) l
  | p, d :: r => bnd (deref d) fun d => primS p (d :: r)
  | _, _ => bad
/-- pairs of a number and an item -/
def numbered (k : Nat) : List D → List D
  | [] => []
  | x :: r => .tup [.int k, x] :: numbered (k + 1) r
def upto (a : Int) (n : Nat) : List D := (List.range n).map fun i => .int (a + (i : Nat))
/-- an int that a range takes -/
def rangeOk (i : Int) : Bool := decide (-(2 ^ 62) ≤ i) && decide (i < 2 ^ 62)
def rngD (t : Bool) (x y : D) : M D := match x, y with
  | .int a, .int b => if rangeOk a && rangeOk b && Nat.ble (b - a).toNat line then ret (if t then .tup (upto a (b - a).toNat) else .lst (upto a (b - a).toNat)) else bad
  | _, _ => bad
/-- what is walked: its items, and the list that must stand meanwhile -/
abbrev Src := List D × Option (Nat × List D)
def guardOf (d : D) (l : List D) : Option (Nat × List D) := match d with
  | .cell k => some (k, l)
  | _ => none
def itemsD (k : Itk) (l : List D) : M Src := match k, l with
  | .seq, [d] => bnd (deref d) fun e => bnd (opt (items e)) fun l => ret (l, guardOf d l)
  | .range1, [.int n] => if rangeOk n then ret (upto 0 n.toNat, none) else bad
  | .range2, [.int a, .int b] => if rangeOk a && rangeOk b then ret (upto a (b - a).toNat, none) else bad
  | .enum, [d] => bnd (deref d) fun e => bnd (opt (items e)) fun l => ret (numbered 0 l, guardOf d l)
  | _, _ => bad
mutual
def D.same : D → D → Bool
  | .non, .non => true
  | .bl a, .bl b => a == b
  | .int i, .int j => i == j
  | .str a, .str b => a == b
  | .tup a, .tup b => D.sames a b
  | .lst a, .lst b => D.sames a b
  | .scr a, .scr b => a == b
  | .cell i, .cell j => i == j
  | _, _ => false
def D.sames : List D → List D → Bool
  | [], [] => true
  | a :: r, b :: s => D.same a b && D.sames r s
  | _, _ => false
end
/-- the list still stands -/
def chk (g : Option (Nat × List D)) : M Unit := fun st => match g with
  | none => .ok () st
  | some (k, l) => match st[k]? with
    | some (.lst m) => match D.sames m l with
      | true => .ok () st
      | false => .bad
    | none => .bad
def methD (m : Meth) (o : D) (l : List D) : M D := match m, o, l with
  | .append, .cell k, [x] => fun st => match st[k]? with
    | some (.lst l) => if decide (l.length < line) then .ok .non (st.set k (.lst (l ++ [x]))) else .bad
    | none => .bad
  | _, _, _ => bad
def setAt (o i x : D) : M Unit := match o, i with
  | .cell k, .int i => fun st => match st[k]? with
    | some (.lst l) => match L2.ixN l.length i with
      | some j => .ok () (st.set k (.lst (l.set j x)))
      | none => .bad
    | none => .bad
  | _, _ => bad
/-- by length, then by the tuple itself -/
def leLen (a b : D) : Bool := match a, b with
  | .tup l, .tup r => if l.length = r.length then leD a b else decide (l.length < r.length)
  | _, _ => false
def isInt (d : D) : Bool := match d with
  | .int _ => true
  | _ => false
def sortLenOk (l : List D) : Bool := l.all fun d => match d with
  | .tup m => m.all isInt
  | _ => false
def sortLenD (d : D) : M D := bnd (deref d) fun d => match d with
  | .lst l => if sortLenOk l then ret (.lst (isort leLen l)) else bad
  | _ => bad
/-- a test -/
def truthS (d : D) : M Bool := match d with
  | .bl b => ret b
  | .non => ret false
  | .int i => ret (i != 0)
  | .tup l => ret (!l.isEmpty)
  | .lst l => ret (!l.isEmpty)
  | _ => bad
def truth (d : D) : M Bool := bnd (deref d) truthS
def boolOf (d : D) : M Bool := match d with
  | .bl b => ret b
  | _ => bad
def listOf (d : D) : M (List D) := match d with
  | .lst l => ret l
  | _ => bad
/-- a source, written as data -/
def srcD : Src → D
  | (l, none) => .tup [.lst l]
  | (l, some (k, m)) => .tup [.lst l, .cell k, .lst m]
def srcOf (d : D) : M Src := match d with
  | .tup [.lst l] => ret (l, none)
  | .tup [.lst l, .cell k, .lst m] => ret (l, some (k, m))
  | _ => bad

/-! ### names -/
def setAll : List Nat → List D → Env → Option Env
  | [], [], env => some env
  | i :: r, d :: s, env => setAll r s (env.set i (some d))
  | _, _, _ => none
def Pat.bind : Pat → D → Env → Option Env
  | .one i, d, env => some (env.set i (some d))
  | .tup l, .tup s, env => setAll l s env
  | _, _, _ => none
def Pat.slots : Pat → List Nat
  | .one i => [i]
  | .tup l => l
def wipeE (env : Env) : List Nat → Env
  | [] => env
  | v :: vs => (wipeE env vs).set v none

/-! ### expressions -/
def compL (p : Pat) (c e : Env → M D) (env : Env) (g : Option (Nat × List D)) : List D → M (List D)
  | [] => ret []
  | x :: r => bnd (opt (p.bind x env)) fun env' => bnd (bnd (c env') truth) fun b => match b with
    | true => bnd (e env') fun y => bnd (chk g) fun _ => bnd (compL p c e env g r) fun ys => ret (y :: ys)
    | false => bnd (chk g) fun _ => compL p c e env g r
/-- the lists of the turns, joined -/
def compJ (p : Pat) (c : Env → M D) (e : Env → M (List D)) (env : Env) (g : Option (Nat × List D)) : List D → M (List D)
  | [] => ret []
  | x :: r => bnd (opt (p.bind x env)) fun env' => bnd (bnd (c env') truth) fun b => match b with
    | true => bnd (e env') fun y => bnd (chk g) fun _ => bnd (compJ p c e env g r) fun ys => ret (y ++ ys)
    | false => bnd (chk g) fun _ => compJ p c e env g r
/-- all (any) of the turns -/
def genL (all : Bool) (p : Pat) (c : Env → M D) (e : Env → M Bool) (env : Env) (g : Option (Nat × List D)) : List D → M Bool
  | [] => ret all
  | x :: r => bnd (opt (p.bind x env)) fun env' => bnd (bnd (c env') truth) fun b => match b with
    | true => bnd (e env') fun y => if y = all then bnd (chk g) fun _ => genL all p c e env g r else ret y
    | false => bnd (chk g) fun _ => genL all p c e env g r
abbrev CallF := Nat → List D → M D

def ev (C : CallF) : E → Env → M D
  | .var i, env => match env[i]? with
    | some (some d) => ret d
    | _ => bad
  | .con d, _ => ret d
  | .nil, _ => ret (.lst [])
  | .cons a b, env => bnd (ev C a env) fun x => bnd (bnd (ev C b env) listOf) fun l => ret (.lst (x :: l))
  | .tup a, env => bnd (bnd (ev C a env) listOf) retTup
  | .lst a, env => bnd (bnd (ev C a env) listOf) retLst
  | .newC a, env => bnd (bnd (ev C a env) listOf) newCell
  | .bin o a b, env => bnd (ev C a env) fun x => bnd (ev C b env) fun y => binD o x y
  | .neg a, env => bnd (ev C a env) fun x => match x with
    | .int i => ret (.int (-i))
    | _ => bad
  | .cmp o a b, env => bnd (ev C a env) fun x => bnd (ev C b env) fun y => cmpD o x y
  | .chain o p a b c, env => bnd (ev C a env) fun x => bnd (ev C b env) fun y => bnd (bnd (cmpD o x y) boolOf) fun k => match k with
    | true => bnd (ev C c env) fun z => cmpD p y z
    | false => ret (.bl false)
  | .and a b, env => bnd (ev C a env) fun x => bnd (truth x) fun k => match k with
    | true => ev C b env
    | false => ret x
  | .or a b, env => bnd (ev C a env) fun x => bnd (truth x) fun k => match k with
    | true => ret x
    | false => ev C b env
  | .not a, env => bnd (bnd (ev C a env) truth) fun k => ret (.bl (!k))
  | .ite c a b, env => bnd (bnd (ev C c env) truth) fun k => match k with
    | true => ev C a env
    | false => ev C b env
  | .call f a, env => bnd (bnd (ev C a env) listOf) fun l => C f l
  | .prim p a, env => bnd (bnd (ev C a env) listOf) fun l => primD p l
  | .meth m o a, env => bnd (ev C o env) fun x => bnd (bnd (ev C a env) listOf) fun l => methD m x l
  | .idx a i, env => bnd (ev C a env) fun x => bnd (ev C i env) fun y => idxD x y
  | .slice l h a lo hi, env => bnd (ev C a env) fun x => bnd (ev C lo env) fun y => bnd (ev C hi env) fun z => sliceD x (bound l y) (bound h z)
  | .itr k a, env => bnd (bnd (ev C a env) listOf) fun l => bnd (itemsD k l) fun s => ret (srcD s)
  | .comp p s c e, env => bnd (bnd (ev C s env) srcOf) fun s => bnd (compL p (ev C c) (ev C e) (wipeE env p.slots) s.2 s.1) retLst
  | .comp2 p s c q t d e, env => bnd (bnd (ev C s env) srcOf) fun s =>
      bnd (compJ p (ev C c) (fun env => bnd (bnd (ev C t env) srcOf) fun s => compL q (ev C d) (ev C e) (wipeE env q.slots) s.2 s.1) (wipeE env (p.slots ++ q.slots)) s.2 s.1) retLst
  | .gen all p s c e, env => bnd (bnd (ev C s env) srcOf) fun s => bnd (genL all p (ev C c) (fun env => bnd (ev C e env) boolOf) (wipeE env p.slots) s.2 s.1) fun b => ret (.bl b)
  | .gen2 all p s c q t d e, env => bnd (bnd (ev C s env) srcOf) fun s =>
      bnd (genL all p (ev C c) (fun env => bnd (bnd (ev C t env) srcOf) fun s => genL all q (ev C d) (fun env => bnd (ev C e env) boolOf) (wipeE env q.slots) s.2 s.1) (wipeE env (p.slots ++ q.slots)) s.2 s.1) fun b => ret (.bl b)
  | .sortLen a, env => bnd (ev C a env) sortLenD
  | .rng1 t a, env => bnd (ev C a env) fun x => rngD t (.int 0) x
  | .rng2 t a b, env => bnd (ev C a env) fun x => bnd (ev C b env) fun y => rngD t x y

/-! ### statements -/
inductive Out where
  | next (env : Env) (st : St)
  | ret (d : D) (st : St)
  | bad
def run' {α : Type} (m : M α) (st : St) (f : α → St → Out) : Out := match m st with
  | .ok a st' => f a st'
  | .bad => .bad
def forL (p : Pat) (b : Env → St → Out) (g : Option (Nat × List D)) : List D → Env → St → Out
  | [], env, st => .next env st
  | x :: r, env, st => match p.bind x env with
    | some env' => match b env' st with
      | .next env2 st2 => run' (chk g) st2 fun _ st2 => forL p b g r env2 st2
      | o => o
    | none => .bad
def whileL (c : Env → M D) (b : Env → St → Out) : Nat → Env → St → Out
  | 0, _, _ => .bad
  | n + 1, env, st => run' (bnd (c env) truth) st fun k st => match k with
    | true => match b env st with
      | .next env2 st2 => whileL c b n env2 st2
      | o => o
    | false => .next env st
def exec (C : CallF) : S → Env → St → Out
  | .skip, env, st => .next env st
  | .seq a b, env, st => match exec C a env st with
    | .next env2 st2 => exec C b env2 st2
    | o => o
  | .asg p e, env, st => run' (ev C e env) st fun d st => match p.bind d env with
    | some env' => .next env' st
    | none => .bad
  | .par is e, env, st => run' (bnd (ev C e env) listOf) st fun l st => match setAll is l env with
    | some env' => .next env' st
    | none => .bad
  | .setIdx o i e, env, st => run' (bnd (ev C e env) fun x => bnd (ev C o env) fun o => bnd (ev C i env) fun i => setAt o i x) st fun _ st => .next env st
  | .aug i e, env, st => match env[i]? with
    | some (some (.int a)) => run' (ev C e env) st fun d st => match d with
      | .int b => .next (env.set i (some (.int (a + b)))) st
      | _ => .bad
    | _ => .bad
  | .drop e, env, st => run' (ev C e env) st fun _ st => .next env st
  | .ite c a b, env, st => run' (bnd (ev C c env) truth) st fun k st => match k with
    | true => exec C a env st
    | false => exec C b env st
  | .for_ p s b, env, st => run' (bnd (ev C s env) srcOf) st fun s st => forL p (exec C b) s.2 s.1 env st
  | .while_ c b, env, st => whileL (ev C c) (exec C b) 1000 env st
  | .ret e, env, st => run' (ev C e env) st fun d st => .ret d st
  | .never, _, _ => .bad

/-! ### defs -/
structure FD where
  np : Nat
  ns : Nat
  body : S
mutual
/-- all that may change, told in it, is older than n -/
def D.low (n : Nat) : D → Bool
  | .cell k => Nat.blt k n
  | .tup l => D.lows n l
  | .lst l => D.lows n l
  | _ => true
def D.lows (n : Nat) : List D → Bool
  | [] => true
  | d :: r => D.low n d && D.lows n r
end
def Cell.low (n : Nat) : Cell → Bool
  | .lst l => D.lows n l
/-- what a def hands back: a list of its own is let go -/
def leave (n : Nat) (d : D) (st : St) : Res D := match (st.take n).all (Cell.low n) with
  | true => match d with
    | .cell k => match Nat.blt k n with
      | true => .ok (.cell k) (st.take n)
      | false => match st[k]? with
        | some (.lst l) => match D.lows n l with
          | true => .ok (.lst l) (st.take n)
          | false => .bad
        | none => .bad
    | d => match D.low n d with
      | true => .ok d (st.take n)
      | false => .bad
  | false => .bad
def callB (C : CallF) (fd : FD) (l : List D) : M D := fun st => match decide (l.length = fd.np) with
  | true => match exec C fd.body (l.map some ++ List.replicate (fd.ns - fd.np) none) st with
    | .next _ st' => leave st.length .non st'
    | .ret d st' => leave st.length d st'
    | .bad => .bad
  | false => .bad
def run (T : List FD) : Nat → CallF
  | 0 => fun _ _ => bad
  | n + 1 => fun f l => match T[f]? with
    | some fd => callB (run T n) fd l
    | none => bad
end Mp
end
section
set_option Elab.async false
set_option linter.all false
set_option maxRecDepth 100000
/-! What a value tells, in an abstract heap. -/
namespace Mp
open PySem PySem.Spec PyProof.Rows L2

/-- without what may change -/
def Mk (av : List Addr) (H : Hp) : Hp := fun b => if b ∈ av then none else H b
theorem mk_out {av : List Addr} {H : Hp} {b : Addr} (h : b ∉ av) : Mk av H b = H b := if_neg h
theorem mk_some {av : List Addr} {H : Hp} {b : Addr} {o : HO} (h : Mk av H b = some o) : b ∉ av ∧ H b = some o := by
  unfold Mk at h
  split at h
  · cases h
  · exact ⟨by assumption, h⟩
def NoTbl (o : HO) : Prop := ∀ ps, o ≠ .tbl ps
/-- all but tables stays -/
def LeG (G G' : Hp) : Prop := ∀ b o, G b = some o → NoTbl o → G' b = some o
theorem LeG.refl (G : Hp) : LeG G G := fun _ _ h _ => h
theorem LeG.trans {G G1 G2 : Hp} (a : LeG G G1) (b : LeG G1 G2) : LeG G G2 := fun c o h n => b c o (a c o h n) n
theorem noT_lst {xs : List V} : NoTbl (.lst xs) := fun _ h => by cases h
theorem noT_tup {xs : List V} : NoTbl (.tup xs) := fun _ h => by cases h
theorem noT_frz {o : Obj} {u : HO} : NoTbl (.frz o u) := fun _ h => by cases h
theorem LeG.sqT {K : PySem.W.Frag} {G G' : Hp} {a : Addr} {xs : List V} (e : LeG G G') (h : SqT K G a xs) : SqT K G' a xs := by
  rcases h with (h | ⟨o, h⟩) | h
  · exact .inl (.inl (e _ _ h noT_tup))
  · exact .inl (.inr ⟨o, e _ _ h noT_frz⟩)
  · exact .inr h
theorem LeG.sqL {K : PySem.W.Frag} {G G' : Hp} {a : Addr} {xs : List V} (e : LeG G G') (h : SqL K G a xs) : SqL K G' a xs := by
  rcases h with (h | ⟨o, h⟩) | h
  · exact .inl (.inl (e _ _ h noT_lst))
  · exact .inl (.inr ⟨o, e _ _ h noT_frz⟩)
  · exact .inr h
theorem LeG.mk {av : List Addr} {H : Hp} : LeG (Mk av H) H := fun b o h _ => (mk_some h).2
theorem LeG.mk_sub {av av' : List Addr} {H : Hp} (h : ∀ b ∈ av', b ∈ av) : LeG (Mk av H) (Mk av' H) := fun b o e _ => by
  obtain ⟨n, e⟩ := mk_some e
  rw [mk_out fun z => n (h b z)]
  exact e

section
variable (K : PySem.W.Frag) (α : List Addr) (G : Hp)
mutual
def Rep : D → V → Prop
  | .non, v => v = .non
  | .bl b, v => v = .bl b
  | .int i, v => v = .int i
  | .str s, v => v = .str s
  | .tup l, v => ∃ a xs, v = .ref a ∧ SqT K G a xs ∧ Reps l xs
  | .lst l, v => ∃ a xs, v = .ref a ∧ G a = some (.lst xs) ∧ Reps l xs
  | .scr l, v => ∃ a, v = .ref a ∧ SqL K G a (l.map V.int)
  | .cell k, v => ∃ a, v = .ref a ∧ α[k]? = some a
def Reps : List D → List V → Prop
  | [], xs => xs = []
  | d :: r, xs => ∃ x ys, xs = x :: ys ∧ Rep d x ∧ Reps r ys
end
end
theorem pre_get {α α' : List Addr} (h : α <+: α') {k : Nat} {a : Addr} (e : α[k]? = some a) : α'[k]? = some a := by
  obtain ⟨t, rfl⟩ := h
  rw [List.getElem?_append_left (List.getElem?_eq_some_iff.mp e).1]
  exact e
section
variable {K : PySem.W.Frag} {α α' : List Addr} {G G' : Hp}
mutual
theorem Rep.mono (hα : α <+: α') (hG : LeG G G') : ∀ (d : D) (v : V), Rep K α G d v → Rep K α' G' d v
  | .non, _, h => h
  | .bl _, _, h => h
  | .int _, _, h => h
  | .str _, _, h => h
  | .tup l, _, ⟨a, xs, e, h1, h2⟩ => ⟨a, xs, e, hG.sqT h1, Reps.mono hα hG l xs h2⟩
  | .lst l, _, ⟨a, xs, e, h1, h2⟩ => ⟨a, xs, e, hG _ _ h1 noT_lst, Reps.mono hα hG l xs h2⟩
  | .scr _, _, ⟨a, e, h1⟩ => ⟨a, e, hG.sqL h1⟩
  | .cell _, _, ⟨a, e, h1⟩ => ⟨a, e, pre_get hα h1⟩
theorem Reps.mono (hα : α <+: α') (hG : LeG G G') : ∀ (l : List D) (xs : List V), Reps K α G l xs → Reps K α' G' l xs
  | [], _, h => h
  | d :: r, _, ⟨x, ys, e, h1, h2⟩ => ⟨x, ys, e, Rep.mono hα hG d x h1, Reps.mono hα hG r ys h2⟩
end
theorem Reps.length : ∀ {l : List D} {xs : List V}, Reps K α G l xs → xs.length = l.length
  | [], _, h => by cases h; rfl
  | d :: r, _, ⟨x, ys, e, h1, h2⟩ => by rw [e, List.length_cons, List.length_cons, Reps.length h2]
theorem Reps.append : ∀ {l m : List D} {xs ys : List V}, Reps K α G l xs → Reps K α G m ys → Reps K α G (l ++ m) (xs ++ ys)
  | [], _, _, _, h, k => by cases h; exact k
  | d :: r, _, _, _, ⟨x, zs, e, h1, h2⟩, k => ⟨x, zs ++ _, by rw [e]; rfl, h1, Reps.append h2 k⟩
theorem Reps.take : ∀ {l : List D} {xs : List V} (n : Nat), Reps K α G l xs → Reps K α G (l.take n) (xs.take n)
  | [], _, n, h => by cases h; rw [List.take_nil, List.take_nil]; rfl
  | d :: r, _, 0, _ => rfl
  | d :: r, _, n + 1, ⟨x, zs, e, h1, h2⟩ => ⟨x, zs.take n, by rw [e]; rfl, h1, Reps.take n h2⟩
theorem Reps.drop : ∀ {l : List D} {xs : List V} (n : Nat), Reps K α G l xs → Reps K α G (l.drop n) (xs.drop n)
  | [], _, n, h => by cases h; rw [List.drop_nil, List.drop_nil]; rfl
  | d :: r, _, 0, h => h
  | d :: r, _, n + 1, ⟨x, zs, e, h1, h2⟩ => by rw [e]; exact Reps.drop n h2
theorem Reps.get : ∀ {l : List D} {xs : List V} {i : Nat} {d : D}, Reps K α G l xs → l[i]? = some d → ∃ x, xs[i]? = some x ∧ Rep K α G d x
  | d :: r, _, 0, _, ⟨x, zs, e, h1, h2⟩, q => by
    rw [e]
    cases q
    exact ⟨x, rfl, h1⟩
  | d :: r, _, i + 1, _, ⟨x, zs, e, h1, h2⟩, q => by
    rw [e]
    exact Reps.get (i := i) h2 q
theorem Reps.getV : ∀ {l : List D} {xs : List V} {i : Nat} {x : V}, Reps K α G l xs → xs[i]? = some x → ∃ d, l[i]? = some d ∧ Rep K α G d x
  | [], _, i, _, h, q => by cases h; simp at q
  | d :: r, _, 0, _, ⟨x, zs, e, h1, h2⟩, q => by
    rw [e] at q
    cases q
    exact ⟨d, rfl, h1⟩
  | d :: r, _, i + 1, _, ⟨x, zs, e, h1, h2⟩, q => by
    rw [e] at q
    exact Reps.getV (i := i) h2 q
theorem Reps.set : ∀ {l : List D} {xs : List V} (i : Nat) {d : D} {x : V}, Reps K α G l xs → Rep K α G d x → Reps K α G (l.set i d) (xs.set i x)
  | [], _, i, _, _, h, _ => by cases h; rfl
  | d :: r, _, 0, _, _, ⟨x, zs, e, h1, h2⟩, k => ⟨_, zs, by rw [e]; rfl, k, h2⟩
  | d :: r, _, i + 1, _, _, ⟨x, zs, e, h1, h2⟩, k => ⟨x, zs.set i _, by rw [e]; rfl, h1, Reps.set i h2 k⟩
theorem Reps.one {d : D} {x : V} (h : Rep K α G d x) : Reps K α G [d] [x] := ⟨x, [], rfl, h, rfl⟩
theorem Reps.flatten {l : List D} {xs : List V} (h : Reps K α G l xs) : ∀ k : Nat, Reps K α G (List.replicate k l).flatten (List.replicate k xs).flatten
  | 0 => rfl
  | k + 1 => by
    rw [List.replicate_succ, List.replicate_succ, List.flatten_cons, List.flatten_cons]
    exact h.append (Reps.flatten h k)
end

/-! ### plain data -/
mutual
def D.py : D → PyData
  | .non => .none
  | .bl b => .bool b
  | .int i => .int i
  | .str s => .str s
  | .tup l => .tuple (D.pys l)
  | .lst l => .list (D.pys l)
  | .scr _ => .none
  | .cell _ => .none
def D.pys : List D → List PyData
  | [] => []
  | d :: r => D.py d :: D.pys r
end
theorem D.pys_map : ∀ l : List D, D.pys l = l.map D.py
  | [] => by rw [D.pys]; rfl
  | d :: r => by rw [D.pys, D.pys_map r]; rfl
mutual
theorem D.shp_lay : ∀ (n : Nat) (d : D), D.shp n d = true → (D.py d).canLay0 = true ∧ (D.py d).depth ≤ n
  | _, .non, _ => by simp [D.py, PyData.canLay0, PyData.depth]
  | _, .bl _, _ => by simp [D.py, PyData.canLay0, PyData.depth]
  | _, .int _, _ => by simp [D.py, PyData.canLay0, PyData.depth]
  | _, .str s, h => by
    have h : PyData.strOk s = true := by simpa [D.shp] using h
    simp [D.py, PyData.canLay0, PyData.depth, h]
  | 0, .tup l, h => by simp [D.shp] at h
  | n + 1, .tup l, h => by
    have h : D.shps n l = true := by simpa [D.shp] using h
    obtain ⟨h1, h2⟩ := D.shps_lay n l h
    simp [D.py, PyData.canLay0, PyData.depth, h1]
    omega
  | 0, .lst l, h => by simp [D.shp] at h
  | n + 1, .lst l, h => by
    have h : D.shps n l = true := by simpa [D.shp] using h
    obtain ⟨h1, h2⟩ := D.shps_lay n l h
    simp [D.py, PyData.canLay0, PyData.depth, h1]
    omega
  | _, .scr _, h => by simp [D.shp] at h
  | _, .cell _, h => by simp [D.shp] at h
theorem D.shps_lay : ∀ (n : Nat) (l : List D), D.shps n l = true → PyData.canLayAll0 (D.pys l) = true ∧ PyData.depthAll (D.pys l) ≤ n
  | _, [], _ => by simp [D.pys, PyData.canLayAll0, PyData.depthAll]
  | n, d :: r, h => by
    have h : D.shp n d = true ∧ D.shps n r = true := by simpa [D.shps] using h
    obtain ⟨h1, h2⟩ := D.shp_lay n d h.1
    obtain ⟨h3, h4⟩ := D.shps_lay n r h.2
    simp [D.pys, PyData.canLayAll0, PyData.depthAll, h1, h3]
    omega
end
theorem D.ok_shaped {d : D} (h : d.ok = true) : SeqAt.shaped (D.py d) = true := by
  obtain ⟨h1, h2⟩ := D.shp_lay 60 d h
  unfold SeqAt.shaped
  rw [h1, decide_eq_true (by omega)]
  rfl
mutual
theorem D.eq_py : ∀ (n : Nat) (a b : D), D.shp n a = true → D.shp n b = true → D.eq a b = PyData.eqv (D.py a) (D.py b)
  | n, a, b, ha, hb => by
    cases a <;> cases b <;> first
      | (simp only [D.eq, D.py, PyData.eqv]; done)
      | (simp [D.shp] at ha; done)
      | (simp [D.shp] at hb; done)
      | (rename_i l m
         cases n with
         | zero => simp [D.shp] at ha
         | succ n =>
           have h1 : D.shps n l = true := by simpa [D.shp] using ha
           have h2 : D.shps n m = true := by simpa [D.shp] using hb
           simp only [D.eq, D.py, PyData.eqv]
           exact D.eqs_py n l m h1 h2)
theorem D.eqs_py : ∀ (n : Nat) (l m : List D), D.shps n l = true → D.shps n m = true → D.eqs l m = PyData.eqvAll (D.pys l) (D.pys m)
  | n, [], [], _, _ => by simp [D.eqs, D.pys, PyData.eqvAll]
  | n, [], _ :: _, _, _ => by simp [D.eqs, D.pys, PyData.eqvAll]
  | n, _ :: _, [], _, _ => by simp [D.eqs, D.pys, PyData.eqvAll]
  | n, a :: r, b :: s, ha, hb => by
    have ha : D.shp n a = true ∧ D.shps n r = true := by simpa [D.shps] using ha
    have hb : D.shp n b = true ∧ D.shps n s = true := by simpa [D.shps] using hb
    simp only [D.eqs, D.pys, PyData.eqvAll]
    rw [D.eq_py n a b ha.1 hb.1, D.eqs_py n r s ha.2 hb.2]
end
section
variable {K : PySem.W.Frag} {α : List Addr} {G H : Hp}
mutual
theorem Rep.dp (hG : LeG G H) : ∀ (n : Nat) (d : D) (v : V), D.shp n d = true → Rep K α G d v → Dp K H v (D.py d)
  | _, .non, _, _, h => by cases h; rw [D.py]; exact .non
  | _, .bl b, _, _, h => by cases h; rw [D.py]; exact .bl b
  | _, .int i, _, _, h => by cases h; rw [D.py]; exact .int i
  | _, .str s, _, _, h => by cases h; rw [D.py]; exact .str s
  | 0, .tup l, _, z, _ => by simp [D.shp] at z
  | n + 1, .tup l, _, z, ⟨a, xs, e, h1, h2⟩ => by
    rw [e, D.py]
    exact .tup (hG.sqT h1) (Reps.dp hG n l xs (by simpa [D.shp] using z) h2)
  | 0, .lst l, _, z, _ => by simp [D.shp] at z
  | n + 1, .lst l, _, z, ⟨a, xs, e, h1, h2⟩ => by
    rw [e, D.py]
    exact .lst (.inl (.inl (hG _ _ h1 noT_lst))) (Reps.dp hG n l xs (by simpa [D.shp] using z) h2)
  | _, .scr _, _, z, _ => by simp [D.shp] at z
  | _, .cell _, _, z, _ => by simp [D.shp] at z
theorem Reps.dp (hG : LeG G H) : ∀ (n : Nat) (l : List D) (xs : List V), D.shps n l = true → Reps K α G l xs → DpAll K H xs (D.pys l)
  | _, [], _, _, h => by cases h; rw [D.pys]; exact .nil
  | n, d :: r, _, z, ⟨x, ys, e, h1, h2⟩ => by
    have z : D.shp n d = true ∧ D.shps n r = true := by simpa [D.shps] using z
    rw [e, D.pys]
    exact .cons (Rep.dp hG n d x z.1 h1) (Reps.dp hG n r ys z.2 h2)
end
end

/-! ### the state -/
/-- tables of code objects: whatever they tell (none), or code objects of one name -/
def TabOk (H : Hp) (p : Addr × Option Str) : Prop := match p.2 with
  | none => GxR.TabG H p.1
  | some q => LamX.TabS H p.1 q
structure Ok (K : PySem.W.Frag) (Tb : List (Addr × Option Str)) (β α : List Addr) (st : St) (H : Hp) : Prop where
  nd : α.Nodup
  ap : ∀ a ∈ α, a ∉ β
  bl : ∀ b ∈ β, ∃ xs, H b = some (.lst xs)
  len : α.length = st.length
  cells : ∀ (k : Nat) (a : Addr) (l : List D), α[k]? = some a → st[k]? = some (.lst l) → ∃ xs, H a = some (.lst xs) ∧ Reps K α (Mk (β ++ α) H) l xs
  tabs : ∀ p ∈ Tb, TabOk H p
/-- what the run of a piece may do -/
structure Stp (α α' : List Addr) (H H' : Hp) : Prop where
  pre : α <+: α'
  new : ∀ a ∈ α', a ∈ α ∨ H a = none
  keep : ∀ b o, b ∉ α → H b = some o → NoTbl o → H' b = some o
  tbl : ∀ b ps, b ∉ α → H b = some (.tbl ps) → ∃ ps', H' b = some (.tbl ps')
theorem Stp.refl (α : List Addr) (H : Hp) : Stp α α H H := ⟨List.prefix_rfl, fun _ h => .inl h, fun _ _ _ h _ => h, fun _ ps _ h => ⟨ps, h⟩⟩
section
variable {K : PySem.W.Frag} {Tb : List (Addr × Option Str)} {β α α1 α2 : List Addr} {st st1 : St} {H H1 H2 : Hp}
theorem Stp.free (a : Stp α α1 H H1) {c : Addr} (hc : c ∉ α) (h : H1 c = none) : H c = none := by
  cases q : H c with
  | none => rfl
  | some o =>
    cases o with
    | tbl ps =>
      obtain ⟨ps', e⟩ := a.tbl c ps hc q
      rw [e] at h
      cases h
    | _ =>
      rw [a.keep c _ hc q (fun _ z => by cases z)] at h
      cases h
theorem Stp.mem (a : Stp α α1 H H1) {c : Addr} (h : c ∈ α) : c ∈ α1 := a.pre.subset h
theorem Stp.old (a : Stp α α1 H H1) {c : Addr} (hc : c ∉ α) {o : HO} (h : H c = some o) : c ∉ α1 := fun z => by
  rcases a.new c z with y | y
  · exact hc y
  · rw [h] at y
    cases y
theorem Stp.trans (a : Stp α α1 H H1) (b : Stp α1 α2 H1 H2) : Stp α α2 H H2 where
  pre := a.pre.trans b.pre
  new := fun c hc => by
    by_cases hα : c ∈ α
    · exact .inl hα
    · rcases b.new c hc with h | h
      · exact a.new c h
      · exact .inr (a.free hα h)
  keep := fun c o hc h n => b.keep c o (a.old hc h) (a.keep c o hc h n) n
  tbl := fun c ps hc h => by
    obtain ⟨ps', e⟩ := a.tbl c ps hc h
    exact b.tbl c ps' (a.old hc h) e
/-- what was not to change, under a step -/
theorem Stp.le (a : Stp α α1 H H1) (β : List Addr) : LeG (Mk (β ++ α) H) (Mk (β ++ α1) H1) := fun b o e n => by
  obtain ⟨hb, e⟩ := mk_some e
  have h1 : b ∉ β := fun z => hb (List.mem_append_left _ z)
  have h2 : b ∉ α := fun z => hb (List.mem_append_right _ z)
  rw [mk_out fun z => (List.mem_append.mp z).elim h1 (a.old h2 e)]
  exact a.keep b o h2 e n
theorem Stp.rep (a : Stp α α1 H H1) {d : D} {v : V} (h : Rep K α (Mk (β ++ α) H) d v) : Rep K α1 (Mk (β ++ α1) H1) d v := Rep.mono a.pre (a.le β) d v h
theorem Stp.reps (a : Stp α α1 H H1) {l : List D} {xs : List V} (h : Reps K α (Mk (β ++ α) H) l xs) : Reps K α1 (Mk (β ++ α1) H1) l xs := Reps.mono a.pre (a.le β) l xs h
/-- something new is laid -/
theorem Stp.laid {p : Addr} {o : HO} (hp : H p = none) : Stp α α H (upd H p o) where
  pre := List.prefix_rfl
  new := fun _ h => .inl h
  keep := fun b u _ h _ => by rw [upd_ne (ne_of_none h hp)]; exact h
  tbl := fun b ps _ h => ⟨ps, by rw [upd_ne (ne_of_none h hp)]; exact h⟩
theorem tabOk_ext {p : Addr × Option Str} (h : TabOk H p) (e : ∀ b o, H b = some o → H1 b = some o) : TabOk H1 p := by
  unfold TabOk at h ⊢
  split
  · rename_i q
    rw [q] at h
    obtain ⟨ps, h1, h2⟩ := h
    exact ⟨ps, e _ _ h1, h2⟩
  · rename_i q z
    rw [z] at h
    exact LamX.TabS.ext h e
theorem Ok.mem_of (h : Ok K Tb β α st H) {k : Nat} {a : Addr} (e : α[k]? = some a) : ∃ l xs, st[k]? = some (.lst l) ∧ H a = some (.lst xs) ∧ Reps K α (Mk (β ++ α) H) l xs := by
  have hk : k < st.length := by rw [← h.len]; exact (List.getElem?_eq_some_iff.mp e).1
  cases q : st[k] with
  | lst l =>
    have q' : st[k]? = some (.lst l) := by rw [List.getElem?_eq_getElem hk, q]
    obtain ⟨xs, h1, h2⟩ := h.cells k a l e q'
    exact ⟨l, xs, q', h1, h2⟩
theorem Ok.tracked (h : Ok K Tb β α st H) {a : Addr} (ha : a ∈ α) : ∃ xs, H a = some (.lst xs) := by
  obtain ⟨k, e⟩ := List.getElem?_of_mem ha
  obtain ⟨_, xs, _, e2, _⟩ := h.mem_of e
  exact ⟨xs, e2⟩
theorem Ok.laid {p : Addr} {o : HO} (h : Ok K Tb β α st H) (hp : H p = none) : Ok K Tb β α st (upd H p o) where
  nd := h.nd
  ap := h.ap
  bl := fun b hb => by
    obtain ⟨xs, e⟩ := h.bl b hb
    exact ⟨xs, by rw [upd_ne (ne_of_none e hp)]; exact e⟩
  len := h.len
  cells := fun k a l e1 e2 => by
    obtain ⟨xs, h1, h2⟩ := h.cells k a l e1 e2
    exact ⟨xs, by rw [upd_ne (ne_of_none h1 hp)]; exact h1, (Stp.laid hp).reps h2⟩
  tabs := fun q hq => tabOk_ext (h.tabs q hq) fun b u e => by rw [upd_ne (ne_of_none e hp)]; exact e

/-- a name's value -/
def EnvOk (K : PySem.W.Frag) (α : List Addr) (G : Hp) (env : Env) (σ : L2.St) : Prop := env.length = σ.length ∧ ∀ (i : Nat) (d : D), env[i]? = some (some d) → ∃ v : V, σ[i]? = some (some v) ∧ Rep K α G d v
theorem EnvOk.mono {G G' : Hp} {env : Env} {σ : L2.St} (h : EnvOk K α G env σ) (hα : α <+: α1) (hG : LeG G G') : EnvOk K α1 G' env σ := ⟨h.1, fun i d e => by
  obtain ⟨v, h1, h2⟩ := h.2 i d e
  exact ⟨v, h1, h2.mono hα hG⟩⟩
theorem EnvOk.set {G : Hp} {env : Env} {σ : L2.St} (h : EnvOk K α G env σ) {d : D} {v : V} (i : Nat) (r : Rep K α G d v) : EnvOk K α G (env.set i (some d)) (σ.set i (some v)) := by
  refine ⟨by rw [List.length_set, List.length_set]; exact h.1, fun j e q => ?_⟩
  by_cases hj : i = j
  · subst hj
    by_cases hi : i < env.length
    · rw [List.getElem?_set_self hi] at q
      cases q
      exact ⟨v, by rw [List.getElem?_set_self (by rw [← h.1]; exact hi)], r⟩
    · rw [List.getElem?_eq_none (by rw [List.length_set]; omega)] at q
      cases q
  · rw [List.getElem?_set_ne hj] at q ⊢
    exact h.2 j e q
theorem EnvOk.wipe1 {G : Hp} {env : Env} {σ : L2.St} (h : EnvOk K α G env σ) (i : Nat) : EnvOk K α G (env.set i none) (σ.set i none) := by
  refine ⟨by rw [List.length_set, List.length_set]; exact h.1, fun j e q => ?_⟩
  by_cases hj : i = j
  · subst hj
    by_cases hi : i < env.length
    · rw [List.getElem?_set_self hi] at q
      cases q
    · rw [List.getElem?_eq_none (by rw [List.length_set]; omega)] at q
      cases q
  · rw [List.getElem?_set_ne hj] at q ⊢
    exact h.2 j e q
theorem EnvOk.wipe {G : Hp} {env : Env} {σ : L2.St} (h : EnvOk K α G env σ) : ∀ vs : List Nat, EnvOk K α G (wipeE env vs) (wipe σ vs)
  | [] => h
  | v :: vs => (EnvOk.wipe h vs).wipe1 v
/-- fewer names told -/
theorem EnvOk.less {G : Hp} {env env' : Env} {σ : L2.St} (h : EnvOk K α G env σ) (hl : env'.length = env.length) (hs : ∀ (i : Nat) (d : D), env'[i]? = some (some d) → env[i]? = some (some d)) : EnvOk K α G env' σ :=
  ⟨hl.trans h.1, fun i d e => h.2 i d (hs i d e)⟩

/-! ### what a run gives, told of the heap -/
def Sat (K : PySem.W.Frag) (Tb : List (Addr × Option Str)) (β α : List Addr) (r : Res D) (H : Hp) (Q : VK) : Prop := match r with
  | .ok d st' => ∀ v α' H', Stp α α' H H' → Ok K Tb β α' st' H' → Rep K α' (Mk (β ++ α') H') d v → Q v H'
  | .bad => False
def SatL (K : PySem.W.Frag) (Tb : List (Addr × Option Str)) (β α : List Addr) (r : Res (List D)) (H : Hp) (Q : List V → Hp → Prop) : Prop := match r with
  | .ok l st' => ∀ xs α' H', Stp α α' H H' → Ok K Tb β α' st' H' → Reps K α' (Mk (β ++ α') H') l xs → Q xs H'
  | .bad => False
def SatB (K : PySem.W.Frag) (Tb : List (Addr × Option Str)) (β α : List Addr) (r : Res Bool) (H : Hp) (Q : Bool → Hp → Prop) : Prop := match r with
  | .ok b st' => ∀ α' H', Stp α α' H H' → Ok K Tb β α' st' H' → Q b H'
  | .bad => False
theorem Sat.step {r : Res D} {Q : VK} (h : Sat K Tb β α r H Q) (s : Stp α α1 H H1) : Sat K Tb β α1 r H1 Q := by
  cases r with
  | ok d st' => exact fun v α' H' s' o rv => h v α' H' (s.trans s') o rv
  | bad => exact h
theorem SatL.step {r : Res (List D)} {Q : List V → Hp → Prop} (h : SatL K Tb β α r H Q) (s : Stp α α1 H H1) : SatL K Tb β α1 r H1 Q := by
  cases r with
  | ok d st' => exact fun v α' H' s' o rv => h v α' H' (s.trans s') o rv
  | bad => exact h
theorem SatB.step {r : Res Bool} {Q : Bool → Hp → Prop} (h : SatB K Tb β α r H Q) (s : Stp α α1 H H1) : SatB K Tb β α1 r H1 Q := by
  cases r with
  | ok d st' => exact fun α' H' s' o => h α' H' (s.trans s') o
  | bad => exact h
/-- the value is there, the state as it is -/
theorem Sat.here {d : D} {Q : VK} {v : V} (h : Sat K Tb β α (.ok d st) H Q) (o : Ok K Tb β α st H) (r : Rep K α (Mk (β ++ α) H) d v) : Q v H := h v α H (Stp.refl α H) o r
theorem SatB.here {b : Bool} {Q : Bool → Hp → Prop} (h : SatB K Tb β α (.ok b st) H Q) (o : Ok K Tb β α st H) : Q b H := h α H (Stp.refl α H) o
theorem SatL.here {l : List D} {xs : List V} {Q : List V → Hp → Prop} (h : SatL K Tb β α (.ok l st) H Q) (o : Ok K Tb β α st H) (r : Reps K α (Mk (β ++ α) H) l xs) : Q xs H := h xs α H (Stp.refl α H) o r

/-- an expression's reading by its evaluation -/
def tOf (K : PySem.W.Frag) (Tb : List (Addr × Option Str)) (m : Env → M D) : TE := fun σ H Q => ∃ β α st env, Ok K Tb β α st H ∧ EnvOk K α (Mk (β ++ α) H) env σ ∧ Sat K Tb β α (m env st) H Q
def tOfL (K : PySem.W.Frag) (Tb : List (Addr × Option Str)) (m : Env → M (List D)) : TA := fun σ H Q => ∃ β α st env, Ok K Tb β α st H ∧ EnvOk K α (Mk (β ++ α) H) env σ ∧ SatL K Tb β α (m env st) H Q
def tOfB (K : PySem.W.Frag) (Tb : List (Addr × Option Str)) (m : Env → M Bool) : TT := fun σ H Q => ∃ β α st env, Ok K Tb β α st H ∧ EnvOk K α (Mk (β ++ α) H) env σ ∧ SatB K Tb β α (m env st) H Q
end
/-- a reading that another gives -/
theorem PE.by {X : Cx} {e : Expr} {t : TE} (h : ∀ σ H Q, t σ H Q → ∃ u, PE X e u ∧ u σ H Q) : PE X e t := ⟨fun pins s σ H Q I w => by
  obtain ⟨u, p, q⟩ := h σ H Q w
  exact p.run pins s σ H Q I q⟩
theorem PA.by {X : Cx} {e : List Expr} {t : TA} (h : ∀ σ H Q, t σ H Q → ∃ u, PA X e u ∧ u σ H Q) : PA X e t := ⟨fun pos pins s σ H Q I w => by
  obtain ⟨u, p, q⟩ := h σ H Q w
  exact p.run pos pins s σ H Q I q⟩
theorem PT.by {X : Cx} {e : Expr} {t : TT} (h : ∀ σ H Q, t σ H Q → ∃ u, PT X e u ∧ u σ H Q) : PT X e t := ⟨fun pins s σ H Q I w => by
  obtain ⟨u, p, q⟩ := h σ H Q w
  exact p.run pins s σ H Q I q⟩
theorem PS.by {X : Cx} {e : Stmt} {t : TS} (h : ∀ D σ H, t D σ H → ∃ u, PS X e u ∧ u D σ H) : PS X e t := ⟨fun pins s σ H D I w => by
  obtain ⟨u, p, q⟩ := h D σ H w
  exact p.run pins s σ H D I q⟩
section
variable {K : PySem.W.Frag} {Tb : List (Addr × Option Str)} {β α : List Addr} {st : St} {H : Hp} {σ : L2.St} {env : Env}
theorem tOf_bnd {m : Env → M D} {α' : Type} {F : D → M α'} {S : ∀ (α : List Addr), Res α' → Hp → Prop} {R : VK} (o : Ok K Tb β α st H) (e : EnvOk K α (Mk (β ++ α) H) env σ)
    (h : S α (bnd (m env) F st) H) (hbad : ∀ α H, ¬ S α .bad H) (hst : ∀ α1 H1 r, Stp α α1 H H1 → S α r H → S α1 r H1)
    (k : ∀ d st1 v α1 H1, m env st = .ok d st1 → Stp α α1 H H1 → Ok K Tb β α1 st1 H1 → EnvOk K α1 (Mk (β ++ α1) H1) env σ → Rep K α1 (Mk (β ++ α1) H1) d v → S α1 (F d st1) H1 → R v H1) : tOf K Tb m σ H R := by
  refine ⟨β, α, st, env, o, e, ?_⟩
  unfold bnd at h
  cases q : m env st with
  | bad =>
    rw [q] at h
    exact hbad α H h
  | ok d st1 =>
    rw [q] at h
    exact fun v α1 H1 s o1 r => k d st1 v α1 H1 q s o1 (e.mono s.pre (s.le β)) r (hst α1 H1 _ s h)
theorem tOfL_bnd {m : Env → M (List D)} {α' : Type} {F : List D → M α'} {S : ∀ (α : List Addr), Res α' → Hp → Prop} {R : List V → Hp → Prop} (o : Ok K Tb β α st H) (e : EnvOk K α (Mk (β ++ α) H) env σ)
    (h : S α (bnd (m env) F st) H) (hbad : ∀ α H, ¬ S α .bad H) (hst : ∀ α1 H1 r, Stp α α1 H H1 → S α r H → S α1 r H1)
    (k : ∀ l st1 xs α1 H1, m env st = .ok l st1 → Stp α α1 H H1 → Ok K Tb β α1 st1 H1 → EnvOk K α1 (Mk (β ++ α1) H1) env σ → Reps K α1 (Mk (β ++ α1) H1) l xs → S α1 (F l st1) H1 → R xs H1) : tOfL K Tb m σ H R := by
  refine ⟨β, α, st, env, o, e, ?_⟩
  unfold bnd at h
  cases q : m env st with
  | bad =>
    rw [q] at h
    exact hbad α H h
  | ok d st1 =>
    rw [q] at h
    exact fun v α1 H1 s o1 r => k d st1 v α1 H1 q s o1 (e.mono s.pre (s.le β)) r (hst α1 H1 _ s h)
theorem tOfB_bnd {m : Env → M Bool} {α' : Type} {F : Bool → M α'} {S : ∀ (α : List Addr), Res α' → Hp → Prop} {R : Bool → Hp → Prop} (o : Ok K Tb β α st H) (e : EnvOk K α (Mk (β ++ α) H) env σ)
    (h : S α (bnd (m env) F st) H) (hbad : ∀ α H, ¬ S α .bad H) (hst : ∀ α1 H1 r, Stp α α1 H H1 → S α r H → S α1 r H1)
    (k : ∀ b st1 α1 H1, m env st = .ok b st1 → Stp α α1 H H1 → Ok K Tb β α1 st1 H1 → EnvOk K α1 (Mk (β ++ α1) H1) env σ → S α1 (F b st1) H1 → R b H1) : tOfB K Tb m σ H R := by
  refine ⟨β, α, st, env, o, e, ?_⟩
  unfold bnd at h
  cases q : m env st with
  | bad =>
    rw [q] at h
    exact hbad α H h
  | ok d st1 =>
    rw [q] at h
    exact fun α1 H1 s o1 => k d st1 α1 H1 q s o1 (e.mono s.pre (s.le β)) (hst α1 H1 _ s h)
end
end Mp
end
section
set_option Elab.async false
set_option linter.all false
set_option maxRecDepth 100000
/-! Operations on values. -/
namespace Mp
open PySem PySem.Spec L2 PyProof.Rows
section
variable {K : PySem.W.Frag} {Tb : List (Addr × Option Str)} {β α : List Addr} {st : St} {H : Hp}
/-- looked at: a list that may change is its items -/
def Vw (K : PySem.W.Frag) (α : List Addr) (G H : Hp) (d : D) (v : V) : Prop := match d with
  | .lst l => ∃ a xs, v = .ref a ∧ H a = some (.lst xs) ∧ Reps K α G l xs
  | .cell _ => False
  | d => Rep K α G d v
theorem Vw.rep {G : Hp} (hG : LeG G H) {d : D} {v : V} (h : Vw K α G H d v) : Rep K α H d v := by
  cases d with
  | lst l =>
    obtain ⟨a, xs, e, h1, h2⟩ := h
    exact ⟨a, xs, e, h1, Reps.mono List.prefix_rfl hG l xs h2⟩
  | cell k => exact h.elim
  | _ => exact Rep.mono List.prefix_rfl hG _ _ h
theorem deref_vw {d d' : D} {v : V} {st' : St} (o : Ok K Tb β α st H) (r : Rep K α (Mk (β ++ α) H) d v) (h : deref d st = .ok d' st') : st' = st ∧ Vw K α (Mk (β ++ α) H) H d' v := by
  cases d with
  | cell k =>
    obtain ⟨a, rfl, e⟩ := r
    obtain ⟨l, xs, e1, e2, e3⟩ := o.mem_of e
    simp only [deref, e1] at h
    cases h
    exact ⟨rfl, a, xs, rfl, e2, e3⟩
  | lst l =>
    cases h
    obtain ⟨a, xs, e, h1, h2⟩ := r
    exact ⟨rfl, a, xs, e, (mk_some h1).2, h2⟩
  | _ =>
    cases h
    exact ⟨rfl, r⟩
theorem sat_bnd {γ : Type} {m : M γ} {F : γ → M D} {Q : VK} (h : Sat K Tb β α (bnd m F st) H Q) : ∃ a st', m st = .ok a st' ∧ Sat K Tb β α (F a st') H Q := by
  unfold bnd at h
  split at h
  · exact ⟨_, _, by assumption, h⟩
  · exact h.elim
theorem sat_deref {d : D} {v : V} {F : D → M D} {Q : VK} (o : Ok K Tb β α st H) (r : Rep K α (Mk (β ++ α) H) d v) (h : Sat K Tb β α (bnd (deref d) F st) H Q) :
    ∃ d', Vw K α (Mk (β ++ α) H) H d' v ∧ Sat K Tb β α (F d' st) H Q := by
  obtain ⟨a, st', e, h2⟩ := sat_bnd h
  obtain ⟨e1, hv⟩ := deref_vw o r e
  rw [e1] at h2
  exact ⟨a, hv, h2⟩
theorem line_eq : line = sizeLine := by rw [sizeLine_eq]; rfl
theorem lenOk_le {l : List D} (h : lenOk l = true) : l.length ≤ sizeLine := by
  rw [← line_eq]
  exact Nat.le_of_ble_eq_true h
theorem Ok.out (o : Ok K Tb β α st H) {p : Addr} (hp : H p = none) : p ∉ β ++ α := fun z => by
  rcases List.mem_append.mp z with z | z
  · obtain ⟨_, e⟩ := o.bl p z
    rw [hp] at e
    cases e
  · obtain ⟨_, e⟩ := o.tracked z
    rw [hp] at e
    cases e
theorem laid_lst {l : List D} {xs : List V} {p : Addr} (hp : H p = none) (o : Ok K Tb β α st H) (r : Reps K α (Mk (β ++ α) H) l xs) : Rep K α (Mk (β ++ α) (upd H p (.lst xs))) (.lst l) (.ref p) :=
  ⟨p, xs, rfl, by rw [mk_out (o.out hp), upd_same], (Stp.laid hp).reps r⟩
theorem laid_tup {l : List D} {xs : List V} {p : Addr} (hp : H p = none) (o : Ok K Tb β α st H) (r : Reps K α (Mk (β ++ α) H) l xs) : Rep K α (Mk (β ++ α) (upd H p (.tup xs))) (.tup l) (.ref p) :=
  ⟨p, xs, rfl, .inl (.inl (by rw [mk_out (o.out hp), upd_same])), (Stp.laid hp).reps r⟩
/-- a new list, a new tuple -/
theorem Sat.newLst {l : List D} {xs : List V} {p : Addr} {Q : VK} (h : Sat K Tb β α (.ok (.lst l) st) H Q) (o : Ok K Tb β α st H) (hp : H p = none) (r : Reps K α (Mk (β ++ α) H) l xs) : Q (.ref p) (upd H p (.lst xs)) :=
  h _ _ _ (Stp.laid hp) (o.laid hp) (laid_lst hp o r)
theorem Sat.newTup {l : List D} {xs : List V} {p : Addr} {Q : VK} (h : Sat K Tb β α (.ok (.tup l) st) H Q) (o : Ok K Tb β α st H) (hp : H p = none) (r : Reps K α (Mk (β ++ α) H) l xs) : Q (.ref p) (upd H p (.tup xs)) :=
  h _ _ _ (Stp.laid hp) (o.laid hp) (laid_tup hp o r)
theorem Vw.items {G : Hp} {d : D} {v : V} {l : List D} (h : Vw K α G H d v) (hG : LeG G H) (e : Mp.items d = some l) : ∃ a xs, v = .ref a ∧ (SqL K H a xs ∨ SqT K H a xs) ∧ Reps K α G l xs := by
  cases d with
  | lst m =>
    cases e
    obtain ⟨a, xs, e, h1, h2⟩ := h
    exact ⟨a, xs, e, .inl (.inl (.inl h1)), h2⟩
  | tup m =>
    cases e
    obtain ⟨a, xs, e, h1, h2⟩ := h
    exact ⟨a, xs, e, .inr (hG.sqT h1), h2⟩
  | _ => cases e
theorem Reps.nil_iff {G : Hp} {l : List D} {xs : List V} (h : Reps K α G l xs) : xs = [] ↔ l = [] := by
  have e := h.length
  constructor
  · intro z
    rw [z] at e
    exact List.eq_nil_of_length_eq_zero e.symm
  · intro z
    rw [z] at e
    exact List.eq_nil_of_length_eq_zero e
end

def Bin.op : Bin → Operator
  | .add => .Add
  | .sub => .Sub
  | .mul => .Mult
  | .fdiv => .FloorDiv
  | .mod => .Mod
  | .pow => .Pow
def Cmp.op : Cmp → CmpOp
  | .eq => .Eq
  | .ne => .NotEq
  | .lt => .Lt
  | .le => .LtE
  | .gt => .Gt
  | .ge => .GtE
  | .mem => .In
  | .nmem => .NotIn
  | .is => .Is
  | .isn => .IsNot
section
variable {X : Cx} {Tb : List (Addr × Option Str)}
def rBin (K : PySem.W.Frag) (Tb : List (Addr × Option Str)) (o : Bin) : R2 := fun x y H Q => ∃ β α st a b, Ok K Tb β α st H ∧ Rep K α (Mk (β ++ α) H) a x ∧ Rep K α (Mk (β ++ α) H) b y ∧ Sat K Tb β α (binD o a b st) H Q
theorem op_bin (o : Bin) : OpR X (binaryOp o.op) (rBin X.K Tb o) := by
  intro pins s σ H x y v u Q I rx ry h
  obtain ⟨β, α, st, a, b, ok, ra, rb, h⟩ := h
  obtain ⟨a1, ra1, h1⟩ := sat_deref ok ra h
  obtain ⟨b1, rb1, h2⟩ := sat_deref ok rb h1
  clear h h1 ra rb
  have ra := ra1
  have rb := rb1
  have h := h2
  clear ra1 rb1 h2
  cases a1 <;> cases b1 <;> (try (cases o <;> exact h.elim))
  -- two ints
  · rename_i i j
    obtain rfl : x = .int i := ra
    obtain rfl : y = .int j := rb
    cases o with
    | add => exact op_add pins s σ H _ _ v u Q I rx ry ⟨i, j, rfl, rfl, h.here ok rfl⟩
    | sub => exact op_sub pins s σ H _ _ v u Q I rx ry ⟨i, j, rfl, rfl, h.here ok rfl⟩
    | mul =>
      simp only [binS, binI] at h
      split at h
      · rename_i hm
        refine op_mul pins s σ H _ _ v u Q I rx ry ⟨i, j, rfl, rfl, ?_, h.here ok rfl⟩
        simpa [mulOk, CMul] using hm
      · exact h.elim
    | fdiv =>
      simp only [binS, binI] at h
      split at h
      · rename_i hm
        refine op_fdivN pins s σ H _ _ v u Q I rx ry ⟨i, j, rfl, rfl, ?_, h.here ok rfl⟩
        simp only [Bool.and_eq_true, decide_eq_true_eq] at hm
        exact ⟨by simpa using hm.1, hm.2⟩
      · exact h.elim
    | mod =>
      simp only [binS, binI] at h
      split at h
      · rename_i hm
        exact op_modN pins s σ H _ _ v u Q I rx ry ⟨i, j, rfl, rfl, by simpa using hm, h.here ok rfl⟩
      · exact h.elim
    | pow =>
      simp only [binS, binI] at h
      split at h
      · rename_i hm
        refine op_pow pins s σ H _ _ v u Q I rx ry ⟨i, j, rfl, rfl, ?_, h.here ok rfl⟩
        simp only [Bool.and_eq_true, decide_eq_true_eq] at hm
        exact ⟨hm.1.1, by omega, hm.2⟩
      · exact h.elim
  -- two tuples
  · rename_i l m
    cases o with
    | add =>
      obtain ⟨p, xs, rfl, h1, h2⟩ := ra
      obtain ⟨q, ys, rfl, h3, h4⟩ := rb
      simp only [binS, retTup] at h
      split at h
      · rename_i hl
        have hz := lenOk_le hl
        have hr := h2.append h4
        refine op_catA pins s σ H _ _ v u Q I rx ry ⟨p, q, xs, ys, rfl, rfl, LeG.mk.sqT h1, LeG.mk.sqT h3, ?_, fun e => ?_, fun e e2 => ?_, fun _ _ p hp => h.newTup ok hp hr⟩
        · rw [h2.length, h4.length, ← List.length_append]
          exact hz
        · have : l = [] := h2.nil_iff.mp e
          subst this
          exact h.here ok ⟨q, ys, rfl, h3, h4⟩
        · have : m = [] := h4.nil_iff.mp e2
          subst this
          rw [List.append_nil] at h
          exact h.here ok ⟨p, xs, rfl, h1, h2⟩
      · exact h.elim
    | _ => exact h.elim
  -- a list and an int
  · rename_i l k
    cases o with
    | mul =>
      obtain ⟨p, xs, rfl, h1, h2⟩ := ra
      obtain rfl : y = .int k := rb
      simp only [binS] at h
      split at h
      · rename_i hm
        simp only [Bool.and_eq_true, decide_eq_true_eq] at hm
        have hz : l.length * k.toNat ≤ sizeLine := by rw [← line_eq]; exact Nat.le_of_ble_eq_true hm.2
        refine op_rep pins s σ H _ _ v u Q I rx ry ⟨p, k, xs, rfl, rfl, h1, by omega, hm.1.2, ?_, fun p hp => h.newLst ok hp (h2.flatten _)⟩
        rw [h2.length]
        exact hz
      · exact h.elim
    | _ => exact h.elim
  -- two lists
  · rename_i l m
    cases o with
    | add =>
      obtain ⟨p, xs, rfl, h1, h2⟩ := ra
      obtain ⟨q, ys, rfl, h3, h4⟩ := rb
      simp only [binS, retLst] at h
      split at h
      · rename_i hl
        have hz := lenOk_le hl
        refine op_cat pins s σ H _ _ v u Q I rx ry ⟨p, q, xs, ys, rfl, rfl, h1, h3, ?_, fun p hp => h.newLst ok hp (h2.append h4)⟩
        rw [h2.length, h4.length, ← List.length_append]
        exact hz
      · exact h.elim
    | _ => exact h.elim
end
end Mp
end
section
set_option Elab.async false
set_option linter.all false
set_option maxRecDepth 100000
/-! Comparisons, calls of built-ins on values. -/
namespace Mp
open PySem PySem.Spec L2 PyProof.Rows
mutual
theorem D.alike_py : ∀ a b : D, D.alike a b = true → PySem.W.alike (D.py a) (D.py b) = true
  | a, b, h => by
    cases a <;> cases b <;> first
      | (simp only [D.alike] at h; cases h; done)
      | (simp only [D.py, PySem.W.alike]; done)
      | (simp only [D.py, PySem.W.alike]
         simp only [D.alike] at h
         exact D.alikes_py _ _ h)
theorem D.alikes_py : ∀ l m : List D, D.alikes l m = true → PySem.W.alikeAll (D.pys l) (D.pys m) = true
  | [], m, _ => by simp only [D.pys, PySem.W.alikeAll]
  | _ :: _, [], _ => by simp only [D.pys, PySem.W.alikeAll]
  | a :: r, b :: s, h => by
    simp only [D.alikes, Bool.and_eq_true] at h
    simp only [D.pys, PySem.W.alikeAll, Bool.and_eq_true]
    exact ⟨D.alike_py a b h.1, D.alikes_py r s h.2⟩
end
mutual
theorem D.eq_alike : ∀ a b : D, D.alike a b = true → D.eq a b = PyData.eqv (D.py a) (D.py b)
  | a, b, h => by
    cases a <;> cases b <;> first
      | (simp only [D.alike] at h; cases h; done)
      | (simp only [D.eq, D.py, PyData.eqv]; done)
      | (simp only [D.eq, D.py, PyData.eqv]
         simp only [D.alike] at h
         exact D.eqs_alike _ _ h)
theorem D.eqs_alike : ∀ l m : List D, D.alikes l m = true → D.eqs l m = PyData.eqvAll (D.pys l) (D.pys m)
  | [], [], _ => by simp only [D.eqs, D.pys, PyData.eqvAll]
  | [], _ :: _, _ => by simp only [D.eqs, D.pys, PyData.eqvAll]
  | _ :: _, [], _ => by simp only [D.eqs, D.pys, PyData.eqvAll]
  | a :: r, b :: s, h => by
    simp only [D.alikes, Bool.and_eq_true] at h
    simp only [D.eqs, D.pys, PyData.eqvAll]
    rw [D.eq_alike a b h.1, D.eqs_alike r s h.2]
end
mutual
theorem D.lt_py : ∀ a b : D, D.alike a b = true → D.lt a b = PySem.W.dataLt (D.py a) (D.py b)
  | a, b, h => by
    cases a <;> cases b <;> first
      | (simp only [D.alike] at h; cases h; done)
      | (simp only [D.lt, D.py, PySem.W.dataLt_int]; done)
      | (simp only [D.lt, D.py, PySem.W.dataLt_str]; done)
      | (simp only [D.lt, D.py, PySem.W.dataLt_tuple]
         simp only [D.alike] at h
         exact D.lts_py _ _ h)
      | (simp only [D.lt, D.py, PySem.W.dataLt_list]
         simp only [D.alike] at h
         exact D.lts_py _ _ h)
theorem D.lts_py : ∀ l m : List D, D.alikes l m = true → D.lts l m = PyProof.Rows.lexLt PyProof.Rows.itemOrd (PySem.W.keyToksAll (D.pys l)) (PySem.W.keyToksAll (D.pys m))
  | [], [], _ => by simp [D.lts, D.pys, PySem.W.keyToksAll, PyProof.Rows.lex_irrefl]
  | [], b :: s, _ => by
    have e := PySem.W.firstLt_toks [] (D.pys (b :: s)) (by simp only [D.pys, PySem.W.alikeAll])
    simp only [D.lts, D.pys] at e ⊢
    rw [← e]
    simp [SeqAt.firstLt]
  | a :: r, [], _ => by
    have e := PySem.W.firstLt_toks (D.pys (a :: r)) [] (by simp only [D.pys, PySem.W.alikeAll])
    simp only [D.lts, D.pys] at e ⊢
    rw [← e]
    simp [SeqAt.firstLt]
  | a :: r, b :: s, h => by
    simp only [D.alikes, Bool.and_eq_true] at h
    simp only [D.lts, D.pys]
    rw [D.eq_alike a b h.1]
    cases q : PyData.eqv (D.py a) (D.py b) with
    | true =>
      rw [if_pos rfl, PySem.W.dataLt_all_yes (D.alike_py a b h.1) q]
      exact D.lts_py r s h.2
    | false =>
      rw [if_neg (by simp), PySem.W.dataLt_all_no (D.alike_py a b h.1) q]
      exact D.lt_py a b h.1
end
section
variable {X : Cx} {Tb : List (Addr × Option Str)}
theorem D.ok_lay {d : D} (h : d.ok = true) : (D.py d).canLay0 = true ∧ (D.py d).depth ≤ 60 := D.shp_lay 60 d h
def rCmp (K : PySem.W.Frag) (Tb : List (Addr × Option Str)) (o : Cmp) : R2 := fun x y H Q => ∃ β α st a b, Ok K Tb β α st H ∧ Rep K α (Mk (β ++ α) H) a x ∧ Rep K α (Mk (β ++ α) H) b y ∧ Sat K Tb β α (cmpD o a b st) H Q
theorem any_py (a : D) (ha : a.ok = true) : ∀ l : List D, D.shps 60 l = true → ((D.pys l).any fun z => PyData.eqv z (D.py a)) = l.any fun z => D.eq z a
  | [], _ => by simp [D.pys]
  | d :: r, h => by
    simp only [D.shps, Bool.and_eq_true] at h
    simp only [D.pys, List.any_cons]
    rw [any_py a ha r h.2, D.eq_py 60 d a h.1 ha]
mutual
theorem shp_more : ∀ (n : Nat) (d : D), D.shp n d = true → D.shp (n + 1) d = true
  | _, .non, _ => by simp [D.shp]
  | _, .bl _, _ => by simp [D.shp]
  | _, .int _, _ => by simp [D.shp]
  | _, .str _, h => by simpa [D.shp] using h
  | 0, .tup l, h => by simp [D.shp] at h
  | n + 1, .tup l, h => by
    simp only [D.shp] at h ⊢
    exact shps_more n l h
  | 0, .lst l, h => by simp [D.shp] at h
  | n + 1, .lst l, h => by
    simp only [D.shp] at h ⊢
    exact shps_more n l h
  | _, .scr _, h => by simp [D.shp] at h
  | _, .cell _, h => by simp [D.shp] at h
theorem shps_more : ∀ (n : Nat) (l : List D), D.shps n l = true → D.shps (n + 1) l = true
  | _, [], _ => by simp [D.shps]
  | n, d :: r, h => by
    simp only [D.shps, Bool.and_eq_true] at h ⊢
    exact ⟨shp_more n d h.1, shps_more n r h.2⟩
end
theorem op_cmp (hu : X.A.units + 65 < cLine) (o : Cmp) : OpR X (compareOp o.op) (rCmp X.K Tb o) := by
  intro pins s σ H x y v u Q I rx ry h
  obtain ⟨β, α, st, a0, b0, ok, ra0, rb0, h⟩ := h
  obtain ⟨a, ra, h1⟩ := sat_deref ok ra0 h
  obtain ⟨b, rb, h2⟩ := sat_deref ok rb0 h1
  clear h h1 ra0 rb0
  have h := h2
  clear h2
  have da : a.ok = true → Dp X.K H x (D.py a) := fun e => Rep.dp (LeG.refl H) 60 a x e (ra.rep LeG.mk)
  have db : b.ok = true → Dp X.K H y (D.py b) := fun e => Rep.dp (LeG.refl H) 60 b y e (rb.rep LeG.mk)
  cases o with
  | eq =>
    simp only [cmpS] at h
    split at h
    · rename_i hm
      rw [Bool.and_eq_true] at hm
      refine op_eqD (by omega) pins s σ H _ _ v u Q I rx ry ⟨_, _, da hm.1, db hm.2, D.ok_shaped hm.1, D.ok_shaped hm.2, ?_⟩
      rw [← D.eq_py 60 a b hm.1 hm.2]
      exact h.here ok rfl
    · exact h.elim
  | ne =>
    simp only [cmpS] at h
    split at h
    · rename_i hm
      rw [Bool.and_eq_true] at hm
      refine op_neD (by omega) pins s σ H _ _ v u Q I rx ry ⟨_, _, da hm.1, db hm.2, D.ok_shaped hm.1, D.ok_shaped hm.2, ?_⟩
      rw [← D.eq_py 60 a b hm.1 hm.2]
      exact h.here ok rfl
    · exact h.elim
  | mem =>
    cases b with
    | lst l =>
      simp only [cmpS] at h
      split at h
      · rename_i hm
        rw [Bool.and_eq_true] at hm
        have hd := db hm.2
        rw [D.py] at hd
        refine op_inD hu pins s σ H _ _ v u Q I rx ry ⟨_, _, da hm.1, hd, D.ok_shaped hm.1, by have := D.ok_shaped hm.2; rwa [D.py] at this, ?_⟩
        have hs : D.shps 59 l = true := by simpa [D.ok, D.shp] using hm.2
        rw [any_py a hm.1 l (shps_more 59 l hs)]
        exact h.here ok rfl
      · exact h.elim
    | tup l =>
      simp only [cmpS] at h
      split at h
      · rename_i hm
        rw [Bool.and_eq_true] at hm
        have hd := db hm.2
        rw [D.py] at hd
        obtain ⟨as, r1⟩ := Dp.reads I _ x v (da hm.1) rx
        obtain ⟨bs, r2⟩ := Dp.reads I _ y u hd ry
        have hs : D.shps 59 l = true := by simpa [D.ok, D.shp] using hm.2
        have k1 := D.ok_lay hm.1
        refine SeqAt.in_tuple_reads r2 r1 (D.shps_lay 59 l hs).1 k1.1 (by have := k1.2; omega) ⟨.bl _, H, I, rfl, ?_⟩
        rw [any_py a hm.1 l (shps_more 59 l hs)]
        exact h.here ok rfl
      · exact h.elim
    | _ => exact h.elim
  | nmem =>
    cases b with
    | lst l =>
      simp only [cmpS] at h
      split at h
      · rename_i hm
        rw [Bool.and_eq_true] at hm
        have hd := db hm.2
        rw [D.py] at hd
        refine op_notInD hu pins s σ H _ _ v u Q I rx ry ⟨_, _, da hm.1, hd, D.ok_shaped hm.1, by have := D.ok_shaped hm.2; rwa [D.py] at this, ?_⟩
        have hs : D.shps 59 l = true := by simpa [D.ok, D.shp] using hm.2
        rw [any_py a hm.1 l (shps_more 59 l hs)]
        exact h.here ok rfl
      · exact h.elim
    | tup l =>
      simp only [cmpS] at h
      split at h
      · rename_i hm
        rw [Bool.and_eq_true] at hm
        have hd := db hm.2
        rw [D.py] at hd
        obtain ⟨as, r1⟩ := Dp.reads I _ x v (da hm.1) rx
        obtain ⟨bs, r2⟩ := Dp.reads I _ y u hd ry
        have hs : D.shps 59 l = true := by simpa [D.ok, D.shp] using hm.2
        have k1 := D.ok_lay hm.1
        refine SeqAt.notIn_tuple_reads r2 r1 (D.shps_lay 59 l hs).1 k1.1 (by have := k1.2; omega) ⟨.bl _, H, I, rfl, ?_⟩
        rw [any_py a hm.1 l (shps_more 59 l hs)]
        exact h.here ok rfl
      · exact h.elim
    | _ => exact h.elim
  | lt =>
    cases a <;> cases b <;> (try exact h.elim)
    · obtain rfl : x = .int _ := ra
      obtain rfl : y = .int _ := rb
      exact op_lt pins s σ H _ _ v u Q I rx ry ⟨_, _, rfl, rfl, h.here ok rfl⟩
    · rename_i l m
      simp only [cmpS] at h
      split at h
      · rename_i hm
        simp only [Bool.and_eq_true] at hm
        obtain ⟨as, r1⟩ := Dp.reads I _ x v (da hm.1.1) rx
        obtain ⟨bs, r2⟩ := Dp.reads I _ y u (db hm.1.2) ry
        have hal : D.alike (.tup l) (.tup m) = true := by simp only [D.alike]; exact hm.2
        have k1 := D.ok_lay hm.1.1
        have hlt := PySem.W.rcLt_alike _ _ X.A s v u as bs r1 r2 (D.alike_py _ _ hal) (by rw [D.py]; intro z; cases z) (by have := k1.2; omega)
        refine hlt X.prog X.w X.xe _ ⟨.bl _, H, I, rfl, ?_⟩
        rw [← D.lt_py _ _ hal]
        simp only [D.lt]
        exact h.here ok rfl
      · exact h.elim
  | le =>
    cases a <;> cases b <;> (try exact h.elim)
    obtain rfl : x = .int _ := ra
    obtain rfl : y = .int _ := rb
    exact op_le pins s σ H _ _ v u Q I rx ry ⟨_, _, rfl, rfl, h.here ok rfl⟩
  | gt =>
    cases a <;> cases b <;> (try exact h.elim)
    obtain rfl : x = .int _ := ra
    obtain rfl : y = .int _ := rb
    exact op_gt pins s σ H _ _ v u Q I rx ry ⟨_, _, rfl, rfl, h.here ok rfl⟩
  | ge =>
    cases a <;> cases b <;> (try exact h.elim)
    obtain rfl : x = .int _ := ra
    obtain rfl : y = .int _ := rb
    exact op_ge pins s σ H _ _ v u Q I rx ry ⟨_, _, rfl, rfl, h.here ok rfl⟩
  | is =>
    cases b with
    | non =>
      obtain rfl : y = .non := rb
      refine op_isN pins s σ H _ _ v u Q I rx ry ⟨rfl, ?_⟩
      have e : isNon a = decide (x = .non) := by
        cases a with
        | non => obtain rfl : x = .non := ra; rfl
        | cell k => exact ra.elim
        | lst l => obtain ⟨p, xs, rfl, _⟩ := ra; rfl
        | tup l => obtain ⟨p, xs, rfl, _⟩ := ra; rfl
        | scr l => obtain ⟨p, rfl, _⟩ := ra; rfl
        | bl _ => obtain rfl : x = .bl _ := ra; rfl
        | int _ => obtain rfl : x = .int _ := ra; rfl
        | str _ => obtain rfl : x = .str _ := ra; rfl
      rw [← e]
      exact h.here ok rfl
    | _ => exact h.elim
  | isn =>
    cases b with
    | non =>
      obtain rfl : y = .non := rb
      refine op_notN pins s σ H _ _ v u Q I rx ry ⟨rfl, ?_⟩
      have e : isNon a = decide (x = .non) := by
        cases a with
        | non => obtain rfl : x = .non := ra; rfl
        | cell k => exact ra.elim
        | lst l => obtain ⟨p, xs, rfl, _⟩ := ra; rfl
        | tup l => obtain ⟨p, xs, rfl, _⟩ := ra; rfl
        | scr l => obtain ⟨p, rfl, _⟩ := ra; rfl
        | bl _ => obtain rfl : x = .bl _ := ra; rfl
        | int _ => obtain rfl : x = .int _ := ra; rfl
        | str _ => obtain rfl : x = .str _ := ra; rfl
      rw [← e]
      exact h.here ok rfl
    | _ => exact h.elim
end
end Mp
end
section
set_option Elab.async false
set_option linter.all false
set_option maxRecDepth 100000
/-! Sorting. -/
namespace Mp
open PySem PySem.Spec L2 PyProof.Rows
section
variable {α : Type} {le : α → α → Bool}
theorem mem_ins {x y : α} : ∀ {l : List α}, y ∈ ins le x l ↔ y = x ∨ y ∈ l
  | [] => by simp [ins]
  | z :: r => by
    unfold ins
    split
    · simp
    · rw [List.mem_cons, mem_ins (l := r), List.mem_cons]
      constructor
      · rintro (h | h | h) <;> simp [h]
      · rintro (h | h | h) <;> simp [h]
theorem mem_isort {y : α} : ∀ {l : List α}, y ∈ isort le l ↔ y ∈ l
  | [] => by simp [isort]
  | x :: r => by rw [isort, mem_ins, mem_isort (l := r), List.mem_cons]
theorem length_ins {x : α} : ∀ l : List α, (ins le x l).length = l.length + 1
  | [] => rfl
  | y :: r => by
    unfold ins
    split
    · rfl
    · rw [List.length_cons, length_ins r, List.length_cons]
theorem length_isort : ∀ l : List α, (isort le l).length = l.length
  | [] => rfl
  | x :: r => by rw [isort, length_ins, length_isort r, List.length_cons]
theorem perm_ins {x : α} : ∀ l : List α, (ins le x l).Perm (x :: l)
  | [] => List.Perm.refl _
  | y :: r => by
    unfold ins
    split
    · exact List.Perm.refl _
    · exact ((perm_ins r).cons y).trans (List.Perm.swap x y r)
theorem perm_isort : ∀ l : List α, (isort le l).Perm l
  | [] => List.Perm.refl _
  | x :: r => (perm_ins _).trans ((perm_isort r).cons x)
theorem ins_congr {le' : α → α → Bool} {x : α} : ∀ {l : List α}, (∀ y ∈ l, le x y = le' x y) → ins le x l = ins le' x l
  | [], _ => rfl
  | y :: r, h => by
    unfold ins
    rw [h y List.mem_cons_self, ins_congr fun z hz => h z (List.mem_cons_of_mem _ hz)]
theorem isort_congr {le' : α → α → Bool} : ∀ {l : List α}, (∀ x ∈ l, ∀ y ∈ l, le x y = le' x y) → isort le l = isort le' l
  | [], _ => rfl
  | x :: r, h => by
    rw [isort, isort, isort_congr fun y hy z hz => h y (List.mem_cons_of_mem _ hy) z (List.mem_cons_of_mem _ hz)]
    exact ins_congr fun y hy => h x List.mem_cons_self y (List.mem_cons_of_mem _ (mem_isort.mp hy))
theorem sorted_ins (T : PySem.W.TotalLe le) {x : α} : ∀ {l : List α}, l.Pairwise (fun a b => le a b = true) → (ins le x l).Pairwise (fun a b => le a b = true)
  | [], _ => List.pairwise_singleton _ _
  | y :: r, h => by
    obtain ⟨h1, h2⟩ := List.pairwise_cons.mp h
    unfold ins
    split
    · rename_i hx
      refine List.pairwise_cons.mpr ⟨fun z hz => ?_, h⟩
      rcases List.mem_cons.mp hz with rfl | hz
      · exact hx
      · exact T.trans _ _ _ hx (h1 z hz)
    · rename_i hx
      refine List.pairwise_cons.mpr ⟨fun z hz => ?_, sorted_ins T h2⟩
      rcases mem_ins.mp hz with rfl | hz
      · exact (T.total _ _).resolve_left hx
      · exact h1 z hz
theorem sorted_isort (T : PySem.W.TotalLe le) : ∀ l : List α, (isort le l).Pairwise (fun a b => le a b = true)
  | [] => List.Pairwise.nil
  | x :: r => sorted_ins T (sorted_isort T r)
theorem filter_ins (T : PySem.W.TotalLe le) (c : α) {x : α} : ∀ {l : List α}, l.Pairwise (fun a b => le a b = true) → (ins le x l).filter (PySem.W.sameRank le c) = (x :: l).filter (PySem.W.sameRank le c)
  | [], _ => rfl
  | y :: r, h => by
    obtain ⟨h1, h2⟩ := List.pairwise_cons.mp h
    unfold ins
    split
    · rfl
    · rename_i hx
      rw [List.filter_cons, filter_ins T c h2, List.filter_cons (x := x) (xs := r), List.filter_cons (x := x) (xs := y :: r), List.filter_cons (x := y) (xs := r)]
      by_cases a : PySem.W.sameRank le c x = true
      · by_cases b : PySem.W.sameRank le c y = true
        · exfalso
          unfold PySem.W.sameRank at a b
          rw [Bool.and_eq_true] at a b
          exact hx (T.trans _ _ _ a.2 b.1)
        · rw [if_neg b, if_pos a, if_neg b, if_pos a]
      · rw [if_neg a, if_neg a]
theorem filter_isort (T : PySem.W.TotalLe le) (c : α) : ∀ l : List α, (isort le l).filter (PySem.W.sameRank le c) = l.filter (PySem.W.sameRank le c)
  | [] => rfl
  | x :: r => by
    rw [isort, filter_ins T c (sorted_isort T r), List.filter_cons, filter_isort T c r, List.filter_cons]
theorem isort_merge (T : PySem.W.TotalLe le) (l : List α) : isort le l = l.mergeSort le :=
  PySem.W.sort_unique T (sorted_isort T l) fun c => filter_isort T c l
end
theorem leD_py {a b : D} (h : D.alike b a = true) : leD a b = PySem.W.dataLe false D.py a b := by
  unfold leD
  rw [D.lt_py b a h, PySem.W.dataLe_eq]
  rfl
theorem total_py {β : Type} (k : β → PyData) : PySem.W.TotalLe (PySem.W.dataLe false k) := PySem.W.sortLe_total _ _ _
theorem isort_py {l : List D} (h : ∀ a ∈ l, ∀ b ∈ l, D.alike a b = true) : l.mergeSort (PySem.W.dataLe false D.py) = isort leD l := by
  rw [← isort_merge (total_py D.py)]
  exact (isort_congr fun a ha b hb => leD_py (h b hb a ha)).symm
end Mp
end
section
set_option Elab.async false
set_option linter.all false
set_option maxRecDepth 100000
/-! Subscripts, slices, built-ins. -/
namespace Mp
open PySem PySem.Spec L2 PyProof.Rows
section
variable {X : Cx} {Tb : List (Addr × Option Str)}
theorem sat_opt {K : PySem.W.Frag} {β α : List Addr} {st : St} {H : Hp} {o : Option D} {Q : VK} (h : Sat K Tb β α (opt o st) H Q) : ∃ d, o = some d ∧ Sat K Tb β α (.ok d st) H Q := by
  cases o with
  | none => exact h.elim
  | some d => exact ⟨d, rfl, h⟩
theorem atI_get {α : Type} {l : List α} {i : Int} {d : α} (h : atI l i = some d) : ∃ j, ixN l.length i = some j ∧ l[j]? = some d := by
  unfold atI at h
  cases q : ixN l.length i with
  | none => rw [q] at h; cases h
  | some j =>
    rw [q] at h
    exact ⟨j, rfl, h⟩
theorem atI_of {α : Type} {l : List α} {i : Int} {j n : Nat} {d : α} (h : ixN n i = some j) (hn : n = l.length) (e : l[j]? = some d) : atI l i = some d := by
  unfold atI
  rw [← hn, h]
  exact e
def rIdx (K : PySem.W.Frag) (Tb : List (Addr × Option Str)) : R2 := fun x y H Q => ∃ β α st a b, Ok K Tb β α st H ∧ Rep K α (Mk (β ++ α) H) a x ∧ Rep K α (Mk (β ++ α) H) b y ∧ Sat K Tb β α (idxD a b st) H Q
theorem ix_any : IxR X (rIdx X.K Tb) := by
  intro value slice pins s σ H x y v u Q I rx ry h hs
  obtain ⟨β, α, st, a0, b, ok, ra0, rb, h0⟩ := h
  obtain ⟨a, ra, h⟩ := sat_deref ok ra0 h0
  clear ra0 h0
  have go : rIx X.K x y H Q → _ := fun q => ix_seq value slice pins s σ H x y v u Q I rx ry q hs
  cases a <;> cases b <;> (try exact h.elim)
  · rename_i l i
    obtain ⟨p, xs, rfl, h1, h2⟩ := ra
    obtain rfl : y = .int i := rb
    obtain ⟨d, hd, h3⟩ := sat_opt h
    obtain ⟨j, e1, e2⟩ := atI_get hd
    obtain ⟨z, e3, r3⟩ := h2.get e2
    exact go (.inr (.inl ⟨p, xs, i, z, rfl, rfl, LeG.mk.sqT h1, atI_of e1 h2.length.symm e3, h3.here ok r3⟩))
  · rename_i l i
    obtain ⟨p, xs, rfl, h1, h2⟩ := ra
    obtain rfl : y = .int i := rb
    obtain ⟨d, hd, h3⟩ := sat_opt h
    obtain ⟨j, e1, e2⟩ := atI_get hd
    obtain ⟨z, e3, r3⟩ := h2.get e2
    exact go (.inl ⟨p, xs, i, z, rfl, rfl, .inl (.inl h1), atI_of e1 h2.length.symm e3, h3.here ok r3⟩)
  · rename_i l i
    obtain ⟨p, rfl, h1⟩ := ra
    obtain rfl : y = .int i := rb
    obtain ⟨d, hd, h3⟩ := sat_opt h
    obtain ⟨k, e0, rfl⟩ := Option.map_eq_some_iff.mp hd
    obtain ⟨j, e1, e2⟩ := atI_get e0
    exact go (.inl ⟨p, _, i, .int k, rfl, rfl, LeG.mk.sqL h1, atI_of e1 (List.length_map ..).symm (by rw [List.getElem?_map, e2]; rfl), h3.here ok rfl⟩)
def rSl (K : PySem.W.Frag) (Tb : List (Addr × Option Str)) : V → Option Int → Option Int → Hp → VK → Prop := fun x lo hi H Q => ∃ β α st a, Ok K Tb β α st H ∧ Rep K α (Mk (β ++ α) H) a x ∧ Sat K Tb β α (sliceD a (some lo) (some hi) st) H Q
theorem cut_reps {K : PySem.W.Frag} {α : List Addr} {G : Hp} {l : List D} {xs : List V} {lo hi : Option Int} (h : Reps K α G l xs) : Reps K α G (cut l lo hi) (cutV xs lo hi) := by
  unfold cut cutV
  rw [h.length]
  exact (h.drop _).take _
theorem sl_any : SlR X (rSl X.K Tb) := by
  intro pins s σ H x v vl vu lo hi sl Q I rx hs pl pu h
  obtain ⟨β, α, st, a0, ok, ra0, h0⟩ := h
  obtain ⟨a, ra, h⟩ := sat_deref ok ra0 h0
  clear ra0 h0
  cases a <;> (try (simp only [sliceS] at h; exact h.elim))
  · rename_i l
    simp only [sliceS] at h
    obtain ⟨p, xs, rfl, h1, h2⟩ := ra
    refine sl_tupA pins s σ H _ v vl vu lo hi sl Q I rx hs pl pu ⟨p, xs, rfl, LeG.mk.sqT h1, fun hw => ?_, fun _ q hq => h.newTup ok hq (cut_reps h2)⟩
    have e : cut l lo hi = l := by
      unfold cut
      rw [h2.length] at hw
      rw [hw.1, hw.2, List.drop_zero, Nat.sub_zero, List.take_length]
    rw [e] at h
    exact h.here ok ⟨p, xs, rfl, h1, h2⟩
  · rename_i l
    simp only [sliceS] at h
    obtain ⟨p, xs, rfl, h1, h2⟩ := ra
    exact sl_list pins s σ H _ v vl vu lo hi sl Q I rx hs pl pu ⟨p, xs, rfl, .inl (.inl h1), fun q hq => h.newLst ok hq (cut_reps h2)⟩
/-- a built-in on values -/
def rPrim (K : PySem.W.Frag) (Tb : List (Addr × Option Str)) (p : Prim) : List V → Hp → VK → Prop := fun xs H Q => ∃ β α st l, Ok K Tb β α st H ∧ Reps K α (Mk (β ++ α) H) l xs ∧ Sat K Tb β α (primD p l st) H Q
theorem intsOf_reps {K : PySem.W.Frag} {α : List Addr} {G : Hp} : ∀ {l : List D} {ns : List Int} {xs : List V}, intsOf l = some ns → Reps K α G l xs → xs = ns.map V.int
  | [], _, _, e, h => by
    cases e
    cases h
    rfl
  | d :: r, ns, _, e, ⟨x, ys, e2, h1, h2⟩ => by
    cases d with
    | int i =>
      simp only [intsOf] at e
      obtain ⟨ms, e3, rfl⟩ := Option.map_eq_some_iff.mp e
      rw [e2, intsOf_reps e3 h2]
      obtain rfl : x = .int i := h1
      rfl
    | _ => simp [intsOf] at e
theorem least_is {l : List Int} {m : Int} (h : leastI l = some m) : 0 < l.length ∧ m ∈ l ∧ ∀ y ∈ l, m ≤ y := by
  have key : ∀ (r : List Int) (a : Int), (r.foldl min a = a ∨ r.foldl min a ∈ r) ∧ r.foldl min a ≤ a ∧ ∀ y ∈ r, r.foldl min a ≤ y := by
    intro r
    induction r with
    | nil => intro a; simp
    | cons b r ih =>
      intro a
      obtain ⟨h1, h2, h3⟩ := ih (min a b)
      rw [List.foldl_cons]
      refine ⟨?_, by omega, fun y hy => ?_⟩
      · rcases h1 with h1 | h1
        · rw [h1]
          rcases Int.le_total a b with h | h
          · rw [Int.min_eq_left h]; exact .inl rfl
          · rw [Int.min_eq_right h]; exact .inr List.mem_cons_self
        · exact .inr (List.mem_cons_of_mem _ h1)
      · rcases List.mem_cons.mp hy with rfl | hy
        · omega
        · exact h3 y hy
  cases l with
  | nil => cases h
  | cons a r =>
    cases h
    obtain ⟨h1, h2, h3⟩ := key r a
    refine ⟨Nat.succ_pos _, ?_, fun y hy => ?_⟩
    · rcases h1 with h1 | h1
      · rw [h1]; exact List.mem_cons_self
      · exact List.mem_cons_of_mem _ h1
    · rcases List.mem_cons.mp hy with rfl | hy
      · exact h2
      · exact h3 y hy
theorem most_is {l : List Int} {m : Int} (h : mostI l = some m) : 0 < l.length ∧ m ∈ l ∧ ∀ y ∈ l, y ≤ m := by
  have key : ∀ (r : List Int) (a : Int), (r.foldl max a = a ∨ r.foldl max a ∈ r) ∧ a ≤ r.foldl max a ∧ ∀ y ∈ r, y ≤ r.foldl max a := by
    intro r
    induction r with
    | nil => intro a; simp
    | cons b r ih =>
      intro a
      obtain ⟨h1, h2, h3⟩ := ih (max a b)
      rw [List.foldl_cons]
      refine ⟨?_, by omega, fun y hy => ?_⟩
      · rcases h1 with h1 | h1
        · rw [h1]
          rcases Int.le_total b a with h | h
          · rw [Int.max_eq_left h]; exact .inl rfl
          · rw [Int.max_eq_right h]; exact .inr List.mem_cons_self
        · exact .inr (List.mem_cons_of_mem _ h1)
      · rcases List.mem_cons.mp hy with rfl | hy
        · omega
        · exact h3 y hy
  cases l with
  | nil => cases h
  | cons a r =>
    cases h
    obtain ⟨h1, h2, h3⟩ := key r a
    refine ⟨Nat.succ_pos _, ?_, fun y hy => ?_⟩
    · rcases h1 with h1 | h1
      · rw [h1]; exact List.mem_cons_self
      · exact List.mem_cons_of_mem _ h1
    · rcases List.mem_cons.mp hy with rfl | hy
      · exact h2
      · exact h3 y hy
end
end Mp
namespace Mp
open PySem PySem.Spec L2 PyProof.Rows
section
variable {X : Cx} {Tb : List (Addr × Option Str)}
def Prim.val : Prim → Value
  | .len => .builtin "len"
  | .tuple => .type "tuple"
  | .list => .type "list"
  | .sorted => .builtin "sorted"
  | .min => .builtin "min"
  | .max => .builtin "max"
  | .sum => .builtin "sum"
  | .int => .type "int"
  | .perm => .builtin "math.perm"
  | .isI _ => .builtin "isinstance"
theorem each_vals {K : PySem.W.Frag} {α : List Addr} {G : Hp} : ∀ {us : List Value} {l : List D}, PySem.W.EachIs (fun u d => ∃ x, RelV x u ∧ Rep K α G d x) us l → ∃ xs, Vals xs us ∧ Reps K α G l xs
  | _, _, .nil => ⟨[], .nil, rfl⟩
  | _, _, .cons ⟨x, h1, h2⟩ t => by
    obtain ⟨xs, h3, h4⟩ := each_vals t
    exact ⟨x :: xs, .cons h1 h3, x, xs, rfl, h2, h4⟩
theorem vals_each {K : PySem.W.Frag} {α : List Addr} {G : Hp} : ∀ {us : List Value} {l : List D} {xs : List V}, Vals xs us → Reps K α G l xs → PySem.W.EachIs (fun u d => ∃ x, RelV x u ∧ Rep K α G d x) us l
  | _, [], _, h, e => by
    cases e
    cases h
    exact .nil
  | _, d :: r, _, h, ⟨x, ys, e, h1, h2⟩ => by
    subst e
    cases h with
    | cons r1 r2 => exact .cons ⟨x, r1, h1⟩ (vals_each r2 h2)
theorem each_reads {α : List Addr} {G H : Hp} {pins : List (Addr × Obj)} {s : Shared} {σ : L2.St} (I : Inv X pins σ H s) (hG : LeG G H) : ∀ {us : List Value} {l : List D} {xs : List V}, l.all D.ok = true → Vals xs us → Reps X.K α G l xs → PySem.W.EachIs (fun u d => ∃ as, Reads s.heap u (D.py d) as) us l
  | _, [], _, _, h, e => by
    cases e
    cases h
    exact .nil
  | _, d :: r, _, ho, h, ⟨x, ys, e, h1, h2⟩ => by
    subst e
    rw [List.all_cons, Bool.and_eq_true] at ho
    cases h with
    | cons r1 r2 => exact .cons (Dp.reads I _ x _ (Rep.dp hG 60 d x ho.1 h1) r1) (each_reads I hG ho.2 r2 h2)
theorem all_alike {l : List D} (h : (l.all fun a => l.all fun b => D.alike a b) = true) : ∀ a ∈ l, ∀ b ∈ l, D.alike a b = true := fun a ha b hb =>
  List.all_eq_true.mp (List.all_eq_true.mp h a ha) b hb
theorem sortable_of {l : List D} (h : sortable l = true) : l.all D.ok = true ∧ (∀ a ∈ l, ∀ b ∈ l, D.alike a b = true) ∧ (PySem.W.Sortable (l.map D.py) ∨ l.map D.py = [.tuple []]) := by
  unfold sortable at h
  simp only [Bool.and_eq_true, Bool.or_eq_true] at h
  obtain ⟨⟨h1, h2⟩, h3⟩ := h
  refine ⟨h1, ?_, ?_⟩
  · cases l with
    | nil => intro a ha; cases ha
    | cons x r => exact all_alike h2
  · rcases h3 with (h3 | h3) | h3
    · refine .inl (.inl fun d hd => ?_)
      obtain ⟨e, he, rfl⟩ := List.mem_map.mp hd
      have q := List.all_eq_true.mp h3 e he
      cases e with
      | tup m =>
        cases m with
        | nil => cases q
        | cons y r => exact ⟨D.py y, D.pys r, by simp only [D.py, D.pys]⟩
      | _ => cases q
    · refine .inl (.inr fun d hd => ?_)
      obtain ⟨e, he, rfl⟩ := List.mem_map.mp hd
      have q := List.all_eq_true.mp h3 e he
      cases e with
      | int i => exact ⟨fun z => (by simp only [D.py] at z; cases z), fun xs z => (by simp only [D.py] at z; cases z)⟩
      | str i => exact ⟨fun z => (by simp only [D.py] at z; cases z), fun xs z => (by simp only [D.py] at z; cases z)⟩
      | _ => cases q
    · unfold isE at h3
      split at h3
      · refine .inr ?_
        simp only [List.map, D.py, D.pys]
      · cases h3
section
open PySem.W
/-- one empty tuple -/
theorem sorts_none {prog : Program} {w : World} {A : Around} {s : Shared} {vs : List Value} (e : EachIs (fun v d => ∃ as, Reads s.heap v d as) vs [.tuple []]) (hA : A.units + 1 < cLine) : SortsAt prog w A s (dataKind s.heap [.tuple []]) vs := by
  have hal : AllAlike [.tuple []] := fun a ha b hb => by
    rw [List.mem_singleton.mp ha, List.mem_singleton.mp hb]
    rfl
  refine ⟨fun v hv => ?_, tuples' false, ?_, fun h2 => absurd h2 (by rw [e.length]; simp)⟩
  · obtain ⟨d, hd, as, r⟩ := e.left v hv
    exact ⟨_, dataKind_some hal hd r⟩
  · intro E x y a b Q ha hb hq
    obtain ⟨d, as, hd, ra, rfl⟩ := dataKind_inv ha
    obtain ⟨d', as', hd', rb, rfl⟩ := dataKind_inv hb
    obtain rfl := List.mem_singleton.mp hd
    obtain rfl := List.mem_singleton.mp hd'
    have hq' : Q (dataLt (.tuple []) (.tuple [])) s := hq
    rw [dataLt_tuple] at hq'
    cases ra with
    | @tuple l o xs n _ _ h1 h2 h3 h4 =>
      cases rb with
      | @tuple l' o' xs' n' _ _ k1 k2 k3 k4 =>
        have n1 : xs.size = 0 := by simpa using SeqAt.ReadsAll.length _ _ _ h4
        have n2 : xs'.size = 0 := by simpa using SeqAt.ReadsAll.length _ _ _ k4
        exact kat_lt h1 h3 k1 k3 (katLex_alike [] [] 0 _ _ _ _ h4 k4 rfl (by show A.units + min 0 0 < cLine; omega) (fun z => by cases z) (by rw [n1, n2]; rfl) hq')
theorem sorted_data' {prog : Program} {w : World} {A : Around} {E : Value → Shared → Prop} {s : Shared} {β : Type} {vs : List Value} {bs : List β} {enc : β → PyData} {R : Value → β → Prop} {l : Addr} {Q : Value → Shared → Prop} (hl : s.heap.IsList l vs.toArray) (e : EachIs R vs bs) (er : EachIs (fun v b => ∃ as, Reads s.heap v (enc b) as) vs bs)
    (hal : AllAlike (bs.map enc)) (hk : Sortable (bs.map enc) ∨ bs.map enc = [.tuple []]) (hL : bs.length ≤ sizeLine) (hA : A.units + 65 < cLine)
    (hu : ∀ b, b ∈ bs → A.units + 2 + (enc b).depth < cLine) (h : ∀ out, out.length = bs.length → EachIs R out (bs.mergeSort (dataLe false enc)) → Q (.ref (s.heap.objs.size + 1)) { s with heap := sortedAll s.heap vs (List.toArray out) }) :
    wpAny (model prog w) A (call (.builtin "sorted") [.ref l]) Q E s := by
  rcases hk with hk | hk
  · exact sorted_data hl e er hal hk hL hu h
  · have er' : EachIs (fun v b => ∃ as, Reads (sortingHeap (copyHeap s.heap vs) (s.heap.objs.size + 1) vs) v (enc b) as) vs bs := er.mono fun _ _ ⟨as, r⟩ => ⟨as, PyProof.Rows.Reads.keeps (fun _ _ => sorting_copy_old) r⟩
    have em := each_map (R := fun v d => ∃ as, Reads (sortingHeap (copyHeap s.heap vs) (s.heap.objs.size + 1) vs) v d as) enc er'
    rw [hk] at em
    have S := sorts_none (prog := prog) (w := w) (A := A.in1.in1) (s := { s with heap := sortingHeap (copyHeap s.heap vs) (s.heap.objs.size + 1) vs }) em (by show A.units + 2 + 1 < cLine; omega)
    rw [← hk] at S
    exact sorted_vals hl S (by rw [e.length]; exact hL) (h _ (by rw [sortVals_length false rfl]; exact e.length) (sortVals_data false e er' hal))
end
theorem reps_one {K : PySem.W.Frag} {α : List Addr} {G : Hp} {d : D} {xs : List V} (h : Reps K α G [d] xs) : ∃ x, xs = [x] ∧ Rep K α G d x := by
  obtain ⟨x, ys, e, h1, h2⟩ := h
  cases h2
  exact ⟨x, e, h1⟩
theorem reps_two {K : PySem.W.Frag} {α : List Addr} {G : Hp} {d e : D} {xs : List V} (h : Reps K α G [d, e] xs) : ∃ x y, xs = [x, y] ∧ Rep K α G d x ∧ Rep K α G e y := by
  obtain ⟨x, ys, e1, h1, h2⟩ := h
  obtain ⟨y, rfl, h3⟩ := reps_one h2
  exact ⟨x, y, e1, h1, h3⟩
theorem line31 : sizeLine < 2 ^ 63 := by rw [sizeLine_eq]; decide
theorem call_prim (hc : X.calm = true) (hu : X.A.units + 65 < cLine) (p : Prim) (hp : ∀ cs, p ≠ .isI cs) : CallR X p.val (rPrim X.K Tb p) := by
  intro pins s σ H vs us Q I r h
  obtain ⟨β, α, st, l0, ok, rl, h0⟩ := h
  cases l0 with
  | nil => cases p <;> exact h0.elim
  | cons d0 rest =>
  obtain ⟨x, ys, rfl, r0, rr⟩ := rl
  have h1 : Sat X.K Tb β α (bnd (deref d0) (fun d => primS p (d :: rest)) st) H Q := by
    cases p <;> first
      | exact h0
      | exact absurd rfl (hp _)
  obtain ⟨d, rd, h⟩ := sat_deref ok r0 h1
  clear h0 h1 r0
  cases p with
  | len =>
    cases rest with
    | cons _ _ => cases d <;> exact h.elim
    | nil =>
      cases rr
      cases d <;> (try exact h.elim)
      · obtain ⟨a, xs, rfl, e1, e2⟩ := rd
        refine call_len_seq pins s σ H _ us Q I r ⟨a, xs, rfl, .inr (LeG.mk.sqT e1), ?_⟩
        rw [e2.length]
        exact h.here ok rfl
      · obtain ⟨a, xs, rfl, e1, e2⟩ := rd
        refine call_len_seq pins s σ H _ us Q I r ⟨a, xs, rfl, .inl (.inl (.inl e1)), ?_⟩
        rw [e2.length]
        exact h.here ok rfl
      · obtain ⟨a, rfl, e1⟩ := rd
        refine call_len_seq pins s σ H _ us Q I r ⟨a, _, rfl, .inl (LeG.mk.sqL e1), ?_⟩
        rw [List.length_map]
        exact h.here ok rfl
  | tuple =>
    cases rest with
    | cons _ _ => cases d <;> exact h.elim
    | nil =>
      cases rr
      cases d <;> (try exact h.elim)
      · obtain ⟨a, xs, rfl, e1, e2⟩ := rd
        exact call_tuple_of pins s σ H _ us Q I r ⟨a, xs, rfl, .inr ⟨LeG.mk.sqT e1, h.here ok ⟨a, xs, rfl, e1, e2⟩⟩⟩
      · obtain ⟨a, xs, rfl, e1, e2⟩ := rd
        exact call_tuple_of pins s σ H _ us Q I r ⟨a, xs, rfl, .inl ⟨.inl (.inl e1), fun q hq => h.newTup ok hq e2⟩⟩
  | list =>
    cases rest with
    | cons _ _ => cases d <;> exact h.elim
    | nil =>
      cases rr
      cases d <;> (try exact h.elim)
      · obtain ⟨a, xs, rfl, e1, e2⟩ := rd
        exact call_list_of pins s σ H _ us Q I r ⟨a, xs, rfl, .inr (LeG.mk.sqT e1), fun q hq => h.newLst ok hq e2⟩
      · obtain ⟨a, xs, rfl, e1, e2⟩ := rd
        exact call_list_of pins s σ H _ us Q I r ⟨a, xs, rfl, .inl (.inl (.inl e1)), fun q hq => h.newLst ok hq e2⟩
  | sorted =>
    cases rest with
    | cons _ _ => cases d <;> exact h.elim
    | nil =>
      cases rr
      cases d <;> (try exact h.elim)
      rename_i l
      obtain ⟨a, xs, rfl, e1, e2⟩ := rd
      simp only [primS] at h
      split at h
      · rename_i hs
        obtain ⟨k1, k2, k3⟩ := sortable_of hs
        obtain ⟨u, rfl, ru⟩ := vals1 r
        cases ru
        obtain ⟨its, rv, pl, hz⟩ := I.list (.inl (.inl e1))
        have hz' : l.length ≤ sizeLine := by rw [← e2.length]; exact hz
        refine sorted_data' (enc := D.py) (bs := l) (R := fun u d => ∃ x, RelV x u ∧ Rep X.K α (Mk (β ++ α) H) d x) pl.isList (vals_each rv e2) (each_reads I LeG.mk k1 rv e2) ?_ k3 hz' hu (fun d hd => ?_) fun out hl ho => ?_
        · intro d hd d' hd'
          obtain ⟨b, hb, rfl⟩ := List.mem_map.mp hd
          obtain ⟨b', hb', rfl⟩ := List.mem_map.mp hd'
          exact D.alike_py b b' (k2 b hb b' hb')
        · have := (D.ok_lay (List.all_eq_true.mp k1 d hd)).2
          omega
        · rw [isort_py k2] at ho
          obtain ⟨zs, q1, q2⟩ := each_vals ho
          obtain ⟨ep, he'⟩ := PyProof.Rows.sortedAll_at s.heap its out.toArray
          have hl2 : zs.length ≤ sizeLine := by rw [q2.length, length_isort]; exact hz'
          have hf : H (s.heap.objs.size + 1) = none := I.hok.fresh (Nat.le_succ _)
          exact ⟨.ref _, upd H (s.heap.objs.size + 1) (.lst zs), I.laid (t' := s.toks) (fun _ _ => PyProof.Rows.sortedAll_old) (Nat.le_succ _) ⟨hl2, _, ep, q1, he'⟩, rfl, h.newLst ok hf q2⟩
      · exact h.elim
  | min =>
    cases rest with
    | cons d2 rest =>
      cases rest with
      | cons _ _ => cases d <;> cases d2 <;> exact h.elim
      | nil =>
        obtain ⟨y, rfl, r2⟩ := reps_one rr
        cases d <;> cases d2 <;> (try exact h.elim)
        obtain rfl : x = .int _ := rd
        obtain rfl : y = .int _ := r2
        exact call_min2 hc pins s σ H _ us Q I r ⟨_, _, rfl, h.here ok rfl⟩
    | nil =>
      cases rr
      cases d <;> (try exact h.elim)
      rename_i l
      obtain ⟨a, xs, rfl, e1, e2⟩ := rd
      obtain ⟨d, hd, h3⟩ := sat_opt h
      obtain ⟨m, hm, rfl⟩ := Option.map_eq_some_iff.mp hd
      obtain ⟨ns, hn, hm⟩ := Option.bind_eq_some_iff.mp hm
      have e3 := intsOf_reps hn e2
      subst e3
      obtain ⟨q1, q2, q3⟩ := least_is hm
      refine cr_min hc pins s σ H _ us Q I r ⟨a, ns, rfl, .inl (.inl e1), q1, fun k hk hall => ?_⟩
      have : k = m := Int.le_antisymm (hall m q2) (q3 k hk)
      subst this
      exact h3.here ok rfl
  | max =>
    cases rest with
    | cons d2 rest =>
      cases rest with
      | cons _ _ => cases d <;> cases d2 <;> exact h.elim
      | nil =>
        obtain ⟨y, rfl, r2⟩ := reps_one rr
        cases d <;> cases d2 <;> (try exact h.elim)
        obtain rfl : x = .int _ := rd
        obtain rfl : y = .int _ := r2
        exact call_max2 hc pins s σ H _ us Q I r ⟨_, _, rfl, h.here ok rfl⟩
    | nil =>
      cases rr
      cases d <;> (try exact h.elim)
      rename_i l
      obtain ⟨a, xs, rfl, e1, e2⟩ := rd
      obtain ⟨d, hd, h3⟩ := sat_opt h
      obtain ⟨m, hm, rfl⟩ := Option.map_eq_some_iff.mp hd
      obtain ⟨ns, hn, hm⟩ := Option.bind_eq_some_iff.mp hm
      have e3 := intsOf_reps hn e2
      subst e3
      obtain ⟨q1, q2, q3⟩ := most_is hm
      refine cr_max hc pins s σ H _ us Q I r ⟨a, ns, rfl, .inl (.inl e1), q1, fun k hk hall => ?_⟩
      have : k = m := Int.le_antisymm (q3 k hk) (hall m q2)
      subst this
      exact h3.here ok rfl
  | sum =>
    cases rest with
    | cons _ _ => cases d <;> exact h.elim
    | nil =>
      cases rr
      cases d <;> (try exact h.elim)
      rename_i l
      obtain ⟨a, xs, rfl, e1, e2⟩ := rd
      obtain ⟨d, hd, h3⟩ := sat_opt h
      obtain ⟨ns, hn, rfl⟩ := Option.map_eq_some_iff.mp hd
      have e3 := intsOf_reps hn e2
      subst e3
      exact cr_sum hc pins s σ H _ us Q I r ⟨a, ns, rfl, .inl (.inl e1), h3.here ok rfl⟩
  | int =>
    cases rest with
    | cons _ _ => cases d <;> exact h.elim
    | nil =>
      cases rr
      cases d <;> (try exact h.elim)
      · obtain rfl : x = .bl _ := rd
        exact call_int1 pins s σ H _ us Q I r (.inr ⟨_, rfl, h.here ok rfl⟩)
      · obtain rfl : x = .int _ := rd
        exact call_int1 pins s σ H _ us Q I r (.inl ⟨_, rfl, h.here ok rfl⟩)
  | perm =>
    cases rest with
    | nil => cases d <;> exact h.elim
    | cons d2 rest =>
      cases rest with
      | cons _ _ => cases d <;> cases d2 <;> exact h.elim
      | nil =>
        obtain ⟨y, rfl, r2⟩ := reps_one rr
        cases d <;> cases d2 <;> (try exact h.elim)
        obtain rfl : x = .int _ := rd
        obtain rfl : y = .int _ := r2
        simp only [primS] at h
        split at h
        · rename_i hk
          simp only [Bool.and_eq_true, decide_eq_true_eq] at hk
          obtain ⟨t, u, rfl⟩ := Vals.int2 r
          exact PySem.W.mc_perm hk.1.1.1 hk.1.2 (by omega) (by omega) fun _ => ⟨.int _, H, I.tok _, ⟨_, rfl⟩, h.here ok rfl⟩
        · exact h.elim
  | isI cs => exact absurd rfl (hp cs)
end
end Mp
end
section
set_option Elab.async false
set_option linter.all false
set_option maxRecDepth 100000
/-! Expressions. -/
namespace Mp
open PySem PySem.Spec L2 PyProof.Rows
theorem bnd_assoc {α β γ : Type} (m : M α) (f : α → M β) (g : β → M γ) : bnd (bnd m f) g = bnd m fun x => bnd (f x) g := by
  funext st
  unfold bnd
  cases m st <;> rfl
theorem bnd_ret {α β : Type} (a : α) (f : α → M β) : bnd (ret a) f = f a := rfl
theorem bnd_ret' {α : Type} (m : M α) : bnd m ret = m := by
  funext st
  unfold bnd ret
  cases m st <;> rfl
/-- a test is made of a value and leaves the state -/
theorem truth_st {d : D} {st st' : St} {b : Bool} (h : truth d st = .ok b st') : st' = st := by
  unfold truth at h
  cases d with
  | cell k =>
    simp only [bnd, deref] at h
    cases q : st[k]? with
    | none => rw [q] at h; cases h
    | some c =>
      cases c
      rw [q] at h
      cases h
      rfl
  | scr l => cases h
  | str l => cases h
  | _ => cases h; rfl
theorem truth_and (x : D) (m : M D) : bnd (bnd (truth x) fun k => match k with | true => m | false => ret x) truth = bnd (truth x) fun k => match k with | true => bnd m truth | false => ret false := by
  funext st
  cases q : truth x st with
  | bad => simp only [bnd, q]
  | ok b st' =>
    have e := truth_st q
    subst e
    cases b with
    | true => simp only [bnd, q]
    | false => simp only [bnd, q, ret]
theorem truth_or (x : D) (m : M D) : bnd (bnd (truth x) fun k => match k with | true => ret x | false => m) truth = bnd (truth x) fun k => match k with | true => ret true | false => bnd m truth := by
  funext st
  cases q : truth x st with
  | bad => simp only [bnd, q]
  | ok b st' =>
    have e := truth_st q
    subst e
    cases b with
    | true => simp only [bnd, q, ret]
    | false => simp only [bnd, q]
section
variable {K : PySem.W.Frag} {Tb : List (Addr × Option Str)} {β α : List Addr} {st : St} {H : Hp} {σ : L2.St} {env : Env} {Q : VK}
/-- a value, then what follows -/
theorem one {m : Env → M D} {F : D → M D} (h : tOf K Tb (fun env => bnd (m env) F) σ H Q) : tOf K Tb m σ H fun x H1 => ∃ β α st a, Ok K Tb β α st H1 ∧ Rep K α (Mk (β ++ α) H1) a x ∧ Sat K Tb β α (F a st) H1 Q := by
  obtain ⟨β, α, st, env, o, e, h⟩ := h
  exact tOf_bnd (S := fun α r H => Sat K Tb β α r H Q) o e h (fun _ _ z => z) (fun _ _ _ s h => h.step s) fun d st1 v α1 H1 _ s o1 e1 r h1 => ⟨β, α1, st1, d, o1, r, h1⟩
theorem oneB {m : Env → M D} {F : D → M Bool} {Q : Bool → Hp → Prop} (h : tOfB K Tb (fun env => bnd (m env) F) σ H Q) : tOf K Tb m σ H fun x H1 => ∃ β α st a, Ok K Tb β α st H1 ∧ Rep K α (Mk (β ++ α) H1) a x ∧ SatB K Tb β α (F a st) H1 Q := by
  obtain ⟨β, α, st, env, o, e, h⟩ := h
  exact tOf_bnd (S := fun α r H => SatB K Tb β α r H Q) o e h (fun _ _ z => z) (fun _ _ _ s h => h.step s) fun d st1 v α1 H1 _ s o1 e1 r h1 => ⟨β, α1, st1, d, o1, r, h1⟩
theorem oneL {m : Env → M (List D)} {F : List D → M D} (h : tOf K Tb (fun env => bnd (m env) F) σ H Q) : tOfL K Tb m σ H fun xs H1 => ∃ β α st l, Ok K Tb β α st H1 ∧ Reps K α (Mk (β ++ α) H1) l xs ∧ Sat K Tb β α (F l st) H1 Q := by
  obtain ⟨β, α, st, env, o, e, h⟩ := h
  exact tOfL_bnd (S := fun α r H => Sat K Tb β α r H Q) o e h (fun _ _ z => z) (fun _ _ _ s h => h.step s) fun d st1 v α1 H1 _ s o1 e1 r h1 => ⟨β, α1, st1, d, o1, r, h1⟩
theorem two {m1 m2 : Env → M D} {F : D → D → M D} (h : tOf K Tb (fun env => bnd (m1 env) fun x => bnd (m2 env) fun y => F x y) σ H Q) :
    tOf K Tb m1 σ H fun x H1 => tOf K Tb m2 σ H1 fun y H2 => ∃ β α st a b, Ok K Tb β α st H2 ∧ Rep K α (Mk (β ++ α) H2) a x ∧ Rep K α (Mk (β ++ α) H2) b y ∧ Sat K Tb β α (F a b st) H2 Q := by
  obtain ⟨β, α, st, env, o, e, h⟩ := h
  refine tOf_bnd (S := fun α r H => Sat K Tb β α r H Q) o e h (fun _ _ z => z) (fun _ _ _ s h => h.step s) fun d st1 v α1 H1 _ s o1 e1 r h1 => ?_
  exact tOf_bnd (S := fun α r H => Sat K Tb β α r H Q) o1 e1 h1 (fun _ _ z => z) (fun _ _ _ s h => h.step s) fun d2 st2 v2 α2 H2 _ s2 o2 e2 r2 h2 => ⟨β, α2, st2, d, d2, o2, s2.rep r, r2, h2⟩
/-- a value, then a reading -/
theorem oneT {m : Env → M D} {F : Env → D → M D} {γ : Type} (h : tOf K Tb (fun env => bnd (m env) (F env)) σ H Q) : tOf K Tb m σ H fun x H1 => ∃ β α st env a, Ok K Tb β α st H1 ∧ EnvOk K α (Mk (β ++ α) H1) env σ ∧ Rep K α (Mk (β ++ α) H1) a x ∧ Sat K Tb β α (F env a st) H1 Q := by
  obtain ⟨β, α, st, env, o, e, h⟩ := h
  exact tOf_bnd (S := fun α r H => Sat K Tb β α r H Q) o e h (fun _ _ z => z) (fun _ _ _ s h => h.step s) fun d st1 v α1 H1 _ s o1 e1 r h1 => ⟨β, α1, st1, env, d, o1, e1, r, h1⟩
theorem testT {m : Env → M Bool} {F : Env → Bool → M D} (h : tOf K Tb (fun env => bnd (m env) (F env)) σ H Q) : tOfB K Tb m σ H fun b H1 => tOf K Tb (fun env => F env b) σ H1 Q := by
  obtain ⟨β, α, st, env, o, e, h⟩ := h
  exact tOfB_bnd (S := fun α r H => Sat K Tb β α r H Q) o e h (fun _ _ z => z) (fun _ _ _ s h => h.step s) fun b st1 α1 H1 _ s o1 e1 h1 => ⟨β, α1, st1, env, o1, e1, h1⟩
theorem testB {m : Env → M Bool} {F : Env → Bool → M Bool} {Q : Bool → Hp → Prop} (h : tOfB K Tb (fun env => bnd (m env) (F env)) σ H Q) : tOfB K Tb m σ H fun b H1 => tOfB K Tb (fun env => F env b) σ H1 Q := by
  obtain ⟨β, α, st, env, o, e, h⟩ := h
  exact tOfB_bnd (S := fun α r H => SatB K Tb β α r H Q) o e h (fun _ _ z => z) (fun _ _ _ s h => h.step s) fun b st1 α1 H1 _ s o1 e1 h1 => ⟨β, α1, st1, env, o1, e1, h1⟩
theorem satB_bnd {γ : Type} {m : M γ} {F : γ → M Bool} {Q : Bool → Hp → Prop} (h : SatB K Tb β α (bnd m F st) H Q) : ∃ a st', m st = .ok a st' ∧ SatB K Tb β α (F a st') H Q := by
  unfold bnd at h
  split at h
  · exact ⟨_, _, by assumption, h⟩
  · exact h.elim
/-- a value's truth -/
theorem tru_of {x : V} {a : D} {b : Bool} {st' : St} (o : Ok K Tb β α st H) (r : Rep K α (Mk (β ++ α) H) a x) (h : truth a st = .ok b st') : TruV K x H b := by
  have e := truth_st h
  subst e
  unfold truth bnd at h
  cases q : deref a st' with
  | bad => rw [q] at h; cases h
  | ok d st2 =>
    rw [q] at h
    obtain ⟨e, v⟩ := deref_vw o r q
    subst e
    cases d with
    | non =>
      obtain rfl : x = .non := v
      cases h
      rfl
    | bl b =>
      obtain rfl : x = .bl b := v
      cases h
      rfl
    | int i =>
      obtain rfl : x = .int i := v
      cases h
      rfl
    | str s => cases h
    | tup l =>
      obtain ⟨p, xs, rfl, h1, h2⟩ := v
      cases h
      refine .inr (.inl ⟨xs, LeG.mk.sqT h1, ?_⟩)
      cases l with
      | nil => rw [h2.nil_iff.mpr rfl]; rfl
      | cons d r => obtain ⟨y, ys, rfl, _⟩ := h2; rfl
    | lst l =>
      obtain ⟨p, xs, rfl, h1, h2⟩ := v
      cases h
      refine .inl ⟨xs, .inl (.inl h1), ?_⟩
      cases l with
      | nil => rw [h2.nil_iff.mpr rfl]; rfl
      | cons d r => obtain ⟨y, ys, rfl, _⟩ := h2; rfl
    | scr l => cases h
    | cell k => exact v.elim
end
section
variable {X : Cx} {Tb : List (Addr × Option Str)} {C : CallF} {a b c : E} {e l r : Expr} {pos : Pos}
theorem snd_var {i : Nat} {x : Str} (hN : X.N[i]? = some x) (hv : Vis X.env.scope x) (h1 : (x == ("__debug__" : Str)) = false) (h2 : (x == ("__classdict__" : Str)) = false) : PE X (.Name x pos) (tOf X.K Tb (ev C (.var i))) := by
  refine PE.by fun σ H Q h => ⟨_, pe_var hN hv h1 h2, ?_⟩
  obtain ⟨β, α, st, env, o, e, h⟩ := h
  unfold ev at h
  cases q : env[i]? with
  | none => rw [q] at h; exact h.elim
  | some z =>
    cases z with
    | none => rw [q] at h; exact h.elim
    | some d =>
      rw [q] at h
      obtain ⟨v, e1, e2⟩ := e.2 i d q
      exact ⟨v, e1, Sat.here h o e2⟩
theorem snd_con {d : D} {v : V} {e : Expr} (h : PE X e (tC v)) (r : ∀ K α G, Rep K α G d v) : PE X e (tOf X.K Tb (ev C (.con d))) := by
  refine PE.by fun σ H Q h2 => ⟨_, h, ?_⟩
  obtain ⟨β, α, st, env, o, _, h2⟩ := h2
  exact Sat.here h2 o (r _ _ _)
theorem snd_nil : PA X [] (tOfL X.K Tb fun env => bnd (ev C .nil env) listOf) := by
  refine PA.by fun σ H Q h => ⟨_, pa_nil, ?_⟩
  obtain ⟨β, α, st, env, o, _, h⟩ := h
  exact SatL.here h o rfl
theorem star_cons {e : Expr} {es : List Expr} {env : PySem.Env} (h : ∀ x p, e ≠ .Starred x p) : starEach (e :: es) env = (false, eval e env) :: starEach es env := by
  cases e <;> first
    | rfl
    | exact absurd rfl (h _ _)
theorem snd_cons {es : List Expr} (hs : ∀ x p, e ≠ .Starred x p) (h1 : PE X e (tOf X.K Tb (ev C a))) (h2 : PA X es (tOfL X.K Tb fun env => bnd (ev C b env) listOf)) : PA X (e :: es) (tOfL X.K Tb fun env => bnd (ev C (.cons a b) env) listOf) := by
  refine PA.by fun σ H Q h => ⟨_, pa_cons h1 h2 (star_cons hs), ?_⟩
  obtain ⟨β, α, st, env, o, e, h⟩ := h
  simp only [ev, bnd_assoc] at h
  show tOf X.K Tb (ev C a) σ H fun x H1 => tOfL X.K Tb _ σ H1 fun xs H2 => Q (x :: xs) H2
  refine tOf_bnd (S := fun α r H => SatL X.K Tb β α r H Q) o e h (fun _ _ z => z) (fun _ _ _ s h => h.step s) fun d st1 v α1 H1 _ s o1 e1 r h1 => ?_
  have h1' : SatL X.K Tb β α1 (bnd (bnd (ev C b env) listOf) (fun l => ret (d :: l)) st1) H1 Q := by
    rw [bnd_assoc]
    exact h1
  exact tOfL_bnd (m := fun env => bnd (ev C b env) listOf) (S := fun α r H => SatL X.K Tb β α r H Q) o1 e1 h1' (fun _ _ z => z) (fun _ _ _ s h => h.step s) fun l st2 xs α2 H2 _ s2 o2 e2 r2 h2 => SatL.here h2 o2 ⟨v, xs, rfl, s2.rep r, r2⟩
theorem snd_tup {es : List Expr} {k : Nat} (h : PA X es (tOfL X.K Tb fun env => bnd (ev C a env) listOf)) : PE X (.Tuple es k pos) (tOf X.K Tb (ev C (.tup a))) := by
  refine PE.by fun σ H Q h2 => ⟨_, pe_tup h, ?_⟩
  obtain ⟨β, α, st, env, o, e, h2⟩ := h2
  show tOfL X.K Tb _ σ H _
  refine tOfL_bnd (m := fun env => bnd (ev C a env) listOf) (S := fun α r H => Sat X.K Tb β α r H Q) o e h2 (fun _ _ z => z) (fun _ _ _ s h => h.step s) fun l st1 xs α1 H1 _ s o1 e1 r h1 => ?_
  unfold retTup at h1
  split at h1
  · rename_i hl
    exact ⟨by rw [r.length]; exact lenOk_le hl, fun p hp => h1.newTup o1 hp r⟩
  · exact h1.elim
theorem snd_lst {es : List Expr} (h : PA X es (tOfL X.K Tb fun env => bnd (ev C a env) listOf)) : PE X (.List es pos) (tOf X.K Tb (ev C (.lst a))) := by
  refine PE.by fun σ H Q h2 => ⟨_, pe_lst h, ?_⟩
  obtain ⟨β, α, st, env, o, e, h2⟩ := h2
  show tOfL X.K Tb _ σ H _
  refine tOfL_bnd (m := fun env => bnd (ev C a env) listOf) (S := fun α r H => Sat X.K Tb β α r H Q) o e h2 (fun _ _ z => z) (fun _ _ _ s h => h.step s) fun l st1 xs α1 H1 _ s o1 e1 r h1 => ?_
  unfold retLst at h1
  split at h1
  · rename_i hl
    exact ⟨by rw [r.length]; exact lenOk_le hl, fun p hp => h1.newLst o1 hp r⟩
  · exact h1.elim
theorem snd_bin (o : Bin) (ha : PE X l (tOf X.K Tb (ev C a))) (hb : PE X r (tOf X.K Tb (ev C b))) : PE X (.BinOp l o.op r pos) (tOf X.K Tb (ev C (.bin o a b))) :=
  PE.by fun σ H Q h => ⟨_, pe_op (op_bin (Tb := Tb) o) ha hb, two (F := binD o) h⟩
theorem snd_neg (ha : PE X e (tOf X.K Tb (ev C a))) : PE X (.UnaryOp .USub e pos) (tOf X.K Tb (ev C (.neg a))) := by
  refine PE.by fun σ H Q h => ⟨_, pe_un un_neg ha, ?_⟩
  obtain ⟨β, α, st, env, o, e, h⟩ := h
  show tOf X.K Tb _ σ H _
  refine tOf_bnd (m := ev C a) (S := fun α r H => Sat X.K Tb β α r H Q) o e h (fun _ _ z => z) (fun _ _ _ s h => h.step s) fun d st1 v α1 H1 _ s o1 e1 r h1 => ?_
  cases d with
  | int i =>
    obtain rfl : v = .int i := r
    exact ⟨i, rfl, Sat.here h1 o1 rfl⟩
  | _ => exact h1.elim
theorem snd_cmp (hu : X.A.units + 65 < cLine) (o : Cmp) (hm : behindInMarks o.op r = false) (ha : PE X l (tOf X.K Tb (ev C a))) (hb : PE X r (tOf X.K Tb (ev C b))) : PE X (.Compare l [o.op] [r] pos) (tOf X.K Tb (ev C (.cmp o a b))) :=
  PE.by fun σ H Q h => ⟨_, pe_cmpR (op_cmp (Tb := Tb) hu o) ha hb hm, two (F := cmpD o) h⟩
theorem boolOf_ok {d : D} {st st' : St} {k : Bool} (h : boolOf d st = .ok k st') : d = .bl k ∧ st' = st := by
  cases d with
  | bl b => cases h; exact ⟨rfl, rfl⟩
  | _ => cases h
/-- the value of a chain is True or False -/
theorem snd_chain {e3 : Expr} (hu : X.A.units + 65 < cLine) (o p : Cmp) (hm : behindInMarks p.op e3 = false) (ha : PE X l (tOf X.K Tb (ev C a))) (hb : PE X r (tOf X.K Tb (ev C b))) (hc : PE X e3 (tOf X.K Tb (ev C c))) :
    PE X (.Compare l [o.op, p.op] [r, e3] pos) (tOf X.K Tb (ev C (.chain o p a b c))) := by
  refine PE.by fun σ H Q h => ⟨_, pe_chain (op_cmp (Tb := Tb) hu o) (op_cmp (Tb := Tb) hu p) ha hb hc (by simp only [lastMarks]; exact hm), ?_⟩
  obtain ⟨β, α, st, env, ok, e, h⟩ := h
  simp only [ev] at h
  refine tOf_bnd (S := fun α r H => Sat X.K Tb β α r H Q) ok e h (fun _ _ z => z) (fun _ _ _ s h => h.step s) fun d1 st1 v1 α1 H1 _ s1 o1 e1 r1 h1 => ?_
  refine tOf_bnd (S := fun α r H => Sat X.K Tb β α r H Q) o1 e1 h1 (fun _ _ z => z) (fun _ _ _ s h => h.step s) fun d2 st2 v2 α2 H2 _ s2 o2 e2 r2 h2 => ?_
  have r1' := s2.rep r1
  rw [bnd_assoc] at h2
  obtain ⟨d3, st3, q3, h3⟩ := sat_bnd h2
  obtain ⟨k, st4, q4, h4⟩ := sat_bnd h3
  obtain ⟨rfl, rfl⟩ := boolOf_ok q4
  refine ⟨β, α2, st2, d1, d2, o2, r1', r2, ?_⟩
  rw [q3]
  intro v3 α3 H3 s3 o3 r3
  obtain rfl : v3 = .bl k := r3
  refine ⟨k, rfl, ?_⟩
  cases k with
  | true =>
    rw [if_pos rfl]
    refine tOf_bnd (S := fun α r H => Sat X.K Tb β α r H Q) o3 (e2.mono s3.pre (s3.le β)) (Sat.step h4 s3) (fun _ _ z => z) (fun _ _ _ s h => h.step s) fun d5 st5 v5 α5 H5 _ s5 o5 e5 r5 h5 => ?_
    exact ⟨β, α5, st5, d2, d5, o5, s5.rep (s3.rep r2), r5, h5⟩
  | false =>
    rw [if_neg Bool.false_ne_true]
    exact Sat.here (h4.step s3) o3 rfl
end
end Mp
end
section
set_option Elab.async false
set_option linter.all false
set_option maxRecDepth 100000
/-! Expressions, further: by truth, subscripts, calls. -/
namespace Mp
open PySem PySem.Spec L2 PyProof.Rows
section
variable {K : PySem.W.Frag} {Tb : List (Addr × Option Str)} {β α : List Addr} {H : Hp} {σ : L2.St}
theorem Sat.imp {r : Res D} {Q Q' : VK} (h : Sat K Tb β α r H Q) (i : ∀ v H, Q v H → Q' v H) : Sat K Tb β α r H Q' := by
  cases r with
  | ok d st => exact fun v α1 H1 s o r => i _ _ (h v α1 H1 s o r)
  | bad => exact h
theorem SatB.imp {r : Res Bool} {Q Q' : Bool → Hp → Prop} (h : SatB K Tb β α r H Q) (i : ∀ v H, Q v H → Q' v H) : SatB K Tb β α r H Q' := by
  cases r with
  | ok d st => exact fun α1 H1 s o => i _ _ (h α1 H1 s o)
  | bad => exact h
theorem SatL.imp {r : Res (List D)} {Q Q' : List V → Hp → Prop} (h : SatL K Tb β α r H Q) (i : ∀ v H, Q v H → Q' v H) : SatL K Tb β α r H Q' := by
  cases r with
  | ok d st => exact fun v α1 H1 s o r => i _ _ (h v α1 H1 s o r)
  | bad => exact h
theorem tOf.imp {m : Env → M D} {Q Q' : VK} (h : tOf K Tb m σ H Q) (i : ∀ v H, Q v H → Q' v H) : tOf K Tb m σ H Q' := by
  obtain ⟨β, α, st, env, o, e, h⟩ := h
  exact ⟨β, α, st, env, o, e, h.imp i⟩
theorem tOfB.imp {m : Env → M Bool} {Q Q' : Bool → Hp → Prop} (h : tOfB K Tb m σ H Q) (i : ∀ v H, Q v H → Q' v H) : tOfB K Tb m σ H Q' := by
  obtain ⟨β, α, st, env, o, e, h⟩ := h
  exact ⟨β, α, st, env, o, e, h.imp i⟩
theorem tOfL.imp {m : Env → M (List D)} {Q Q' : List V → Hp → Prop} (h : tOfL K Tb m σ H Q) (i : ∀ v H, Q v H → Q' v H) : tOfL K Tb m σ H Q' := by
  obtain ⟨β, α, st, env, o, e, h⟩ := h
  exact ⟨β, α, st, env, o, e, h.imp i⟩
end
section
variable {X : Cx} {Tb : List (Addr × Option Str)} {C : CallF} {a b c : E} {e l r : Expr} {pos : Pos}
/-- a test by a value's truth -/
theorem tst_val {m : Env → M D} (h : PE X e (tOf X.K Tb m)) (he : ∀ whole, PySem.isTrue e X.env whole = (do let v ← whole; standAt e.pos; holding [v] (truthy v))) : PT X e (tOfB X.K Tb fun env => bnd (m env) truth) := by
  refine PT.by fun σ H Q hw => ⟨_, pt_truth h he, ?_⟩
  refine tOf.imp (oneB (F := truth) hw) fun v H1 h2 => ?_
  obtain ⟨β2, α2, st2, d2, o2, r2, h2⟩ := h2
  obtain ⟨k, st3, q3, h3⟩ : ∃ k st3, truth d2 st2 = .ok k st3 ∧ SatB X.K Tb β2 α2 (.ok k st3) H1 Q := by
    cases q3 : truth d2 st2 with
    | bad => rw [q3] at h2; exact h2.elim
    | ok k st3 => rw [q3] at h2; exact ⟨k, st3, rfl, h2⟩
  have e3 := truth_st q3
  subst e3
  exact ⟨k, tru_of o2 r2 q3, h3.here o2⟩
theorem snd_and {ra : Expr} {rest : List Expr} (ha : PE X e (tOf X.K Tb (ev C a))) (hb : PE X (.BoolOp .And (ra :: rest) pos) (tOf X.K Tb (ev C b))) : PE X (.BoolOp .And (e :: ra :: rest) pos) (tOf X.K Tb (ev C (.and a b))) := by
  refine PE.by fun σ H Q h => ⟨_, pe_andT ha hb, ?_⟩
  obtain ⟨β, α, st, env, o, en, h⟩ := h
  simp only [ev] at h
  show tOf X.K Tb (ev C a) σ H _
  refine tOf_bnd (S := fun α r H => Sat X.K Tb β α r H Q) o en h (fun _ _ z => z) (fun _ _ _ s h => h.step s) fun d st1 v α1 H1 _ s o1 e1 r h1 => ?_
  obtain ⟨k, st2, q2, h2⟩ := sat_bnd h1
  have e2 := truth_st q2
  subst e2
  refine ⟨k, tru_of o1 r q2, ?_⟩
  cases k with
  | true => exact ⟨β, α1, st2, env, o1, e1, h2⟩
  | false => exact h2.here o1 r
theorem snd_or {ra : Expr} {rest : List Expr} (ha : PE X e (tOf X.K Tb (ev C a))) (hb : PE X (.BoolOp .Or (ra :: rest) pos) (tOf X.K Tb (ev C b))) : PE X (.BoolOp .Or (e :: ra :: rest) pos) (tOf X.K Tb (ev C (.or a b))) := by
  refine PE.by fun σ H Q h => ⟨_, pe_orT ha hb, ?_⟩
  obtain ⟨β, α, st, env, o, en, h⟩ := h
  simp only [ev] at h
  show tOf X.K Tb (ev C a) σ H _
  refine tOf_bnd (S := fun α r H => Sat X.K Tb β α r H Q) o en h (fun _ _ z => z) (fun _ _ _ s h => h.step s) fun d st1 v α1 H1 _ s o1 e1 r h1 => ?_
  obtain ⟨k, st2, q2, h2⟩ := sat_bnd h1
  have e2 := truth_st q2
  subst e2
  refine ⟨k, tru_of o1 r q2, ?_⟩
  cases k with
  | true => exact h2.here o1 r
  | false => exact ⟨β, α1, st2, env, o1, e1, h2⟩
theorem snd_not (ha : PE X e (tOf X.K Tb (ev C a))) : PE X (.UnaryOp .Not e pos) (tOf X.K Tb (ev C (.not a))) := by
  refine PE.by fun σ H Q h => ⟨_, pe_notT ha, ?_⟩
  obtain ⟨β, α, st, env, o, en, h⟩ := h
  simp only [ev, bnd_assoc] at h
  show tOf X.K Tb (ev C a) σ H _
  refine tOf_bnd (S := fun α r H => Sat X.K Tb β α r H Q) o en h (fun _ _ z => z) (fun _ _ _ s h => h.step s) fun d st1 v α1 H1 _ s o1 e1 r h1 => ?_
  obtain ⟨k, st2, q2, h2⟩ := sat_bnd h1
  have e2 := truth_st q2
  subst e2
  exact ⟨k, tru_of o1 r q2, Sat.here h2 o1 rfl⟩
theorem snd_ite (hc : PT X e (tOfB X.K Tb fun env => bnd (ev C c env) truth)) (ha : PE X l (tOf X.K Tb (ev C a))) (hb : PE X r (tOf X.K Tb (ev C b))) : PE X (.IfExp e l r pos) (tOf X.K Tb (ev C (.ite c a b))) := by
  refine PE.by fun σ H Q h => ⟨_, pe_ifExp hc ha hb, ?_⟩
  have h' : tOf X.K Tb (fun env => bnd (bnd (ev C c env) truth) fun k => match k with | true => ev C a env | false => ev C b env) σ H Q := h
  refine tOfB.imp (testT (F := fun env k => match k with | true => ev C a env | false => ev C b env) h') fun k H1 h1 => ?_
  cases k with
  | true => exact h1
  | false => exact h1
/-! tests -/
theorem tst_and {ra : Expr} {rest : List Expr} (ha : PT X e (tOfB X.K Tb fun env => bnd (ev C a env) truth)) (hb : PW X (.BoolOp .And (ra :: rest) pos) (tOfB X.K Tb fun env => bnd (ev C b env) truth)) : PW X (.BoolOp .And (e :: ra :: rest) pos) (tOfB X.K Tb fun env => bnd (ev C (.and a b) env) truth) := by
  refine ⟨fun whole pins s σ H Q I h => (pw_and ha hb).run whole pins s σ H Q I ?_⟩
  have h' : tOfB X.K Tb (fun env => bnd (bnd (ev C a env) truth) fun k => match k with | true => bnd (ev C b env) truth | false => ret false) σ H Q := by
    refine cast ?_ h
    congr 1
    funext env
    simp only [ev]
    rw [bnd_assoc, bnd_assoc]
    congr 1
    funext x
    exact truth_and x (ev C b env)
  refine tOfB.imp (testB (F := fun env k => match k with | true => bnd (ev C b env) truth | false => ret false) h') fun k H1 h1 => ?_
  cases k with
  | true => exact h1
  | false =>
    obtain ⟨β2, α2, st2, env2, o2, en2, h2⟩ := h1
    exact SatB.here h2 o2
theorem tst_or {ra : Expr} {rest : List Expr} (ha : PT X e (tOfB X.K Tb fun env => bnd (ev C a env) truth)) (hb : PW X (.BoolOp .Or (ra :: rest) pos) (tOfB X.K Tb fun env => bnd (ev C b env) truth)) : PW X (.BoolOp .Or (e :: ra :: rest) pos) (tOfB X.K Tb fun env => bnd (ev C (.or a b) env) truth) := by
  refine ⟨fun whole pins s σ H Q I h => (pw_or ha hb).run whole pins s σ H Q I ?_⟩
  have h' : tOfB X.K Tb (fun env => bnd (bnd (ev C a env) truth) fun k => match k with | true => ret true | false => bnd (ev C b env) truth) σ H Q := by
    refine cast ?_ h
    congr 1
    funext env
    simp only [ev]
    rw [bnd_assoc, bnd_assoc]
    congr 1
    funext x
    exact truth_or x (ev C b env)
  refine tOfB.imp (testB (F := fun env k => match k with | true => ret true | false => bnd (ev C b env) truth) h') fun k H1 h1 => ?_
  cases k with
  | false => exact h1
  | true =>
    obtain ⟨β2, α2, st2, env2, o2, en2, h2⟩ := h1
    exact SatB.here h2 o2
theorem truth_bl (b : Bool) : truth (.bl b) = ret b := rfl
theorem tst_not (ha : PT X e (tOfB X.K Tb fun env => bnd (ev C a env) truth)) : PT X (.UnaryOp .Not e pos) (tOfB X.K Tb fun env => bnd (ev C (.not a) env) truth) := by
  refine PT.by fun σ H Q h => ⟨_, pt_not ha, ?_⟩
  have h' : tOfB X.K Tb (fun env => bnd (bnd (ev C a env) truth) fun k => ret (!k)) σ H Q := by
    refine cast ?_ h
    congr 1
    funext env
    simp only [ev]
    rw [bnd_assoc]
    rfl
  refine tOfB.imp (testB (F := fun env k => ret (!k)) h') fun k H1 h1 => ?_
  obtain ⟨β2, α2, st2, env2, o2, en2, h2⟩ := h1
  exact SatB.here h2 o2
/-! what a comparison gives is True or False -/
theorem cmpS_bl {o : Cmp} {x y d : D} {st st' : St} (h : cmpS o x y st = .ok d st') : ∃ k, d = .bl k ∧ st' = st := by
  cases o <;> simp only [cmpS] at h <;> (try split at h) <;> (try split at h) <;> first
    | (cases h; exact ⟨_, rfl, rfl⟩)
    | cases h
theorem deref_st {d d' : D} {st st' : St} (h : deref d st = .ok d' st') : st' = st := by
  cases d with
  | cell k =>
    simp only [deref] at h
    cases q : st[k]? with
    | none => rw [q] at h; cases h
    | some c =>
      rw [q] at h
      cases c
      cases h
      rfl
  | _ => cases h; rfl
theorem cmpD_bl {o : Cmp} {x y d : D} {st st' : St} (h : cmpD o x y st = .ok d st') : ∃ k, d = .bl k ∧ st' = st := by
  unfold cmpD bnd at h
  cases q1 : deref x st with
  | bad => rw [q1] at h; cases h
  | ok x1 st1 =>
    rw [q1] at h
    have e1 := deref_st q1
    subst e1
    simp only at h
    cases q2 : deref y st1 with
    | bad => rw [q2] at h; cases h
    | ok y1 st2 =>
      rw [q2] at h
      have e2 := deref_st q2
      subst e2
      exact cmpS_bl h
theorem tst_cmp (hu : X.A.units + 65 < cLine) (o : Cmp) (hm : behindInMarks o.op r = false) (ha : PE X l (tOf X.K Tb (ev C a))) (hb : PE X r (tOf X.K Tb (ev C b))) : PT X (.Compare l [o.op] [r] pos) (tOfB X.K Tb fun env => bnd (ev C (.cmp o a b) env) truth) := by
  refine PT.by fun σ H Q h => ⟨_, pt_cmpR (op_cmp (Tb := Tb) hu o) ha hb hm, ?_⟩
  obtain ⟨β, α, st, env, ok, e, h⟩ := h
  simp only [ev, bnd_assoc] at h
  show tOf X.K Tb (ev C a) σ H _
  refine tOf_bnd (S := fun α r H => SatB X.K Tb β α r H Q) ok e h (fun _ _ z => z) (fun _ _ _ s h => h.step s) fun d1 st1 v1 α1 H1 _ s1 o1 e1 r1 h1 => ?_
  refine tOf_bnd (S := fun α r H => SatB X.K Tb β α r H Q) o1 e1 h1 (fun _ _ z => z) (fun _ _ _ s h => h.step s) fun d2 st2 v2 α2 H2 _ s2 o2 e2 r2 h2 => ?_
  refine ⟨β, α2, st2, d1, d2, o2, s2.rep r1, r2, ?_⟩
  obtain ⟨d3, st3, q3, h3⟩ := satB_bnd h2
  obtain ⟨k, rfl, rfl⟩ := cmpD_bl q3
  rw [q3]
  intro v3 α3 H3 s3 o3 r3
  exact ⟨k, r3, (SatB.step h3 s3).here o3⟩
theorem tst_chain {e3 : Expr} (hu : X.A.units + 65 < cLine) (o p : Cmp) (hm : behindInMarks p.op e3 = false) (ha : PE X l (tOf X.K Tb (ev C a))) (hb : PE X r (tOf X.K Tb (ev C b))) (hc : PE X e3 (tOf X.K Tb (ev C c))) :
    PT X (.Compare l [o.op, p.op] [r, e3] pos) (tOfB X.K Tb fun env => bnd (ev C (.chain o p a b c) env) truth) := by
  refine PT.by fun σ H Q h => ⟨_, pt_chain (op_cmp (Tb := Tb) hu o) (op_cmp (Tb := Tb) hu p) ha hb hc (by simp only [lastMarks]; exact hm), ?_⟩
  obtain ⟨β, α, st, env, ok, e, h⟩ := h
  simp only [ev, bnd_assoc] at h
  show tOf X.K Tb (ev C a) σ H _
  refine tOf_bnd (S := fun α r H => SatB X.K Tb β α r H Q) ok e h (fun _ _ z => z) (fun _ _ _ s h => h.step s) fun d1 st1 v1 α1 H1 _ s1 o1 e1 r1 h1 => ?_
  refine tOf_bnd (S := fun α r H => SatB X.K Tb β α r H Q) o1 e1 h1 (fun _ _ z => z) (fun _ _ _ s h => h.step s) fun d2 st2 v2 α2 H2 _ s2 o2 e2 r2 h2 => ?_
  obtain ⟨d3, st3, q3, h3⟩ := satB_bnd h2
  obtain ⟨k, st4, q4, h4⟩ := satB_bnd h3
  obtain ⟨rfl, rfl⟩ := boolOf_ok q4
  refine ⟨β, α2, st2, d1, d2, o2, s2.rep r1, r2, ?_⟩
  rw [q3]
  intro v3 α3 H3 s3 o3 r3
  obtain rfl : v3 = .bl k := r3
  refine ⟨k, rfl, ?_⟩
  cases k with
  | true =>
    rw [if_pos rfl]
    simp only [bnd_assoc] at h4
    refine tOf_bnd (S := fun α r H => SatB X.K Tb β α r H Q) o3 (e2.mono s3.pre (s3.le β)) (SatB.step h4 s3) (fun _ _ z => z) (fun _ _ _ s h => h.step s) fun d5 st5 v5 α5 H5 _ s5 o5 e5 r5 h5 => ?_
    refine ⟨β, α5, st5, d2, d5, o5, s5.rep (s3.rep r2), r5, ?_⟩
    obtain ⟨d6, st6, q6, h6⟩ := satB_bnd h5
    obtain ⟨k6, rfl, rfl⟩ := cmpD_bl q6
    rw [q6]
    intro v6 α6 H6 s6 o6 r6
    exact ⟨k6, r6, (SatB.step h6 s6).here o6⟩
  | false =>
    rw [if_neg Bool.false_ne_true]
    exact ⟨false, rfl, SatB.here (SatB.step h4 s3) o3⟩
/-! subscripts -/
theorem snd_idx (hp : PlainIx r) (ha : PE X l (tOf X.K Tb (ev C a))) (hb : PE X r (tOf X.K Tb (ev C b))) : PE X (.Subscript l r pos) (tOf X.K Tb (ev C (.idx a b))) :=
  PE.by fun σ H Q h => ⟨_, pe_ix (ix_any (Tb := Tb)) ha hb hp, two (F := idxD) h⟩
theorem bound_some {d : D} {o : Option Int} (h : bound true d = some o) : ∃ i, d = .int i ∧ o = some i := by
  cases d with
  | int i => cases h; exact ⟨i, rfl, rfl⟩
  | _ => cases h
theorem bound_none {d : D} : bound false d = some none := by cases d <;> rfl
theorem slice_bad {x : D} {st : St} {hi : Option (Option Int)} : sliceD x none hi st = .bad := by
  unfold sliceD bnd
  cases deref x st with
  | bad => rfl
  | ok a st' => cases a <;> rfl
theorem slice_bad2 {x : D} {st : St} {lo : Option (Option Int)} : sliceD x lo none st = .bad := by
  unfold sliceD bnd
  cases deref x st with
  | bad => rfl
  | ok a st' => cases a <;> cases lo <;> rfl
/-- a part of a slice: left out, or an int -/
def PartOk (X : Cx) (Tb : List (Addr × Option Str)) (C : CallF) (o : Option Expr) (b : Bool) (m : E) : Prop := match o with
  | none => b = false ∧ m = .con .non
  | some e => b = true ∧ PE X e (tOf X.K Tb (ev C m))
def partV (b : Bool) (x : V) (w : Option Int) : Prop := match b with
  | false => w = none
  | true => ∃ i, x = .int i ∧ w = some i
theorem PO.by {X : Cx} {e : Option Expr} {t : TO} (h : ∀ σ H Q, t σ H Q → ∃ u, PO X e u ∧ u σ H Q) : PO X e t := ⟨fun pins s σ H Q I w => by
  obtain ⟨u, p, q⟩ := h σ H Q w
  exact p.run pins s σ H Q I q⟩
theorem po_of {o : Option Expr} {bl : Bool} (h : PartOk X Tb C o bl a) : PO X o (fun σ H Q => tOf X.K Tb (ev C a) σ H fun x H1 => ∃ w, partV bl x w ∧ Q w H1) := by
  cases o with
  | none =>
    obtain ⟨rfl, rfl⟩ := h
    refine PO.by fun σ H Q hw => ⟨_, po_none, ?_⟩
    obtain ⟨β, α, st, env, o, e, hw⟩ := hw
    obtain ⟨w, rfl, q⟩ := Sat.here (v := .non) hw o rfl
    exact q
  | some e =>
    obtain ⟨rfl, h⟩ := h
    refine PO.by fun σ H Q hw => ⟨_, po_some h, ?_⟩
    refine tOf.imp hw fun v H1 h1 => ?_
    obtain ⟨w, ⟨i, rfl, rfl⟩, q⟩ := h1
    exact ⟨i, rfl, q⟩
theorem bound_part {bl : Bool} {d : D} {w : Option Int} {K : PySem.W.Frag} {α : List Addr} {G : Hp} {x : V} (h : bound bl d = some w) (r : Rep K α G d x) : partV bl x w := by
  cases bl with
  | false => rw [bound_none] at h; cases h; rfl
  | true =>
    obtain ⟨i, rfl, rfl⟩ := bound_some h
    exact ⟨i, r, rfl⟩
theorem snd_slice {lo hi : Option Expr} {p2 : Pos} {bl bh : Bool} (ha : PE X l (tOf X.K Tb (ev C a))) (hl : PartOk X Tb C lo bl b) (hh : PartOk X Tb C hi bh c) : PE X (.Subscript l (.Slice lo hi none p2) pos) (tOf X.K Tb (ev C (.slice bl bh a b c))) := by
  refine PE.by fun σ H Q h => ⟨_, pe_slice (sl_any (Tb := Tb)) ha (po_of hl) (po_of hh), ?_⟩
  obtain ⟨β, α, st, env, o, e, h⟩ := h
  refine tOf_bnd (S := fun α r H => Sat X.K Tb β α r H Q) o e h (fun _ _ z => z) (fun _ _ _ s h => h.step s) fun d1 st1 v1 α1 H1 _ s1 o1 e1 r1 h1 => ?_
  refine tOf_bnd (S := fun α r H => Sat X.K Tb β α r H Q) o1 e1 h1 (fun _ _ z => z) (fun _ _ _ s h => h.step s) fun d2 st2 v2 α2 H2 _ s2 o2 e2 r2 h2 => ?_
  obtain ⟨w, hw⟩ : ∃ w, bound bl d2 = some w := by
    cases q : bound bl d2 with
    | some w => exact ⟨w, rfl⟩
    | none =>
      obtain ⟨d3, st3, _, h3⟩ := sat_bnd h2
      rw [q, slice_bad] at h3
      exact h3.elim
  refine ⟨w, bound_part hw r2, ?_⟩
  refine tOf_bnd (S := fun α r H => Sat X.K Tb β α r H Q) o2 e2 h2 (fun _ _ z => z) (fun _ _ _ s h => h.step s) fun d3 st3 v3 α3 H3 _ s3 o3 e3 r3 h3 => ?_
  obtain ⟨w2, hw2⟩ : ∃ w, bound bh d3 = some w := by
    cases q : bound bh d3 with
    | some w => exact ⟨w, rfl⟩
    | none => rw [q, slice_bad2] at h3; exact h3.elim
  rw [hw, hw2] at h3
  exact ⟨w2, bound_part hw2 r3, β, α3, st3, d1, o3, s3.rep (s2.rep r1), h3⟩
end
end Mp
end
section
set_option Elab.async false
set_option linter.all false
set_option maxRecDepth 100000
/-! Calls. -/
namespace Mp
open PySem PySem.Spec L2 PyProof.Rows
def isStar : Expr → Bool
  | .Starred _ _ => true
  | _ => false
theorem isStar_ne {e : Expr} (h : isStar e = false) : ∀ x p, e ≠ .Starred x p := fun x p z => by rw [z] at h; cases h
theorem no_star {env : PySem.Env} : ∀ {es : List Expr}, (es.all fun e => !isStar e) = true → ((starEach es env).all fun x => !x.1) = true
  | [], _ => rfl
  | e :: es, h => by
    rw [List.all_cons, Bool.and_eq_true] at h
    rw [star_cons (isStar_ne (by simpa using h.1)), List.all_cons, no_star h.2]
    rfl
theorem back_star {pos : Pos} {env : PySem.Env} {es : List Expr} (h : (es.all fun e => !isStar e) = true) : (backTo pos (starEach es env)).any (·.1) = false := by
  have h2 := no_star (env := env) h
  unfold backTo
  rw [List.any_map, List.any_eq_false]
  intro x hx
  have := List.all_eq_true.mp h2 x hx
  simpa using this
section
variable {X : Cx} {Tb : List (Addr × Option Str)} {C : CallF} {a b c : E} {e l r : Expr} {es : List Expr} {pos p : Pos} {x : Str}
/-- where a built-in is found -/
structure PrimAt (X : Cx) (x : Str) (v : Value) : Prop where
  gl : Gl X x
  at_ : (X.mg x = none ∧ bootBuiltins x = some v ∧ x ≠ "__name__") ∨ X.mg x = some v
  db : (x == ("__debug__" : Str)) = false
theorem PrimAt.ld {v : Value} (h : PrimAt X x v) {E : Value → Shared → Prop} {pins : List (Addr × Obj)} {s : Shared} {σ : L2.St} {H : Hp} {Q : Value → Shared → Prop} (I : Inv X pins σ H s) (q : Q v s) : wpAny (model X.prog X.w) X.A (eval (.Name x pos) X.env) Q E s := by
  rcases h.at_ with ⟨h1, h2, h3⟩ | h1
  · exact ld_blt I h.gl h1 h2 q h3 h.db
  · exact ld_glob I h.gl h1 q h.db
/-- f(e, ..) of a built-in -/
theorem pe_blt {v : Value} {rr : List V → Hp → VK → Prop} {t : TA} (hv : (∃ id, v = .builtin id) ∨ ∃ T, v = .type T) (hc : CallR X v rr) (hn : PrimAt X x v) (ha : PA X (e :: es) t) (hs : isStar e = false) (hss : (es.all fun e => !isStar e) = true) :
    PE X (.Call (.Name x p) (e :: es) [] pos) (tCB rr t) := by
  refine ⟨fun pins s σ H Q I h => ?_⟩
  refine wpAny_Call_Name_kw (hn.ld I ?_)
  rcases hv with ⟨id, rfl⟩ | ⟨T, rfl⟩
  · exact PyProof.Rows.callWith_builtin1 (thn (ha.run pos pins s σ H _ I h) fun us s1 ⟨vs, H1, I1, r1, q1⟩ => hc pins s1 σ H1 vs us Q I1 r1 q1) (star_cons (isStar_ne hs)) (back_star hss)
  · exact PyProof.Rows.callWith_type1 (thn (ha.run pos pins s σ H _ I h) fun us s1 ⟨vs, H1, I1, r1, q1⟩ => hc pins s1 σ H1 vs us Q I1 r1 q1) (star_cons (isStar_ne hs)) (back_star hss)
theorem prim_val (p : Prim) : (∃ id, p.val = .builtin id) ∨ ∃ T, p.val = .type T := by
  cases p <;> first
    | exact .inl ⟨_, rfl⟩
    | exact .inr ⟨_, rfl⟩
theorem snd_prim (hc : X.calm = true) (hu : X.A.units + 65 < cLine) (q : Prim) (hq : ∀ cs, q ≠ .isI cs) (hn : PrimAt X x q.val) (ha : PA X (e :: es) (tOfL X.K Tb fun env => bnd (ev C a env) listOf)) (hs : isStar e = false) (hss : (es.all fun e => !isStar e) = true) :
    PE X (.Call (.Name x p) (e :: es) [] pos) (tOf X.K Tb (ev C (.prim q a))) :=
  PE.by fun σ H Q h => ⟨_, pe_blt (prim_val q) (call_prim (Tb := Tb) hc hu q hq) hn ha hs hss, oneL (m := fun env => bnd (ev C a env) listOf) (F := fun l => primD q l) h⟩
/-! own defs -/
def spOf (K : PySem.W.Frag) (Tb : List (Addr × Option Str)) (g : List D → M D) (n : Nat) : Sp := fun vs H Q _ => ∃ β α st l, l.length = n ∧ Ok K Tb β α st H ∧ Reps K α (Mk (β ++ α) H) l vs ∧ Sat K Tb β α (g l st) H Q
/-- a def that may be called -/
structure FnT (P : Program) (w : World) (K : PySem.W.Frag) (mg : Str → Option Value) (base : Heap) (Tb : List (Addr × Option Str)) (k : Nat) (C : CallF) (x : Str) (i n : Nat) : Prop where
  at_ : ∃ f fd ps, mg x = some (.ref f) ∧ PySem.W.keepIn K (.ref f) = true ∧ FnOk P w K mg base CX0 k f fd ps (spOf K Tb (C i) n) ∧ L2.Binds K fd ps []
theorem pass_any {E : XK} : Passes CX0 X E := fun _ _ _ _ _ _ _ h => h.elim
theorem snd_call {k i n : Nat} (hf : FnT X.prog X.w X.K X.mg X.base Tb k C x i n) (hr : Room k X.A) (hg : Gl X x) (hdb : (x == ("__debug__" : Str)) = false) (ha : PA X (e :: es) (tOfL X.K Tb fun env => bnd (ev C a env) listOf)) (hs : isStar e = false) (hss : (es.all fun e => !isStar e) = true) (hn : n = es.length + 1)
    (hl : ∀ env st l st', bnd (ev C a env) listOf st = .ok l st' → l.length = es.length + 1) : PE X (.Call (.Name x p) (e :: es) [] pos) (tOf X.K Tb (ev C (.call i a))) := by
  obtain ⟨f, fd, ps, h1, h2, h3, h4⟩ := hf.at_
  refine PE.by fun σ H Q h => ⟨_, pe_call (E := fun _ _ _ => False) h3 hr hg h1 h2 h4 .nil pass_any ha hdb (star_cons (isStar_ne hs)) (back_star hss), ?_⟩
  show tOfL X.K Tb (fun env => bnd (ev C a env) listOf) σ H fun vs H1 => spOf X.K Tb (C i) n (vs ++ []) H1 Q _
  obtain ⟨β, α, st, env, o, en, h⟩ := h
  refine tOfL_bnd (m := fun env => bnd (ev C a env) listOf) (F := fun l => C i l) (S := fun α r H => Sat X.K Tb β α r H Q) o en h (fun _ _ z => z) (fun _ _ _ s h => h.step s) fun l st1 xs α1 H1 q s o1 e1 r h1 => ?_
  rw [List.append_nil]
  exact ⟨β, α1, st1, l, by rw [hn]; exact hl _ _ _ _ q, o1, r, h1⟩
theorem snd_call0 {k i : Nat} (hf : FnT X.prog X.w X.K X.mg X.base Tb k C x i 0) (hr : Room k X.A) (hg : Gl X x) (hdb : (x == ("__debug__" : Str)) = false) : PE X (.Call (.Name x p) [] [] pos) (tOf X.K Tb (ev C (.call i .nil))) := by
  obtain ⟨f, fd, ps, h1, h2, h3, h4⟩ := hf.at_
  refine PE.by fun σ H Q h => ⟨_, pe_call0 (E := fun _ _ _ => False) h3 hr hg h1 h2 h4 .nil pass_any hdb, ?_⟩
  obtain ⟨β, α, st, env, o, en, h⟩ := h
  exact ⟨β, α, st, [], rfl, o, rfl, h⟩
/-! isinstance -/
def clsName : Nat → String
  | 0 => "int"
  | 1 => "bool"
  | 2 => "str"
  | 3 => "tuple"
  | _ => "list"
def dTy : D → String
  | .non => "NoneType"
  | .bl _ => "bool"
  | .int _ => "int"
  | .str _ => "str"
  | .tup _ => "tuple"
  | _ => "list"
theorem kit_tab : ∀ a ∈ (["NoneType", "bool", "int", "str", "tuple", "list"] : List String), ∀ c ∈ [0, 1, 2, 3, 4], kitB a (clsName c) = some (decide ((a, c) ∈ [("int", 0), ("bool", 0), ("bool", 1), ("str", 2), ("tuple", 3), ("list", 4)])) := by decide +kernel
theorem kit_d {d : D} (hd : ∀ l, d ≠ .scr l) {c : Nat} (hc : c < 5) (K : PySem.W.Frag) : PySem.W.kitOne K (.type (dTy d)) (.type (clsName c)) = some (kindOk d c) := by
  refine kit_ty ?_
  have key : ∀ a, a ∈ (["NoneType", "bool", "int", "str", "tuple", "list"] : List String) → kitB a (clsName c) = some (decide ((a, c) ∈ [("int", 0), ("bool", 0), ("bool", 1), ("str", 2), ("tuple", 3), ("list", 4)])) := fun a ha => kit_tab a ha c (by
    have : c = 0 ∨ c = 1 ∨ c = 2 ∨ c = 3 ∨ c = 4 := by omega
    rcases this with rfl | rfl | rfl | rfl | rfl <;> decide)
  have hc' : c = 0 ∨ c = 1 ∨ c = 2 ∨ c = 3 ∨ c = 4 := by omega
  cases d <;> first
    | exact absurd rfl (hd _)
    | (rcases hc' with rfl | rfl | rfl | rfl | rfl <;> (rw [key _ (by simp [dTy])]; rfl))
theorem kit_any {d : D} (hd : ∀ l, d ≠ .scr l) (K : PySem.W.Frag) : ∀ {cs : List Nat}, (∀ c ∈ cs, c < 5) → PySem.W.kitAny K (.type (dTy d)) (cs.map fun c => Value.type (clsName c)) = some (cs.any (kindOk d))
  | [], _ => rfl
  | c :: cs, h => by
    rw [List.map_cons, List.any_cons]
    refine kitAny_cons (kit_d hd (h c List.mem_cons_self) K) (fun e => ?_) fun e => ?_
    · rw [e, Bool.false_or]
      exact kit_any hd K fun c hc => h c (List.mem_cons_of_mem _ hc)
    · rw [e, Bool.true_or]
theorem ty_of {K : PySem.W.Frag} {β α : List Addr} {st : St} {H : Hp} {d : D} {v : V} (o : Ok K Tb β α st H) (hd : ∀ l, d ≠ .scr l) (r : Rep K α (Mk (β ++ α) H) d v) : TyX K H v (.type (dTy d)) := by
  cases d with
  | non => obtain rfl : v = .non := r; exact .base .non
  | bl b => obtain rfl : v = .bl b := r; exact .base (.bl b)
  | int i => obtain rfl : v = .int i := r; exact .base (.int i)
  | str s => obtain rfl : v = .str s := r; exact .base (.str s)
  | tup l =>
    obtain ⟨a, xs, rfl, h1, _⟩ := r
    rcases LeG.mk.sqT h1 with (h | ⟨o, h⟩) | ⟨o, its, n, h, c, _⟩
    · exact .base (.tup h)
    · exact .fTuple h
    · exact .kTuple h c
  | lst l =>
    obtain ⟨a, xs, rfl, h1, _⟩ := r
    exact .base (.lst (mk_some h1).2)
  | scr l => exact absurd rfl (hd l)
  | cell k =>
    obtain ⟨a, rfl, h1⟩ := r
    obtain ⟨l, xs, _, h2, _⟩ := o.mem_of h1
    exact .base (.lst h2)
theorem primS_isI {cs : List Nat} {d : D} {st : St} (hd : ∀ l, d ≠ .scr l) : primD (.isI cs) [d] st = .ok (.bl (cs.any (kindOk d))) st := by
  cases d <;> first
    | rfl
    | exact absurd rfl (hd _)
theorem primS_scr {cs : List Nat} {l : List Int} {st : St} : primD (.isI cs) [.scr l] st = .bad := rfl
theorem sat_isI {K : PySem.W.Frag} {β α : List Addr} {st : St} {H : Hp} {d : D} {cs : List Nat} {Q : VK} (h : Sat K Tb β α (primD (.isI cs) [d] st) H Q) : (∀ l, d ≠ .scr l) ∧ Sat K Tb β α (.ok (.bl (cs.any (kindOk d))) st) H Q := by
  have hd : ∀ l, d ≠ .scr l := fun l z => by
    subst z
    exact h.elim
  refine ⟨hd, ?_⟩
  rw [primS_isI hd] at h
  exact h
theorem ev_one (env : Env) : bnd (ev C (.cons a .nil) env) listOf = bnd (ev C a env) fun x => ret [x] := by
  simp only [ev, bnd_assoc]
  rfl
/-- a built-in class by its name -/
structure TyAt (X : Cx) (x : Str) (n : Nat) : Prop where
  gl : Gl X x
  mg : X.mg x = none
  bt : bootBuiltins x = some (.type (clsName n))
  nm : x ≠ "__name__"
  db : (x == ("__debug__" : Str)) = false
  lt : n < 5
theorem TyAt.pe {n : Nat} (h : TyAt X x n) : PE X (.Name x pos) (tC (.ty (clsName n))) := pe_bltn h.gl h.mg h.bt rfl h.nm h.db
theorem snd_isi {n : Nat} {t : Str} {pt : Pos} (hn : PrimAt X x (.builtin "isinstance")) (ht : TyAt X t n) (ha : PE X e (tOf X.K Tb (ev C a))) (hs : isStar e = false) :
    PE X (.Call (.Name x p) [e, .Name t pt] [] pos) (tOf X.K Tb (ev C (.prim (.isI [n]) (.cons a .nil)))) := by
  refine PE.by fun σ H Q h => ⟨_, pe_blt (.inl ⟨_, rfl⟩) call_isi hn (pa_cons ha (pa_cons ht.pe pa_nil rfl) (star_cons (isStar_ne hs))) hs rfl, ?_⟩
  show tOf X.K Tb (ev C a) σ H _
  have h' : tOf X.K Tb (fun env => bnd (ev C a env) fun x => primD (.isI [n]) [x]) σ H Q := by
    refine cast ?_ h
    congr 1
    funext env
    show bnd (bnd (ev C (.cons a .nil) env) listOf) _ = _
    rw [ev_one, bnd_assoc]
    rfl
  refine tOf.imp (one h') fun v H1 ⟨β, α, st, d, o, r, h1⟩ => ?_
  obtain ⟨hd, h2⟩ := sat_isI h1
  refine ⟨v, .ty (clsName n), _, _, _, rfl, .ty _, ty_of o hd r, kit_d hd ht.lt X.K, ?_⟩
  have e2 : [n].any (kindOk d) = kindOk d n := by simp
  rw [e2] at h2
  exact h2.here o rfl
/-- names of classes, in a tuple -/
def TysAt (X : Cx) : List Expr → List Nat → Prop
  | [], [] => True
  | .Name x _ :: r, n :: ns => TyAt X x n ∧ TysAt X r ns
  | _, _ => False
theorem tys_pa : ∀ {ts : List Expr} {ns : List Nat}, TysAt X ts ns → PA X ts (fun _ H Q => Q (ns.map fun n => V.ty (clsName n)) H)
  | [], [], _ => PA.by fun σ H Q h => ⟨_, pa_nil, h⟩
  | .Name x _ :: r, n :: ns, h => PA.by fun σ H Q hq => ⟨_, pa_cons h.1.pe (tys_pa h.2) rfl, hq⟩
theorem tys_cls (ns : List Nat) : Paired ClsV (ns.map fun n => V.ty (clsName n)) (ns.map fun n => Value.type (clsName n)) := by
  induction ns with
  | nil => exact .nil
  | cons n ns ih => exact .cons (.ty _) ih
theorem tys_lt : ∀ {ts : List Expr} {ns : List Nat}, TysAt X ts ns → ∀ n ∈ ns, n < 5
  | [], [], _, _, h => absurd h (by simp)
  | .Name x _ :: r, n :: ns, h, m, hm => by
    rcases List.mem_cons.mp hm with rfl | hm
    · exact h.1.lt
    · exact tys_lt h.2 m hm
theorem snd_isiT {ns : List Nat} {ts : List Expr} {kt : Nat} {pt : Pos} (hn : PrimAt X x (.builtin "isinstance")) (ht : TysAt X ts ns) (hl : ns.length ≤ 30) (ha : PE X e (tOf X.K Tb (ev C a))) (hs : isStar e = false) :
    PE X (.Call (.Name x p) [e, .Tuple ts kt pt] [] pos) (tOf X.K Tb (ev C (.prim (.isI ns) (.cons a .nil)))) := by
  refine PE.by fun σ H Q h => ⟨_, pe_blt (.inl ⟨_, rfl⟩) call_isiT hn (pa_cons ha (pa_cons (pe_tup (tys_pa ht)) pa_nil rfl) (star_cons (isStar_ne hs))) hs rfl, ?_⟩
  show tOf X.K Tb (ev C a) σ H _
  have h' : tOf X.K Tb (fun env => bnd (ev C a env) fun x => primD (.isI ns) [x]) σ H Q := by
    refine cast ?_ h
    congr 1
    funext env
    show bnd (bnd (ev C (.cons a .nil) env) listOf) _ = _
    rw [ev_one, bnd_assoc]
    rfl
  refine tOf.imp (one h') fun v H1 ⟨β, α, st, d, o, r, h1⟩ => ?_
  obtain ⟨hd, h2⟩ := sat_isI h1
  refine ⟨by rw [List.length_map, sizeLine_eq]; omega, fun q hq => ?_⟩
  have o2 := o.laid (o := .tup (ns.map fun n => V.ty (clsName n))) hq
  have s2 : Stp α α H1 (upd H1 q (.tup (ns.map fun n => V.ty (clsName n)))) := Stp.laid hq
  exact ⟨v, q, _, _, _, _, rfl, upd_same, tys_cls ns, ty_of o2 hd (s2.rep r), kit_any hd X.K (tys_lt ht), (h2.step s2).here o2 rfl⟩
/-! a list that changes -/
theorem nodup_at {γ : Type} {l : List γ} (h : l.Nodup) {i j : Nat} {x : γ} (a : l[i]? = some x) (b : l[j]? = some x) : i = j := by
  obtain ⟨hi, ei⟩ := List.getElem?_eq_some_iff.mp a
  obtain ⟨hj, ej⟩ := List.getElem?_eq_some_iff.mp b
  exact (List.getElem_inj h).mp (ei.trans ej.symm)
theorem tabOk_lst {H H1 : Hp} {p : Addr × Option Str} (h : TabOk H p) (e : ∀ b o, H b = some o → (∀ xs, o ≠ .lst xs) → H1 b = some o) : TabOk H1 p := by
  unfold TabOk at h ⊢
  split
  · rename_i q
    rw [q] at h
    obtain ⟨ps, h1, h2⟩ := h
    exact ⟨ps, e _ _ h1 (fun _ z => by cases z), h2⟩
  · rename_i q z
    rw [z] at h
    obtain ⟨ps, h1, h2, h3⟩ := h
    refine ⟨ps, e _ _ h1 (fun _ z => by cases z), h2, fun pos cv hc => ?_⟩
    obtain ⟨c, e1, e2⟩ := h3 pos cv hc
    exact ⟨c, e1, e _ _ e2 (fun _ z => by unfold LamX.CodeO at z; cases z)⟩
theorem mk_upd {av : List Addr} {H : Hp} {q : Addr} {o : HO} (h : q ∈ av) : Mk av (upd H q o) = Mk av H := by
  funext b
  unfold Mk
  split
  · rfl
  · rename_i hb
    exact upd_ne fun z => hb (z ▸ h)
theorem Ok.put {K : PySem.W.Frag} {β α : List Addr} {st : St} {H : Hp} {k : Nat} {q : Addr} {l : List D} {xs : List V} (o : Ok K Tb β α st H) (hk : α[k]? = some q) (r : Reps K α (Mk (β ++ α) H) l xs) :
    Ok K Tb β α (st.set k (.lst l)) (upd H q (.lst xs)) ∧ Stp α α H (upd H q (.lst xs)) := by
  have hq : q ∈ α := List.mem_of_getElem? hk
  have hqa : q ∈ β ++ α := List.mem_append_right _ hq
  obtain ⟨l0, xs0, _, hx0, _⟩ := o.mem_of hk
  have hkl : k < st.length := by rw [← o.len]; exact (List.getElem?_eq_some_iff.mp hk).1
  refine ⟨⟨o.nd, o.ap, fun b hb => ?_, by rw [List.length_set]; exact o.len, fun j a m e1 e2 => ?_, fun p hp => ?_⟩, ⟨List.prefix_rfl, fun _ h => .inl h, fun b u hb e _ => ?_, fun b ps hb e => ?_⟩⟩
  · obtain ⟨ys, e⟩ := o.bl b hb
    have : b ≠ q := fun z => o.ap q hq (z ▸ hb)
    exact ⟨ys, by rw [upd_ne this]; exact e⟩
  · rw [mk_upd hqa]
    by_cases hj : k = j
    · subst hj
      rw [hk] at e1
      cases e1
      rw [List.getElem?_set_self hkl] at e2
      cases e2
      exact ⟨xs, upd_same, r⟩
    · rw [List.getElem?_set_ne hj] at e2
      obtain ⟨ys, h1, h2⟩ := o.cells j a m e1 e2
      have hne : a ≠ q := fun z => by
        subst z
        exact hj (nodup_at o.nd hk e1)
      exact ⟨ys, by rw [upd_ne hne]; exact h1, h2⟩
  · refine tabOk_lst (o.tabs p hp) fun b u e hn => ?_
    have : b ≠ q := fun z => by
      rw [z, hx0] at e
      exact hn _ (Option.some.inj e).symm
    rw [upd_ne this]
    exact e
  · rw [upd_ne (fun z : b = q => hb (z ▸ hq))]
    exact e
  · exact ⟨ps, by rw [upd_ne (fun z : b = q => hb (z ▸ hq))]; exact e⟩
/-! append -/
theorem snd_app {apos cpos : Pos} {o : Expr} (ho : PE X o (tOf X.K Tb (ev C a))) (ha : PE X e (tOf X.K Tb (ev C b))) (hs : isStar e = false) (hbase : attributeBase o "append" X.env (eval o X.env) = eval o X.env) (hline : (apos.endLine == cpos.line) = true) :
    PE X (.Call (.Attribute o "append" apos) [e] [] cpos) (tOf X.K Tb (ev C (.meth .append a (.cons b .nil)))) := by
  have hst : starEach [e] X.env = (false, eval e X.env) :: starEach [] X.env := star_cons (isStar_ne hs)
  refine PE.by fun σ H Q h => ⟨_, pe_bm (es := []) PySem.F.plainAttrs_list PySem.F.slot_list_append PySem.F.type_list_append mt_append ho (pa_cons ha pa_nil hst) hbase (by rw [hst]; rfl) hline hst rfl, ?_⟩
  show tOf X.K Tb (ev C a) σ H _
  have h' : tOf X.K Tb (fun env => bnd (ev C a env) fun x => bnd (ev C b env) fun y => methD .append x [y]) σ H Q := by
    refine cast ?_ h
    congr 1
    funext env
    simp only [ev, bnd_assoc]
    rfl
  obtain ⟨β, α, st, env, ok, en, h⟩ := h'
  refine tOf_bnd (S := fun α r H => Sat X.K Tb β α r H Q) ok en h (fun _ _ z => z) (fun _ _ _ s h => h.step s) fun d1 st1 v1 α1 H1 _ s1 o1 e1 r1 h1 => ?_
  have hcell : ∃ k, d1 = .cell k := by
    obtain ⟨y, st2, _, h2⟩ := sat_bnd h1
    cases d1 with
    | cell k => exact ⟨k, rfl⟩
    | _ => exact h2.elim
  obtain ⟨k, rfl⟩ := hcell
  obtain ⟨q, rfl, hq⟩ := r1
  obtain ⟨l1, xs1, _, hx1, _⟩ := o1.mem_of hq
  refine ⟨.inl ⟨rfl, xs1, SqL.of hx1⟩, ?_⟩
  show tOf X.K Tb (ev C b) σ H1 _
  refine tOf_bnd (S := fun α r H => Sat X.K Tb β α r H Q) o1 e1 h1 (fun _ _ z => z) (fun _ _ _ s h => h.step s) fun d2 st2 v2 α2 H2 _ s2 o2 e2 r2 h2 => ?_
  have hq2 := pre_get s2.pre hq
  obtain ⟨l2, xs2, hs2, hx2, rx2⟩ := o2.mem_of hq2
  simp only [methD, hs2] at h2
  split at h2
  · rename_i hlt
    have hlt' : l2.length < line := by simpa using hlt
    refine ⟨q, xs2, v2, rfl, rfl, hx2, by rw [rx2.length, ← line_eq]; exact hlt', ?_⟩
    obtain ⟨o3, s3⟩ := o2.put hq2 (rx2.append (Reps.one r2))
    exact (h2.step s3).here o3 rfl
  · exact h2.elim
end
end Mp
end
section
set_option Elab.async false
set_option linter.all false
set_option maxRecDepth 100000
set_option maxHeartbeats 1000000
/-! What is walked: lists, tuples, ranges, their numberings. -/
namespace Mp
open PySem PySem.Spec L2 PyProof.Rows
theorem meets_enum1 {v : Value} {o : Obj} {H : Heap → Prop} (B : Begins v o H) :
    Meets (Builtin.«enumerate.__new__» ⟨[.type "enumerate", v], []⟩) (fun _ R s => H s.heap ∧
      R (.ok (.ret (.ref (s.heap.push o).objs.size))) { s with heap := (s.heap.push o).push { cls := .type "enumerate", data := .fields #[.none, .bool false, .ref s.heap.objs.size, rawInt 0, .none, .none] } }) :=
  .of_wp fun prog w A R s h => by
    obtain ⟨hp, g, d, tk, os⟩ := s; obtain ⟨h1, h⟩ := h
    have hsub := sub_enumerate
    have q1 : ∀ {A' : Around} {E : Value → Shared → Prop} {Q : Value → Shared → Prop}, Q (.ref hp.objs.size) ⟨hp.push o, g, d, tk, os⟩ → wpAny (model prog w) A' (pyIter v) Q E ⟨hp, g, d, tk, os⟩ :=
      fun q => B.iter prog w _ _ ⟨hp, g, d, tk, os⟩ _ h1 q
    wp_walk using q1
    refine wpAny_stack_any fun st => wpAny_pure ?_
    split
    · rename_i c _ _ _ _ _
      cases (c == Value.type "enumerate")
      · wp_walk using q1
        exact ⟨_, rfl, h⟩
      · wp_walk using q1
        exact ⟨_, rfl, h⟩
    · wp_walk using q1
      exact ⟨_, rfl, h⟩
theorem call_enum1 {prog : Program} {w : World} {A : Around} {E : Value → Shared → Prop} {s : Shared} {v : Value} {o : Obj} {H : Heap → Prop} {Q : Value → Shared → Prop} (B : Begins v o H) (h1 : H s.heap)
    (h : ∀ h', IsEnum h' (s.heap.objs.size + 1) s.heap.objs.size 0 .none → h'.get? s.heap.objs.size = some o → h'.objs.size = s.heap.objs.size + 2 →
      (∀ b o, s.heap.get? b = some o → h'.get? b = some o) → Q (.ref (s.heap.objs.size + 1)) { s with heap := h' }) :
    wpAny (model prog w) A (call (.type "enumerate") [v]) Q E s := by
  refine callType_new F.called_enumerate (by decide) (F.typeCall_enumerate_1 _) (F.newCall_enumerate_1 _) (fun obj => F.args_object_init_2 obj _) F.entry_enumerate_new (meets_enum1 B) ⟨h1, ?_⟩
  have hz : (s.heap.push o).objs.size = s.heap.objs.size + 1 := Heap.size_push ..
  show _ ∧ _
  rw [hz]
  have he : IsEnum ((s.heap.push o).push { cls := .type "enumerate", data := .fields #[.none, .bool false, .ref s.heap.objs.size, rawInt 0, .none, .none] }) (s.heap.objs.size + 1) s.heap.objs.size 0 .none := by
    have := Heap.get?_push_size (s.heap.push o) (o := { cls := .type "enumerate", data := .fields #[.none, .bool false, .ref s.heap.objs.size, rawInt 0, .none, .none] }) rfl
    rw [hz] at this; exact this
  refine ⟨⟨_, he, rfl⟩, h _ he (Heap.get?_push_of_some _ (Heap.get?_push_size _ B.free)) (by rw [Heap.size_push, hz]) fun b o x => Heap.get?_push_of_some _ (Heap.get?_push_of_some _ x)⟩
/-- the tuple at a, each item in a new pair -/
def Itet (K : PySem.W.Frag) (a : Addr) : It :=
  ⟨fun i H => ∃ (xs : List V) (x : V), SqT K H a xs ∧ xs[i]? = some x, fun i H v H' => ∃ T x, v = .ref T ∧ H T = none ∧ H' = upd H T (.tup [.int (i : Nat), x]) ∧ ∀ xs, SqT K H a xs → xs[i]? = some x, fun i H => ∃ xs : List V, SqT K H a xs ∧ xs.length ≤ i⟩
theorem turn_enumT {P : Program} {w : World} {K : PySem.W.Frag} {elts : List Expr} {kk : Nat} {tpos : Pos} (a e it : Addr) (hat : a ≠ it) (hea : a ≠ e) :
    Turn P w K (.Tuple elts kk tpos) (Itet K a) [e, it] e (fun i h => (∃ old, IsEnum h e it ((i : Nat) : Int) old) ∧ h.IsTupleIter it a i ∧ e ≠ it) where
  mem := by simp
  obj := fun i h st b hb => by
    obtain ⟨⟨old, he⟩, ⟨o, ho, hc, hd⟩, _⟩ := st
    have e' : b = e ∨ b = it := by simpa using hb
    rcases e' with z | z
    · rw [z]; exact ⟨_, he, fun v q => nomatch q⟩
    · rw [z]; exact ⟨o, ho, fun v q => by rw [hd] at q; cases q⟩
  keep := fun i h h' st k => let ⟨⟨old, he⟩, hi, hne⟩ := st; ⟨⟨old, k e (by simp) _ he⟩, hi.at fun o q => k it (by simp) o q, hne⟩
  item := by
    intro X hP hw hK hc i pins s σ H E I hf st hg
    subst hP hw hK
    obtain ⟨⟨old, he⟩, hit, hne⟩ := st
    obtain ⟨xs, x, hq, hx⟩ := hg
    obtain ⟨its, rv, p, hz⟩ := I.tuple hq
    obtain ⟨u, hu, ru⟩ := rv.get hx
    have hel : e < s.heap.objs.size := Heap.lt_size he
    have hil : it < s.heap.objs.size := by obtain ⟨_, q, _⟩ := hit; exact Heap.lt_size q
    have D := Draws.tuple (prog := X.prog) (w := X.w) (A := X.A.in1) (I.ok.hd hc) it a hat its.toArray
    have hlt : i < its.toArray.size := by
      have h1 : i < xs.length := (List.getElem?_eq_some_iff.mp hx).1
      have h2 := rv.length
      simp only [List.size_toArray]
      omega
    refine wpAny_pyNext_enum_itemD D he ⟨hit, show s.heap.IsTuple a its.toArray from p⟩ hlt hne (by simp [hne, Ne.symm hea]) fun y h' tk hy ho hst' hT hsz hk => ?_
    have hyu : y = u := by
      have h1 : its[i]? = some y := by simpa using hy
      rw [hu] at h1
      exact (Option.some.inj h1).symm
    subst hyu
    refine ⟨_, rfl, wpAny_letOwnedTupleGo_enum (s := { s with heap := h', toks := tk + 1 }) ho fun h'' he' sb => ?_⟩
    have hT2 : h''.get? s.heap.objs.size = some { cls := .type "tuple", data := .seq #[.int i tk, y] } := (sb.2 _ (Nat.ne_of_gt hel)).trans hT
    have new : ObjOk X.prog X.w (upd H s.heap.objs.size (.tup [.int (i : Nat), x])) h'' s.heap.objs.size (.tup [.int (i : Nat), x]) :=
      ⟨by show 2 ≤ sizeLine; decide, [.int i tk, y], .cons ⟨_, rfl⟩ (.cons ru .nil), ⟨_, hT2, rfl, _, rfl⟩⟩
    have I1 : Inv X pins σ (upd H s.heap.objs.size (.tup [.int (i : Nat), x])) { s with heap := h'', toks := tk + 1 } :=
      I.turnedNew (ch := [e, it]) (fun b ob hb q => (sb.2 b (fun z => hb (by simp [z]))).trans (hk b ob (fun z => hb (by simp [z])) (fun z => hb (by simp [z])) q)) hf (Nat.le_refl _) new
    refine ⟨.ref s.heap.objs.size, _, I1, rfl, ⟨_, x, rfl, I.hok.fresh (Nat.le_refl _), rfl, fun ys hy => by rw [I.tuple_inj hy hq]; exact hx⟩, ⟨⟨y, ?_⟩, hst'.1.at fun o q => (sb.2 it (Ne.symm hne)).trans q, hne⟩, fun b hb => ?_⟩
    · have e1 : ((i + 1 : Nat) : Int) = (i : Int) + 1 := by omega
      rw [e1]; exact he'
    · have hb' : b < s.heap.objs.size := by
        have e' : b = e ∨ b = it := by simpa using hb
        rcases e' with z | z
        · rw [z]; exact hel
        · rw [z]; exact hil
      rw [upd_ne (Nat.ne_of_lt hb')]
      exact (hf b hb).1
  done := by
    intro X hP hw hK hc i pins s σ H E I hf st hg
    subst hP hw hK
    obtain ⟨⟨old, he⟩, hit, hne⟩ := st
    obtain ⟨xs, hq, hx⟩ := hg
    obtain ⟨its, rv, p, hz⟩ := I.tuple hq
    obtain ⟨f0, f1, f2, f3, f4, f5⟩ := hf it (by simp)
    have hl := rv.length
    have D : Draws X.prog X.w X.A.in1 it [it, a] i (fun _ _ => False) (fun j h => j = i ∧ h.IsTupleIter it a i ∧ h.IsTuple a its.toArray) :=
      { live := fun _ _ st => let ⟨o, ho, _⟩ := st.2.1; ⟨o, ho⟩
        frame := fun _ _ _ st hk => ⟨st.1, st.2.1.at fun o e => hk it (by simp) o e, st.2.2.at fun o e => hk a (by simp) o e⟩
        item := fun j s Q E hj st _ => absurd st.1 (Nat.ne_of_lt hj)
        done := fun s Q E st hE => wpAny_nextOf_tuple_end (I.ok.hd hc) st.2.1 st.2.2 (by simp; omega) hE }
    exact wpAny_pyNext_enum_endD D he ⟨rfl, hit, show s.heap.IsTuple a its.toArray from p⟩ fun h' eb => ⟨rfl, I.turned (t' := s.toks) (fun b o hb q => eb b o hb q) f0 f1 f3 f4 f5⟩
  self := fun A i s Q E st h => let ⟨⟨_, he⟩, _⟩ := st; wpAny_pyIter_enum he h
section
variable {X : Cx} {tg : Expr}
/-- a list or a tuple -/
def iSeq (K : PySem.W.Frag) (tl : TE) : TI := fun σ H R => tl σ H fun x H1 => ∃ a, x = .ref a ∧ ((∃ xs, SqL K H1 a xs ∧ R (Itl K a) H1) ∨ ∃ xs, SqT K H1 a xs ∧ R (Itt K a) H1)
theorem pi_seq {l : Expr} {tl : TE} (hl : PE X l tl) : PI X tg l (iSeq X.K tl) := by
  refine ⟨fun pins s σ H R I h => ?_⟩
  refine thn (hl.run pins s σ H _ I h) fun v s1 ⟨x, H1, I1, r1, q1⟩ => ?_
  obtain ⟨a, e, q⟩ := q1
  subst e
  obtain rfl : v = Value.ref a := r1
  have fin : ∀ {o : Obj} {J : It} {tn : Nat → Heap → Prop}, o.isFreed = false → R J H1 → tn 0 (s1.heap.push o) → Turn X.prog X.w X.K tg J [s1.heap.objs.size] s1.heap.objs.size tn → PIE X pins σ tg R (.ref s1.heap.objs.size) { s1 with heap := s1.heap.push o } := fun {o J tn} hf q st T => by
    refine ⟨s1.heap.objs.size, [s1.heap.objs.size], _, _, H1, rfl, I1.kept (t' := s1.toks) fun b o e => Heap.get?_push_of_some _ e, T, st, fun b hb => ?_, q⟩
    have e : b = s1.heap.objs.size := by simpa using hb
    subst e
    exact I1.fpOk (Nat.le_refl _) (I1.hok.fresh (Nat.le_refl _))
  rcases q with ⟨xs, hq, q⟩ | ⟨xs, hq, q⟩
  · obtain ⟨its, rv, p, hz⟩ := I1.list hq
    exact wpAny_pyIter_list p.isList (fin rfl q ⟨_, Heap.get?_push_size _ rfl, rfl, rfl⟩ (turn_list a _))
  · obtain ⟨its, rv, p, hz⟩ := I1.tuple hq
    exact wpAny_pyIter_tuple (show s1.heap.IsTuple a its.toArray from p) (fin rfl q ⟨_, Heap.get?_push_size _ rfl, rfl, rfl⟩ (turn_tuple a _))
def iEnums (K : PySem.W.Frag) (ta : TA) : TI := fun σ H R => ta σ H fun vs H1 => ∃ a, vs = [.ref a] ∧ ((∃ xs, SqL K H1 a xs ∧ R (Ite K a) H1) ∨ ∃ xs, SqT K H1 a xs ∧ R (Itet K a) H1)
theorem pi_enums {e : Expr} {ta : TA} {p pos tpos : Pos} {elts : List Expr} {kk : Nat} (hg : Gl X "enumerate") (hm : X.mg "enumerate" = none) (ha : PA X [e] ta) (hs : starEach [e] X.env = [(false, eval e X.env)]) :
    PI X (.Tuple elts kk tpos) (.Call (.Name "enumerate" p) [e] [] pos) (iEnums X.K ta) := by
  refine ⟨fun pins s σ H R I h => ?_⟩
  refine Call_ (ld_blt I hg hm boot_enumerate (PyProof.Rows.callWith_type1 (thn (ha.run pos pins s σ H _ I h) fun us s1 ⟨vs, H1, I1, r1, q1⟩ => ?_) hs rfl))
  obtain ⟨a, ex, q⟩ := q1
  subst ex
  cases r1 with
  | cons r rr =>
    cases rr
    cases r
    have fin : ∀ {h' : Heap} {J : It} {tn : Nat → Heap → Prop}, (∀ b o, s1.heap.get? b = some o → h'.get? b = some o) → R J H1 → tn 0 h' → Turn X.prog X.w X.K (.Tuple elts kk tpos) J [s1.heap.objs.size + 1, s1.heap.objs.size] (s1.heap.objs.size + 1) tn →
        PIE X pins σ (.Tuple elts kk tpos) R (.ref (s1.heap.objs.size + 1)) { s1 with heap := h' } := fun {h' J tn} hk q st T => by
      have I2 : Inv X pins σ H1 { s1 with heap := h' } := I1.kept (t' := s1.toks) hk
      refine ⟨s1.heap.objs.size + 1, [s1.heap.objs.size + 1, s1.heap.objs.size], _, _, H1, rfl, I2, T, st, fun b hb => ?_, q⟩
      have e' : b = s1.heap.objs.size + 1 ∨ b = s1.heap.objs.size := by simpa using hb
      have hle : s1.heap.objs.size ≤ b := by
        rcases e' with z | z
        · rw [z]; exact Nat.le_add_right _ _
        · rw [z]; exact Nat.le_refl _
      exact I1.fpOk hle (I1.hok.fresh hle)
    rcases q with ⟨xs, hq, q⟩ | ⟨xs, hq, q⟩
    · obtain ⟨its, rv, p', hz⟩ := I1.list hq
      refine call_enumerate_list p'.isList fun h' he hit hsz hk => wpAny_pyIter_enum he ?_
      exact fin hk q ⟨⟨.none, he⟩, hit, Nat.succ_ne_self _⟩ (turn_enum a (s1.heap.objs.size + 1) s1.heap.objs.size)
    · obtain ⟨its, rv, p', hz⟩ := I1.tuple hq
      have ht : s1.heap.IsTuple a its.toArray := p'
      have hlt : a < s1.heap.objs.size := by obtain ⟨_, q, _⟩ := ht; exact Heap.lt_size q
      refine call_enum1 (begins_tuple a its.toArray) ht fun h' he hit hsz hk => wpAny_pyIter_enum he ?_
      have h1 : a ≠ s1.heap.objs.size := Nat.ne_of_lt hlt
      have h2 : a ≠ s1.heap.objs.size + 1 := Nat.ne_of_lt (Nat.lt_succ_of_lt hlt)
      exact fin hk q ⟨⟨.none, he⟩, ⟨_, hit, rfl, rfl⟩, Nat.succ_ne_self _⟩ (turn_enumT a (s1.heap.objs.size + 1) s1.heap.objs.size h1 h2)
end
end Mp
end
section
set_option Elab.async false
set_option linter.all false
set_option maxRecDepth 100000
/-! What is walked, by its items. -/
namespace Mp
open PySem PySem.Spec L2 PyProof.Rows
mutual
theorem D.same_eq : ∀ a b : D, D.same a b = true → a = b
  | a, b, h => by
    cases a <;> cases b <;> simp only [D.same] at h <;> first
      | rfl
      | (cases h; done)
      | (rw [D.sames_eq _ _ h])
      | (rw [eq_of_beq h])
theorem D.sames_eq : ∀ a b : List D, D.sames a b = true → a = b
  | [], [], _ => rfl
  | [], _ :: _, h => by simp only [D.sames] at h; cases h
  | _ :: _, [], h => by simp only [D.sames] at h; cases h
  | a :: r, b :: s, h => by
    simp only [D.sames, Bool.and_eq_true] at h
    rw [D.same_eq a b h.1, D.sames_eq r s h.2]
end
mutual
theorem D.same_refl : ∀ a : D, D.same a a = true
  | .non => rfl
  | .bl a => by simp only [D.same, beq_self_eq_true]
  | .int a => by simp only [D.same, beq_self_eq_true]
  | .str a => by simp only [D.same, beq_self_eq_true]
  | .tup a => by simp only [D.same]; exact D.sames_refl a
  | .lst a => by simp only [D.same]; exact D.sames_refl a
  | .scr a => by simp only [D.same, beq_self_eq_true]
  | .cell a => by simp only [D.same, beq_self_eq_true]
theorem D.sames_refl : ∀ a : List D, D.sames a a = true
  | [] => rfl
  | a :: r => by simp only [D.sames, D.same_refl a, D.sames_refl r, Bool.and_self]
end
theorem chk_st {g : Option (Nat × List D)} {st st' : St} {u : Unit} (h : chk g st = .ok u st') : st' = st := by
  unfold chk at h
  split at h
  · cases h; rfl
  · split at h
    · split at h
      · cases h; rfl
      · cases h
    · cases h
theorem chk_ok {g : Option (Nat × List D)} {st st' : St} {u : Unit} (h : chk g st = .ok u st') : chk g st = .ok () st := by
  have e := chk_st h
  subst e
  exact h
theorem chk_cell {k : Nat} {l : List D} {st : St} (h : chk (some (k, l)) st = .ok () st) : st[k]? = some (.lst l) := by
  unfold chk at h
  simp only at h
  split at h
  · rename_i m q
    split at h
    · rename_i e
      rw [q, D.sames_eq _ _ e]
    · cases h
  · cases h
theorem chk_of {k : Nat} {l : List D} {st : St} (h : st[k]? = some (.lst l)) : chk (some (k, l)) st = .ok () st := by
  unfold chk
  simp only [h, D.sames_refl]
section
variable {K : PySem.W.Frag} {Tb : List (Addr × Option Str)} {β β' α α1 : List Addr} {st st1 : St} {H H1 : Hp}
/-- as Stp, but for the lists at β -/
structure StpW (β α α' : List Addr) (H H' : Hp) : Prop where
  pre : α <+: α'
  new : ∀ a ∈ α', a ∈ α ∨ H a = none
  keep : ∀ b o, b ∉ β → b ∉ α → H b = some o → NoTbl o → H' b = some o
  free : ∀ c, c ∉ α → H' c = none → H c = none
theorem Stp.w (a : Stp α α1 H H1) (β : List Addr) : StpW β α α1 H H1 := ⟨a.pre, a.new, fun b o _ h e n => a.keep b o h e n, fun c hc h => a.free hc h⟩
theorem StpW.old (a : StpW β α α1 H H1) {c : Addr} (hc : c ∉ α) {o : HO} (h : H c = some o) : c ∉ α1 := fun z => by
  rcases a.new c z with y | y
  · exact hc y
  · rw [h] at y
    cases y
theorem StpW.then {α2 : List Addr} {H2 : Hp} (a : StpW β α α1 H H1) (b : Stp α1 α2 H1 H2) : StpW β α α2 H H2 where
  pre := a.pre.trans b.pre
  new := fun c hc => by
    by_cases hα : c ∈ α
    · exact .inl hα
    · rcases b.new c hc with h | h
      · exact a.new c h
      · exact .inr (a.free c hα h)
  keep := fun c o hb hc h n => b.keep c o (a.old hc h) (a.keep c o hb hc h n) n
  free := fun c hc h => by
    by_cases h1 : c ∈ α1
    · exact (a.new c h1).resolve_left hc
    · exact a.free c hc (b.free h1 h)
theorem StpW.put {D : Addr} {o : HO} (a : StpW β α α1 H H1) (hD : D ∈ β) : StpW β α α1 H (upd H1 D o) where
  pre := a.pre
  new := a.new
  keep := fun b u hb hc h n => by rw [upd_ne (fun z : b = D => hb (z ▸ hD))]; exact a.keep b u hb hc h n
  free := fun c hc h => by
    by_cases h1 : c = D
    · rw [h1, upd_same] at h; cases h
    · rw [upd_ne h1] at h; exact a.free c hc h
def WalkD (K : PySem.W.Frag) (Tb : List (Addr × Option Str)) (β α : List Addr) (H : Hp) (J : It) (l : List D) (g : Option (Nat × List D)) : Prop :=
  ∀ β' α1 st1 H1, (∀ b ∈ β', b ∈ β ∨ H b = none) → StpW β α α1 H H1 → Ok K Tb β' α1 st1 H1 → chk g st1 = .ok () st1 →
    (∀ i, i < l.length → J.go i H1) ∧ J.stop l.length H1 ∧ ∀ i x H2, i < l.length → J.yld i H1 x H2 → ∃ d, l[i]? = some d ∧ Ok K Tb β' α1 st1 H2 ∧ Stp α1 α1 H1 H2 ∧ Rep K α1 (Mk (β' ++ α1) H2) d x
def SatS (K : PySem.W.Frag) (Tb : List (Addr × Option Str)) (β α : List Addr) (r : Res Src) (H : Hp) (R : It → Hp → Prop) : Prop := match r with
  | .ok (l, g) st' => ∀ J α' H', Stp α α' H H' → Ok K Tb β α' st' H' → chk g st' = .ok () st' → WalkD K Tb β α' H' J l g → R J H'
  | .bad => False
def tItr (K : PySem.W.Frag) (Tb : List (Addr × Option Str)) (m : Env → M Src) : TI := fun σ H R => ∃ β α st env, Ok K Tb β α st H ∧ EnvOk K α (Mk (β ++ α) H) env σ ∧ SatS K Tb β α (m env st) H R
theorem SatS.step {r : Res Src} {R : It → Hp → Prop} (h : SatS K Tb β α r H R) (s : Stp α α1 H H1) : SatS K Tb β α1 r H1 R := by
  cases r with
  | ok p st' => exact fun J α' H' s' o c w => h J α' H' (s.trans s') o c w
  | bad => exact h
theorem SatS.here {l : List D} {g : Option (Nat × List D)} {R : It → Hp → Prop} {J : It} (h : SatS K Tb β α (.ok (l, g) st) H R) (o : Ok K Tb β α st H) (c : chk g st = .ok () st) (w : WalkD K Tb β α H J l g) : R J H := h J α H (Stp.refl α H) o c w
theorem StpW.le' (a : StpW β α α1 H H1) (hb : ∀ b ∈ β', b ∈ β ∨ H b = none) : LeG (Mk (β ++ α) H) (Mk (β' ++ α1) H1) := fun b o e n => by
  obtain ⟨hn, e⟩ := mk_some e
  have h1 : b ∉ β := fun z => hn (List.mem_append_left _ z)
  have h2 : b ∉ α := fun z => hn (List.mem_append_right _ z)
  rw [mk_out fun z => ?_]
  · exact a.keep b o h1 h2 e n
  · rcases List.mem_append.mp z with z | z
    · rcases hb b z with y | y
      · exact h1 y
      · rw [e] at y; cases y
    · exact a.old h2 e z
theorem tItr.imp {m : Env → M Src} {σ : L2.St} {R R' : It → Hp → Prop} (h : tItr K Tb m σ H R) (i : ∀ J H, R J H → R' J H) : tItr K Tb m σ H R' := by
  obtain ⟨β, α, st, env, o, e, h⟩ := h
  refine ⟨β, α, st, env, o, e, ?_⟩
  cases q : m env st with
  | bad => rw [q] at h; exact h
  | ok p st' =>
    rw [q] at h
    exact fun J α' H' s' o c w => i _ _ (h J α' H' s' o c w)
theorem PI.by {X : Cx} {tg it : Expr} {t : TI} (h : ∀ σ H R, t σ H R → ∃ u, PI X tg it u ∧ u σ H R) : PI X tg it t := ⟨fun pins s σ H R I w => by
  obtain ⟨u, p, q⟩ := h σ H R w
  exact p.run pins s σ H R I q⟩
theorem srcOf_src (s : Src) (st : St) : srcOf (srcD s) st = .ok s st := by
  obtain ⟨l, g⟩ := s
  cases g with
  | none => rfl
  | some p => rfl
theorem satS_bnd {γ : Type} {m : M γ} {F : γ → M Src} {R : It → Hp → Prop} (h : SatS K Tb β α (bnd m F st) H R) : ∃ a st', m st = .ok a st' ∧ SatS K Tb β α (F a st') H R := by
  unfold bnd at h
  split at h
  · exact ⟨_, _, by assumption, h⟩
  · exact h.elim
/-! the walks -/
theorem walkD_tup {a : Addr} {xs : List V} {l : List D} {g : Option (Nat × List D)} (h1 : SqT K (Mk (β ++ α) H) a xs) (h2 : Reps K α (Mk (β ++ α) H) l xs) : WalkD K Tb β α H (Itt K a) l g := by
  intro β' α1 st1 H1 hb s o c
  have le := s.le' hb
  have t1 : SqT K H1 a xs := (le.trans LeG.mk).sqT h1
  have r1 := Reps.mono s.pre le l xs h2
  have hl := h2.length
  refine ⟨fun i hi => ⟨xs, xs[i], t1, by simp [show i < xs.length by omega]⟩, ⟨xs, t1, by omega⟩, fun i x H2 hi y => ?_⟩
  obtain ⟨rfl, y⟩ := y
  obtain ⟨d, e1, e2⟩ := r1.getV (y xs t1)
  exact ⟨d, e1, o, Stp.refl _ _, e2⟩
theorem walkD_lst {a : Addr} {xs : List V} {l : List D} {g : Option (Nat × List D)} (h1 : Mk (β ++ α) H a = some (.lst xs)) (h2 : Reps K α (Mk (β ++ α) H) l xs) : WalkD K Tb β α H (Itl K a) l g := by
  intro β' α1 st1 H1 hb s o c
  have le := s.le' hb
  have t1 : SqL K H1 a xs := .inl (.inl (mk_some (le _ _ h1 noT_lst)).2)
  have r1 := Reps.mono s.pre le l xs h2
  have hl := h2.length
  refine ⟨fun i hi => ⟨xs, xs[i], t1, by simp [show i < xs.length by omega]⟩, ⟨xs, t1, by omega⟩, fun i x H2 hi y => ?_⟩
  obtain ⟨rfl, y⟩ := y
  obtain ⟨d, e1, e2⟩ := r1.getV (y xs t1)
  exact ⟨d, e1, o, Stp.refl _ _, e2⟩
theorem walkD_cell {a : Addr} {k : Nat} {l : List D} (hk : α[k]? = some a) : WalkD K Tb β α H (Itl K a) l (some (k, l)) := by
  intro β' α1 st1 H1 hb s o c
  have hc := chk_cell c
  obtain ⟨xs, h1, h2⟩ := o.cells k a l (pre_get s.pre hk) hc
  have t1 : SqL K H1 a xs := .inl (.inl h1)
  have hl := h2.length
  refine ⟨fun i hi => ⟨xs, xs[i], t1, by simp [show i < xs.length by omega]⟩, ⟨xs, t1, by omega⟩, fun i x H2 hi y => ?_⟩
  obtain ⟨rfl, y⟩ := y
  obtain ⟨d, e1, e2⟩ := h2.getV (y xs t1)
  exact ⟨d, e1, o, Stp.refl _ _, e2⟩
theorem upto_get {lo : Int} {n i : Nat} (h : i < n) : (upto lo n)[i]? = some (.int (lo + (i : Nat))) := by
  unfold upto
  rw [List.getElem?_map, List.getElem?_range h]
  rfl
theorem upto_len {lo : Int} {n : Nat} : (upto lo n).length = n := by unfold upto; simp
theorem walkD_rng {lo : Int} {n : Nat} {g : Option (Nat × List D)} : WalkD K Tb β α H (Itr lo n) (upto lo n) g := by
  intro β' α1 st1 H1 hb s o c
  rw [upto_len]
  refine ⟨fun i hi => hi, Nat.le_refl _, fun i x H2 hi y => ?_⟩
  obtain ⟨rfl, rfl⟩ := y
  exact ⟨_, upto_get hi, o, Stp.refl _ _, rfl⟩
theorem numbered_len : ∀ (k : Nat) (l : List D), (numbered k l).length = l.length
  | _, [] => rfl
  | k, _ :: r => by rw [numbered, List.length_cons, List.length_cons, numbered_len (k + 1) r]
theorem numbered_get : ∀ (k : Nat) (l : List D) (i : Nat) (d : D), l[i]? = some d → (numbered k l)[i]? = some (.tup [.int ((k + i : Nat) : Int), d])
  | _, [], i, d, h => by simp at h
  | k, x :: r, 0, d, h => by
    cases h
    rfl
  | k, x :: r, i + 1, d, h => by
    rw [numbered, List.getElem?_cons_succ, numbered_get (k + 1) r i d h]
    congr 4
    omega
/-- a new pair -/
theorem pair_new {T : Addr} {i : Nat} {d : D} {x : V} (o : Ok K Tb β' α1 st1 H1) (hT : H1 T = none) (r : Rep K α1 (Mk (β' ++ α1) H1) d x) :
    Ok K Tb β' α1 st1 (upd H1 T (.tup [.int (i : Nat), x])) ∧ Stp α1 α1 H1 (upd H1 T (.tup [.int (i : Nat), x])) ∧ Rep K α1 (Mk (β' ++ α1) (upd H1 T (.tup [.int (i : Nat), x]))) (.tup [.int ((0 + i : Nat) : Int), d]) (.ref T) := by
  refine ⟨o.laid hT, Stp.laid hT, laid_tup hT o ⟨.int (i : Nat), [x], rfl, ?_, x, [], rfl, r, rfl⟩⟩
  show V.int (i : Nat) = V.int _
  rw [Nat.zero_add]
theorem walkD_enumT {a : Addr} {xs : List V} {l : List D} {g : Option (Nat × List D)} (h1 : SqT K (Mk (β ++ α) H) a xs) (h2 : Reps K α (Mk (β ++ α) H) l xs) : WalkD K Tb β α H (Itet K a) (numbered 0 l) g := by
  intro β' α1 st1 H1 hb s o c
  have le := s.le' hb
  have t1 : SqT K H1 a xs := (le.trans LeG.mk).sqT h1
  have r1 := Reps.mono s.pre le l xs h2
  have hl := h2.length
  rw [numbered_len]
  refine ⟨fun i hi => ⟨xs, xs[i], t1, by simp [show i < xs.length by omega]⟩, ⟨xs, t1, by omega⟩, fun i v H2 hi y => ?_⟩
  obtain ⟨T, x, rfl, hT, rfl, y⟩ := y
  obtain ⟨d, e1, e2⟩ := r1.getV (y xs t1)
  obtain ⟨k1, k2, k3⟩ := pair_new (i := i) o hT e2
  exact ⟨_, numbered_get 0 l i d e1, k1, k2, k3⟩
theorem walkD_enumL {a : Addr} {xs : List V} {l : List D} {g : Option (Nat × List D)} (h1 : Mk (β ++ α) H a = some (.lst xs)) (h2 : Reps K α (Mk (β ++ α) H) l xs) : WalkD K Tb β α H (Ite K a) (numbered 0 l) g := by
  intro β' α1 st1 H1 hb s o c
  have le := s.le' hb
  have t1 : SqL K H1 a xs := .inl (.inl (mk_some (le _ _ h1 noT_lst)).2)
  have r1 := Reps.mono s.pre le l xs h2
  have hl := h2.length
  rw [numbered_len]
  refine ⟨fun i hi => ⟨xs, xs[i], t1, by simp [show i < xs.length by omega]⟩, ⟨xs, t1, by omega⟩, fun i v H2 hi y => ?_⟩
  obtain ⟨T, x, rfl, hT, rfl, y⟩ := y
  obtain ⟨d, e1, e2⟩ := r1.getV (y xs t1)
  obtain ⟨k1, k2, k3⟩ := pair_new (i := i) o hT e2
  exact ⟨_, numbered_get 0 l i d e1, k1, k2, k3⟩
theorem walkD_enumC {a : Addr} {k : Nat} {l : List D} (hk : α[k]? = some a) : WalkD K Tb β α H (Ite K a) (numbered 0 l) (some (k, l)) := by
  intro β' α1 st1 H1 hb s o c
  have hc := chk_cell c
  obtain ⟨xs, h1, r1⟩ := o.cells k a l (pre_get s.pre hk) hc
  have t1 : SqL K H1 a xs := .inl (.inl h1)
  have hl := r1.length
  rw [numbered_len]
  refine ⟨fun i hi => ⟨xs, xs[i], t1, by simp [show i < xs.length by omega]⟩, ⟨xs, t1, by omega⟩, fun i v H2 hi y => ?_⟩
  obtain ⟨T, x, rfl, hT, rfl, y⟩ := y
  obtain ⟨d, e1, e2⟩ := r1.getV (y xs t1)
  obtain ⟨k1, k2, k3⟩ := pair_new (i := i) o hT e2
  exact ⟨_, numbered_get 0 l i d e1, k1, k2, k3⟩
end
/-! the rules -/
section
variable {X : Cx} {Tb : List (Addr × Option Str)} {C : CallF} {a b : E} {e l r tg : Expr} {pos p : Pos}
theorem items_st {d : D} {st st' : St} {s : Src} {f : D → List D → Src} (h : bnd (deref d) (fun e => bnd (opt (items e)) fun l => ret (f d l)) st = .ok s st') : st' = st := by
  simp only [bnd] at h
  cases q3 : deref d st with
  | bad => rw [q3] at h; cases h
  | ok d' st2 =>
    have := deref_st q3
    subst this
    rw [q3] at h
    simp only at h
    cases q4 : items d' with
    | none => rw [q4] at h; cases h
    | some l => rw [q4] at h; cases h; rfl
theorem itemsD_st {k : Itk} {l : List D} {st st' : St} {s : Src} (h : itemsD k l st = .ok s st') : st' = st := by
  unfold itemsD at h
  split at h
  · exact items_st (f := fun d l => (l, guardOf d l)) h
  · split at h
    · cases h; rfl
    · cases h
  · split at h
    · cases h; rfl
    · cases h
  · exact items_st (f := fun d l => (numbered 0 l, guardOf d l)) h
  · cases h
theorem itr_chain {k : Itk} {a : E} {σ : L2.St} {H : Hp} {R : It → Hp → Prop} (h : tItr X.K Tb (fun env => bnd (ev C (.itr k a) env) srcOf) σ H R) :
    tOfL X.K Tb (fun env => bnd (ev C a env) listOf) σ H fun vs H1 => ∃ β α st l s, itemsD k l st = .ok s st ∧ Ok X.K Tb β α st H1 ∧ Reps X.K α (Mk (β ++ α) H1) l vs ∧ SatS X.K Tb β α (.ok s st) H1 R := by
  obtain ⟨β, α, st, env, o, en, h⟩ := h
  simp only [ev] at h
  rw [bnd_assoc] at h
  refine tOfL_bnd (m := fun env => bnd (ev C a env) listOf) (F := fun l => bnd (bnd (itemsD k l) fun s => ret (srcD s)) srcOf) (S := fun α r H => SatS X.K Tb β α r H R) o en h (fun _ _ z => z) (fun _ _ _ s h => h.step s) fun l st1 xs α1 H1 _ s o1 e1 r h1 => ?_
  simp only [bnd_assoc] at h1
  obtain ⟨sr, st2, q2, h2⟩ := satS_bnd h1
  have e2 : st2 = st1 := itemsD_st q2
  subst e2
  refine ⟨β, α1, st2, l, sr, q2, o1, r, ?_⟩
  have h3 : SatS X.K Tb β α1 (srcOf (srcD sr) st2) H1 R := h2
  rw [srcOf_src] at h3
  exact h3
theorem items_seq {d : D} {st : St} {s : Src} {f : List D → List D} (h : bnd (deref d) (fun e => bnd (opt (items e)) fun l => ret (f l, guardOf d l)) st = .ok s st) :
    (∃ l, d = .tup l ∧ s = (f l, none)) ∨ (∃ l, d = .lst l ∧ s = (f l, none)) ∨ ∃ k l, d = .cell k ∧ st[k]? = some (.lst l) ∧ s = (f l, some (k, l)) := by
  cases d with
  | tup l => cases h; exact .inl ⟨l, rfl, rfl⟩
  | lst l => cases h; exact .inr (.inl ⟨l, rfl, rfl⟩)
  | cell k =>
    simp only [bnd, deref] at h
    cases q : st[k]? with
    | none => rw [q] at h; cases h
    | some c =>
      cases c with
      | lst l =>
        rw [q] at h
        cases h
        exact .inr (.inr ⟨k, l, rfl, q, rfl⟩)
  | _ => cases h
theorem snd_itr_seq (hl : PE X l (tOf X.K Tb (ev C a))) : PI X tg l (tItr X.K Tb fun env => bnd (ev C (.itr .seq (.cons a .nil)) env) srcOf) := by
  refine PI.by fun σ H R h => ⟨_, pi_seq hl, ?_⟩
  have h1 := itr_chain h
  show tOf X.K Tb (ev C a) σ H _
  obtain ⟨β, α, st, env, o, en, h1⟩ := h1
  replace h1 : SatL X.K Tb β α (bnd (ev C (.cons a .nil) env) listOf st) H _ := h1
  rw [ev_one] at h1
  refine tOf_bnd (S := fun α r H => SatL X.K Tb β α r H _) o en h1 (fun _ _ z => z) (fun _ _ _ s h => h.step s) fun d st1 v α1 H1 _ s o1 e1 r h2 => ?_
  obtain ⟨β2, α2, st2, l2, sr, q, o2, r2, h3⟩ := SatL.here h2 o1 (Reps.one r)
  obtain ⟨x, hx, r5⟩ : ∃ d2, l2 = [d2] ∧ Rep X.K α2 (Mk (β2 ++ α2) H1) d2 v := by
    cases l2 with
    | nil => cases r2
    | cons d2 rest =>
      obtain ⟨y, ys, e, k1, k2⟩ := r2
      cases e
      cases rest with
      | nil => exact ⟨d2, rfl, k1⟩
      | cons _ _ => obtain ⟨_, _, e, _⟩ := k2; cases e
  clear r2
  subst hx
  have r2 := r5
  clear r5
  rcases items_seq (f := id) q with ⟨l, rfl, rfl⟩ | ⟨l, rfl, rfl⟩ | ⟨k, l, rfl, hk, rfl⟩
  · obtain ⟨p, xs, rfl, k1, k2⟩ := r2
    exact ⟨p, rfl, .inr ⟨xs, LeG.mk.sqT k1, h3.here o2 rfl (walkD_tup k1 k2)⟩⟩
  · obtain ⟨p, xs, rfl, k1, k2⟩ := r2
    exact ⟨p, rfl, .inl ⟨xs, .inl (.inl (mk_some k1).2), h3.here o2 rfl (walkD_lst k1 k2)⟩⟩
  · obtain ⟨p, rfl, k1⟩ := r2
    obtain ⟨xs, k2, _⟩ := o2.cells k p l k1 hk
    exact ⟨p, rfl, .inl ⟨xs, .inl (.inl k2), h3.here o2 (chk_of hk) (walkD_cell k1)⟩⟩
theorem snd_itr_enum {elts : List Expr} {kk : Nat} {tpos : Pos} (hg : Gl X "enumerate") (hm : X.mg "enumerate" = none) (hs : isStar e = false) (ha : PE X e (tOf X.K Tb (ev C a))) :
    PI X (.Tuple elts kk tpos) (.Call (.Name "enumerate" p) [e] [] pos) (tItr X.K Tb fun env => bnd (ev C (.itr .enum (.cons a .nil)) env) srcOf) := by
  refine PI.by fun σ H R h => ⟨_, pi_enums hg hm (pa_cons ha pa_nil (star_cons (isStar_ne hs))) (star_cons (isStar_ne hs)), ?_⟩
  have h1 := itr_chain h
  show tOf X.K Tb (ev C a) σ H _
  obtain ⟨β, α, st, env, o, en, h1⟩ := h1
  replace h1 : SatL X.K Tb β α (bnd (ev C (.cons a .nil) env) listOf st) H _ := h1
  rw [ev_one] at h1
  refine tOf_bnd (S := fun α r H => SatL X.K Tb β α r H _) o en h1 (fun _ _ z => z) (fun _ _ _ s h => h.step s) fun d st1 v α1 H1 _ s o1 e1 r h2 => ?_
  obtain ⟨β2, α2, st2, l2, sr, q, o2, r2, h3⟩ := SatL.here h2 o1 (Reps.one r)
  obtain ⟨x, hx, r5⟩ : ∃ d2, l2 = [d2] ∧ Rep X.K α2 (Mk (β2 ++ α2) H1) d2 v := by
    cases l2 with
    | nil => cases r2
    | cons d2 rest =>
      obtain ⟨y, ys, e, k1, k2⟩ := r2
      cases e
      cases rest with
      | nil => exact ⟨d2, rfl, k1⟩
      | cons _ _ => obtain ⟨_, _, e, _⟩ := k2; cases e
  clear r2
  subst hx
  have r2 := r5
  clear r5
  rcases items_seq (f := numbered 0) q with ⟨l, rfl, rfl⟩ | ⟨l, rfl, rfl⟩ | ⟨k, l, rfl, hk, rfl⟩
  · obtain ⟨p, xs, rfl, k1, k2⟩ := r2
    exact ⟨p, rfl, .inr ⟨xs, LeG.mk.sqT k1, h3.here o2 rfl (walkD_enumT k1 k2)⟩⟩
  · obtain ⟨p, xs, rfl, k1, k2⟩ := r2
    exact ⟨p, rfl, .inl ⟨xs, .inl (.inl (mk_some k1).2), h3.here o2 rfl (walkD_enumL k1 k2)⟩⟩
  · obtain ⟨p, rfl, k1⟩ := r2
    obtain ⟨xs, k2, _⟩ := o2.cells k p l k1 hk
    exact ⟨p, rfl, .inl ⟨xs, .inl (.inl k2), h3.here o2 (chk_of hk) (walkD_enumC k1)⟩⟩
theorem rangeOk_is {i : Int} (h : rangeOk i = true) : -(2 ^ 62) ≤ i ∧ i < 2 ^ 62 := by
  unfold rangeOk at h
  simp only [Bool.and_eq_true, decide_eq_true_eq] at h
  exact h
theorem snd_itr_rng1 (hg : Gl X "range") (hm : X.mg "range" = none) (hs : isStar e = false) (ha : PE X e (tOf X.K Tb (ev C a))) :
    PI X tg (.Call (.Name "range" p) [e] [] pos) (tItr X.K Tb fun env => bnd (ev C (.itr .range1 (.cons a .nil)) env) srcOf) := by
  refine PI.by fun σ H R h => ⟨_, pi_range1 hg hm (pa_cons ha pa_nil (star_cons (isStar_ne hs))) (star_cons (isStar_ne hs)), ?_⟩
  have h1 := itr_chain h
  show tOf X.K Tb (ev C a) σ H _
  obtain ⟨β, α, st, env, o, en, h1⟩ := h1
  replace h1 : SatL X.K Tb β α (bnd (ev C (.cons a .nil) env) listOf st) H _ := h1
  rw [ev_one] at h1
  refine tOf_bnd (S := fun α r H => SatL X.K Tb β α r H _) o en h1 (fun _ _ z => z) (fun _ _ _ s h => h.step s) fun d st1 v α1 H1 _ s o1 e1 r h2 => ?_
  obtain ⟨β2, α2, st2, l2, sr, q, o2, r2, h3⟩ := SatL.here h2 o1 (Reps.one r)
  obtain ⟨x, hx, r5⟩ : ∃ d2, l2 = [d2] ∧ Rep X.K α2 (Mk (β2 ++ α2) H1) d2 v := by
    cases l2 with
    | nil => cases r2
    | cons d2 rest =>
      obtain ⟨y, ys, e, k1, k2⟩ := r2
      cases e
      cases rest with
      | nil => exact ⟨d2, rfl, k1⟩
      | cons _ _ => obtain ⟨_, _, e, _⟩ := k2; cases e
  clear r2
  subst hx
  cases x with
  | int n =>
    obtain rfl : v = .int n := r5
    simp only [itemsD] at q
    split at q
    · rename_i hr
      cases q
      obtain ⟨b1, b2⟩ := rangeOk_is hr
      exact ⟨n, rfl, b1, b2, h3.here o2 rfl walkD_rng⟩
    · cases q
  | _ => cases q
theorem ev_two (env : Env) : bnd (ev C (.cons a (.cons b .nil)) env) listOf = bnd (ev C a env) fun x => bnd (ev C b env) fun y => ret [x, y] := by
  simp only [ev, bnd_assoc]
  rfl
theorem snd_itr_rng2 (hg : Gl X "range") (hm : X.mg "range" = none) (hs : isStar e = false) (hs2 : isStar r = false) (ha : PE X e (tOf X.K Tb (ev C a))) (hb : PE X r (tOf X.K Tb (ev C b))) :
    PI X tg (.Call (.Name "range" p) [e, r] [] pos) (tItr X.K Tb fun env => bnd (ev C (.itr .range2 (.cons a (.cons b .nil))) env) srcOf) := by
  have st2 : starEach [r] X.env = (false, eval r X.env) :: starEach [] X.env := star_cons (isStar_ne hs2)
  have st1 : starEach [e, r] X.env = (false, eval e X.env) :: starEach [r] X.env := star_cons (isStar_ne hs)
  refine PI.by fun σ H R h => ⟨_, pi_range2 hg hm (pa_cons ha (pa_cons hb pa_nil st2) st1) (by rw [st1, st2]; rfl) st2, ?_⟩
  have h1 := itr_chain h
  show tOf X.K Tb (ev C a) σ H fun x H1 => tOf X.K Tb (ev C b) σ H1 _
  obtain ⟨β, α, st, env, o, en, h1⟩ := h1
  replace h1 : SatL X.K Tb β α (bnd (ev C (.cons a (.cons b .nil)) env) listOf st) H _ := h1
  rw [ev_two] at h1
  refine tOf_bnd (S := fun α r H => SatL X.K Tb β α r H _) o en h1 (fun _ _ z => z) (fun _ _ _ s h => h.step s) fun d st1 v α1 H1 _ s o1 e1 r h2 => ?_
  refine tOf_bnd (S := fun α r H => SatL X.K Tb β α r H _) o1 e1 h2 (fun _ _ z => z) (fun _ _ _ s h => h.step s) fun d2 st2 v2 α2 H2 _ s2 o2 e2 r2 h2 => ?_
  obtain ⟨β3, α3, st3, l3, sr, q, o3, r3, h3⟩ := SatL.here h2 o2 (xs := [v, v2]) ⟨v, [v2], rfl, s2.rep r, v2, [], rfl, r2, rfl⟩
  obtain ⟨x, y, hx, r4, r5⟩ : ∃ d d2, l3 = [d, d2] ∧ Rep X.K α3 (Mk (β3 ++ α3) H2) d v ∧ Rep X.K α3 (Mk (β3 ++ α3) H2) d2 v2 := by
    cases l3 with
    | nil => cases r3
    | cons d2 rest =>
      obtain ⟨y, ys, e, k1, k2⟩ := r3
      cases e
      cases rest with
      | nil => cases k2
      | cons d3 rest =>
        obtain ⟨y, ys, e, k3, k2⟩ := k2
        cases e
        cases rest with
        | nil => exact ⟨d2, d3, rfl, k1, k3⟩
        | cons _ _ => obtain ⟨_, _, e, _⟩ := k2; cases e
  clear r3
  subst hx
  cases x with
  | int i =>
    cases y with
    | int j =>
      obtain rfl : v = .int i := r4
      obtain rfl : v2 = .int j := r5
      simp only [itemsD] at q
      split at q
      · rename_i hr
        cases q
        rw [Bool.and_eq_true] at hr
        obtain ⟨b1, b2⟩ := rangeOk_is hr.1
        obtain ⟨b3, b4⟩ := rangeOk_is hr.2
        exact ⟨i, j, rfl, ⟨b1, b2, b3, b4⟩, h3.here o3 rfl walkD_rng⟩
      · cases q
    | _ => cases q
  | _ => cases q
end
end Mp
end
section
set_option Elab.async false
set_option linter.all false
set_option maxRecDepth 100000
/-! Targets; list comprehensions. -/
namespace Mp
open PySem PySem.Spec L2 PyProof.Rows
theorem wipe_get (σ : L2.St) (j : Nat) : ∀ vs : List Nat, (wipe σ vs)[j]? = if j ∈ vs then σ[j]?.map (fun _ => none) else σ[j]?
  | [] => by simp [wipe]
  | v :: vs => by
    unfold wipe
    by_cases hv : v = j
    · subst hv
      rw [if_pos List.mem_cons_self]
      by_cases hl : v < (wipe σ vs).length
      · rw [List.getElem?_set_self hl]
        rw [wipe_length] at hl
        rw [List.getElem?_eq_getElem hl]
        rfl
      · rw [List.getElem?_eq_none (by simpa using hl)]
        rw [wipe_length] at hl
        rw [List.getElem?_eq_none (by omega)]
        rfl
    · rw [List.getElem?_set_ne hv, wipe_get σ j vs]
      by_cases hj : j ∈ vs
      · rw [if_pos hj, if_pos (List.mem_cons_of_mem _ hj)]
      · rw [if_neg hj, if_neg (fun z => (List.mem_cons.mp z).elim (fun e => hv e.symm) hj)]
theorem wipe_set {σ : L2.St} {i : Nat} {v : Option V} {vs : List Nat} (h : i ∈ vs) : wipe (σ.set i v) vs = wipe σ vs := by
  apply List.ext_getElem?
  intro j
  rw [wipe_get, wipe_get]
  by_cases hj : j ∈ vs
  · rw [if_pos hj, if_pos hj]
    by_cases hij : i = j
    · subst hij
      by_cases hl : i < σ.length
      · rw [List.getElem?_set_self hl, List.getElem?_eq_getElem hl]; rfl
      · rw [List.getElem?_eq_none (by rw [List.length_set]; omega), List.getElem?_eq_none (by omega)]
    · rw [List.getElem?_set_ne hij]
  · rw [if_neg hj, if_neg hj, List.getElem?_set_ne (fun e : i = j => hj (e ▸ h))]
theorem wipe_wipe {σ : L2.St} {vs ws : List Nat} (h : ∀ i ∈ ws, i ∈ vs) : wipe (wipe σ ws) vs = wipe σ vs := by
  apply List.ext_getElem?
  intro j
  rw [wipe_get, wipe_get, wipe_get]
  by_cases hj : j ∈ vs
  · rw [if_pos hj, if_pos hj]
    by_cases hw : j ∈ ws
    · rw [if_pos hw]; cases σ[j]? <;> rfl
    · rw [if_neg hw]
  · rw [if_neg hj, if_neg hj, if_neg fun z => hj (h j z)]
theorem wipe_sub {σ σ' : L2.St} {vs ws : List Nat} (h : ∀ i ∈ ws, i ∈ vs) (e : wipe σ' ws = wipe σ ws) : wipe σ' vs = wipe σ vs := by
  rw [← wipe_wipe (σ := σ') h, ← wipe_wipe (σ := σ) h, e]
section
variable {K : PySem.W.Frag} {Tb : List (Addr × Option Str)} {β α : List Addr} {G : Hp}
def setV : List Nat → List V → L2.St → L2.St
  | i :: r, v :: s, σ => setV r s (σ.set i (some v))
  | _, _, σ => σ
theorem setV_wipe {vs : List Nat} : ∀ {l : List Nat} {xs : List V} {σ : L2.St}, (∀ i ∈ l, i ∈ vs) → wipe (setV l xs σ) vs = wipe σ vs
  | [], _, _, _ => by simp [setV]
  | _ :: _, [], _, _ => by simp [setV]
  | i :: r, v :: s, σ, h => by
    rw [setV, setV_wipe fun j hj => h j (List.mem_cons_of_mem _ hj), wipe_set (h i List.mem_cons_self)]
theorem setAll_env : ∀ {l : List Nat} {s : List D} {xs : List V} {env env' : Env} {σ : L2.St}, setAll l s env = some env' → Reps K α G s xs → EnvOk K α G env σ → EnvOk K α G env' (setV l xs σ) ∧ xs.length = l.length
  | [], [], xs, env, env', σ, h, r, e => by
    cases h
    cases r
    exact ⟨e, rfl⟩
  | [], _ :: _, _, _, _, _, h, _, _ => by cases h
  | _ :: _, [], _, _, _, _, h, _, _ => by cases h
  | i :: r, d :: s, _, env, env', σ, h, ⟨x, ys, e1, h1, h2⟩, e => by
    subst e1
    have h : setAll r s (env.set i (some d)) = some env' := h
    obtain ⟨k1, k2⟩ := setAll_env (xs := ys) (σ := σ.set i (some x)) h h2 (e.set i h1)
    exact ⟨k1, by rw [List.length_cons, List.length_cons, k2]⟩
/-- a target takes a value -/
def gOf (K : PySem.W.Frag) (Tb : List (Addr × Option Str)) (p : Pat) : TG := fun v σ H Q => ∃ β α st env d env', Ok K Tb β α st H ∧ EnvOk K α (Mk (β ++ α) H) env σ ∧ Rep K α (Mk (β ++ α) H) d v ∧ p.bind d env = some env' ∧
  ∀ σ', wipe σ' p.slots = wipe σ p.slots → EnvOk K α (Mk (β ++ α) H) env' σ' → Q σ' H
end
section
variable {X : Cx} {Tb : List (Addr × Option Str)}
/-- a name that may be stored -/
structure NmOk (X : Cx) (x : Str) (i : Nat) : Prop where
  at_ : X.N[i]? = some x
  loc : Loc X.env.scope x
  fn : X.fn x = true ∨ X.env.scope.names.lookup x = some .local
def NmsOk (X : Cx) : List Expr → List Nat → Prop
  | [], [] => True
  | .Name x _ :: r, i :: l => NmOk X x i ∧ NmsOk X r l
  | _, _ => False
def PatOk (X : Cx) (tg : Expr) (p : Pat) : Prop := match tg, p with
  | .Name x _, .one i => NmOk X x i
  | .Tuple es _ _, .tup l => NmsOk X es l
  | _, _ => False
theorem PG.by {X : Cx} {e : Expr} {t : TG} (h : ∀ v σ H Q, t v σ H Q → ∃ u, PG X e u ∧ u v σ H Q) : PG X e t := ⟨fun pins s σ H v u Q I r w => by
  obtain ⟨t', p, q⟩ := h v σ H Q w
  exact p.run pins s σ H v u Q I r q⟩
def gAll : List Nat → TGs
  | [] => gNil
  | i :: r => gCons (gName i) (gAll r)
theorem gAll_of : ∀ {l : List Nat} {xs : List V} {σ : L2.St} {H : Hp} {Q : L2.St → Hp → Prop}, xs.length = l.length → Q (setV l xs σ) H → gAll l xs σ H Q
  | [], [], _, _, _, _, q => ⟨rfl, q⟩
  | [], _ :: _, _, _, _, h, _ => by simp at h
  | _ :: _, [], _, _, _, h, _ => by simp at h
  | i :: r, v :: s, σ, H, Q, h, q => ⟨v, s, rfl, gAll_of (by simpa using h) q⟩
theorem nms_pgs (hN : X.N.Nodup) : ∀ {es : List Expr} {l : List Nat}, NmsOk X es l → PGs X es (gAll l) ∧ (assignEach es X.env).length = l.length ∧ (assignEach es X.env).findIdx? (·.1) = none
  | [], [], _ => ⟨pgs_nil, rfl, rfl⟩
  | .Name x _ :: r, i :: l, h => by
    obtain ⟨h1, h2⟩ := h
    obtain ⟨k1, k2, k3⟩ := nms_pgs hN h2
    refine ⟨pgs_cons (pg_name hN h1.at_ h1.loc h1.fn) k1 rfl, ?_, ?_⟩
    · show (assignEach r X.env).length + 1 = l.length + 1
      rw [k2]
    · show List.findIdx? (·.1) ((false, _) :: assignEach r X.env) = none
      rw [List.findIdx?_cons, k3]
      rfl
theorem snd_pat {tg : Expr} {p : Pat} (hc : X.calm = true) (hN : X.N.Nodup) (h : PatOk X tg p) : PG X tg (gOf X.K Tb p) := by
  unfold PatOk at h
  split at h
  · rename_i x _ i
    refine PG.by fun v σ H Q hw => ⟨_, pg_name hN h.at_ h.loc h.fn, ?_⟩
    obtain ⟨β, α, st, env, d, env', o, e, r, hb, q⟩ := hw
    cases hb
    exact q _ (wipe_set (by simp [Pat.slots])) (e.set i r)
  · rename_i es k pos l
    obtain ⟨k1, k2, k3⟩ := nms_pgs hN h
    refine PG.by fun v σ H Q hw => ⟨_, pg_tup (n := l.length) hc k1 k2 k3, ?_⟩
    obtain ⟨β, α, st, env, d, env', o, e, r, hb, q⟩ := hw
    cases d with
    | tup s =>
      obtain ⟨a, xs, rfl, h1, h2⟩ := r
      obtain ⟨q1, q2⟩ := setAll_env hb h2 e
      exact ⟨a, xs, rfl, LeG.mk.sqT h1, q2, gAll_of q2 (q _ (setV_wipe fun j hj => hj) q1)⟩
    | _ => cases hb
  · exact h.elim
end
/-! list comprehensions -/
section
variable {K : PySem.W.Frag} {Tb : List (Addr × Option Str)} {β α α1 : List Addr} {st st1 : St} {H H1 : Hp}
theorem Stp.put_new {c : Addr} {o : HO} (a : Stp α α1 H H1) (hc : H c = none) : Stp α α1 H (upd H1 c o) where
  pre := a.pre
  new := a.new
  keep := fun b u hb e n => by rw [upd_ne (ne_of_none e hc)]; exact a.keep b u hb e n
  tbl := fun b ps hb e => by
    obtain ⟨ps', q⟩ := a.tbl b ps hb e
    exact ⟨ps', by rw [upd_ne (ne_of_none e hc)]; exact q⟩
/-- a list that is being made joins the lists that must stand -/
theorem Ok.more {D : Addr} {xs : List V} (o : Ok K Tb β α st H) (hD : H D = none) : Ok K Tb (D :: β) α st (upd H D (.lst xs)) := by
  have o1 := o.laid (o := .lst xs) hD
  refine ⟨o1.nd, fun a ha hb => ?_, fun b hb => ?_, o1.len, fun k a l e1 e2 => ?_, o1.tabs⟩
  · rcases List.mem_cons.mp hb with z | z
    · obtain ⟨ys, e⟩ := o.tracked ha
      rw [z, hD] at e
      cases e
    · exact o1.ap a ha z
  · rcases List.mem_cons.mp hb with z | z
    · exact ⟨xs, by rw [z, upd_same]⟩
    · exact o1.bl b z
  · obtain ⟨ys, h1, h2⟩ := o.cells k a l e1 e2
    have hne : ∀ b o, H b = some o → b ≠ D := fun b o e => ne_of_none e hD
    refine ⟨ys, by rw [upd_ne (hne _ _ h1)]; exact h1, Reps.mono List.prefix_rfl (fun b u e n => ?_) l ys h2⟩
    obtain ⟨hb, e⟩ := mk_some e
    have hbD := hne _ _ e
    have hb2 : b ∉ D :: β ++ α := fun z => (List.mem_cons.mp z).elim hbD hb
    exact (mk_out hb2).trans ((upd_ne hbD).trans e)
/-- a list in the making grows -/
theorem Ok.grow {D : Addr} {xs : List V} (o : Ok K Tb β α st H) (hD : D ∈ β) : Ok K Tb β α st (upd H D (.lst xs)) := by
  obtain ⟨ys, hy⟩ := o.bl D hD
  have hm : D ∈ β ++ α := List.mem_append_left _ hD
  refine ⟨o.nd, o.ap, fun b hb => ?_, o.len, fun k a l e1 e2 => ?_, fun p hp => ?_⟩
  · by_cases hb2 : b = D
    · exact ⟨xs, by rw [hb2, upd_same]⟩
    · obtain ⟨zs, e⟩ := o.bl b hb
      exact ⟨zs, by rw [upd_ne hb2]; exact e⟩
  · rw [mk_upd hm]
    obtain ⟨zs, h1, h2⟩ := o.cells k a l e1 e2
    exact ⟨zs, by rw [upd_ne (fun z : a = D => o.ap a (List.mem_of_getElem? e1) (z ▸ hD))]; exact h1, h2⟩
  · refine tabOk_lst (o.tabs p hp) fun b u e hn => ?_
    have : b ≠ D := fun z => by
      rw [z, hy] at e
      exact hn _ (Option.some.inj e).symm
    exact (upd_ne this).trans e
/-- the list is made -/
theorem Ok.less {D : Addr} (o : Ok K Tb (D :: β) α st H) : Ok K Tb β α st H where
  nd := o.nd
  ap := fun a ha hb => o.ap a ha (List.mem_cons_of_mem _ hb)
  bl := fun b hb => o.bl b (List.mem_cons_of_mem _ hb)
  len := o.len
  cells := fun k a l e1 e2 => by
    obtain ⟨ys, h1, h2⟩ := o.cells k a l e1 e2
    exact ⟨ys, h1, Reps.mono List.prefix_rfl (LeG.mk_sub fun b hb => List.mem_cons_of_mem _ hb) l ys h2⟩
  tabs := o.tabs
end
section
variable {X : Cx} {Tb : List (Addr × Option Str)} {C : CallF}
theorem tOf_mk {K : PySem.W.Frag} {β α : List Addr} {st : St} {H : Hp} {σ : L2.St} {env : Env} {m : Env → M D} {Q : VK} (o : Ok K Tb β α st H) (e : EnvOk K α (Mk (β ++ α) H) env σ) (h : Sat K Tb β α (m env st) H Q) : tOf K Tb m σ H Q := ⟨β, α, st, env, o, e, h⟩
theorem tOfB_mk {K : PySem.W.Frag} {β α : List Addr} {st : St} {H : Hp} {σ : L2.St} {env : Env} {m : Env → M Bool} {Q : Bool → Hp → Prop} (o : Ok K Tb β α st H) (e : EnvOk K α (Mk (β ++ α) H) env σ) (h : SatB K Tb β α (m env st) H Q) : tOfB K Tb m σ H Q := ⟨β, α, st, env, o, e, h⟩
theorem tItr_mk {K : PySem.W.Frag} {β α : List Addr} {st : St} {H : Hp} {σ : L2.St} {env : Env} {m : Env → M Src} {R : It → Hp → Prop} (o : Ok K Tb β α st H) (e : EnvOk K α (Mk (β ++ α) H) env σ) (h : SatS K Tb β α (m env st) H R) : tItr K Tb m σ H R := ⟨β, α, st, env, o, e, h⟩
/-- a clause's test -/
def tTst (K : PySem.W.Frag) (Tb : List (Addr × Option Str)) (m : Env → M D) : TT := tOfB K Tb fun env => bnd (m env) truth
theorem satL_bnd {K : PySem.W.Frag} {β α : List Addr} {st : St} {H : Hp} {γ : Type} {m : M γ} {F : γ → M (List D)} {Q : List V → Hp → Prop} (h : SatL K Tb β α (bnd m F st) H Q) : ∃ a st', m st = .ok a st' ∧ SatL K Tb β α (F a st') H Q := by
  unfold bnd at h
  split at h
  · exact ⟨_, _, by assumption, h⟩
  · exact h.elim
theorem bnd_ok {γ δ : Type} {m : M γ} {F : γ → M δ} {st st' : St} {d : δ} (h : bnd m F st = .ok d st') : ∃ a st1, m st = .ok a st1 ∧ F a st1 = .ok d st' := by
  unfold bnd at h
  split at h
  · exact ⟨_, _, by assumption, h⟩
  · cases h
theorem bnd_eq {γ δ : Type} {m : M γ} {F : γ → M δ} {st st1 : St} {a : γ} (h : m st = .ok a st1) : bnd m F st = F a st1 := by
  unfold bnd
  rw [h]
theorem opt_ok {γ : Type} {o : Option γ} {st st' : St} {a : γ} (h : opt o st = .ok a st') : o = some a ∧ st' = st := by
  cases o with
  | none => cases h
  | some b => cases h; exact ⟨rfl, rfl⟩
/-- the reading of a comprehension, told by its evaluation. E: the element's evaluation and reading -/
theorem lc_tell {p : Pat} {c e : Env → M D} {wi : Env → M Src} {vs : List Nat} (hv : vs = p.slots) {σ : L2.St} {H : Hp} {Q : VK}
    (h : tOf X.K Tb (fun env => bnd (wi env) fun s => bnd (compL p c e (wipeE env p.slots) s.2 s.1) retLst) σ H Q) :
    tLc (tItr X.K Tb wi) (gOf X.K Tb p) (tTst X.K Tb c) (tOf X.K Tb e) vs σ H Q := by
  subst hv
  obtain ⟨β, α, st, env, o, en, h⟩ := h
  refine ⟨β, α, st, env, o, en, ?_⟩
  obtain ⟨⟨l, g⟩, st1, q1, h⟩ := sat_bnd h
  rw [q1]
  intro J α1 H1 s1 o1 hc walk D hD
  obtain ⟨L, stF, qF, h⟩ := sat_bnd h
  simp only at qF
  have hL : lenOk L = true := by
    unfold retLst at h
    split at h
    · assumption
    · exact h.elim
  have h : Sat X.K Tb β α (.ok (.lst L) stF) H Q := by
    unfold retLst at h
    rw [hL] at h
    exact h
  have hLs : L.length ≤ sizeLine := lenOk_le hL
  have en1 : EnvOk X.K α1 (Mk (β ++ α1) H1) env σ := en.mono s1.pre (s1.le β)
  -- what holds ahead of turn i
  let Pv : Nat → Hp → Prop := fun i H2 => ∃ α2 st2 acc xs ys, Stp α1 α2 H1 H2 ∧ Ok X.K Tb (D :: β) α2 st2 H2 ∧ chk g st2 = .ok () st2 ∧ H2 D = some (.lst xs) ∧ Reps X.K α2 (Mk (D :: β ++ α2) H2) acc xs ∧ compL p c e (wipeE env p.slots) g (l.drop i) st2 = .ok ys stF ∧ L = acc ++ ys
  have hnew : ∀ b ∈ D :: β, b ∈ β ∨ H1 b = none := fun b hb => (List.mem_cons.mp hb).elim (fun z => .inr (z ▸ hD)) .inl
  have h0 : Pv 0 (upd H1 D (.lst [])) := ⟨α1, st1, [], [], L, Stp.laid hD, o1.more hD, hc, upd_same, rfl, qF, rfl⟩
  refine ⟨fun i m H2 => m = l.length - i ∧ i ≤ l.length ∧ Pv i H2, ⟨l.length, by simp, Nat.zero_le _, h0⟩, ?_⟩
  rintro i m H2 ⟨rfl, hi, α2, st2, acc, xs, ys, s2, o2, c2, hx, ra, qr, eL⟩
  obtain ⟨wg, ws, wy⟩ := walk (D :: β) α2 st2 H2 hnew (s2.w β) o2 c2
  by_cases hlt : i < l.length
  · refine .inr ⟨wg i hlt, Pv (i + 1), fun H' p' => ⟨l.length - (i + 1), by omega, rfl, hlt, p'⟩, fun x H3 y => ?_⟩
    obtain ⟨d, hd, o3, s3, r3⟩ := wy i x H3 hlt y
    have hdrop : l.drop i = d :: l.drop (i + 1) := by
      rw [List.drop_eq_getElem_cons hlt]
      congr 1
      rw [List.getElem?_eq_getElem hlt] at hd
      exact Option.some.inj hd
    rw [hdrop] at qr
    unfold compL at qr
    obtain ⟨env', st2, qb0, qr1⟩ := bnd_ok qr
    obtain ⟨qb, e3⟩ := opt_ok qb0
    rw [e3] at qr1
    clear qr qb0 e3 st2
    have s13 : Stp α1 α2 H1 H3 := s2.trans s3
    have enw : EnvOk X.K α2 (Mk (D :: β ++ α2) H3) (wipeE env p.slots) (wipe σ p.slots) := (EnvOk.wipe en1 p.slots).mono s13.pre ((s13.w β).le' hnew)
    refine ⟨D :: β, α2, st2, wipeE env p.slots, d, env', o3, enw, r3, qb, fun σ' hw e' => ⟨by rw [hw, wipe_wipe fun _ h => h], ?_⟩⟩
    refine tOfB_mk o3 e' ?_
    obtain ⟨b, st4, q4, qr2⟩ := bnd_ok qr1
    rw [q4]
    intro α4 H4 s4 o4
    have s14 : Stp α1 α4 H1 H4 := s13.trans s4
    have hx4 : H4 D = some (.lst xs) ∧ Reps X.K α4 (Mk (D :: β ++ α4) H4) acc xs := by
      have hDα : D ∉ α2 := fun z => o2.ap D z List.mem_cons_self
      have h3 : H3 D = some (.lst xs) := s3.keep D _ hDα hx noT_lst
      exact ⟨s4.keep D _ hDα h3 noT_lst, s4.reps (s3.reps ra)⟩
    cases b with
    | false =>
      obtain ⟨_, st5, q5, qr3⟩ := bnd_ok qr2
      have e5 := chk_st q5
      rw [e5] at q5 qr3
      exact ⟨α4, st4, acc, xs, ys, s14, o4, chk_ok q5, hx4.1, hx4.2, qr3, eL⟩
    | true =>
      obtain ⟨y, st5, q5, qr3⟩ := bnd_ok qr2
      refine tOf_mk o4 (e'.mono s4.pre (s4.le (D :: β))) ?_
      rw [q5]
      intro v α5 H5 s5 o5 r5
      obtain ⟨_, st6, q6, qr4⟩ := bnd_ok qr3
      have e6 := chk_st q6
      rw [e6] at q6 qr4
      obtain ⟨ys', st7, q7, qr5⟩ := bnd_ok qr4
      cases qr5
      have hDα4 : D ∉ α4 := fun z => o4.ap D z List.mem_cons_self
      have hx5 : H5 D = some (.lst xs) := s5.keep D _ hDα4 hx4.1 noT_lst
      have ra5 : Reps X.K α5 (Mk (D :: β ++ α5) H5) acc xs := s5.reps hx4.2
      have hlen : xs.length < sizeLine := by
        rw [ra5.length]
        rw [eL, List.length_append, List.length_cons] at hLs
        omega
      refine ⟨xs, hx5, hlen, α5, st5, acc ++ [y], xs ++ [v], ys', (s14.trans s5).put_new hD, o5.grow List.mem_cons_self, chk_ok q6, upd_same, ?_, q7, by rw [eL, List.append_assoc]; rfl⟩
      rw [mk_upd (List.mem_append_left _ List.mem_cons_self)]
      exact ra5.append (Reps.one r5)
  · have e : i = l.length := by omega
    subst e
    rw [List.drop_length] at qr
    cases qr
    rw [List.append_nil] at eL
    subst eL
    refine .inl ⟨ws, ?_⟩
    have s02 := s1.trans s2
    refine h (.ref D) α2 H2 s02 o2.less ⟨D, xs, rfl, ?_, Reps.mono List.prefix_rfl (LeG.mk_sub fun b hb => List.mem_cons_of_mem _ hb) _ _ ra⟩
    rw [mk_out fun z => ?_]
    · exact hx
    · rcases List.mem_append.mp z with z | z
      · obtain ⟨_, q⟩ := o1.bl D z
        rw [hD] at q
        cases q
      · exact o2.ap D z List.mem_cons_self
end
end Mp
end
section
set_option Elab.async false
set_option linter.all false
set_option maxRecDepth 100000
/-! List comprehensions of two clauses. -/
namespace Mp
open PySem PySem.Spec L2 PyProof.Rows
section
variable {X : Cx} {Tb : List (Addr × Option Str)} {C : CallF}
theorem lc2_tell {p q : Pat} {c d e : Env → M D} {wi wi1 : Env → M Src} {vs vs1 : List Nat} (hv : vs = p.slots ++ q.slots) (hv1 : vs1 = q.slots) {σ : L2.St} {H : Hp} {Q : VK}
    (h : tOf X.K Tb (fun env => bnd (wi env) fun s => bnd (compJ p c (fun env => bnd (wi1 env) fun s => compL q d e (wipeE env q.slots) s.2 s.1) (wipeE env (p.slots ++ q.slots)) s.2 s.1) retLst) σ H Q) :
    tLc2 (tItr X.K Tb wi) (gOf X.K Tb p) (tTst X.K Tb c) (tItr X.K Tb wi1) (gOf X.K Tb q) (tTst X.K Tb d) (tOf X.K Tb e) vs vs1 σ H Q := by
  subst hv hv1
  obtain ⟨β, α, st, env, o, en, h⟩ := h
  refine ⟨β, α, st, env, o, en, ?_⟩
  obtain ⟨⟨l, g⟩, st1, q1, h⟩ := sat_bnd h
  rw [q1]
  intro J α1 H1 s1 o1 hc walk D hD
  obtain ⟨L, stF, qF, h⟩ := sat_bnd h
  simp only at qF
  have hL : lenOk L = true := by
    unfold retLst at h
    split at h
    · assumption
    · exact h.elim
  have h : Sat X.K Tb β α (.ok (.lst L) stF) H Q := by
    unfold retLst at h
    rw [hL] at h
    exact h
  have hLs : L.length ≤ sizeLine := lenOk_le hL
  have en1 : EnvOk X.K α1 (Mk (β ++ α1) H1) env σ := en.mono s1.pre (s1.le β)
  generalize hel : (fun env => bnd (wi1 env) fun s => compL q d e (wipeE env q.slots) s.2 s.1) = el at qF
  generalize hew : wipeE env (p.slots ++ q.slots) = ew at qF
  -- what holds ahead of turn i
  let Pv : Nat → Hp → Prop := fun i H2 => ∃ α2 st2 acc xs ys, Stp α1 α2 H1 H2 ∧ Ok X.K Tb (D :: β) α2 st2 H2 ∧ chk g st2 = .ok () st2 ∧ H2 D = some (.lst xs) ∧ Reps X.K α2 (Mk (D :: β ++ α2) H2) acc xs ∧ compJ p c el ew g (l.drop i) st2 = .ok ys stF ∧ L = acc ++ ys
  have hnew : ∀ b ∈ D :: β, b ∈ β ∨ H1 b = none := fun b hb => (List.mem_cons.mp hb).elim (fun z => .inr (z ▸ hD)) .inl
  have h0 : Pv 0 (upd H1 D (.lst [])) := ⟨α1, st1, [], [], L, Stp.laid hD, o1.more hD, hc, upd_same, rfl, qF, rfl⟩
  refine ⟨fun i m H2 => m = l.length - i ∧ i ≤ l.length ∧ Pv i H2, ⟨l.length, by simp, Nat.zero_le _, h0⟩, ?_⟩
  rintro i m H2 ⟨rfl, hi, α2, st2, acc, xs, ys, s2, o2, c2, hx, ra, qr, eL⟩
  obtain ⟨wg, ws, wy⟩ := walk (D :: β) α2 st2 H2 hnew (s2.w β) o2 c2
  by_cases hlt : i < l.length
  · refine .inr ⟨wg i hlt, Pv (i + 1), fun H' p' => ⟨l.length - (i + 1), by omega, rfl, hlt, p'⟩, fun x H3 y => ?_⟩
    obtain ⟨dd, hd, o3, s3, r3⟩ := wy i x H3 hlt y
    have hdrop : l.drop i = dd :: l.drop (i + 1) := by
      rw [List.drop_eq_getElem_cons hlt]
      congr 1
      rw [List.getElem?_eq_getElem hlt] at hd
      exact Option.some.inj hd
    rw [hdrop] at qr
    unfold compJ at qr
    obtain ⟨env', st3, qb0, qr1⟩ := bnd_ok qr
    obtain ⟨qb, e3⟩ := opt_ok qb0
    rw [e3] at qr1
    clear qr qb0 e3 st3
    have s13 : Stp α1 α2 H1 H3 := s2.trans s3
    have enw : EnvOk X.K α2 (Mk (D :: β ++ α2) H3) ew (wipe σ (p.slots ++ q.slots)) := by
      rw [← hew]
      exact (EnvOk.wipe en1 _).mono s13.pre ((s13.w β).le' hnew)
    refine ⟨D :: β, α2, st2, ew, dd, env', o3, enw, r3, qb, fun σ' hw e' => ⟨by rw [wipe_sub (fun j hj => List.mem_append_left _ hj) hw, wipe_wipe fun _ h => h], ?_⟩⟩
    refine tOfB_mk o3 e' ?_
    obtain ⟨b, st4, q4, qr2⟩ := bnd_ok qr1
    rw [q4]
    intro α4 H4 s4 o4
    have s14 : Stp α1 α4 H1 H4 := s13.trans s4
    have hx4 : H4 D = some (.lst xs) ∧ Reps X.K α4 (Mk (D :: β ++ α4) H4) acc xs := by
      have hDα : D ∉ α2 := fun z => o2.ap D z List.mem_cons_self
      have h3 : H3 D = some (.lst xs) := s3.keep D _ hDα hx noT_lst
      exact ⟨s4.keep D _ hDα h3 noT_lst, s4.reps (s3.reps ra)⟩
    cases b with
    | false =>
      obtain ⟨_, st5, q5, qr3⟩ := bnd_ok qr2
      have e5 := chk_st q5
      rw [e5] at q5 qr3
      exact ⟨α4, st4, acc, xs, ys, s14, o4, chk_ok q5, hx4.1, hx4.2, qr3, eL⟩
    | true =>
      obtain ⟨y1, stI, q5, qr3⟩ := bnd_ok qr2
      obtain ⟨_, st6, q6, qr4⟩ := bnd_ok qr3
      have e6 := chk_st q6
      rw [e6] at q6 qr4
      have q6 := chk_ok q6
      obtain ⟨ys', st7, q7, qr5⟩ := bnd_ok qr4
      cases qr5
      rw [← hel] at q5
      obtain ⟨⟨l1, g1⟩, st5, q50, q51⟩ := bnd_ok q5
      simp only at q51
      have e4 : EnvOk X.K α4 (Mk (D :: β ++ α4) H4) env' σ' := e'.mono s4.pre (s4.le (D :: β))
      refine tItr_mk o4 e4 ?_
      rw [q50]
      intro J1 α5 H5 s5 o5 hc5 walk1
      have s15 : Stp α1 α5 H1 H5 := s14.trans s5
      have e5 : EnvOk X.K α5 (Mk (D :: β ++ α5) H5) env' σ' := e4.mono s5.pre (s5.le (D :: β))
      have hDα4 : D ∉ α4 := fun z => o4.ap D z List.mem_cons_self
      have hx5 : H5 D = some (.lst xs) := s5.keep D _ hDα4 hx4.1 noT_lst
      have ra5 : Reps X.K α5 (Mk (D :: β ++ α5) H5) acc xs := s5.reps hx4.2
      let Pv1 : Nat → Hp → Prop := fun j H6 => ∃ α6 st6 acc1 xs1 ys1, Stp α1 α6 H1 H6 ∧ StpW (D :: β) α5 α6 H5 H6 ∧ Ok X.K Tb (D :: β) α6 st6 H6 ∧ chk g1 st6 = .ok () st6 ∧ H6 D = some (.lst xs1) ∧ Reps X.K α6 (Mk (D :: β ++ α6) H6) acc1 xs1 ∧ compL q d e (wipeE env' q.slots) g1 (l1.drop j) st6 = .ok ys1 stI ∧ acc ++ y1 = acc1 ++ ys1
      have h10 : Pv1 0 H5 := ⟨α5, st5, acc, xs, y1, s15, (Stp.refl α5 H5).w _, o5, hc5, hx5, ra5, q51, rfl⟩
      refine ⟨fun j k H6 => k = l1.length - j ∧ j ≤ l1.length ∧ Pv1 j H6, ⟨l1.length, by simp, Nat.zero_le _, h10⟩, ?_⟩
      rintro j k H6 ⟨rfl, hj, α6, st6', acc1, xs1, ys1, s16, s56, o6, c6, hx6, ra6, qr6, eL1⟩
      obtain ⟨wg1, ws1, wy1⟩ := walk1 (D :: β) α6 st6' H6 (fun b hb => .inl hb) s56 o6 c6
      by_cases hlt1 : j < l1.length
      · refine .inr ⟨wg1 j hlt1, Pv1 (j + 1), fun H' p' => ⟨l1.length - (j + 1), by omega, rfl, hlt1, p'⟩, fun x1 H7 yy => ?_⟩
        obtain ⟨d1, hd1, o7, s7, r7⟩ := wy1 j x1 H7 hlt1 yy
        have hdrop1 : l1.drop j = d1 :: l1.drop (j + 1) := by
          rw [List.drop_eq_getElem_cons hlt1]
          congr 1
          rw [List.getElem?_eq_getElem hlt1] at hd1
          exact Option.some.inj hd1
        rw [hdrop1] at qr6
        unfold compL at qr6
        obtain ⟨env2, st8, qb0, qr7⟩ := bnd_ok qr6
        obtain ⟨qb2, e8⟩ := opt_ok qb0
        rw [e8] at qr7
        clear qr6 qb0 e8 st8
        have s57 : StpW (D :: β) α5 α6 H5 H7 := s56.then s7
        have enw2 : EnvOk X.K α6 (Mk (D :: β ++ α6) H7) (wipeE env' q.slots) (wipe σ' q.slots) := (EnvOk.wipe e5 _).mono s57.pre (s57.le' fun b hb => .inl hb)
        refine ⟨D :: β, α6, st6', wipeE env' q.slots, d1, env2, o7, enw2, r7, qb2, fun σ3 hw3 e7 => ⟨by rw [hw3, wipe_wipe fun _ h => h], ?_⟩⟩
        refine tOfB_mk o7 e7 ?_
        obtain ⟨b2, st9, q9, qr8⟩ := bnd_ok qr7
        rw [q9]
        intro α9 H9 s9 o9
        have s19 : Stp α1 α9 H1 H9 := (s16.trans s7).trans s9
        have s59 : StpW (D :: β) α5 α9 H5 H9 := s57.then s9
        have hDα6 : D ∉ α6 := fun z => o6.ap D z List.mem_cons_self
        have hx9 : H9 D = some (.lst xs1) := s9.keep D _ hDα6 (s7.keep D _ hDα6 hx6 noT_lst) noT_lst
        have ra9 : Reps X.K α9 (Mk (D :: β ++ α9) H9) acc1 xs1 := s9.reps (s7.reps ra6)
        cases b2 with
        | false =>
          obtain ⟨_, st10, q10, qr9⟩ := bnd_ok qr8
          have e10 := chk_st q10
          rw [e10] at q10 qr9
          exact ⟨α9, st9, acc1, xs1, ys1, s19, s59, o9, chk_ok q10, hx9, ra9, qr9, eL1⟩
        | true =>
          obtain ⟨y2, st10, q10, qr9⟩ := bnd_ok qr8
          refine tOf_mk o9 (e7.mono s9.pre (s9.le (D :: β))) ?_
          rw [q10]
          intro v α11 H11 s11 o11 r11
          obtain ⟨_, st12, q12, qr10⟩ := bnd_ok qr9
          have e12 := chk_st q12
          rw [e12] at q12 qr10
          obtain ⟨ys2, st13, q13, qr11⟩ := bnd_ok qr10
          cases qr11
          have hDα9 : D ∉ α9 := fun z => o9.ap D z List.mem_cons_self
          have hx11 : H11 D = some (.lst xs1) := s11.keep D _ hDα9 hx9 noT_lst
          have ra11 : Reps X.K α11 (Mk (D :: β ++ α11) H11) acc1 xs1 := s11.reps ra9
          have hlen : xs1.length < sizeLine := by
            rw [ra11.length]
            have z : L = acc1 ++ (y2 :: ys2) ++ ys' := by rw [eL, ← eL1, List.append_assoc]
            rw [z, List.length_append, List.length_append, List.length_cons] at hLs
            omega
          refine ⟨xs1, hx11, hlen, α11, st10, acc1 ++ [y2], xs1 ++ [v], ys2, (s19.trans s11).put_new hD, (s59.then s11).put List.mem_cons_self, o11.grow List.mem_cons_self, chk_ok q12, upd_same, ?_, q13, by rw [eL1, List.append_assoc]; rfl⟩
          rw [mk_upd (List.mem_append_left _ List.mem_cons_self)]
          exact ra11.append (Reps.one r11)
      · have ej : j = l1.length := by omega
        subst ej
        rw [List.drop_length] at qr6
        cases qr6
        rw [List.append_nil] at eL1
        refine .inl ⟨ws1, α6, _, acc1, xs1, ys', s16, o6, q6, hx6, ra6, q7, ?_⟩
        rw [eL, ← eL1, List.append_assoc]
  · have e : i = l.length := by omega
    subst e
    rw [List.drop_length] at qr
    cases qr
    rw [List.append_nil] at eL
    subst eL
    refine .inl ⟨ws, ?_⟩
    have s02 := s1.trans s2
    refine h (.ref D) α2 H2 s02 o2.less ⟨D, xs, rfl, ?_, Reps.mono List.prefix_rfl (LeG.mk_sub fun b hb => List.mem_cons_of_mem _ hb) _ _ ra⟩
    rw [mk_out fun z => ?_]
    · exact hx
    · rcases List.mem_append.mp z with z | z
      · obtain ⟨_, q⟩ := o1.bl D z
        rw [hD] at q
        cases q
      · exact o2.ap D z List.mem_cons_self
end
end Mp
end
section
set_option Elab.async false
set_option linter.all false
set_option maxRecDepth 100000
/-! Generator expressions: the frame. -/
namespace Mp
open PySem PySem.Spec L2 PyProof.Rows
structure GenOk (N : List Str) (sc scope : Scope) (own : List (Str × Nat)) : Prop where
  blk : BlkOk N sc scope own
  co : scope.isCoroutine = false
  cell : ∀ y ∈ scope.names, y.2 ≠ .cell
  dot : scope.names.lookup (".0" : Str) = some NameKind.local
/-- the context of a generator expression's frame -/
def gcx (X : Cx) (A : Around) (s : Shared) (H : Hp) (cenv : PySem.Env) (fp : List Addr) (pn : List (Addr × Obj)) : Cx := { X with A := A, s_0 := s, H_0 := H, env := cenv, outer := X.stack, stack := cenv :: X.stack, ex := fp, fn := fun _ => false, pn := pn, xe := fun _ _ => False }
/-- awake again: only the table of generators has changed -/
structure Woke (s s' : Shared) : Prop where
  heap : s'.heap = s.heap
  os : s'.os = s.os
  bare : AllBare s'.gens
theorem Inv.woke {X : Cx} {pins : List (Addr × Obj)} {σ : L2.St} {H : Hp} {s s' : Shared} (I : Inv X pins σ H s) (w : Woke s s') : Inv X pins σ H s' := by
  obtain ⟨h1, h2, h3⟩ := w
  exact ⟨I.ok, h2.trans I.os, h3, by rw [h1]; exact I.base, by rw [h1]; exact I.loc, by rw [h1]; exact I.cell, I.free, I.freeC, by rw [h1]; exact I.pin, by rw [h1]; exact I.hok, I.len⟩
section
variable {X : Cx} {pins : List (Addr × Obj)} {σ : L2.St} {H : Hp} {s s' : Shared}
theorem gen_start {A : Around} {scope : Scope} {own : List (Str × Nat)} {fp : List Addr} {code it : Value} {h' : Heap} (I : Inv X pins σ H s) (hA : A.handled = none) (hfr : A.frames = some (genEnv scope (cloFrom X.env.cells scope.names []) s.heap.objs.size code builtinsNs X.env :: X.stack))
    (ok : GenOk X.N X.env.scope scope own) (hN : X.N.Nodup) (hfp : ∀ b ∈ fp, FpOk X pins H b ∧ b < s.heap.objs.size)
    (hn : h'.Ns s.heap.objs.size (fun y => if y = ".0" then some it else none)) (kp : ∀ b o, s.heap.get? b = some o → h'.get? b = some o)
    (hs : s'.heap = h') (hos : s'.os = s.os) (hb : AllBare s'.gens) {pn : List (Addr × Obj)} (hpn : ∀ p ∈ pn, s.heap.objs.size < p.1 ∧ h'.get? p.1 = some p.2 ∧ ∀ v, p.2.data ≠ .cell v) :
    Inv (gcx X A s H (genEnv scope (cloFrom X.env.cells scope.names []) s.heap.objs.size code builtinsNs X.env) fp pn) [] (wipe σ (own.map (·.2))) H s' := by
  have hfree : ∀ y ∈ scope.names, y.2 = .free → ∃ c, X.env.cells.lookup y.1 = some c := fun y hy e => by
    rcases ok.blk.free y hy e with k | k
    · exact I.ok.has _ (.inl k)
    · exact I.ok.has _ (.inr k)
  have cm : ∀ {y c}, (y, c) ∈ cloFrom X.env.cells scope.names [] → X.env.cells.lookup y = some c ∧ c < s.heap.objs.size := fun {y c} hm => by
    rcases cloFrom_mem hm with hm | ⟨h1, rfl⟩
    · cases hm
    · obtain ⟨c, hc⟩ := hfree _ h1 rfl
      rw [hc]
      obtain ⟨w, z⟩ := I.cell _ _ hc
      exact ⟨rfl, z.lt⟩
  have look : ∀ {y}, scope.names.lookup y = some .free → ∃ c, (cloFrom X.env.cells scope.names []).lookup y = some c ∧ X.env.cells.lookup y = some c := fun {y} hl => by
    have hy : (y, NameKind.free) ∈ scope.names := PySem.mem_of_lookup hl
    obtain ⟨c', e'⟩ := mem_lookup (cloFrom_has (cells := X.env.cells) (acc := []) hy)
    exact ⟨c', e', (cm (PySem.mem_of_lookup e')).1⟩
  generalize hcenv : genEnv scope (cloFrom X.env.cells scope.names []) s.heap.objs.size code builtinsNs X.env = cenv at hfr ⊢
  have hL : cenv.locals = s.heap.objs.size := by rw [← hcenv]; rfl
  have hcl : cenv.cells = cloFrom X.env.cells scope.names [] := by rw [← hcenv]; rfl
  have hsc : cenv.scope = scope := by rw [← hcenv]; rfl
  have hframe : cenv.frame = some cenv.locals := by rw [← hcenv]; rfl
  subst hs
  have okB : (gcx X A s H cenv fp pn).Ok := by
    refine ⟨I.ok.mod, by show cenv.scope.kind = _; rw [hsc]; exact ok.blk.kind, by show cenv.globals = _; rw [← hcenv]; exact I.ok.glob, by show cenv.builtins = _; rw [← hcenv]; rfl, by show s.heap.objs.size ≤ cenv.locals; rw [hL]; exact Nat.le_refl _,
      fun y z c e1 e2 => ?_, fun y hy => ?_, fun y c z e => (by cases z), fun _ => hA, hfr, .inr ⟨rfl, hframe⟩, fun b hb => ⟨?_, fun y c e z => ?_⟩, I.bs, Nat.le_trans I.ok.bsz I.sz, fun b o e hb => ?_, fun b hb z => ?_, I.stack, I.stkFree⟩
    · have e1 : cenv.cells.lookup y = some c := e1
      have e2 : cenv.cells.lookup z = some c := e2
      rw [hcl] at e1 e2
      exact I.ok.inj y z c (cm (PySem.mem_of_lookup e1)).1 (cm (PySem.mem_of_lookup e2)).1
    · have hy : cenv.scope.names.lookup y = some .cell ∨ cenv.scope.names.lookup y = some .free := hy
      rw [hsc] at hy
      show ∃ c, cenv.cells.lookup y = some c
      rw [hcl]
      rcases hy with hy | hy
      · exact absurd rfl (ok.cell _ (PySem.mem_of_lookup hy))
      · obtain ⟨c, h1, _⟩ := look hy
        exact ⟨c, h1⟩
    · show b ≠ cenv.locals
      rw [hL]; exact Nat.ne_of_lt (hfp b hb).2
    · have e : cenv.cells.lookup y = some c := e
      rw [hcl] at e
      exact (hfp b hb).1.2.2.2.2.1 y c (cm (PySem.mem_of_lookup e)).1 z
    · rcases (hfp b hb).1.2.2.2.1 with z | z
      · exact I.ok.noex b o e z
      · exact absurd (Nat.lt_of_lt_of_le (Heap.lt_size e) (Nat.le_trans I.ok.bsz z)) (Nat.lt_irrefl _)
    · rcases List.mem_cons.mp (I.stkSub b z) with z | z
      · exact (hfp b hb).1.2.1 z
      · exact (hfp b hb).1.2.2.1 z
  refine ⟨okB, hos, hb, Un.kept kp, ⟨_, by show Heap.Ns _ cenv.locals _; rw [hL]; exact hn, fun i y av e1 e2 e3 => ?_⟩, fun y c e => ?_, ?_, fun y c e => ?_, fun p hp => ?_, I.hok.kept kp, by rw [wipe_length]; exact I.len⟩
  · obtain ⟨e2, hne⟩ := wipe_some e2
    have e3 : Vis cenv.scope y := e3
    rw [hsc] at e3
    have no : ∀ k, scope.names.lookup y = some k → ¬ (k = .local ∨ k = .cell) := fun k hk hh => by
      rcases ok.blk.own _ (PySem.mem_of_lookup hk) hh with e' | e'
      · obtain ⟨p, hp, hpy⟩ := List.mem_map.mp e'
        have e4 := ok.blk.ix p hp
        have : p.1 = y := hpy
        rw [this] at e4
        exact hne (List.mem_map.mpr ⟨p, hp, nodup_ix hN e4 e1⟩)
      · exact e' (List.mem_of_getElem? e1)
    have hfr : scope.names.lookup y = some .free := by
      rcases e3 with e3 | e3 | e3
      · exact absurd (.inl rfl) (no _ e3)
      · exact absurd (.inr rfl) (no _ e3)
      · exact e3
    obtain ⟨m, hnm, hl⟩ := I.loc
    have hvis : Vis X.env.scope y := (ok.blk.free _ (PySem.mem_of_lookup hfr) rfl).elim (fun k => .inr (.inl k)) (fun k => .inr (.inr k))
    obtain ⟨w, r, q⟩ := hl i y av e1 e2 hvis
    refine ⟨w, r, .inr ⟨.inr (by show cenv.scope.names.lookup y = _; rw [hsc]; exact hfr), ?_⟩⟩
    obtain ⟨c, h1, h2⟩ := look hfr
    rcases q with ⟨k, _⟩ | ⟨_, c', e', z⟩
    · have k : X.env.scope.names.lookup y = some .local := k
      rcases ok.blk.free _ (PySem.mem_of_lookup hfr) rfl with k' | k' <;> rw [show X.env.scope.names.lookup y = _ from k'] at k <;> cases k
    · rw [h2] at e'; cases e'
      exact ⟨c, by show cenv.cells.lookup y = _; rw [hcl]; exact h1, z.keeps kp⟩
  · have e : cenv.cells.lookup y = some c := e
    rw [hcl] at e
    obtain ⟨w, z⟩ := I.cell y c (cm (PySem.mem_of_lookup e)).1
    exact ⟨w, z.keeps kp⟩
  · show H cenv.locals = none
    rw [hL]; exact I.hok.fresh (Nat.le_refl _)
  · have e : cenv.cells.lookup y = some c := e
    rw [hcl] at e
    exact I.freeC y c (cm (PySem.mem_of_lookup e)).1
  · have hp : p ∈ pn := by
      have hp : p ∈ pn ++ [] := hp
      simpa using hp
    obtain ⟨h1, h2, h3⟩ := hpn p hp
    refine ⟨h2, I.hok.fresh (Nat.le_of_lt h1), ?_, ?_, h3⟩
    · show p.1 ≠ cenv.locals
      rw [hL]
      exact Nat.ne_of_gt h1
    · intro z
      rcases List.mem_cons.mp (I.stkSub p.1 z) with z | z
      · exact absurd (Nat.lt_trans (z ▸ I.lt) h1) (Nat.lt_irrefl _)
      · exact I.nofs (Nat.le_of_lt h1) z
end
theorem over_comp0 {A : Around} {elt : Expr} {gs : List Comprehension} {scope : Scope} {pos : Pos} {it acc : Value} {env : PySem.Env} : A.over (.compLoop (.GeneratorExp elt gs scope pos) 0 it acc env) [] = A.deeper env := by
  first
    | rfl
    | (obtain ⟨hd, d, fr, gs, u⟩ := A; simp [Around.over, Around.deeper, marksOver, frameCount, unitsOf, envsOf, guardsOf, pushEnvs, pushGuards, Code.envs, Code.env?, Code.isFrame, Code.guards, Code.isGuard, Code.weight, Code.frames, Code.isCreation, Code.isCaller, Code.cUnits])
theorem over_compS {A : Around} {elt : Expr} {gs : List Comprehension} {scope : Scope} {pos : Pos} {it acc : Value} {env : PySem.Env} : A.over (.compStart (.GeneratorExp elt gs scope pos) 0 it acc env) [] = A.deeper env := by
  first
    | rfl
    | (obtain ⟨hd, d, fr, gs, u⟩ := A; simp [Around.over, Around.deeper, marksOver, frameCount, unitsOf, envsOf, guardsOf, pushEnvs, pushGuards, Code.envs, Code.env?, Code.isFrame, Code.guards, Code.isGuard, Code.weight, Code.frames, Code.isCreation, Code.isCaller, Code.cUnits])
end Mp
end
section
set_option Elab.async false
set_option linter.all false
set_option maxRecDepth 100000
set_option maxHeartbeats 1000000
/-! Generator expressions of one clause. -/
namespace Mp
open PySem PySem.Spec L2 PyProof.Rows
section
variable {G : Cx} {A : Around} {elt tg iter : Expr} {ifs : List Expr} {scope : Scope} {pos : Pos} {it : Addr} {fp : List Addr} {tn : Nat → Heap → Prop} {J : It} {g : TG} {tt : TT} {te : TE} {vs : List Nat} {σ : L2.St} {al : Bool} {QE QS : Hp → Prop}
def gR (G : Cx) (QE : Hp → Prop) : GenEnd := fun _ _ r s => r = .ok .next ∧ ∃ H σ', Inv G [] σ' H s ∧ QE H
def gY (G : Cx) (al : Bool) (QS : Hp → Prop) : Protocol := fun _ _ v s kap => ∃ k H σ', v = .bool k ∧ Inv G [] σ' H s ∧ ((k = al ∧ ∀ s', Woke s s' → kap (.send .none) s') ∨ (k ≠ al ∧ QS H))
/-- what a turn is to bring -/
def gTurns (J : It) (g : TG) (tt : TT) (te : TE) (vs : List Nat) (σ : L2.St) (al : Bool) (QE QS : Hp → Prop) (W : Nat → Nat → Hp → Prop) : Prop := ∀ i m H, W i m H →
  (J.stop i H ∧ QE H) ∨ (J.go i H ∧ ∃ Nx : Hp → Prop, (∀ H', Nx H' → ∃ m', m' < m ∧ W (i + 1) m' H') ∧ ∀ x H', J.yld i H x H' → g x (wipe σ vs) H' fun σ2 H2 => wipe σ2 vs = wipe σ vs ∧ tt σ2 H2 fun b H3 =>
    if b = true then te σ2 H3 fun y H4 => ∃ k, y = .bl k ∧ ((k = al ∧ Nx H4) ∨ (k ≠ al ∧ QS H4)) else Nx H3)
theorem segF {α β : Type} {M : Model} {R : GenEnd} {Y : Protocol} {n : Nat} {s₀ s : Shared} {c : Code} {fs : List Frame} {m : Sem α} {K : α → Sem β} {K' : β → Sem PySem.Fin} {H' : Value → Sem PySem.Fin} {gd lv} {Q : α → Shared → Prop}
    (h : wpAny M (A.over c fs) m Q (fun _ _ => False) s) (hQ : ∀ a s', Q a s' → Seg M A R Y n s₀ c ((K a).wrap K' H' gd lv) fs s') : Seg M A R Y n s₀ c ((m >>= K).wrap K' H' gd lv) fs s :=
  seg_bind_wrap (wpAny_mono h hQ fun _ _ z => False.elim z)
theorem segG {α β : Type} {M : Model} {R : GenEnd} {Y : Protocol} {n : Nat} {s₀ s : Shared} {c : Code} {fs : List Frame} {m : Sem α} {K : α → Sem β} {K' : β → Sem PySem.Fin} {H' : Value → Sem PySem.Fin} {gd lv} {Q : α → Shared → Prop} {A1 : Around} (hov : A.over c fs = A1)
    (h : wpAny M A1 m Q (fun _ _ => False) s) (hQ : ∀ a s', Q a s' → Seg M A R Y n s₀ c ((K a).wrap K' H' gd lv) fs s') : Seg M A R Y n s₀ c ((m >>= K).wrap K' H' gd lv) fs s := segF (by rw [hov]; exact h) hQ
theorem noxG {α : Type} {M : Model} {A : Around} {t : Sem α} {Q : α → Shared → Prop} {xe : Value → Shared → Prop} {s : Shared} (hx : xe = fun _ _ => False) (h : wpAny M A t Q xe s) : wpAny M A t Q (fun _ _ => False) s := hx ▸ h
theorem seg_g1 (hA : A.deeper G.env = G.A) (T : Turn G.prog G.w G.K tg J fp it tn) (hc : G.calm = true) (hxe : G.xe = fun _ _ => False) (hpn : ∀ p ∈ G.pn, p.1 ∉ fp) (hex : G.ex = fp) (hexs : ∀ b ∈ fp, b ∉ G.fs)
    (pg : PG G tg g) (pt : PTs G ifs tt) (pe : PE G elt te) (hco : G.env.scope.isCoroutine = false) {W : Nat → Nat → Hp → Prop} (turn : gTurns J g tt te vs σ al QE QS W) :
    ∀ (m n i : Nat) (s₀ s : Shared) (H : Hp), m < n → W i m H → Inv G [] (wipe σ vs) H s → tn i s.heap → (∀ b ∈ fp, H b = none) →
      Seg (model G.prog G.w) A (gR G QE) (gY G al QS) n s₀ (.compLoop (.GeneratorExp elt [⟨tg, iter, ifs, 0⟩] scope pos) 0 (.ref it) .none G.env)
        ((model G.prog G.w).den (.compLoop (.GeneratorExp elt [⟨tg, iter, ifs, 0⟩] scope pos) 0 (.ref it) .none G.env)) [] s := by
  have hov : ∀ c, c = Code.compLoop (.GeneratorExp elt [⟨tg, iter, ifs, 0⟩] scope pos) 0 (.ref it) .none G.env → A.over c [] = G.A := fun c e => by rw [e, over_comp0]; exact hA
  have stat : ∀ {σ' : L2.St} {H' : Hp} {s' : Shared}, Inv G [] σ' H' s' → (∀ b ∈ fp, H' b = none) → ∀ b ∈ fp, FpOk G [] H' b := fun {σ' H' s'} I' hn b hb =>
    ⟨hn b hb, (I'.ok.exf b (by rw [hex]; exact hb)).1, hexs b hb, .inl (by rw [hex]; exact hb), fun x c e => (I'.ok.exf b (by rw [hex]; exact hb)).2 x c e, fun p hp z => hpn p (by simpa using hp) (z ▸ hb)⟩
  intro m
  induction m using Nat.strongRecOn with
  | ind m ih =>
    intro n i s₀ s H hn w I st nf
    show Seg _ A _ _ _ s₀ _ ((compTurn (.GeneratorExp elt [⟨tg, iter, ifs, 0⟩] scope pos) 0 (.ref it) .none G.env).onRaise (leaving G.env)) [] s
    rw [compTurn_gen, Sem.onRaise_eq_wrap]
    refine seg_bind_wrap (wpAny_standAt ?_)
    rcases turn i m H w with ⟨stop, qe⟩ | ⟨go, Nx, hNx, step⟩
    · refine segG (hov _ rfl) (T.done G rfl rfl rfl hc i [] s _ H (fun _ _ => False) I (stat I nf) st stop) fun r s1 ⟨hr, I1⟩ => ?_
      subst hr
      exact seg_end (.ok .next) ⟨rfl, H, _, I1, qe⟩
    · refine segG (hov _ rfl) (T.item G rfl rfl rfl hc i [] s _ H (fun _ _ => False) I (stat I nf) st go) fun r s1 ⟨u, hr, h1⟩ => ?_
      subst hr
      refine segG (hov _ rfl) h1 fun _ s2 ⟨x, H2, I2, r2, y2, st2, n2⟩ => ?_
      have I2' := I2.pinned (stat I2 n2) (T.obj _ _ st2)
      refine segG (hov _ rfl) (noxG hxe (pg.run _ s2 _ H2 x u _ I2' r2 (step x H2 y2))) fun _ s3 ⟨σ3, H3, I3, hw3, q3⟩ => ?_
      refine segG (hov _ rfl) (noxG hxe (pt.run _ s3 σ3 H3 _ I3 q3)) fun b s4 ⟨H4, I4, q4⟩ => ?_
      have back : ∀ {s' : Shared} {H' : Hp}, Inv G ([] ++ pinsAt fp s2.heap) σ3 H' s' → Inv G [] (wipe σ vs) H' s' ∧ tn (i + 1) s'.heap ∧ ∀ b ∈ fp, H' b = none := fun {s' H'} I' => by
        have pin' : ∀ b ∈ fp, ∀ o, s2.heap.get? b = some o → s'.heap.get? b = some o ∧ H' b = none := fun b hb o e =>
          let z := I'.pin (b, o) (List.mem_append_right _ (List.mem_append_right _ (mem_pinsAt hb e)))
          ⟨z.1, z.2.1⟩
        have hl : (wipe σ vs).length = σ3.length := by rw [← hw3, wipe_length]
        refine ⟨(I'.unpinned (pins := [])).weak hl (fun j v e => ?_), T.keep _ _ _ st2 fun b hb o e => (pin' b hb o e).1, fun b hb => ?_⟩
        · rw [← hw3] at e
          exact (wipe_some e).1
        · obtain ⟨o, e, _⟩ := T.obj _ _ st2 b hb
          exact (pin' b hb o e).2
      cases b with
      | false =>
        simp only [Bool.false_eq_true, if_false] at q4 ⊢
        obtain ⟨m', hm, w'⟩ := hNx H4 q4
        obtain ⟨k1, k2, k3⟩ := back I4
        exact seg_again rfl (ih m' hm n (i + 1) s₀ s4 H4 (by omega) w' k1 k2 k3)
      | true =>
        simp only [if_true] at q4 ⊢
        have hy : ∀ v, yieldOut G.env v = yieldValue v := fun v => by simp only [yieldOut, hco, Bool.false_eq_true, if_false]
        simp only [hy]
        rw [Sem.bind_eq_wrap', Sem.bind_eq_wrap', Sem.wrap_wrap, Sem.wrap_wrap]
        refine seg_wrap ?_
        rw [hov _ rfl]
        refine wpAny_mono (noxG hxe (pe.run _ s4 σ3 H4 _ I4 q4)) (fun z s5 ⟨yv, H5, I5, r5, k, ek, q5⟩ => ?_) fun _ _ z => False.elim z
        subst ek
        obtain rfl : z = .bool k := r5
        obtain ⟨n, rfl⟩ : ∃ n', n = n' + 1 := ⟨n - 1, by omega⟩
        obtain ⟨k1, k2, k3⟩ := back I5
        refine seg_at (seg_yield rfl rfl rfl ⟨k, H5, _, rfl, k1, ?_⟩)
        rcases q5 with ⟨e, nx⟩ | ⟨e, qs⟩
        · refine .inl ⟨e, fun s' wk => ?_⟩
          obtain ⟨m', hm, w'⟩ := hNx H5 nx
          exact seg_again rfl (ih m' hm n (i + 1) s' s' H5 (by omega) w' (Inv.woke k1 wk) (by rw [wk.heap]; exact k2) k3)
        · exact .inr ⟨e, qs⟩
/-- the generator's start -/
theorem seg_gS {gs : List Comprehension} {R : GenEnd} {Y : Protocol} {n : Nat} {s₀ s : Shared} {cenv : PySem.Env} {P : Program} {w : World} (hself : ∀ (A : Around) (Q : Value → Shared → Prop) (E : Value → Shared → Prop), Q (.ref it) s → wpAny (model P w) A (pyIter (.ref it)) Q E s)
    (hg : ∃ ip, (clausesOf (.GeneratorExp elt gs scope pos))[0]? = some ip ∧ ip.is_async = 0)
    (loop : Seg (model P w) A R Y n s₀ (.compLoop (.GeneratorExp elt gs scope pos) 0 (.ref it) .none cenv) ((model P w).den (.compLoop (.GeneratorExp elt gs scope pos) 0 (.ref it) .none cenv)) [] s) :
    Seg (model P w) A R Y n s₀ (.compStart (.GeneratorExp elt gs scope pos) 0 (.ref it) .none cenv) ((model P w).den (.compStart (.GeneratorExp elt gs scope pos) 0 (.ref it) .none cenv)) [] s := by
  obtain ⟨ip, hip, has⟩ := hg
  show Seg _ A _ _ _ s₀ _ ((compStart (.GeneratorExp elt gs scope pos) 0 (.ref it) .none cenv).onRaise (leaving cenv)) [] s
  unfold compStart
  rw [Sem.onRaise_eq_wrap, hip]
  have e0 : ((some ip).elim false fun x => x.is_async != 0) = false := by simp [has]
  simp only [e0]
  show Seg _ A _ _ _ s₀ _ ((ask >>= _).wrap _ _ _ _) [] s
  refine seg_bind_wrap (wpAny_askSetting ?_)
  split
  · exact seg_again rfl loop
  · first
      | exact seg_bind_wrap (wpAny_rule (seg_bind_wrap (wpAny_standAt (seg_bind_wrap (hself _ _ _ (seg_again rfl loop))))))
      | (refine seg_bind_wrap (wpAny_rule ?_); show Seg _ A _ _ _ s₀ _ ((standAt ip.iter.pos >>= _).wrap _ _ _ _) [] s; exact seg_bind_wrap (wpAny_standAt (seg_bind_wrap (hself _ _ _ (seg_again rfl loop)))))
end
/-! the consumer -/
/-- the generator at a sleeps (or has not begun): so it goes on -/
def Sleep (G : Cx) (A : Around) (al : Bool) (QE QS : Hp → Prop) (a : Addr) (og : Obj) (g n : Nat) (s : Shared) : Prop :=
  s.heap.get? a = some og ∧ s.heap.NoLimit ∧ AllBare s.gens ∧ ∃ gs, s.gens[g]? = some gs ∧ ∀ s', Woke s s' → gs.Goes (model G.prog G.w) A.in1 (gR G QE) (gY G al QS) n (.send .none) s'
section
variable {G : Cx} {A : Around} {al : Bool} {QE QS : Hp → Prop} {a : Addr} {g : Nat} {og : Obj}
theorem bare_setGen {s : Shared} {g : Nat} {gs : GenState} (h : AllBare s.gens) (hb : gs.bare = true) : AllBare (s.setGen g gs).gens := by
  intro x hx
  have hx : x ∈ s.gens.setIfInBounds g gs := hx
  obtain ⟨i, hi, rfl⟩ := Array.mem_iff_getElem.mp hx
  have hi' : i < s.gens.size := by rwa [Array.size_setIfInBounds] at hi
  rw [Array.getElem_setIfInBounds hi']
  split
  · exact hb
  · exact h _ (Array.getElem_mem hi')
theorem isGen_keep {h h' : Heap} {a : Addr} {g : Nat} (x : h.IsGen a g) (k : ∀ o, h.get? a = some o → h'.get? a = some o) : h'.IsGen a g := by
  obtain ⟨o, nm, qn, ho, r⟩ := x
  exact ⟨o, nm, qn, k o ho, r⟩
/-- one wake -/
theorem wake {n : Nat} {s : Shared} {Q : Option Value → Shared → Prop} {E : Value → Shared → Prop} (hh : A.handled = none) (hd : A.depth < recursionLimit) (sl : Sleep G A al QE QS a og g n s)
    (hog : ∀ h : Heap, h.get? a = some og → h.IsGen a g) (hgk : ∀ (H : Hp) (σ' : L2.St) (s' : Shared), Inv G [] σ' H s' → s'.heap.get? a = some og ∧ s'.heap.NoLimit)
    (hend : ∀ s' H σ', Inv G [] σ' H s' → QE H → Q none s')
    (hyld : ∀ s' H σ' k, Inv G [] σ' H s' → ((k = al ∧ ∃ m, n = m + 1 ∧ Sleep G A al QE QS a og g m s') ∨ (k ≠ al ∧ QS H)) → Q (some (.bool k)) s') : wpAny (model G.prog G.w) A (pyNext (.ref a)) Q E s := by
  obtain ⟨hg0, hl, hb, gs, hgs, hgo⟩ := sl
  have hg := hog _ hg0
  have hlt : g < s.gens.size := (Array.getElem?_eq_some_iff.mp hgs).1
  refine GenW.wpAny_gsz (n := g + 1) hlt ?_
  refine wpAny_pyNext_genexpQ (n := n) (P := fun n s₀ s₁ => ∃ H σ', Inv G [] σ' H s₁ ∧ QE H) hh hl hd hg hgs (hgo _ ⟨rfl, rfl, bare_setGen hb rfl⟩) (fun v s₁ gs' hbare hY => ?_) (fun s₁ hP h' hk => ?_)
  · obtain ⟨k, H, σ', rfl, I, hc⟩ := hY
    intro hsz
    have hsz1 : g < s₁.gens.size := by
      have : g + 1 ≤ (s₁.setGen g gs').gens.size := hsz
      rw [GenW.setGen_size] at this
      exact this
    have hbare1 : AllBare (s₁.setGen g gs').gens := bare_setGen I.bare hbare
    have wk : Woke s₁ (s₁.setGen g gs') := ⟨rfl, rfl, hbare1⟩
    refine hyld _ H σ' k (Inv.woke I wk) ?_
    rcases hc with ⟨e, hc⟩ | ⟨e, hc⟩
    · refine .inl ⟨e, ?_⟩
      obtain ⟨h1, h2⟩ := hgk H σ' s₁ I
      cases n with
      | zero => exact (hc s₁ ⟨rfl, rfl, I.bare⟩).elim
      | succ m =>
        refine ⟨m, rfl, h1, h2, hbare1, gs', ?_, fun s' w' => hc s' ⟨w'.heap, w'.os, w'.bare⟩⟩
        show (s₁.gens.setIfInBounds g gs')[g]? = some gs'
        simp [hsz1]
    · exact .inr ⟨e, hc⟩
  · obtain ⟨H, σ', I, q⟩ := hP
    intro _
    have I2 : Inv G [] σ' H { s₁ with heap := h' } := I.kept (t' := s₁.toks) hk
    exact hend _ H σ' (Inv.woke I2 ⟨rfl, rfl, bare_setGen I.bare rfl⟩) q
theorem all_loop (hh : A.handled = none) (hd : A.depth < recursionLimit) {R : Result → Shared → Prop} (hog : ∀ h : Heap, h.get? a = some og → h.IsGen a g) (hgk : ∀ (H : Hp) (σ' : L2.St) (s' : Shared), Inv G [] σ' H s' → s'.heap.get? a = some og ∧ s'.heap.NoLimit)
    (hend : ∀ s' H σ', Inv G [] σ' H s' → QE H → R (.ok (.ret (.bool true))) s') (hstop : ∀ s' H σ', Inv G [] σ' H s' → QS H → R (.ok (.ret (.bool false))) s') :
    ∀ (n : Nat) (s : Shared), Sleep G A.in1 true QE QS a og g n s → codeAny (model G.prog G.w) A (.builtin "all.loop" ⟨[.ref a], []⟩) R s := by
  intro n
  induction n with
  | zero =>
    intro s sl
    refine codeAny_builtin F.entry_all_loop ?_
    rw [Around.under_plainId F.plain_all_loop _]
    show wpAny _ A.in1 (pyNext (.ref a) >>= _) _ _ s
    refine wpAny_bind (wake hh hd sl hog hgk (fun s' H σ' I q => ?_) (fun s' H σ' k I q => ?_))
    · exact wpAny_bind (wpAny_rule (wpAny_pure (hend s' H σ' I q)))
    · rcases q with ⟨_, m, e, _⟩ | ⟨e, qs⟩
      · cases e
      · refine wpAny_bind (wpAny_holding (wpAny_truthy_bool ?_))
        refine wpAny_bind (wpAny_letGo ?_)
        obtain rfl : k = false := by cases k <;> simp_all
        simp only [Bool.false_eq_true, if_false]
        exact wpAny_bind (wpAny_rule (wpAny_pure (hstop s' H σ' I qs)))
  | succ n ih =>
    intro s sl
    refine codeAny_builtin F.entry_all_loop ?_
    rw [Around.under_plainId F.plain_all_loop _]
    show wpAny _ A.in1 (pyNext (.ref a) >>= _) _ _ s
    refine wpAny_bind (wake hh hd sl hog hgk (fun s' H σ' I q => ?_) (fun s' H σ' k I q => ?_))
    · exact wpAny_bind (wpAny_rule (wpAny_pure (hend s' H σ' I q)))
    · refine wpAny_bind (wpAny_holding (wpAny_truthy_bool ?_))
      refine wpAny_bind (wpAny_letGo ?_)
      rcases q with ⟨rfl, m, e, sl'⟩ | ⟨e, qs⟩
      · cases e
        simp only [if_true]
        exact wpAny_pure ⟨plainId_quiet F.plain_all_loop _, ih s' sl'⟩
      · obtain rfl : k = false := by cases k <;> simp_all
        simp only [Bool.false_eq_true, if_false]
        exact wpAny_bind (wpAny_rule (wpAny_pure (hstop s' H σ' I qs)))
theorem any_loop (hh : A.handled = none) (hd : A.depth < recursionLimit) {R : Result → Shared → Prop} (hog : ∀ h : Heap, h.get? a = some og → h.IsGen a g) (hgk : ∀ (H : Hp) (σ' : L2.St) (s' : Shared), Inv G [] σ' H s' → s'.heap.get? a = some og ∧ s'.heap.NoLimit)
    (hend : ∀ s' H σ', Inv G [] σ' H s' → QE H → R (.ok (.ret (.bool false))) s') (hstop : ∀ s' H σ', Inv G [] σ' H s' → QS H → R (.ok (.ret (.bool true))) s') :
    ∀ (n : Nat) (s : Shared), Sleep G A.in1 false QE QS a og g n s → codeAny (model G.prog G.w) A (.builtin "any.loop" ⟨[.ref a], []⟩) R s := by
  intro n
  induction n with
  | zero =>
    intro s sl
    refine codeAny_builtin F.entry_any_loop ?_
    rw [Around.under_plainId F.plain_any_loop _]
    show wpAny _ A.in1 (pyNext (.ref a) >>= _) _ _ s
    refine wpAny_bind (wake hh hd sl hog hgk (fun s' H σ' I q => ?_) (fun s' H σ' k I q => ?_))
    · exact wpAny_bind (wpAny_rule (wpAny_pure (hend s' H σ' I q)))
    · rcases q with ⟨_, m, e, _⟩ | ⟨e, qs⟩
      · cases e
      · refine wpAny_bind (wpAny_holding (wpAny_truthy_bool ?_))
        refine wpAny_bind (wpAny_letGo ?_)
        obtain rfl : k = true := by cases k <;> simp_all
        simp only [if_true]
        exact wpAny_bind (wpAny_rule (wpAny_pure (hstop s' H σ' I qs)))
  | succ n ih =>
    intro s sl
    refine codeAny_builtin F.entry_any_loop ?_
    rw [Around.under_plainId F.plain_any_loop _]
    show wpAny _ A.in1 (pyNext (.ref a) >>= _) _ _ s
    refine wpAny_bind (wake hh hd sl hog hgk (fun s' H σ' I q => ?_) (fun s' H σ' k I q => ?_))
    · exact wpAny_bind (wpAny_rule (wpAny_pure (hend s' H σ' I q)))
    · refine wpAny_bind (wpAny_holding (wpAny_truthy_bool ?_))
      refine wpAny_bind (wpAny_letGo ?_)
      rcases q with ⟨rfl, m, e, sl'⟩ | ⟨e, qs⟩
      · cases e
        simp only [Bool.false_eq_true, if_false]
        exact wpAny_pure ⟨plainId_quiet F.plain_any_loop _, ih s' sl'⟩
      · obtain rfl : k = true := by cases k <;> simp_all
        simp only [if_true]
        exact wpAny_bind (wpAny_rule (wpAny_pure (hstop s' H σ' I qs)))
/-- all(..), any(..) of a generator -/
theorem call_gen (al : Bool) (hh : A.handled = none) (hd : A.depth < recursionLimit) {n : Nat} {s : Shared} {Q : Value → Shared → Prop} {E : Value → Shared → Prop} (hog : ∀ h : Heap, h.get? a = some og → h.IsGen a g) (hgk : ∀ (H : Hp) (σ' : L2.St) (s' : Shared), Inv G [] σ' H s' → s'.heap.get? a = some og ∧ s'.heap.NoLimit)
    (hend : ∀ s' H σ', Inv G [] σ' H s' → QE H → Q (.bool al) s') (hstop : ∀ s' H σ', Inv G [] σ' H s' → QS H → Q (.bool (!al)) s') (sl : Sleep G A.in1 al QE QS a og g n s) :
    wpAny (model G.prog G.w) A (call (.builtin (if al then "all" else "any")) [.ref a]) Q E s := by
  cases al with
  | true =>
    rw [if_pos rfl]
    refine call_function_tree F.kind_all F.plain_all F.entry_all (F.args_all1 _) ?_
    unfold Builtin.«all»
    refine wpAny_bind (m := oneArg "all" _) (wpAny_pure ?_)
    refine wpAny_bind (wpAny_pyIter_gen (hog _ sl.1) ?_)
    exact wpAny_pure ⟨plainId_quiet F.plain_all_loop _, all_loop hh hd hog hgk hend hstop n s sl⟩
  | false =>
    rw [if_neg Bool.false_ne_true]
    refine call_function_tree F.kind_any F.plain_any F.entry_any (F.args_any1 _) ?_
    unfold Builtin.«any»
    refine wpAny_bind (m := oneArg "any" _) (wpAny_pure ?_)
    refine wpAny_bind (wpAny_pyIter_gen (hog _ sl.1) ?_)
    exact wpAny_pure ⟨plainId_quiet F.plain_any_loop _, any_loop hh hd hog hgk hend hstop n s sl⟩
end
end Mp
end
section
set_option Elab.async false
set_option linter.all false
set_option maxRecDepth 100000
set_option maxHeartbeats 1000000
/-! all(..), any(..) of a generator expression: the rule. -/
namespace Mp
open PySem PySem.Spec L2 PyProof.Rows GxR
/-- a generator expression of any clauses: its making (after PyProof.GenArm, which tells it for one) -/
theorem eval_genN (elt target iter : Expr) (ifs : List Expr) (gs : List Comprehension) (scope : Scope) (pos : Pos) (env : PySem.Env) (hco : scope.isCoroutine = false) :
    eval (.GeneratorExp elt (⟨target, iter, ifs, 0⟩ :: gs) scope pos) env = (do
      let x ← eval iter env
      standAt iter.pos
      let x ← genFold iter env x
      let it ← holding [x] (pyIter x)
      enterFrame
      let cl ← closureFor scope env
      let code ← genexprCode env pos (env.qual ++ "<genexpr>") scope
      let bi ← builtinsFor env.globals env.builtins
      let cenv ← newFunctionEnv scope env.globals cl [(".0", it)] (env.qual ++ "<genexpr>.") none code none bi
      newGenerator (.compStart (.GeneratorExp elt (⟨target, iter, ifs, 0⟩ :: gs) scope pos) 0 it .none cenv) "<genexpr>" (env.qual ++ "<genexpr>")) := by
  rw [arm_eval_GeneratorExp]
  simp only [hco, Bool.false_eq_true, if_false]
  cases iter <;> rfl
theorem make_genN {M : Model} {A : Around} {E : Value → Shared → Prop} {s : Shared} {env : PySem.Env} {elt target iter : Expr} {ifs : List Expr} {gs : List Comprehension} {scope : Scope} {cl : List (Str × Addr)} {pos : Pos} {Q : Value → Shared → Prop}
    (hco : scope.isCoroutine = false) (hclos : closureFor scope env = pure cl) (hcell : ∀ y ∈ scope.names, y.2 ≠ .cell) (h0 : scope.names.lookup (".0" : Str) = some NameKind.local) (hkind : scope.kind = .function)
    (hroom : A.depth < recursionLimit)
    (h : wpAny M A (eval iter env) (fun xv s₁ => wpAny M A (pyIter xv) (fun it s₂ => s₂.heap.NoLimit ∧
      wpAny M A (genexprCode env pos (env.qual ++ "<genexpr>") scope) (fun code s₃ => wpAny M A (builtinsFor env.globals env.builtins) (fun bi s₄ =>
        ∀ h', h'.Ns s₄.heap.objs.size (fun y => if y = ".0" then some it else none) → Heap.SameBut s₄.heap.objs.size (s₄.heap.push { cls := .type "frame", data := .dict #[] }) h' →
          Q (.ref h'.objs.size) { s₄ with
            gens := s₄.gens.push (.fresh (.compStart (.GeneratorExp elt (⟨target, iter, ifs, 0⟩ :: gs) scope pos) 0 it .none (genEnv scope cl s₄.heap.objs.size code bi env))),
            toks := s₄.toks + 1 + 1 + 1,
            heap := h'.push { cls := .type "generator", data := .fields #[.int s₄.gens.size 0, .str "<genexpr>" (s₄.toks + 1), .str (env.qual ++ "<genexpr>") (s₄.toks + 1 + 1)] } }) E s₃) E s₂) E s₁) E s)
    (hs : ∀ x, genFold iter env x = pure x) :
    wpAny M A (eval (.GeneratorExp elt (⟨target, iter, ifs, 0⟩ :: gs) scope pos) env) Q E s := by
  rw [eval_genN _ _ _ _ _ _ _ _ hco, hclos]
  refine wpAny_bind (wpAny_mono h (fun xv s₁ h₁ => ?_) fun _ _ e => e)
  refine wpAny_bind (wpAny_standAt ?_)
  refine wpAny_bind (wpAny_of_eq (hs xv) ?_)
  refine wpAny_bind (wpAny_holding (wpAny_mono h₁ (fun it s₂ h₂ => ?_) fun _ _ e => e))
  refine wpAny_bind (wpAny_enterFrame h₂.1 hroom ?_)
  refine wpAny_bind (wpAny_pure ?_)
  refine wpAny_bind (wpAny_mono h₂.2 (fun code s₃ h₃ => ?_) fun _ _ e => e)
  refine wpAny_bind (wpAny_mono h₃ (fun bi s₄ h₄ => ?_) fun _ _ e => e)
  have hbinds : ∀ y ∈ ([((".0" : Str), it)] : List (Str × Value)), scope.names.lookup y.1 = some NameKind.local := by
    intro y hy
    rcases List.mem_cons.mp hy with rfl | hy
    · exact h0
    · cases hy
  refine wpAny_bind (wpAny_newFunctionEnv hcell hbinds (fun h' hn' hs' => ?_) hkind)
  have e : (fun y : Str => ([((".0" : Str), it)] : List (Str × Value)).reverse.lookup y) = fun y : Str => if y = (".0" : Str) then some it else none := by
    funext y
    by_cases hy : y = ".0"
    · subst hy; simp
    · have : (y == (".0" : Str)) = false := by simpa using hy
      simp [List.lookup, this, hy]
  rw [e] at hn'
  simp only [newGenerator, newFields]
  refine wpAny_bind (wpAny_newGen (wpAny_bind (wpAny_mkText (wpAny_bind (wpAny_mkText (wpAny_newObj_type ?_ (by size_fits)))))))
  exact h₄ h' hn' hs'
/-- the frame's environment, its context -/
abbrev gEnv (X : Cx) (scope : Scope) (C : Addr) (code : Value) : PySem.Env := genEnv scope (cloFrom X.env.cells scope.names []) C code builtinsNs X.env
abbrev gC (X : Cx) (scope : Scope) (s : Shared) (H : Hp) (C : Addr) (code : Value) (fp : List Addr) (pn : List (Addr × Obj)) : Cx := gcx X (X.A.in1.in1.deeper (gEnv X scope C code)) s H (gEnv X scope C code) fp pn
section
variable {X : Cx} {elt tg iter : Expr} {ifs : List Expr} {gs : List Comprehension} {scope : Scope} {own : List (Str × Nat)} {gpos p pos : Pos} {wi : TI} {g : TG} {tt : TT} {te : TE} {al : Bool} {c P : Addr} {x : Str} {k : Nat}
def tGen (P : Addr) (wi : TI) (g : TG) (tt : TT) (te : TE) (vs : List Nat) (al : Bool) : TE := fun σ H Q => wi σ H fun J H1 => TabG H1 P ∧ ∀ H2, Tabbed P H1 H2 → ∃ W : Nat → Nat → Hp → Prop, (∃ m, W 0 m H2) ∧ gTurns J g tt te vs σ al (fun H => Q (.bl al) H) (fun H => Q (.bl (!al)) H) W
/-- the generator is made: it sleeps -/
theorem gen_make {pins : List (Addr × Obj)} {s : Shared} {σ : L2.St} {H : Hp} {R : It → Hp → Prop} {Q' : Value → Shared → Prop} (hr : Room k X.A) (TB : TabB X.base X.mg c P) (hcode : X.env.code = .ref c) (ok : GenOk X.N X.env.scope scope own) (hN : X.N.Nodup) (hi : PI X tg iter wi)
    (hs : ∀ v, genFold iter X.env v = pure v) (I : Inv X pins σ H s) (h : wi σ H fun J H1 => TabG H1 P ∧ R J H1)
    (hQ : ∀ (s3 : Shared) (H1 H3 : Hp) (J : It) (fp : List Addr) (it : Addr) (tn : Nat → Heap → Prop) (code : Value) (a : Addr) (og : Obj) (g : Nat) (s5 : Shared), Tabbed P H1 H3 → R J H1 → Inv X pins σ H3 s3 → Turn X.prog X.w X.K tg J fp it tn → (∀ b ∈ fp, FpOk X pins H3 b) → (∀ b ∈ fp, b ≠ a) →
      (∀ s', Woke s5 s' → Inv (gC X scope s3 H3 s3.heap.objs.size code fp [(a, og)]) [] (wipe σ (own.map (·.2))) H3 s' ∧ tn 0 s'.heap) → s5.heap.get? a = some og → (∀ h : Heap, h.get? a = some og → h.IsGen a g) → AllBare s5.gens → s5.heap.NoLimit →
      s5.gens[g]? = some (.fresh (.compStart (.GeneratorExp elt (⟨tg, iter, ifs, 0⟩ :: gs) scope gpos) 0 (.ref it) .none (gEnv X scope s3.heap.objs.size code))) → Q' (.ref a) s5) :
    wpAny (model X.prog X.w) X.A (eval (.GeneratorExp elt (⟨tg, iter, ifs, 0⟩ :: gs) scope gpos) X.env) Q' X.xe s := by
  have hfree : ∀ y ∈ scope.names, y.2 = .free → ∃ c, X.env.cells.lookup y.1 = some c := fun y hy e => by
    rcases ok.blk.free y hy e with k | k
    · exact I.ok.has _ (.inl k)
    · exact I.ok.has _ (.inr k)
  refine make_genN ok.co (closure_ok hfree) ok.cell ok.dot ok.blk.kind hr.depth ?_ hs
  refine thn (hi.run pins s σ H _ I h) fun xv s1 hx => thn hx fun itv s2 h2 => ?_
  obtain ⟨it, fp, tn, J, H2, e, I2, T, st2, f2, ⟨ps, hP, ht⟩, q⟩ := h2
  subst e
  refine ⟨I2.nolimit, ?_⟩
  have hPs : s2.heap.get? P = some { cls := .none, data := .fields ps } := I2.hok P _ hP
  have cd : PySem.W.CodeHd s2.heap c P := TB.code.keeps fun b u e => I2.bk b u e
  have cont : ∀ (code : Value) (s3 : Shared) (H3 : Hp), Tabbed P H2 H3 → Inv X pins σ H3 s3 → (∀ b o, b ≠ P → s2.heap.get? b = some o → s3.heap.get? b = some o) →
      wpAny (model X.prog X.w) X.A (builtinsFor X.env.globals X.env.builtins) (fun bi s₄ =>
        ∀ h', h'.Ns s₄.heap.objs.size (fun y => if y = ".0" then some (.ref it) else none) → Heap.SameBut s₄.heap.objs.size (s₄.heap.push { cls := .type "frame", data := .dict #[] }) h' →
          Q' (.ref h'.objs.size) { s₄ with
            gens := s₄.gens.push (.fresh (.compStart (.GeneratorExp elt (⟨tg, iter, ifs, 0⟩ :: gs) scope gpos) 0 (.ref it) .none (genEnv scope (cloFrom X.env.cells scope.names []) s₄.heap.objs.size code bi X.env))),
            toks := s₄.toks + 1 + 1 + 1,
            heap := h'.push { cls := .type "generator", data := .fields #[.int s₄.gens.size 0, .str "<genexpr>" (s₄.toks + 1), .str (X.env.qual ++ "<genexpr>") (s₄.toks + 1 + 1)] } }) X.xe s3 := by
    intro code s3 H3 hT I3 kp
    obtain ⟨bm, ob, e1, e2, e3, e4, e5, e6, e7, e8⟩ := TB.bm
    refine wpAny_builtinsFor (m := X.mg) (by rw [I3.ok.glob]; exact I3.mod.glob.keeps I3.bk) e1 e2 (I3.bk _ _ e5) e6 e7 e8 ?_
    intro h' hn' hs'
    have hsz : h'.objs.size = s3.heap.objs.size + 1 := by rw [hs'.1, Heap.size_push]
    have keep' : ∀ b o, s3.heap.get? b = some o → h'.get? b = some o := fun b o e => hs'.extBut b o (Nat.ne_of_lt (Heap.lt_size e)) (Heap.get?_push_of_some _ e)
    have fpl : ∀ b ∈ fp, b < s3.heap.objs.size := fun b hb => by
      obtain ⟨o, e, _⟩ := T.obj _ _ st2 b hb
      have hbP : b ≠ P := fun z => by rw [z] at hb; have := (f2 P hb).1; rw [hP] at this; cases this
      exact Heap.lt_size (kp b o hbP e)
    have fpo : ∀ b ∈ fp, FpOk X pins H3 b := fun b hb => by
      have hbP : b ≠ P := fun z => by rw [z] at hb; have := (f2 P hb).1; rw [hP] at this; cases this
      exact ⟨by rw [hT.2 b hbP]; exact (f2 b hb).1, (f2 b hb).2⟩
    generalize hog : ({ cls := .type "generator", data := .fields #[.int s3.gens.size 0, .str "<genexpr>" (s3.toks + 1), .str (X.env.qual ++ "<genexpr>") (s3.toks + 1 + 1)] } : Obj) = og
    have hget : (h'.push og).get? h'.objs.size = some og := Heap.get?_push_size _ (by rw [← hog]; rfl)
    have hbare : AllBare (s3.gens.push (.fresh (.compStart (.GeneratorExp elt (⟨tg, iter, ifs, 0⟩ :: gs) scope gpos) 0 (.ref it) .none (genEnv scope (cloFrom X.env.cells scope.names []) s3.heap.objs.size code builtinsNs X.env)))) := I3.bare.push rfl
    refine hQ s3 H2 H3 J fp it tn code h'.objs.size og s3.gens.size _ hT q I3 T fpo (fun b hb z => ?_) (fun s' wk => ⟨?_, ?_⟩) hget (fun h e => ?_) hbare ?_ ?_
    · have := fpl b hb
      rw [z, hsz] at this
      exact absurd this (Nat.not_lt.mpr (Nat.le_succ _))
    · refine gen_start (A := X.A.in1.in1.deeper (gEnv X scope s3.heap.objs.size code)) I3 hr.hd (Around.frames_deeper (A := X.A.in1.in1) I3.ok.frames) ok hN (fun b hb => ⟨fpo b hb, fpl b hb⟩) (hn'.push og) (fun b o e => Heap.get?_push_of_some _ (keep' b o e)) wk.heap wk.os wk.bare (fun pp hp => ?_)
      have hp : pp = (h'.objs.size, og) := by simpa using hp
      subst hp
      refine ⟨by show _ < h'.objs.size; rw [hsz]; exact Nat.lt_succ_self _, hget, fun v z => ?_⟩
      have z : og.data = .cell v := z
      rw [← hog] at z
      cases z
    · rw [wk.heap]
      refine T.keep _ _ _ st2 fun b hb o e => ?_
      have hbP : b ≠ P := fun z => by rw [z] at hb; have := (f2 P hb).1; rw [hP] at this; cases this
      exact Heap.get?_push_of_some _ (keep' b o (kp b o hbP e))
    · exact ⟨og, _, _, e, by rw [← hog], by rw [← hog], by rw [← hog]⟩
    · exact I3.nolimit.keeps fun b o e => Heap.get?_push_of_some _ (keep' b o e)
    · exact Array.getElem?_push_size ..
  cases hf : codeAmong gpos ps.toList with
  | none =>
    refine wpAny_genexprCodeX hcode (cd.code hPs ht) (cd.tab hPs) hf fun c' h' tk hx hge hlt hco' _ htab' _ => ?_
    obtain ⟨o1, vs, f1, tf, fl, tg', inF, tx, tt, op, _, _, _, _, _, _, _, _, _, htr, _⟩ := hco'
    have hk : ∀ b o, b ≠ P → s2.heap.get? b = some o → h'.get? b = some o := fun b o hb e => hx b o hb e
    exact cont _ { s2 with heap := h', toks := tk } _ ⟨⟨_, upd_same, htr⟩, fun b hb => upd_ne hb⟩ (inv_tab (g' := s2.gens) (d' := s2.drawn) I2 hP hk htab'.2 I2.bare) hk
  | some cv =>
    refine wpAny_genexprCode_hit hcode (cd.code hPs ht) hf ?_
    exact cont cv s2 H2 ⟨⟨ps, hP, ht⟩, fun _ _ => rfl⟩ I2 fun b o _ e => e
/-- all(..), any(..) -/
theorem pe_gen (hc : X.calm = true) (hr : Room k X.A) (hb : PrimAt X x (.builtin (if al then "all" else "any"))) (TB : TabB X.base X.mg c P) (hcode : X.env.code = .ref c) (ok : GenOk X.N X.env.scope scope own) (hN : X.N.Nodup) (hi : PI X tg iter wi)
    (hg : ∀ (s : Shared) (H : Hp) (C : Addr) (code : Value) (fp : List Addr) (pn : List (Addr × Obj)), PG (gC X scope s H C code fp pn) tg g) (ht : ∀ (s : Shared) (H : Hp) (C : Addr) (code : Value) (fp : List Addr) (pn : List (Addr × Obj)), PTs (gC X scope s H C code fp pn) ifs tt)
    (he : ∀ (s : Shared) (H : Hp) (C : Addr) (code : Value) (fp : List Addr) (pn : List (Addr × Obj)), PE (gC X scope s H C code fp pn) elt te) (hs : ∀ v, genFold iter X.env v = pure v) :
    PE X (.Call (.Name x p) [.GeneratorExp elt [⟨tg, iter, ifs, 0⟩] scope gpos] [] pos) (tGen P wi g tt te (own.map (·.2)) al) := by
  refine ⟨fun pins s σ H Q I h => ?_⟩
  have he' : starEach [.GeneratorExp elt [⟨tg, iter, ifs, 0⟩] scope gpos] X.env = (false, eval (.GeneratorExp elt [⟨tg, iter, ifs, 0⟩] scope gpos) X.env) :: starEach [] X.env := rfl
  refine wpAny_Call_Name_kw (hb.ld I ?_)
  refine PyProof.Rows.callWith_builtin1 ?_ he' (by rfl)
  rw [he']
  show wpAny _ _ (spliced ((false, eval (.GeneratorExp elt [⟨tg, iter, ifs, 0⟩] scope gpos) X.env) :: backTo pos (starEach [] X.env))) _ _ s
  refine Calls.spliced_cons (gen_make hr TB hcode ok hN hi hs I h fun s3 H1 H3 J fp it tn code a og gg s5 hT q I3 T fpo hfa hw hget hog hbare hl hgs => ?_)
  refine Calls.spliced_nil ?_
  obtain ⟨W, ⟨m0, w0⟩, turn⟩ := q H3 hT
  have fin : ∀ {b : Bool} {s' : Shared} {H' : Hp} {σ' : L2.St}, Inv (gC X scope s3 H3 s3.heap.objs.size code fp [(a, og)]) [] σ' H' s' → Q (.bl b) H' → EP X pins σ Q (.bool b) s' := fun {b s' H' σ'} I' q' =>
    ⟨.bl b, H', I3.call' (ch := fp) I'.os I'.base I'.hok I'.bare fun b hb => ⟨(fpo b hb).2.2.2.1, (fpo b hb).2.1, (fpo b hb).2.2.2.2.1, (fpo b hb).2.2.2.2.2⟩, rfl, q'⟩
  refine call_gen (G := gC X scope s3 H3 s3.heap.objs.size code fp [(a, og)]) (QE := fun H => Q (.bl al) H) (QS := fun H => Q (.bl (!al)) H) (n := m0 + 1) al hr.hd hr.depth hog (fun H' σ' s' I' => ⟨(I'.pin (a, og) (List.mem_append_left _ List.mem_cons_self)).1, I'.nolimit⟩) (fun s' H' σ' I' qe => fin I' qe) (fun s' H' σ' I' qs => fin I' qs) ?_
  refine ⟨hget, hl, hbare, _, hgs, fun s' wk => ⟨rfl, ?_⟩⟩
  obtain ⟨I5, st5⟩ := hw s' wk
  refine seg_gS (P := X.prog) (w := X.w) (fun A Q E q => T.self A 0 s' Q E st5 q) ⟨_, rfl, rfl⟩ ?_
  refine seg_g1 (G := gC X scope s3 H3 s3.heap.objs.size code fp [(a, og)]) rfl T hc rfl (fun p hp z => ?_) rfl (fun b hb z => ?_) (hg _ _ _ _ _ _) (ht _ _ _ _ _ _) (he _ _ _ _ _ _) ok.co turn m0 (m0 + 1) 0 s' s' H3 (Nat.lt_succ_self _) w0 I5 st5 (fun b hb => (fpo b hb).1)
  · have hp : p ∈ [(a, og)] := hp
    have hp : p = (a, og) := List.mem_singleton.mp hp
    rw [hp] at z
    exact hfa a z rfl
  · rcases List.mem_cons.mp (I3.stkSub b z) with z | z
    · exact (fpo b hb).2.1 z
    · exact (fpo b hb).2.2.1 z
end
end Mp
end
section
set_option Elab.async false
set_option linter.all false
set_option maxRecDepth 100000
set_option maxHeartbeats 1000000
/-! Generator expressions of two clauses. -/
namespace Mp
open PySem PySem.Spec L2 PyProof.Rows GxR
theorem compTurn_g2out (elt t0 i0 t1 i1 : Expr) (ifs0 ifs1 : List Expr) (scope : Scope) (pos : Pos) (it acc : Value) (env : PySem.Env) :
    compTurn (.GeneratorExp elt [⟨t0, i0, ifs0, 0⟩, ⟨t1, i1, ifs1, 0⟩] scope pos) 0 it acc env = (do
      standAt i0.pos
      match ← pyNext it with
      | none => pure (.done .next)
      | some v =>
        letOwnedTupleGo t0 it v
        assign t0 env v
        let mut ok := true
        for c in ifs0 do
          if ok then ok ← isTrue c env (eval c env)
        if ok then
          let x ← eval i1 env
          standAt i1.pos
          let x ← foldedSetIterable i1 env x
          let _ ← runOwn (.compStart (.GeneratorExp elt [⟨t0, i0, ifs0, 0⟩, ⟨t1, i1, ifs1, 0⟩] scope pos) 1 (← holding [x] (pyIter x)) acc env) env
        again (.compLoop (.GeneratorExp elt [⟨t0, i0, ifs0, 0⟩, ⟨t1, i1, ifs1, 0⟩] scope pos) 0 it acc env)) := by rfl
theorem compTurn_g2in (elt t0 i0 t1 i1 : Expr) (ifs0 ifs1 : List Expr) (scope : Scope) (pos : Pos) (it acc : Value) (env : PySem.Env) :
    compTurn (.GeneratorExp elt [⟨t0, i0, ifs0, 0⟩, ⟨t1, i1, ifs1, 0⟩] scope pos) 1 it acc env = (do
      standAt i1.pos
      match ← pyNext it with
      | none => pure (.done .next)
      | some v =>
        letOwnedTupleGo t1 it v
        assign t1 env v
        let mut ok := true
        for c in ifs1 do
          if ok then ok ← isTrue c env (eval c env)
        if ok then
          (do let v ← eval elt env; standAt elt.pos; let _ ← yieldOut env v)
        again (.compLoop (.GeneratorExp elt [⟨t0, i0, ifs0, 0⟩, ⟨t1, i1, ifs1, 0⟩] scope pos) 1 it acc env)) := by rfl
section
variable {G : Cx} {A : Around} {elt tg iter tg1 iter1 : Expr} {ifs ifs1 : List Expr} {scope : Scope} {pos : Pos} {it it1 : Addr} {fp fp1 : List Addr} {tn tn1 : Nat → Heap → Prop} {J J1 : It} {g g1 : TG} {tt tt1 : TT} {te : TE} {wi1 : TI} {vs vs1 : List Nat} {σ : L2.St} {al : Bool} {QE QS : Hp → Prop}
/-- the turns of the second clause; the third number of W: how much is handed out at most -/
def gTurnsIn (J1 : It) (g1 : TG) (tt1 : TT) (te : TE) (vs1 : List Nat) (σ2 : L2.St) (al : Bool) (Nx : Nat → Hp → Prop) (QS : Hp → Prop) (W1 : Nat → Nat → Nat → Hp → Prop) : Prop := ∀ j k f H, W1 j k f H →
  (J1.stop j H ∧ Nx f H) ∨ (J1.go j H ∧ ∃ Nx1 : Nat → Hp → Prop, (∀ f' H', Nx1 f' H' → ∃ k', k' < k ∧ W1 (j + 1) k' f' H') ∧ ∀ x H', J1.yld j H x H' → g1 x (wipe σ2 vs1) H' fun σ3 H5 => wipe σ3 vs1 = wipe σ2 vs1 ∧ tt1 σ3 H5 fun b H6 =>
    if b = true then te σ3 H6 fun y H7 => ∃ q, y = .bl q ∧ ((q = al ∧ ∃ f', f' < f ∧ Nx1 f' H7) ∨ (q ≠ al ∧ QS H7)) else ∃ f', f' ≤ f ∧ Nx1 f' H6)
def gTurns2 (J : It) (g : TG) (tt : TT) (wi1 : TI) (g1 : TG) (tt1 : TT) (te : TE) (vs vs1 : List Nat) (σ : L2.St) (al : Bool) (QE QS : Hp → Prop) (W : Nat → Nat → Nat → Hp → Prop) : Prop := ∀ i m f H, W i m f H →
  (J.stop i H ∧ QE H) ∨ (J.go i H ∧ ∃ Nx : Nat → Hp → Prop, (∀ f' H', Nx f' H' → ∃ m', m' < m ∧ W (i + 1) m' f' H') ∧ ∀ x H', J.yld i H x H' → g x (wipe σ vs) H' fun σ2 H2 => wipe σ2 vs = wipe σ vs ∧ tt σ2 H2 fun b H3 =>
    if b = true then wi1 σ2 H3 fun J1 H4 => ∃ W1 : Nat → Nat → Nat → Hp → Prop, (∃ k f', f' ≤ f ∧ W1 0 k f' H4) ∧ gTurnsIn J1 g1 tt1 te vs1 σ2 al Nx QS W1 else ∃ f', f' ≤ f ∧ Nx f' H3)
/-- the second clause's loop -/
theorem seg_g2in {fs : List Frame} {pins : List (Addr × Obj)} {σ2 : L2.St} (hov : A.over (.compLoop (.GeneratorExp elt [⟨tg, iter, ifs, 0⟩, ⟨tg1, iter1, ifs1, 0⟩] scope pos) 1 (.ref it1) .none G.env) fs = G.A) (hsp : splitAtGen fs = none) (hgd : fs.any Frame.guarded = false)
    (T1 : Turn G.prog G.w G.K tg1 J1 fp1 it1 tn1) (hc : G.calm = true) (hxe : G.xe = fun _ _ => False) (hf1 : ∀ b ∈ fp1, ∀ H : Hp, H b = none → FpOk G pins H b)
    (pg1 : PG G tg1 g1) (pt1 : PTs G ifs1 tt1) (pe : PE G elt te) (hco : G.env.scope.isCoroutine = false) {W1 : Nat → Nat → Nat → Hp → Prop} {Nx : Nat → Hp → Prop} (turn1 : gTurnsIn J1 g1 tt1 te vs1 σ2 al Nx QS W1)
    (hinv : ∀ (σ' : L2.St) (H' : Hp) (s' : Shared) (q : List (Addr × Obj)), Inv G (pins ++ q) σ' H' s' → ∃ H σ'', Inv G [] σ'' H s' ∧ H = H')
    (hend : ∀ (n f : Nat) (s₀ s : Shared) (H : Hp), f < n → Nx f H → Inv G pins (wipe σ2 vs1) H s → Seg (model G.prog G.w) A (gR G QE) (gY G al QS) n s₀ (.compLoop (.GeneratorExp elt [⟨tg, iter, ifs, 0⟩, ⟨tg1, iter1, ifs1, 0⟩] scope pos) 1 (.ref it1) .none G.env) (leafOf (.ok .next)) fs s) :
    ∀ (k n f j : Nat) (s₀ s : Shared) (H : Hp), f < n → W1 j k f H → Inv G pins (wipe σ2 vs1) H s → tn1 j s.heap → (∀ b ∈ fp1, H b = none) →
      Seg (model G.prog G.w) A (gR G QE) (gY G al QS) n s₀ (.compLoop (.GeneratorExp elt [⟨tg, iter, ifs, 0⟩, ⟨tg1, iter1, ifs1, 0⟩] scope pos) 1 (.ref it1) .none G.env)
        ((model G.prog G.w).den (.compLoop (.GeneratorExp elt [⟨tg, iter, ifs, 0⟩, ⟨tg1, iter1, ifs1, 0⟩] scope pos) 1 (.ref it1) .none G.env)) fs s := by
  intro k
  induction k using Nat.strongRecOn with
  | ind k ih =>
    intro n f j s₀ s H hn w I st nf
    show Seg _ A _ _ _ s₀ _ ((compTurn (.GeneratorExp elt [⟨tg, iter, ifs, 0⟩, ⟨tg1, iter1, ifs1, 0⟩] scope pos) 1 (.ref it1) .none G.env).onRaise _) fs s
    rw [compTurn_g2in, Sem.onRaise_eq_wrap]
    refine seg_bind_wrap (wpAny_standAt ?_)
    rcases turn1 j k f H w with ⟨stop, nx⟩ | ⟨go, Nx1, hNx, step⟩
    · refine segG hov (T1.done G rfl rfl rfl hc j pins s _ H (fun _ _ => False) I (fun b hb => hf1 b hb H (nf b hb)) st stop) fun r s1 ⟨hr, I1⟩ => ?_
      subst hr
      exact hend n f s₀ s1 H hn nx I1
    · refine segG hov (T1.item G rfl rfl rfl hc j pins s _ H (fun _ _ => False) I (fun b hb => hf1 b hb H (nf b hb)) st go) fun r s1 ⟨u, hr, h1⟩ => ?_
      subst hr
      refine segG hov h1 fun _ s2 ⟨x, H2, I2, r2, y2, st2, n2⟩ => ?_
      have I2' := I2.pinned (fun b hb => hf1 b hb H2 (n2 b hb)) (T1.obj _ _ st2)
      refine segG hov (noxG hxe (pg1.run _ s2 _ H2 x u _ I2' r2 (step x H2 y2))) fun _ s3 ⟨σ3, H3, I3, hw3, q3⟩ => ?_
      refine segG hov (noxG hxe (pt1.run _ s3 σ3 H3 _ I3 q3)) fun b s4 ⟨H4, I4, q4⟩ => ?_
      have back : ∀ {s' : Shared} {H' : Hp}, Inv G (pins ++ pinsAt fp1 s2.heap) σ3 H' s' → Inv G pins (wipe σ2 vs1) H' s' ∧ tn1 (j + 1) s'.heap ∧ ∀ b ∈ fp1, H' b = none := fun {s' H'} I' => by
        have pin' : ∀ b ∈ fp1, ∀ o, s2.heap.get? b = some o → s'.heap.get? b = some o ∧ H' b = none := fun b hb o e =>
          let z := I'.pin (b, o) (List.mem_append_right _ (List.mem_append_right _ (mem_pinsAt hb e)))
          ⟨z.1, z.2.1⟩
        have hl : (wipe σ2 vs1).length = σ3.length := by rw [← hw3, wipe_length]
        refine ⟨(I'.unpinned (pins := pins)).weak hl (fun j v e => ?_), T1.keep _ _ _ st2 fun b hb o e => (pin' b hb o e).1, fun b hb => ?_⟩
        · rw [← hw3] at e
          exact (wipe_some e).1
        · obtain ⟨o, e, _⟩ := T1.obj _ _ st2 b hb
          exact (pin' b hb o e).2
      cases b with
      | false =>
        simp only [Bool.false_eq_true, if_false] at q4 ⊢
        obtain ⟨f', hf', q4⟩ := q4
        obtain ⟨k', hk, w'⟩ := hNx f' H4 q4
        obtain ⟨k1, k2, k3⟩ := back I4
        exact seg_again rfl (ih k' hk n f' (j + 1) s₀ s4 H4 (by omega) w' k1 k2 k3)
      | true =>
        simp only [if_true] at q4 ⊢
        have hy : ∀ v, yieldOut G.env v = yieldValue v := fun v => by simp only [yieldOut, hco, Bool.false_eq_true, if_false]
        simp only [hy]
        rw [Sem.bind_eq_wrap', Sem.bind_eq_wrap', Sem.wrap_wrap, Sem.wrap_wrap]
        refine seg_wrap ?_
        rw [hov]
        refine wpAny_mono (noxG hxe (pe.run _ s4 σ3 H4 _ I4 q4)) (fun z s5 ⟨yv, H5, I5, r5, q, ek, q5⟩ => ?_) fun _ _ z => False.elim z
        subst ek
        obtain rfl : z = .bool q := r5
        obtain ⟨n, rfl⟩ : ∃ n', n = n' + 1 := ⟨n - 1, by omega⟩
        obtain ⟨Hx, σx, Ix, ex⟩ := hinv _ _ _ _ I5
        subst ex
        obtain ⟨k1, k2, k3⟩ := back I5
        refine seg_at (seg_yield hsp rfl hgd ⟨q, Hx, _, rfl, Ix, ?_⟩)
        rcases q5 with ⟨e, f', hf', nx⟩ | ⟨e, qs⟩
        · refine .inl ⟨e, fun s' wk => ?_⟩
          obtain ⟨k', hk, w'⟩ := hNx f' Hx nx
          exact seg_again rfl (ih k' hk n f' (j + 1) s' s' Hx (by omega) w' (Inv.woke k1 wk) (by rw [wk.heap]; exact k2) k3)
        · exact .inr ⟨e, qs⟩
theorem seg_gS1 {gs : List Comprehension} {R : GenEnd} {Y : Protocol} {n : Nat} {s₀ s : Shared} {cenv : PySem.Env} {P : Program} {w : World} {fs : List Frame} (hself : ∀ (A : Around) (Q : Value → Shared → Prop) (E : Value → Shared → Prop), Q (.ref it) s → wpAny (model P w) A (pyIter (.ref it)) Q E s)
    (hg : ∃ ip, (clausesOf (.GeneratorExp elt gs scope pos))[1]? = some ip ∧ ip.is_async = 0)
    (loop : Seg (model P w) A R Y n s₀ (.compLoop (.GeneratorExp elt gs scope pos) 1 (.ref it) .none cenv) ((model P w).den (.compLoop (.GeneratorExp elt gs scope pos) 1 (.ref it) .none cenv)) fs s) :
    Seg (model P w) A R Y n s₀ (.compStart (.GeneratorExp elt gs scope pos) 1 (.ref it) .none cenv) ((model P w).den (.compStart (.GeneratorExp elt gs scope pos) 1 (.ref it) .none cenv)) fs s := by
  obtain ⟨ip, hip, has⟩ := hg
  show Seg _ A _ _ _ s₀ _ ((compStart (.GeneratorExp elt gs scope pos) 1 (.ref it) .none cenv).onRaise _) fs s
  unfold compStart
  rw [Sem.onRaise_eq_wrap, hip]
  have e0 : ((some ip).elim false fun x => x.is_async != 0) = false := by simp [has]
  simp only [e0]
  show Seg _ A _ _ _ s₀ _ ((ask >>= _).wrap _ _ _ _) fs s
  refine seg_bind_wrap (wpAny_askSetting ?_)
  split
  · exact seg_again rfl loop
  · first
      | exact seg_bind_wrap (wpAny_rule (seg_bind_wrap (wpAny_standAt (seg_bind_wrap (hself _ _ _ (seg_again rfl loop))))))
      | (refine seg_bind_wrap (wpAny_rule ?_); show Seg _ A _ _ _ s₀ _ ((standAt ip.iter.pos >>= _).wrap _ _ _ _) fs s; exact seg_bind_wrap (wpAny_standAt (seg_bind_wrap (hself _ _ _ (seg_again rfl loop)))))
theorem seg_g2 (hA : A.deeper G.env = G.A) (T : Turn G.prog G.w G.K tg J fp it tn) (hc : G.calm = true) (hxe : G.xe = fun _ _ => False) (hpn : ∀ p ∈ G.pn, p.1 ∉ fp) (hex : G.ex = fp) (hexs : ∀ b ∈ fp, b ∉ G.fs)
    (pg : PG G tg g) (pt : PTs G ifs tt) (pi1 : PI G tg1 iter1 wi1) (pg1 : PG G tg1 g1) (pt1 : PTs G ifs1 tt1) (pe : PE G elt te) (hco : G.env.scope.isCoroutine = false) (hs1 : ∀ x, foldedSetIterable iter1 G.env x = pure x) (hv : ∀ i ∈ vs1, i ∈ vs) {W : Nat → Nat → Nat → Hp → Prop} (turn : gTurns2 J g tt wi1 g1 tt1 te vs vs1 σ al QE QS W) :
    ∀ (m n f i : Nat) (s₀ s : Shared) (H : Hp), f < n → W i m f H → Inv G [] (wipe σ vs) H s → tn i s.heap → (∀ b ∈ fp, H b = none) →
      Seg (model G.prog G.w) A (gR G QE) (gY G al QS) n s₀ (.compLoop (.GeneratorExp elt [⟨tg, iter, ifs, 0⟩, ⟨tg1, iter1, ifs1, 0⟩] scope pos) 0 (.ref it) .none G.env)
        ((model G.prog G.w).den (.compLoop (.GeneratorExp elt [⟨tg, iter, ifs, 0⟩, ⟨tg1, iter1, ifs1, 0⟩] scope pos) 0 (.ref it) .none G.env)) [] s := by
  have hov : ∀ c, c = Code.compLoop (.GeneratorExp elt [⟨tg, iter, ifs, 0⟩, ⟨tg1, iter1, ifs1, 0⟩] scope pos) 0 (.ref it) .none G.env → A.over c [] = G.A := fun c e => by rw [e, over_comp0]; exact hA
  have stat : ∀ {σ' : L2.St} {H' : Hp} {s' : Shared}, Inv G [] σ' H' s' → (∀ b ∈ fp, H' b = none) → ∀ b ∈ fp, FpOk G [] H' b := fun {σ' H' s'} I' hn b hb =>
    ⟨hn b hb, (I'.ok.exf b (by rw [hex]; exact hb)).1, hexs b hb, .inl (by rw [hex]; exact hb), fun x c e => (I'.ok.exf b (by rw [hex]; exact hb)).2 x c e, fun p hp z => hpn p (by simpa using hp) (z ▸ hb)⟩
  intro m
  induction m using Nat.strongRecOn with
  | ind m ih =>
    intro n f i s₀ s H hn w I st nf
    show Seg _ A _ _ _ s₀ _ ((compTurn (.GeneratorExp elt [⟨tg, iter, ifs, 0⟩, ⟨tg1, iter1, ifs1, 0⟩] scope pos) 0 (.ref it) .none G.env).onRaise (leaving G.env)) [] s
    rw [compTurn_g2out, Sem.onRaise_eq_wrap]
    refine seg_bind_wrap (wpAny_standAt ?_)
    rcases turn i m f H w with ⟨stop, qe⟩ | ⟨go, Nx, hNx, step⟩
    · refine segG (hov _ rfl) (T.done G rfl rfl rfl hc i [] s _ H (fun _ _ => False) I (stat I nf) st stop) fun r s1 ⟨hr, I1⟩ => ?_
      subst hr
      exact seg_end (.ok .next) ⟨rfl, H, _, I1, qe⟩
    · refine segG (hov _ rfl) (T.item G rfl rfl rfl hc i [] s _ H (fun _ _ => False) I (stat I nf) st go) fun r s1 ⟨u, hr, h1⟩ => ?_
      subst hr
      refine segG (hov _ rfl) h1 fun _ s2 ⟨x, H2, I2, r2, y2, st2, n2⟩ => ?_
      have I2' := I2.pinned (stat I2 n2) (T.obj _ _ st2)
      refine segG (hov _ rfl) (noxG hxe (pg.run _ s2 _ H2 x u _ I2' r2 (step x H2 y2))) fun _ s3 ⟨σ3, H3, I3, hw3, q3⟩ => ?_
      refine segG (hov _ rfl) (noxG hxe (pt.run _ s3 σ3 H3 _ I3 q3)) fun b s4 ⟨H4, I4, q4⟩ => ?_
      have hl3 : (wipe σ vs).length = σ3.length := by rw [← hw3, wipe_length]
      have back : ∀ {s' : Shared} {H' : Hp} {σ' : L2.St}, Inv G ([] ++ pinsAt fp s2.heap) σ' H' s' → (wipe σ vs).length = σ'.length → (∀ j v, (wipe σ vs)[j]? = some (some v) → σ'[j]? = some (some v)) → Inv G [] (wipe σ vs) H' s' ∧ tn (i + 1) s'.heap ∧ ∀ b ∈ fp, H' b = none := fun {s' H' σ'} I' hl hk => by
        have pin' : ∀ b ∈ fp, ∀ o, s2.heap.get? b = some o → s'.heap.get? b = some o ∧ H' b = none := fun b hb o e =>
          let z := I'.pin (b, o) (List.mem_append_right _ (List.mem_append_right _ (mem_pinsAt hb e)))
          ⟨z.1, z.2.1⟩
        refine ⟨(I'.unpinned (pins := [])).weak hl hk, T.keep _ _ _ st2 fun b hb o e => (pin' b hb o e).1, fun b hb => ?_⟩
        obtain ⟨o, e, _⟩ := T.obj _ _ st2 b hb
        exact (pin' b hb o e).2
      cases b with
      | false =>
        simp only [Bool.false_eq_true, if_false] at q4 ⊢
        obtain ⟨f', hf', q4⟩ := q4
        obtain ⟨m', hm, w'⟩ := hNx f' H4 q4
        obtain ⟨k1, k2, k3⟩ := back I4 hl3 (fun j v e => by rw [← hw3] at e; exact (wipe_some e).1)
        exact seg_again rfl (ih m' hm n f' (i + 1) s₀ s4 H4 (by omega) w' k1 k2 k3)
      | true =>
        simp only [if_true] at q4 ⊢
        have hp1 := noxG hxe (pi1.run _ s4 σ3 H4 _ I4 q4)
        rw [hxe] at hp1
        refine segG (hov _ rfl) hp1 fun xv s5 hx => ?_
        refine seg_bind_wrap (wpAny_standAt ?_)
        refine seg_bind_wrap (wpAny_of_eq (hs1 xv) ?_)
        refine segG (hov _ rfl) (wpAny_holding hx) fun itv s6 h6 => ?_
        obtain ⟨it1, fp1, tn1, J1, H6, e1, I6, T1, st6, f6, W1, ⟨k0, f0, hf0, w0⟩, turn1⟩ := h6
        subst e1
        refine seg_call fun p => ?_
        refine seg_gS1 (P := G.prog) (w := G.w) (fun A Q E q => T1.self A 0 s6 Q E st6 q) ⟨_, rfl, rfl⟩ ?_
        refine seg_g2in (σ2 := σ3) (vs1 := vs1) ((GenW.over_loop rfl rfl).trans (hov _ rfl)) rfl rfl T1 hc hxe (fun b hb H hH => ⟨hH, (f6 b hb).2⟩) pg1 pt1 pe hco turn1 (fun σ' H' s' q I' => ⟨H', σ', I'.pins_of fun p hp => I'.pin p (List.mem_append_left _ (by simpa using hp)), rfl⟩) (fun n' f' s₀' s' H' hn' nx I' => ?_)
          k0 n f0 0 s₀ s6 H6 (by omega) w0 (I6.weak (wipe_length _ _) fun j v e => (wipe_some e).1) st6 (fun b hb => (f6 b hb).1)
        obtain ⟨m', hm, w'⟩ := hNx f' H' nx
        obtain ⟨k1, k2, k3⟩ := back I' (hl3.trans (wipe_length σ3 vs1).symm) (fun j v e => by
          rw [← hw3] at e
          obtain ⟨e1, e2⟩ := wipe_some e
          rw [wipe_out fun z => e2 (hv j z)]
          exact e1)
        exact seg_leaf (.ok .next) (seg_again rfl (ih m' hm n' f' (i + 1) s₀' s' H' hn' w' k1 k2 k3))
end
end Mp
end
section
set_option Elab.async false
set_option linter.all false
set_option maxRecDepth 100000
set_option maxHeartbeats 1000000
/-! Generator expressions: two clauses as a rule; readings by evaluation. -/
namespace Mp
open PySem PySem.Spec L2 PyProof.Rows GxR
section
variable {X : Cx} {elt tg iter tg1 iter1 : Expr} {ifs ifs1 : List Expr} {scope : Scope} {own : List (Str × Nat)} {gpos p pos : Pos} {wi wi1 : TI} {g g1 : TG} {tt tt1 : TT} {te : TE} {al : Bool} {c P : Addr} {x : Str} {k : Nat} {vs1 : List Nat}
def tGen2 (P : Addr) (wi : TI) (g : TG) (tt : TT) (wi1 : TI) (g1 : TG) (tt1 : TT) (te : TE) (vs vs1 : List Nat) (al : Bool) : TE := fun σ H Q => wi σ H fun J H1 => TabG H1 P ∧ ∀ H2, Tabbed P H1 H2 → ∃ W : Nat → Nat → Nat → Hp → Prop, (∃ m f, W 0 m f H2) ∧ gTurns2 J g tt wi1 g1 tt1 te vs vs1 σ al (fun H => Q (.bl al) H) (fun H => Q (.bl (!al)) H) W
theorem pe_gen2 (hc : X.calm = true) (hr : Room k X.A) (hb : PrimAt X x (.builtin (if al then "all" else "any"))) (TB : TabB X.base X.mg c P) (hcode : X.env.code = .ref c) (ok : GenOk X.N X.env.scope scope own) (hN : X.N.Nodup) (hi : PI X tg iter wi)
    (hg : ∀ (s : Shared) (H : Hp) (C : Addr) (code : Value) (fp : List Addr) (pn : List (Addr × Obj)), PG (gC X scope s H C code fp pn) tg g) (ht : ∀ (s : Shared) (H : Hp) (C : Addr) (code : Value) (fp : List Addr) (pn : List (Addr × Obj)), PTs (gC X scope s H C code fp pn) ifs tt)
    (hi1 : ∀ (s : Shared) (H : Hp) (C : Addr) (code : Value) (fp : List Addr) (pn : List (Addr × Obj)), PI (gC X scope s H C code fp pn) tg1 iter1 wi1)
    (hg1 : ∀ (s : Shared) (H : Hp) (C : Addr) (code : Value) (fp : List Addr) (pn : List (Addr × Obj)), PG (gC X scope s H C code fp pn) tg1 g1) (ht1 : ∀ (s : Shared) (H : Hp) (C : Addr) (code : Value) (fp : List Addr) (pn : List (Addr × Obj)), PTs (gC X scope s H C code fp pn) ifs1 tt1)
    (he : ∀ (s : Shared) (H : Hp) (C : Addr) (code : Value) (fp : List Addr) (pn : List (Addr × Obj)), PE (gC X scope s H C code fp pn) elt te) (hs : ∀ v, genFold iter X.env v = pure v) (hs1 : ∀ env x, foldedSetIterable iter1 env x = pure x) (hv : ∀ i ∈ vs1, i ∈ own.map (·.2)) :
    PE X (.Call (.Name x p) [.GeneratorExp elt [⟨tg, iter, ifs, 0⟩, ⟨tg1, iter1, ifs1, 0⟩] scope gpos] [] pos) (tGen2 P wi g tt wi1 g1 tt1 te (own.map (·.2)) vs1 al) := by
  refine ⟨fun pins s σ H Q I h => ?_⟩
  have he' : starEach [.GeneratorExp elt [⟨tg, iter, ifs, 0⟩, ⟨tg1, iter1, ifs1, 0⟩] scope gpos] X.env = (false, eval (.GeneratorExp elt [⟨tg, iter, ifs, 0⟩, ⟨tg1, iter1, ifs1, 0⟩] scope gpos) X.env) :: starEach [] X.env := rfl
  refine wpAny_Call_Name_kw (hb.ld I ?_)
  refine PyProof.Rows.callWith_builtin1 ?_ he' (by rfl)
  rw [he']
  show wpAny _ _ (spliced ((false, eval (.GeneratorExp elt [⟨tg, iter, ifs, 0⟩, ⟨tg1, iter1, ifs1, 0⟩] scope gpos) X.env) :: backTo pos (starEach [] X.env))) _ _ s
  refine Calls.spliced_cons (gen_make hr TB hcode ok hN hi hs I h fun s3 H1 H3 J fp it tn code a og gg s5 hT q I3 T fpo hfa hw hget hog hbare hl hgs => ?_)
  refine Calls.spliced_nil ?_
  obtain ⟨W, ⟨m0, f0, w0⟩, turn⟩ := q H3 hT
  have fin : ∀ {b : Bool} {s' : Shared} {H' : Hp} {σ' : L2.St}, Inv (gC X scope s3 H3 s3.heap.objs.size code fp [(a, og)]) [] σ' H' s' → Q (.bl b) H' → EP X pins σ Q (.bool b) s' := fun {b s' H' σ'} I' q' =>
    ⟨.bl b, H', I3.call' (ch := fp) I'.os I'.base I'.hok I'.bare fun b hb => ⟨(fpo b hb).2.2.2.1, (fpo b hb).2.1, (fpo b hb).2.2.2.2.1, (fpo b hb).2.2.2.2.2⟩, rfl, q'⟩
  refine call_gen (G := gC X scope s3 H3 s3.heap.objs.size code fp [(a, og)]) (QE := fun H => Q (.bl al) H) (QS := fun H => Q (.bl (!al)) H) (n := f0 + 1) al hr.hd hr.depth hog (fun H' σ' s' I' => ⟨(I'.pin (a, og) (List.mem_append_left _ List.mem_cons_self)).1, I'.nolimit⟩) (fun s' H' σ' I' qe => fin I' qe) (fun s' H' σ' I' qs => fin I' qs) ?_
  refine ⟨hget, hl, hbare, _, hgs, fun s' wk => ⟨rfl, ?_⟩⟩
  obtain ⟨I5, st5⟩ := hw s' wk
  refine seg_gS (P := X.prog) (w := X.w) (fun A Q E q => T.self A 0 s' Q E st5 q) ⟨_, rfl, rfl⟩ ?_
  refine seg_g2 (G := gC X scope s3 H3 s3.heap.objs.size code fp [(a, og)]) rfl T hc rfl (fun p hp z => ?_) rfl (fun b hb z => ?_) (hg _ _ _ _ _ _) (ht _ _ _ _ _ _) (hi1 _ _ _ _ _ _) (hg1 _ _ _ _ _ _) (ht1 _ _ _ _ _ _) (he _ _ _ _ _ _) ok.co (hs1 _) hv turn m0 (f0 + 1) f0 0 s' s' H3 (Nat.lt_succ_self _) w0 I5 st5 (fun b hb => (fpo b hb).1)
  · have hp : p ∈ [(a, og)] := hp
    have hp : p = (a, og) := List.mem_singleton.mp hp
    rw [hp] at z
    exact hfa a z rfl
  · rcases List.mem_cons.mp (I3.stkSub b z) with z | z
    · exact (fpo b hb).2.1 z
    · exact (fpo b hb).2.2.1 z
end
/-! readings -/
section
variable {K : PySem.W.Frag} {Tb : List (Addr × Option Str)} {β α : List Addr} {st : St} {H H1 : Hp} {P : Addr}
/-- the table at P has grown -/
theorem Ok.tabbed (o : Ok K Tb β α st H) (hP : (P, none) ∈ Tb) (hq : ∀ q, (P, some q) ∉ Tb) (t : Tabbed P H H1) : Ok K Tb β α st H1 ∧ Stp α α H H1 := by
  obtain ⟨ps, h0, _⟩ : TabG H P := o.tabs _ hP
  have hne : ∀ b u, H b = some u → (∀ q, u ≠ .tbl q) → H1 b = some u := fun b u e n => by
    rw [t.2 b fun z => ?_]
    · exact e
    · rw [z, h0] at e
      exact n _ (Option.some.inj e).symm
  have le : LeG (Mk (β ++ α) H) (Mk (β ++ α) H1) := fun b u e n => by
    obtain ⟨hb, e⟩ := mk_some e
    rw [mk_out hb]
    exact hne b u e n
  refine ⟨⟨o.nd, o.ap, fun b hb => ?_, o.len, fun k a l e1 e2 => ?_, fun p hp => ?_⟩, ⟨List.prefix_rfl, fun _ h => .inl h, fun b u _ e n => hne b u e n, fun b qs _ e => ?_⟩⟩
  · obtain ⟨xs, e⟩ := o.bl b hb
    exact ⟨xs, hne b _ e fun q z => by cases z⟩
  · obtain ⟨xs, h1, h2⟩ := o.cells k a l e1 e2
    exact ⟨xs, hne a _ h1 (fun q z => by cases z), Reps.mono List.prefix_rfl le l xs h2⟩
  · have hp' := o.tabs p hp
    obtain ⟨pa, pq⟩ := p
    cases pq with
    | none =>
      by_cases h1 : pa = P
      · rw [h1]
        exact t.1
      · obtain ⟨qs, e1, e2⟩ : TabG H pa := hp'
        exact ⟨qs, by rw [t.2 pa h1]; exact e1, e2⟩
    | some q =>
      have h1 : pa ≠ P := fun z => hq q (by rw [← z]; exact hp)
      obtain ⟨qs, e1, e2, e3⟩ : LamX.TabS H pa q := hp'
      refine ⟨qs, by rw [t.2 pa h1]; exact e1, e2, fun pos cv hc => ?_⟩
      obtain ⟨c, k1, k2⟩ := e3 pos cv hc
      exact ⟨c, k1, hne c _ k2 fun q z => by unfold LamX.CodeO at z; cases z⟩
  · by_cases h1 : b = P
    · obtain ⟨ps', e', _⟩ := t.1
      exact ⟨ps', by rw [h1]; exact e'⟩
    · exact ⟨qs, by rw [t.2 b h1]; exact e⟩
end
section
variable {X : Cx} {Tb : List (Addr × Option Str)} {P : Addr}
theorem boolOf_bnd {m : M D} {st st' : St} {b : Bool} (h : bnd m boolOf st = .ok b st') : m st = .ok (.bl b) st' := by
  obtain ⟨d, st1, q, h⟩ := bnd_ok h
  obtain ⟨rfl, rfl⟩ := boolOf_ok h
  exact q
theorem gen_tell {p : Pat} {c e : Env → M D} {wi : Env → M Src} {vs : List Nat} {al : Bool} (hP : (P, none) ∈ Tb) (hq : ∀ q, (P, some q) ∉ Tb) (hv : vs = p.slots) {σ : L2.St} {H : Hp} {Q : VK}
    (h : tOf X.K Tb (fun env => bnd (wi env) fun s => bnd (genL al p c (fun env => bnd (e env) boolOf) (wipeE env p.slots) s.2 s.1) fun b => ret (.bl b)) σ H Q) :
    tGen P (tItr X.K Tb wi) (gOf X.K Tb p) (tTst X.K Tb c) (tOf X.K Tb e) vs al σ H Q := by
  subst hv
  obtain ⟨β, α, st, env, o, en, h⟩ := h
  refine ⟨β, α, st, env, o, en, ?_⟩
  obtain ⟨⟨l, g⟩, st1, q1, h⟩ := sat_bnd h
  rw [q1]
  intro J α1 H1 s1 o1 hc walk
  refine ⟨o1.tabs _ hP, fun Ht hT => ?_⟩
  obtain ⟨ot, sT⟩ := o1.tabbed hP hq hT
  obtain ⟨bF, stF, qF, h⟩ := sat_bnd h
  simp only at qF
  have en1 : EnvOk X.K α1 (Mk (β ++ α1) H1) env σ := en.mono s1.pre (s1.le β)
  generalize hew : wipeE env p.slots = ew at qF
  let Pv : Nat → Hp → Prop := fun i H2 => ∃ α2 st2, Stp α1 α2 H1 H2 ∧ Ok X.K Tb β α2 st2 H2 ∧ chk g st2 = .ok () st2 ∧ genL al p c (fun env => bnd (e env) boolOf) ew g (l.drop i) st2 = .ok bF stF
  refine ⟨fun i m H2 => m = l.length - i ∧ i ≤ l.length ∧ Pv i H2, ⟨l.length, by simp, Nat.zero_le _, α1, st1, sT, ot, hc, qF⟩, ?_⟩
  rintro i m H2 ⟨rfl, hi, α2, st2, s2, o2, c2, qr⟩
  obtain ⟨wg, ws, wy⟩ := walk β α2 st2 H2 (fun b hb => .inl hb) (s2.w β) o2 c2
  by_cases hlt : i < l.length
  · refine .inr ⟨wg i hlt, Pv (i + 1), fun H' p' => ⟨l.length - (i + 1), by omega, rfl, hlt, p'⟩, fun x H3 y => ?_⟩
    obtain ⟨d, hd, o3, s3, r3⟩ := wy i x H3 hlt y
    have hdrop : l.drop i = d :: l.drop (i + 1) := by
      rw [List.drop_eq_getElem_cons hlt]
      congr 1
      rw [List.getElem?_eq_getElem hlt] at hd
      exact Option.some.inj hd
    rw [hdrop] at qr
    unfold genL at qr
    obtain ⟨env', st3, qb0, qr1⟩ := bnd_ok qr
    obtain ⟨qb, e3⟩ := opt_ok qb0
    rw [e3] at qr1
    clear qr qb0 e3 st3
    have s13 : Stp α1 α2 H1 H3 := s2.trans s3
    have enw : EnvOk X.K α2 (Mk (β ++ α2) H3) ew (wipe σ p.slots) := by
      rw [← hew]
      exact (EnvOk.wipe en1 p.slots).mono s13.pre (s13.le β)
    refine ⟨β, α2, st2, ew, d, env', o3, enw, r3, qb, fun σ' hw e' => ⟨by rw [hw, wipe_wipe fun _ h => h], ?_⟩⟩
    refine tOfB_mk o3 e' ?_
    obtain ⟨b, st4, q4, qr2⟩ := bnd_ok qr1
    rw [q4]
    intro α4 H4 s4 o4
    have s14 : Stp α1 α4 H1 H4 := s13.trans s4
    cases b with
    | false =>
      obtain ⟨_, st5, q5, qr3⟩ := bnd_ok qr2
      have e5 := chk_st q5
      rw [e5] at q5 qr3
      exact ⟨α4, st4, s14, o4, chk_ok q5, qr3⟩
    | true =>
      obtain ⟨y, st5, q5, qr3⟩ := bnd_ok qr2
      refine tOf_mk o4 (e'.mono s4.pre (s4.le β)) ?_
      rw [boolOf_bnd q5]
      intro v α5 H5 s5 o5 r5
      obtain rfl : v = .bl y := r5
      refine ⟨y, rfl, ?_⟩
      by_cases hy : y = al
      · rw [if_pos hy] at qr3
        obtain ⟨_, st6, q6, qr4⟩ := bnd_ok qr3
        have e6 := chk_st q6
        rw [e6] at q6 qr4
        exact .inl ⟨hy, α5, st5, s14.trans s5, o5, chk_ok q6, qr4⟩
      · rw [if_neg hy] at qr3
        cases qr3
        refine .inr ⟨hy, ?_⟩
        have hya : bF = !al := by cases bF <;> cases al <;> simp_all
        rw [← hya]
        exact h (.bl bF) α5 H5 (s1.trans (s14.trans s5)) o5 rfl
  · have e : i = l.length := by omega
    subst e
    rw [List.drop_length] at qr
    cases qr
    exact .inl ⟨ws, h (.bl al) α2 H2 (s1.trans s2) o2 rfl⟩
end
end Mp
end
section
set_option Elab.async false
set_option linter.all false
set_option maxRecDepth 100000
set_option maxHeartbeats 1000000
/-! Generator expressions of two clauses: the reading by evaluation. -/
namespace Mp
open PySem PySem.Spec L2 PyProof.Rows GxR
/-- how much is handed out at most -/
def genF (p : Pat) (c : Env → M D) (e : Env → M Bool) (cnt : Env → St → Nat) (env : Env) : List D → St → Nat
  | [], _ => 0
  | x :: r, st => match p.bind x env with
    | none => 0
    | some env' => match bnd (c env') truth st with
      | .bad => 0
      | .ok false st1 => genF p c e cnt env r st1
      | .ok true st1 => cnt env' st1 + match e env' st1 with
        | .ok _ st2 => genF p c e cnt env r st2
        | .bad => 0
def cntOf (wi : Env → M Src) (env : Env) (st : St) : Nat := match wi env st with
  | .ok s _ => s.1.length
  | .bad => 0
section
variable {X : Cx} {Tb : List (Addr × Option Str)} {P : Addr}
theorem gen2_tell {p q : Pat} {c d e : Env → M D} {wi wi1 : Env → M Src} {vs vs1 : List Nat} {al : Bool} (hP : (P, none) ∈ Tb) (hq : ∀ q, (P, some q) ∉ Tb) (hv : vs = p.slots ++ q.slots) (hv1 : vs1 = q.slots) {σ : L2.St} {H : Hp} {Q : VK}
    (h : tOf X.K Tb (fun env => bnd (wi env) fun s => bnd (genL al p c (fun env => bnd (wi1 env) fun s => genL al q d (fun env => bnd (e env) boolOf) (wipeE env q.slots) s.2 s.1) (wipeE env (p.slots ++ q.slots)) s.2 s.1) fun b => ret (.bl b)) σ H Q) :
    tGen2 P (tItr X.K Tb wi) (gOf X.K Tb p) (tTst X.K Tb c) (tItr X.K Tb wi1) (gOf X.K Tb q) (tTst X.K Tb d) (tOf X.K Tb e) vs vs1 al σ H Q := by
  subst hv hv1
  obtain ⟨β, α, st, env, o, en, h⟩ := h
  refine ⟨β, α, st, env, o, en, ?_⟩
  obtain ⟨⟨l, g⟩, st1, q1, h⟩ := sat_bnd h
  rw [q1]
  intro J α1 H1 s1 o1 hc walk
  refine ⟨o1.tabs _ hP, fun Ht hT => ?_⟩
  obtain ⟨ot, sT⟩ := o1.tabbed hP hq hT
  obtain ⟨bF, stF, qF, h⟩ := sat_bnd h
  simp only at qF
  have en1 : EnvOk X.K α1 (Mk (β ++ α1) H1) env σ := en.mono s1.pre (s1.le β)
  generalize hew : wipeE env (p.slots ++ q.slots) = ew at qF
  generalize hel : (fun env => bnd (wi1 env) fun s => genL al q d (fun env => bnd (e env) boolOf) (wipeE env q.slots) s.2 s.1) = el at qF
  let Pv : Nat → Nat → Hp → Prop := fun i f H2 => ∃ α2 st2, Stp α1 α2 H1 H2 ∧ Ok X.K Tb β α2 st2 H2 ∧ chk g st2 = .ok () st2 ∧ genL al p c el ew g (l.drop i) st2 = .ok bF stF ∧ f = genF p c el (cntOf wi1) ew (l.drop i) st2
  refine ⟨fun i m f H2 => m = l.length - i ∧ i ≤ l.length ∧ Pv i f H2, ⟨l.length, _, by simp, Nat.zero_le _, α1, st1, sT, ot, hc, qF, rfl⟩, ?_⟩
  rintro i m f H2 ⟨rfl, hi, α2, st2, s2, o2, c2, qr, hf⟩
  obtain ⟨wg, ws, wy⟩ := walk β α2 st2 H2 (fun b hb => .inl hb) (s2.w β) o2 c2
  by_cases hlt : i < l.length
  · refine .inr ⟨wg i hlt, Pv (i + 1), fun f' H' p' => ⟨l.length - (i + 1), by omega, rfl, hlt, p'⟩, fun x H3 y => ?_⟩
    obtain ⟨dd, hd, o3, s3, r3⟩ := wy i x H3 hlt y
    have hdrop : l.drop i = dd :: l.drop (i + 1) := by
      rw [List.drop_eq_getElem_cons hlt]
      congr 1
      rw [List.getElem?_eq_getElem hlt] at hd
      exact Option.some.inj hd
    rw [hdrop] at qr hf
    unfold genL at qr
    unfold genF at hf
    obtain ⟨env', st3, qb0, qr1⟩ := bnd_ok qr
    obtain ⟨qb, e3⟩ := opt_ok qb0
    rw [e3] at qr1
    clear qr qb0 e3 st3
    rw [qb] at hf
    simp only at hf
    have s13 : Stp α1 α2 H1 H3 := s2.trans s3
    have enw : EnvOk X.K α2 (Mk (β ++ α2) H3) ew (wipe σ (p.slots ++ q.slots)) := by
      rw [← hew]
      exact (EnvOk.wipe en1 _).mono s13.pre (s13.le β)
    refine ⟨β, α2, st2, ew, dd, env', o3, enw, r3, qb, fun σ' hw e' => ⟨by rw [wipe_sub (fun j hj => List.mem_append_left _ hj) hw, wipe_wipe fun _ h => h], ?_⟩⟩
    refine tOfB_mk o3 e' ?_
    obtain ⟨b, st4, q4, qr2⟩ := bnd_ok qr1
    rw [q4] at hf ⊢
    intro α4 H4 s4 o4
    have s14 : Stp α1 α4 H1 H4 := s13.trans s4
    cases b with
    | false =>
      obtain ⟨_, st5, q5, qr3⟩ := bnd_ok qr2
      have e5 := chk_st q5
      rw [e5] at q5 qr3
      exact ⟨f, Nat.le_refl _, α4, st4, s14, o4, chk_ok q5, qr3, hf⟩
    | true =>
      obtain ⟨y1, stI, q5, qr3⟩ := bnd_ok qr2
      simp only [q5] at hf
      have q5' := q5
      rw [← hel] at q5'
      obtain ⟨⟨l1, g1⟩, st5, q50, q51⟩ := bnd_ok q5'
      simp only at q51
      have hcnt : cntOf wi1 env' st4 = l1.length := by unfold cntOf; rw [q50]
      rw [hcnt] at hf
      have e4 : EnvOk X.K α4 (Mk (β ++ α4) H4) env' σ' := e'.mono s4.pre (s4.le β)
      refine tItr_mk o4 e4 ?_
      rw [q50]
      intro J1 α5 H5 s5 o5 hc5 walk1
      have s15 : Stp α1 α5 H1 H5 := s14.trans s5
      have e5 : EnvOk X.K α5 (Mk (β ++ α5) H5) env' σ' := e4.mono s5.pre (s5.le β)
      generalize hF : genF p c el (cntOf wi1) ew (l.drop (i + 1)) stI = F at hf
      let Pv1 : Nat → Nat → Hp → Prop := fun j f H6 => ∃ α6 st6, Stp α5 α6 H5 H6 ∧ Ok X.K Tb β α6 st6 H6 ∧ chk g1 st6 = .ok () st6 ∧ genL al q d (fun env => bnd (e env) boolOf) (wipeE env' q.slots) g1 (l1.drop j) st6 = .ok y1 stI ∧ f = (l1.length - j) + F
      refine ⟨fun j k f H6 => k = l1.length - j ∧ j ≤ l1.length ∧ Pv1 j f H6, ⟨l1.length, l1.length + F, by omega, by simp, Nat.zero_le _, α5, st5, Stp.refl _ _, o5, hc5, q51, by simp⟩, ?_⟩
      rintro j k f1 H6 ⟨rfl, hj, α6, st6, s56, o6, c6, qr6, hf1⟩
      obtain ⟨wg1, ws1, wy1⟩ := walk1 β α6 st6 H6 (fun b hb => .inl hb) (s56.w β) o6 c6
      by_cases hlt1 : j < l1.length
      · refine .inr ⟨wg1 j hlt1, Pv1 (j + 1), fun f' H' p' => ⟨l1.length - (j + 1), by omega, rfl, hlt1, p'⟩, fun x1 H7 yy => ?_⟩
        obtain ⟨d1, hd1, o7, s7, r7⟩ := wy1 j x1 H7 hlt1 yy
        have hdrop1 : l1.drop j = d1 :: l1.drop (j + 1) := by
          rw [List.drop_eq_getElem_cons hlt1]
          congr 1
          rw [List.getElem?_eq_getElem hlt1] at hd1
          exact Option.some.inj hd1
        rw [hdrop1] at qr6
        unfold genL at qr6
        obtain ⟨env2, st8, qb0, qr7⟩ := bnd_ok qr6
        obtain ⟨qb2, e8⟩ := opt_ok qb0
        rw [e8] at qr7
        clear qr6 qb0 e8 st8
        have s57 : Stp α5 α6 H5 H7 := s56.trans s7
        have enw2 : EnvOk X.K α6 (Mk (β ++ α6) H7) (wipeE env' q.slots) (wipe σ' q.slots) := (EnvOk.wipe e5 _).mono s57.pre (s57.le β)
        refine ⟨β, α6, st6, wipeE env' q.slots, d1, env2, o7, enw2, r7, qb2, fun σ3 hw3 e7 => ⟨by rw [hw3, wipe_wipe fun _ h => h], ?_⟩⟩
        refine tOfB_mk o7 e7 ?_
        obtain ⟨b2, st9, q9, qr8⟩ := bnd_ok qr7
        rw [q9]
        intro α9 H9 s9 o9
        have s59 : Stp α5 α9 H5 H9 := s57.trans s9
        cases b2 with
        | false =>
          obtain ⟨_, st10, q10, qr9⟩ := bnd_ok qr8
          have e10 := chk_st q10
          rw [e10] at q10 qr9
          exact ⟨(l1.length - (j + 1)) + F, by omega, α9, st9, s59, o9, chk_ok q10, qr9, rfl⟩
        | true =>
          obtain ⟨y2, st10, q10, qr9⟩ := bnd_ok qr8
          refine tOf_mk o9 (e7.mono s9.pre (s9.le β)) ?_
          rw [boolOf_bnd q10]
          intro v α11 H11 s11 o11 r11
          obtain rfl : v = .bl y2 := r11
          refine ⟨y2, rfl, ?_⟩
          by_cases hy : y2 = al
          · rw [if_pos hy] at qr9
            obtain ⟨_, st12, q12, qr10⟩ := bnd_ok qr9
            have e12 := chk_st q12
            rw [e12] at q12 qr10
            exact .inl ⟨hy, (l1.length - (j + 1)) + F, by omega, α11, st10, s59.trans s11, o11, chk_ok q12, qr10, rfl⟩
          · rw [if_neg hy] at qr9
            cases qr9
            rw [if_neg hy] at qr3
            cases qr3
            refine .inr ⟨hy, ?_⟩
            have hya : bF = !al := by cases bF <;> cases al <;> simp_all
            rw [← hya]
            exact h (.bl bF) α11 H11 (s1.trans (s15.trans (s59.trans s11))) o11 rfl
      · have ej : j = l1.length := by omega
        subst ej
        rw [List.drop_length] at qr6
        cases qr6
        rw [if_pos rfl] at qr3
        obtain ⟨_, st12, q12, qr10⟩ := bnd_ok qr3
        have e12 := chk_st q12
        rw [e12] at q12 qr10
        refine .inl ⟨ws1, α6, _, s15.trans s56, o6, chk_ok q12, qr10, ?_⟩
        rw [hF, hf1]
        omega
  · have e : i = l.length := by omega
    subst e
    rw [List.drop_length] at qr
    cases qr
    exact .inl ⟨ws, h (.bl al) α2 H2 (s1.trans s2) o2 rfl⟩
end
end Mp
end
section
set_option Elab.async false
set_option linter.all false
set_option maxRecDepth 100000
set_option maxHeartbeats 1000000
/-! sorted(e, key=lambda x: (len(x), x)). -/
namespace Mp
open PySem PySem.Spec L2 PyProof.Rows LamX
/-! the lambda's making, one table at a time -/
section
variable {X : Cx} {pins : List (Addr × Obj)} {σ : L2.St} {H : Hp} {s : Shared}
theorem lam_make1 {c P : Addr} {params : Arguments} {body : Expr} {scope : Scope} {pos : Pos} {E : Value → Shared → Prop} {Q : Value → Shared → Prop} (I : Inv X pins σ H s) (TB : LamX.TabB X.base X.mg c P) (hcode : X.env.code = .ref c)
    (hT : TabS H P (X.env.qual ++ "<lambda>")) (hdef : defaultsOf params X.env = ([], [])) (hfree : ∀ y ∈ scope.names, y.2 = .free → ∃ c, X.env.cells.lookup y.1 = some c)
    (h : ∀ (f c' : Addr) (pm ctv : Value) (H1 : Hp) (s' : Shared), Inv X pins σ H1 s' → (∀ b o, b ≠ P → H b = some o → H1 b = some o) → TabS H1 P (X.env.qual ++ "<lambda>") →
      s'.heap.get? f = some (PySem.W.kla_obj "<lambda>" (X.env.qual ++ "<lambda>") params body scope (cloFrom X.env.cells scope.names []) pm c' ctv) → H1 f = none → H1 c' = some (CodeO c' (X.env.qual ++ "<lambda>")) → Q (.ref f) s') :
    wpAny (model X.prog X.w) X.A (eval (.Lambda params body scope pos) X.env) Q E s := by
  obtain ⟨ps, hP, ht, ha⟩ := hT
  refine PySem.W.kla_eval hdef ?_
  have bP : s.heap.BuiltinsAt X.mg P := TB.bm.keeps I.bk
  have hP' : s.heap.get? P = some { cls := .none, data := .fields ps } := I.hok P _ hP
  cases hc : codeAmong pos ps.toList with
  | none =>
    refine PySem.W.kla_makeFunction (mg := X.mg) (c := c) (P := P) (ps := ps) (closure_ok hfree) I.ok.glob (I.mod.glob.keeps I.bk) hcode (TB.code.keeps I.bk) hP' ht hc TB.gP bP fun c' ctv h' tk hx hge hlt hrec htb => ?_
    obtain ⟨c2, oc, vs, t, e2, hoc, hd, hv⟩ := hrec
    cases e2
    have hsz : s.heap.objs.size ≤ h'.objs.size := Nat.le_trans hge (Nat.le_of_lt hlt)
    have nC : H c' = none := I.hok.fresh hge
    have I1 := inv_table (t' := tk) (more := #[rawInt pos.line, rawInt pos.col, .ref c']) (h' := h'.push (PySem.W.kla_obj "<lambda>" (X.env.qual ++ "<lambda>") params body scope (cloFrom X.env.cells scope.names []) ((X.mg "__name__").getD .none) c' ctv)) I hP
      (fun b o hb e => Heap.get?_push_of_some _ (hx b o hb e)) (Heap.get?_push_of_some _ htb) hge ⟨oc, vs, t, Heap.get?_push_of_some _ hoc, hd, hv⟩
    have hE : ∀ b o, b ≠ P → H b = some o → upd (upd H P (.tbl (ps ++ #[rawInt pos.line, rawInt pos.col, .ref c']))) c' (CodeO c' (X.env.qual ++ "<lambda>")) b = some o := fun b o hb e => by
      rw [upd_ne (ne_of_none e nC), upd_ne hb]
      exact e
    have eL : (ps ++ #[rawInt pos.line, rawInt pos.col, .ref c']).toList = ps.toList ++ [rawInt pos.line, rawInt pos.col, .ref c'] := by simp
    refine h h'.objs.size c' ((X.mg "__name__").getD .none) ctv _ _ I1 hE ?_ (Heap.get?_push_size _ rfl) ?_ upd_same
    · refine ⟨_, by rw [upd_ne (ne_of_none hP nC), upd_same], by rw [eL]; exact PySem.TriplesOk_snoc _ _ _ _ ht, fun p' cv hcv => ?_⟩
      rw [eL] at hcv
      rcases among_app _ ht hcv with z | z
      · obtain ⟨c0, e1, e2⟩ := ha p' cv z
        have : c0 ≠ P := fun q => by
          rw [q, hP] at e2
          exact codeO_ne ps (Option.some.inj e2).symm
        exact ⟨c0, e1, hE _ _ this e2⟩
      · exact ⟨c', z, upd_same⟩
    · have n1 : h'.objs.size ≠ c' := Nat.ne_of_gt hlt
      have n2 : h'.objs.size ≠ P := Nat.ne_of_gt (Nat.lt_of_lt_of_le (Heap.lt_size hP') hsz)
      rw [upd_ne n1, upd_ne n2]
      exact I.hok.fresh hsz
  | some cv =>
    obtain ⟨c', e, hco⟩ := ha pos cv hc
    subst e
    refine PySem.W.kla_makeFunctionHit (mg := X.mg) (c := c) (P := P) (ps := ps) (closure_ok hfree) I.ok.glob (I.mod.glob.keeps I.bk) hcode (TB.code.keeps I.bk) hP' ht hc bP fun ctv h' tk hx hsz => ?_
    have I1 : Inv X pins σ H { s with heap := h'.push (PySem.W.kla_obj "<lambda>" (X.env.qual ++ "<lambda>") params body scope (cloFrom X.env.cells scope.names []) ((X.mg "__name__").getD .none) c' ctv), toks := tk } := I.kept fun b o e => Heap.get?_push_of_some _ (hx b o e)
    exact h h'.objs.size c' ((X.mg "__name__").getD .none) ctv H _ I1 (fun _ _ _ e => e) ⟨ps, hP, ht, ha⟩ (Heap.get?_push_size _ rfl) (I.hok.fresh hsz) hco
end
/-! the key -/
/-- lambda x: (len(x), x) -/
structure KeyLam (params : Arguments) (body : Expr) (scope : Scope) : Prop where
  ex : ∃ (x : Str) (p0 p1 p2 p3 p4 p5 : Pos) (k : Nat), params = ⟨[], [⟨x, none, p0⟩], none, [], [], none, []⟩ ∧ body = .Tuple [.Call (.Name "len" p1) [.Name x p2] [] p3, .Name x p4] k p5 ∧ scope.names.lookup x = some .local ∧ (x == ("__debug__" : Str)) = false
  kind : scope.kind = .function
  co : scope.isCoroutine = false
  gen : scope.isGenerator = false
  len : scope.names.lookup ("len" : Str) = some .globalImplicit
  names : ∀ y ∈ scope.names, y.2 ≠ .cell ∧ y.2 ≠ .free
theorem bind1 {q x : Str} {p0 : Pos} {body : Expr} {scope : Scope} {cl : List (Str × Addr)} {pm ctv v : Value} {c' : Addr} : bindArgs (PySem.W.kla_fn "<lambda>" q ⟨[], [⟨x, none, p0⟩], none, [], [], none, []⟩ body scope cl pm (.ref c') ctv) ⟨[v], []⟩ = pure [(x, v)] := by
  unfold bindArgs
  have e : List.lookup x [(x, v)] = some v := by simp
  simp [e, seqItems?, pure_bind]
  rfl
theorem key_run {prog : Program} {w : World} {A : Around} {E : Value → Shared → Prop} {s : Shared} {f c' t : Addr} {q : Str} {params : Arguments} {body : Expr} {scope : Scope} {cl : List (Str × Addr)} {pm ctv : Value} {mg mb : Str → Option Value} {vals : Array Value} {ds : List PyData}
    (L : KeyLam params body scope) (hroom : A.depth < recursionLimit) (ho : s.heap.get? f = some (PySem.W.kla_obj "<lambda>" q params body scope cl pm c' ctv)) (hcd : s.heap.CodeRec (.ref c') q) (lim : s.heap.NoLimit)
    (hg : s.heap.Ns mainGlobals mg) (hm : mg "len" = none) (hb : s.heap.Ns builtinsNs mb) (hv : mb "len" = some (.builtin "len")) (ht : IsTup s.heap t vals) (hsz : vals.size ≤ sizeLine) (hr : ReadsAll s.heap vals.toList ds []) :
    wpAny (model prog w) A (call (.ref f) [.ref t]) (PySem.W.KeyPure (.tuple [.int (vals.size : Nat), .tuple ds]) s) E s := by
  obtain ⟨x, p0, p1, p2, p3, p4, p5, k, rfl, rfl, hx, hd⟩ := L.ex
  refine wpAny_call (codeAny_mono (R := fun r s' => match r with
    | .ok (.ret u) => PySem.W.KeyPure (.tuple [.int (vals.size : Nat), .tuple ds]) s u s'
    | _ => False) (PySem.W.kla_callFunE hroom ho rfl L.co L.gen rfl hcd ?_) fun r s' hq => ?_)
  · refine wpAny_of_eq bind1 ?_
    refine wpAny_newFunctionEnv (fun y hy => (L.names y hy).1) (fun y hy => ?_) (fun h₁ hns hsb => ⟨lim.fresh _ hsb, ?_⟩) L.kind
    · rw [List.mem_singleton.mp hy]
      exact hx
    have kp : ∀ b o, s.heap.get? b = some o → h₁.get? b = some o := fun b o e => hsb.extBut b o (Nat.ne_of_lt (Heap.lt_size e)) (Heap.get?_push_of_some _ e)
    generalize hce : newEnv scope s.heap.objs.size mainGlobals cl (q ++ ".<locals>.") (some f) (.ref c') none builtinsNs = cenv
    have hsc : cenv.scope = scope := by rw [← hce]; rfl
    have hlo : cenv.locals = s.heap.objs.size := by rw [← hce]; rfl
    have hgl : cenv.globals = mainGlobals := by rw [← hce]; rfl
    have hbl : cenv.builtins = builtinsNs := by rw [← hce]; rfl
    have hbound : (fun y : Str => ([(x, Value.ref t)] : List (Str × Value)).reverse.lookup y) x = some (.ref t) := by simp
    have name : ∀ {A' : Around} {E' : Value → Shared → Prop} {Q' : Value → Shared → Prop} {s2 : Shared} {p : Pos}, (∀ b o, h₁.get? b = some o → s2.heap.get? b = some o) → Q' (.ref t) s2 → wpAny (model prog w) A' (eval (.Name x p) cenv) Q' E' s2 := fun {A' E' Q' s2 p} hk hq => by
      refine wpAny_Name (wpAny_loadName_local (by rw [hsc]; exact L.kind) (show cenv.scope.names.lookup x = some .local by rw [hsc]; exact hx) (by rw [hlo]; exact hns.keeps hk) hbound hq) hd
    refine PySem.W.kla_codeExpr ?_
    refine Tuple_ ?_
    show wpAny _ _ (spliced ((false, eval (.Call (.Name "len" p1) [.Name x p2] [] p3) cenv) :: (false, eval (.Name x p4) cenv) :: [])) _ _ _
    have hlen : (vals.size : Int) < 2 ^ 63 := by have := line31; omega
    refine Calls.spliced_cons ?_
    refine wpAny_Call_Name_kw (Calls.Name_function_global (by rw [hsc]; exact L.kind) (show cenv.scope.names.lookup _ = _ by rw [hsc]; exact L.len) (Calls.loadGlobal_builtin (by rw [hgl]; exact hg.keeps kp) hm (by rw [hbl]; exact hb.keeps kp) hv ?_))
    refine PyProof.Rows.callWith_builtin1 ?_ rfl rfl
    show wpAny _ _ (spliced ((false, eval (.Name x p2) cenv) :: [])) _ _ _
    refine Calls.spliced_cons (name (fun _ _ e => e) (Calls.spliced_nil ?_))
    have ht1 : IsTup h₁ t vals := by
      obtain ⟨o, e, r⟩ := ht
      exact ⟨o, kp _ _ e, r⟩
    refine len_tuple (by exact ht1) hlen ?_
    refine Calls.spliced_cons (name (fun _ _ e => e) (Calls.spliced_nil ?_))
    refine wpAny_newTuple ?_ (by show 2 ≤ sizeLine; rw [sizeLine_eq]; decide)
    refine ⟨_, _, rfl, fun b o e => Heap.get?_push_of_some _ (kp b o e), ?_⟩
    obtain ⟨ot, eo, ec, n, ed⟩ := ht
    refine .tuple (Heap.get?_push_size _ rfl) rfl rfl (.cons (as := []) (bs := []) (.int _ _) (.cons (as := []) (bs := []) ?_ .nil))
    exact .tuple (Heap.get?_push_of_some _ (kp _ _ eo)) ec ed (ReadsAll.keeps (fun b o e => Heap.get?_push_of_some _ (kp b o e)) hr)
  · cases r with
    | error e => exact hq.elim
    | ok fl =>
      cases fl with
      | ret u => exact hq
      | _ => exact hq.elim
/-! the order -/
theorem int_is {d : D} (h : isInt d = true) : ∃ i, d = .int i := by
  cases d with
  | int i => exact ⟨i, rfl⟩
  | _ => cases h
theorem alikes_int : ∀ {l m : List D}, l.all isInt = true → m.all isInt = true → D.alikes l m = true
  | [], _, _, _ => by simp [D.alikes]
  | _ :: _, [], _, _ => by simp [D.alikes]
  | a :: r, b :: s, h, k => by
    rw [List.all_cons, Bool.and_eq_true] at h k
    obtain ⟨i, rfl⟩ := int_is h.1
    obtain ⟨j, rfl⟩ := int_is k.1
    simp only [D.alikes, D.alike, Bool.true_and]
    exact alikes_int h.2 k.2
theorem eqs_int_symm : ∀ {l m : List D}, l.all isInt = true → m.all isInt = true → D.eqs l m = D.eqs m l
  | [], [], _, _ => rfl
  | [], _ :: _, _, _ => by simp [D.eqs]
  | _ :: _, [], _, _ => by simp [D.eqs]
  | a :: r, b :: s, h, k => by
    rw [List.all_cons, Bool.and_eq_true] at h k
    obtain ⟨i, rfl⟩ := int_is h.1
    obtain ⟨j, rfl⟩ := int_is k.1
    simp only [D.eqs, D.eq, eqs_int_symm h.2 k.2]
    rw [Bool.beq_comm]
theorem lts_eqs : ∀ {l m : List D}, l.all isInt = true → m.all isInt = true → D.eqs l m = true → D.lts l m = false
  | [], [], _, _, _ => by simp [D.lts]
  | [], _ :: _, _, _, e => by simp [D.eqs] at e
  | _ :: _, [], _, _, e => by simp [D.eqs] at e
  | a :: r, b :: s, h, k, e => by
    rw [List.all_cons, Bool.and_eq_true] at h k
    simp only [D.eqs, Bool.and_eq_true] at e
    rw [D.lts, if_pos e.1]
    exact lts_eqs h.2 k.2 e.2
/-- the key as data -/
def keyD (d : D) : D := match d with
  | .tup l => .tup [.int (l.length : Nat), .tup l]
  | d => d
theorem keyD_alike {a b : D} (ha : ∃ l, a = .tup l ∧ l.all isInt = true) (hb : ∃ l, b = .tup l ∧ l.all isInt = true) : D.alike (keyD a) (keyD b) = true := by
  obtain ⟨l, rfl, h1⟩ := ha
  obtain ⟨m, rfl, h2⟩ := hb
  simp only [keyD, D.alike, D.alikes, alikes_int h1 h2, Bool.and_self]
theorem lts_two {i j : Int} {x y : D} : D.lts [.int i, x] [.int j, y] = if i = j then (if D.eq x y = true then false else D.lt x y) else decide (i < j) := by
  rw [D.lts]
  by_cases h : i = j
  · have e : D.eq (.int i) (.int j) = true := by simp [D.eq, h]
    rw [if_pos e, if_pos h, D.lts]
    by_cases k : D.eq x y = true
    · rw [if_pos k, if_pos k]; simp [D.lts]
    · rw [if_neg k, if_neg k]
  · have e : ¬ D.eq (.int i) (.int j) = true := by simp [D.eq, h]
    rw [if_neg e, if_neg h, D.lt]
theorem leLen_key {a b : D} (ha : ∃ l, a = .tup l ∧ l.all isInt = true) (hb : ∃ l, b = .tup l ∧ l.all isInt = true) : leD (keyD a) (keyD b) = leLen a b := by
  obtain ⟨l, rfl, h1⟩ := ha
  obtain ⟨m, rfl, h2⟩ := hb
  show (!D.lt (.tup [.int (m.length : Nat), .tup m]) (.tup [.int (l.length : Nat), .tup l])) = if l.length = m.length then !D.lt (.tup m) (.tup l) else decide (l.length < m.length)
  rw [D.lt, lts_two, D.lt]
  by_cases e : l.length = m.length
  · rw [if_pos (by omega), if_pos e]
    by_cases q : D.eqs m l = true
    · have q' : D.eq (.tup m) (.tup l) = true := by simp only [D.eq]; exact q
      rw [if_pos q', lts_eqs h2 h1 q]
    · have q' : ¬ D.eq (.tup m) (.tup l) = true := by simp only [D.eq]; exact q
      rw [if_neg q']
  · rw [if_neg (by omega), if_neg e]
    by_cases hlt : l.length < m.length
    · rw [decide_eq_true hlt, decide_eq_false (by omega)]
      rfl
    · rw [decide_eq_false hlt, decide_eq_true (by omega)]
      rfl
theorem isort_len {l : List D} (h : ∀ d ∈ l, ∃ m, d = .tup m ∧ m.all isInt = true) : l.mergeSort (PySem.W.dataLe false fun d => (keyD d).py) = isort leLen l := by
  rw [← isort_merge (total_py fun d => (keyD d).py)]
  refine isort_congr fun a ha b hb => ?_
  rw [← leLen_key (h a ha) (h b hb)]
  unfold leD
  rw [D.lt_py _ _ (keyD_alike (h b hb) (h a ha)), PySem.W.dataLe_eq]
  rfl
/-! the rule -/
section
variable {K : PySem.W.Frag} {Tb : List (Addr × Option Str)} {β α : List Addr} {st : St} {H H1 : Hp} {P : Addr} {q : Str}
theorem Ok.lamb (o : Ok K Tb β α st H) (hP : (P, some q) ∈ Tb) (hq : ∀ z, (P, z) ∈ Tb → z = some q) (hk : ∀ b u, b ≠ P → H b = some u → H1 b = some u) (t : TabS H1 P q) : Ok K Tb β α st H1 ∧ Stp α α H H1 := by
  obtain ⟨ps, h0, _⟩ : TabS H P q := o.tabs _ hP
  have hne : ∀ b u, H b = some u → (∀ q, u ≠ .tbl q) → H1 b = some u := fun b u e n => hk b u (fun z => by
    rw [z, h0] at e
    exact n _ (Option.some.inj e).symm) e
  have le : LeG (Mk (β ++ α) H) (Mk (β ++ α) H1) := fun b u e n => by
    obtain ⟨hb, e⟩ := mk_some e
    rw [mk_out hb]
    exact hne b u e n
  refine ⟨⟨o.nd, o.ap, fun b hb => ?_, o.len, fun k a l e1 e2 => ?_, fun p hp => ?_⟩, ⟨List.prefix_rfl, fun _ h => .inl h, fun b u _ e n => hne b u e n, fun b qs _ e => ?_⟩⟩
  · obtain ⟨xs, e⟩ := o.bl b hb
    exact ⟨xs, hne b _ e fun q z => by cases z⟩
  · obtain ⟨xs, h1, h2⟩ := o.cells k a l e1 e2
    exact ⟨xs, hne a _ h1 (fun q z => by cases z), Reps.mono List.prefix_rfl le l xs h2⟩
  · have hp' := o.tabs p hp
    obtain ⟨pa, pq⟩ := p
    by_cases h1 : pa = P
    · subst h1
      rw [hq pq hp]
      exact t
    · cases pq with
      | none =>
        obtain ⟨qs, e1, e2⟩ : GxR.TabG H pa := hp'
        exact ⟨qs, hk _ _ h1 e1, e2⟩
      | some q' =>
        obtain ⟨qs, e1, e2, e3⟩ : LamX.TabS H pa q' := hp'
        refine ⟨qs, hk _ _ h1 e1, e2, fun pos cv hc => ?_⟩
        obtain ⟨c, k1, k2⟩ := e3 pos cv hc
        exact ⟨c, k1, hne c _ k2 fun q z => by unfold LamX.CodeO at z; cases z⟩
  · by_cases h1 : b = P
    · obtain ⟨ps', e', _⟩ := t
      exact ⟨ps', by rw [h1]; exact e'⟩
    · exact ⟨qs, hk _ _ h1 e⟩
theorem reads_ints {h : Heap} {G : Hp} : ∀ {m : List D} {ys : List V} {us : List Value}, m.all isInt = true → Reps K α G m ys → Vals ys us → ReadsAll h us (D.pys m) []
  | [], _, _, _, r, v => by
    cases r
    cases v
    rw [D.pys]
    exact .nil
  | d :: m, _, _, hi, ⟨y, ys, e, h1, h2⟩, v => by
    subst e
    rw [List.all_cons, Bool.and_eq_true] at hi
    obtain ⟨i, rfl⟩ := int_is hi.1
    cases v with
    | cons r rr =>
      obtain rfl : y = .int i := h1
      obtain ⟨t, rfl⟩ := r
      rw [D.pys, D.py]
      exact .cons (as := []) (bs := []) (.int i t) (reads_ints hi.2 h2 rr)
theorem shps_int : ∀ {m : List D}, m.all isInt = true → D.shps 0 m = true
  | [], _ => by simp [D.shps]
  | d :: m, h => by
    rw [List.all_cons, Bool.and_eq_true] at h
    obtain ⟨i, rfl⟩ := int_is h.1
    simp [D.shps, D.shp, shps_int h.2]
end
section
variable {X : Cx} {Tb : List (Addr × Option Str)} {C : CallF} {a : E} {e : Expr} {pos p : Pos}
theorem sortLenOk_is {l : List D} (h : sortLenOk l = true) : ∀ d ∈ l, ∃ m, d = .tup m ∧ m.all isInt = true := fun d hd => by
  have := List.all_eq_true.mp h d hd
  cases d with
  | tup m => exact ⟨m, rfl, this⟩
  | _ => cases this
theorem snd_sortLen {c P : Addr} {params : Arguments} {body : Expr} {lsc : Scope} {lpos kpos : Pos} (hu : X.A.units + 65 < cLine) (hdp : X.A.depth < recursionLimit) (TB : LamX.TabB X.base X.mg c P) (hcode : X.env.code = .ref c)
    (hP : (P, some (X.env.qual ++ "<lambda>")) ∈ Tb) (hq : ∀ z, (P, z) ∈ Tb → z = some (X.env.qual ++ "<lambda>")) (hn : PrimAt X "sorted" (.builtin "sorted")) (hlen : X.mg "len" = none) (L : KeyLam params body lsc) (hs : isStar e = false) (ha : PE X e (tOf X.K Tb (ev C a))) :
    PE X (.Call (.Name "sorted" p) [e] [⟨some "key", .Lambda params body lsc lpos, kpos⟩] pos) (tOf X.K Tb (ev C (.sortLen a))) := by
  refine ⟨fun pins s σ H Q I h => ?_⟩
  have h1 := one (F := sortLenD) h
  have hst : starEach [e] X.env = (false, eval e X.env) :: starEach [] X.env := star_cons (isStar_ne hs)
  refine wpAny_Call_Name_kw (hn.ld I ?_)
  refine PyProof.Rows.callWith_kw (thn ((pa_cons ha pa_nil hst).run pos pins s σ H (fun vs H1 => ∃ x, vs = [x] ∧ ∃ β α st a, Ok X.K Tb β α st H1 ∧ Rep X.K α (Mk (β ++ α) H1) a x ∧ Sat X.K Tb β α (sortLenD a st) H1 Q) I (h1.imp fun v H1 q => ⟨v, rfl, q⟩)) fun us s1 ⟨vs, H1, I1, r1, x, ex, β, α, st, d, o1, rd, hsat⟩ => ?_)
    (by rw [hst]; rfl) (by rw [hst]; rfl) (by rfl) (by rfl)
  subst ex
  show wpAny _ _ (evalAll ((do let v ← eval (.Lambda params body lsc lpos) X.env; standAt pos; pure v) :: [])) _ _ s1
  have hdef : defaultsOf params X.env = ([], []) := by
    obtain ⟨x, p0, p1, p2, p3, p4, p5, k, rfl, rfl, hx, hd⟩ := L.ex
    rfl
  refine wpAny_evalAll_cons (wpAny_bind (lam_make1 I1 TB hcode (o1.tabs _ hP) hdef (fun y hy z => absurd z (L.names y hy).2) fun f c' pm ctv H2 s2 I2 hk hT2 hf hfn hco => wpAny_bind (wpAny_standAt (wpAny_pure (wpAny_evalAll_nil ?_)))))
  show wpAny _ _ (call (.builtin "sorted") us [("key", .ref f)]) _ _ s2
  obtain ⟨o2, st2⟩ := o1.lamb hP hq hk hT2
  have rd2 := st2.rep (β := β) rd
  have hsat2 := hsat.step st2
  obtain ⟨d', vw, hsat3⟩ := sat_deref o2 rd2 hsat2
  clear hsat hsat2
  cases d' <;> (try exact hsat3.elim)
  rename_i l
  simp only at hsat3
  split at hsat3
  · rename_i hok
    obtain ⟨ad, xs, rfl, e1, e2⟩ := vw
    obtain ⟨u, rfl, ru⟩ := vals1 r1
    cases ru
    obtain ⟨its, rv, pl, hz⟩ := I2.list (SqL.of e1)
    have hsh := sortLenOk_is hok
    have hz' : l.length ≤ sizeLine := by rw [← e2.length]; exact hz
    have kk : ∀ d ∈ l, ∃ m : List D, d = .tup m ∧ m.all isInt = true ∧ (keyD d).py = .tuple [.int (m.length : Nat), .tuple (D.pys m)] := fun d hd => by
      obtain ⟨m, rfl, hm⟩ := hsh d hd
      exact ⟨m, rfl, hm, by simp only [keyD, D.py, D.pys]⟩
    refine PySem.W.sorted_key_data (β := D) (b := false) (bs := l) (vs := its) (R := fun u d => ∃ x, RelV x u ∧ Rep X.K α (Mk (β ++ α) H2) d x) (fun d => (keyD d).py) pl.isList (vals_each rv e2) ?_ (.inl fun k hk => ?_) hz' (fun d hd => ?_) (ksk_s1 _ _) (fun _ => ksk_l1 _ _) (fun _ => ksk_t1 _ _) (fun v d hR hd h tk kp => ?_) (fun out cc h' tk kp _ hget hl ho => ?_)
    · intro k hk k' hk'
      obtain ⟨d, hd, rfl⟩ := List.mem_map.mp hk
      obtain ⟨d', hd', rfl⟩ := List.mem_map.mp hk'
      exact D.alike_py _ _ (keyD_alike (hsh d hd) (hsh d' hd'))
    · obtain ⟨d, hd, rfl⟩ := List.mem_map.mp hk
      obtain ⟨m, _, _, em⟩ := kk d hd
      exact ⟨_, _, em⟩
    · obtain ⟨m, rfl, hm⟩ := hsh d hd
      have hs2 : D.shp 2 (keyD (.tup m)) = true := by simp [keyD, D.shp, D.shps, shps_int hm]
      have := (D.shp_lay 2 _ hs2).2
      omega
    · obtain ⟨xd, rxd, rdd⟩ := hR
      obtain ⟨m, rfl, hm, em⟩ := kk d hd
      obtain ⟨t, ys, rfl, ht, hy⟩ := rdd
      cases rxd
      obtain ⟨its2, rv2, p2, hz2⟩ := I2.tuple (LeG.mk.sqT ht)
      have htup : IsTup s2.heap t its2.toArray := p2
      rw [em]
      obtain ⟨⟨oc, cvs, tok, hoc, hdc, hvc⟩, _, _⟩ := I2.hok c' _ hco
      obtain ⟨mb, hb1, hb2⟩ := I2.mod.blt
      have hl2 := rv2.length
      have key := key_run (prog := X.prog) (w := X.w) (A := X.A.in1.in1) (E := fun _ _ => False) (s := { s2 with heap := h, toks := tk }) (vals := its2.toArray) (ds := D.pys m) L hdp (kp _ _ hf) ⟨c', oc, cvs, tok, rfl, kp _ _ hoc, hdc, hvc⟩ (I2.nolimit.keeps kp) ((I2.mod.glob.keeps I2.bk).keeps kp) hlen ((hb1.keeps I2.bk).keeps kp)
        ((hb2 "len" (by decide)).trans PySem.boot_len) (by obtain ⟨o, e, r⟩ := htup; exact ⟨o, kp _ _ e, r⟩) (by rw [List.size_toArray, ← hl2]; exact hz2) (by exact reads_ints hm hy rv2)
      have e3 : its2.toArray.size = m.length := by rw [List.size_toArray, ← hl2, hy.length]
      rw [e3] at key
      exact key
    · rw [isort_len hsh] at ho
      obtain ⟨zs, q1, q2⟩ := each_vals ho
      have hl2 : zs.length ≤ sizeLine := by rw [q2.length, length_isort]; exact hz'
      have hfr : H2 (s2.heap.objs.size + 1) = none := I2.hok.fresh (Nat.le_succ _)
      exact ⟨.ref _, upd H2 (s2.heap.objs.size + 1) (.lst zs), I2.laid (t' := tk) kp (Nat.le_succ _) ⟨hl2, out, cc, q1, hget⟩, rfl, hsat3.newLst o2 hfr q2⟩
  · exact hsat3.elim
end
end Mp
end
section
set_option Elab.async false
set_option linter.all false
set_option maxRecDepth 100000
set_option maxHeartbeats 1000000
/-! Statements. -/
namespace Mp
open PySem PySem.Spec L2 PyProof.Rows
section
variable {K : PySem.W.Frag} {Tb : List (Addr × Option Str)} {β α α1 : List Addr} {st st1 : St} {H H1 : Hp} {σ : L2.St}
/-- a new list that may change -/
theorem Ok.cell {l : List D} {xs : List V} {p : Addr} (o : Ok K Tb β α st H) (hp : H p = none) (r : Reps K α (Mk (β ++ α) H) l xs) :
    Ok K Tb β (α ++ [p]) (st ++ [.lst l]) (upd H p (.lst xs)) ∧ Stp α (α ++ [p]) H (upd H p (.lst xs)) := by
  have hpa : p ∉ α := fun z => by obtain ⟨_, e⟩ := o.tracked z; rw [hp] at e; cases e
  have hpb : p ∉ β := fun z => by obtain ⟨_, e⟩ := o.bl p z; rw [hp] at e; cases e
  have s : Stp α (α ++ [p]) H (upd H p (.lst xs)) := by
    refine ⟨List.prefix_append _ _, fun a ha => ?_, (Stp.laid hp).keep, (Stp.laid hp).tbl⟩
    rcases List.mem_append.mp ha with z | z
    · exact .inl z
    · rw [List.mem_singleton.mp z]; exact .inr hp
  refine ⟨⟨List.nodup_append.mpr ⟨o.nd, List.pairwise_singleton _ _, fun a ha b hb => by rw [List.mem_singleton.mp hb]; exact fun z => hpa (z ▸ ha)⟩, fun a ha => ?_, fun b hb => ?_, by rw [List.length_append, List.length_append, o.len]; rfl, fun k a m e1 e2 => ?_, fun q hq => tabOk_ext (o.tabs q hq) fun b u e => by rw [upd_ne (ne_of_none e hp)]; exact e⟩, s⟩
  · rcases List.mem_append.mp ha with z | z
    · exact o.ap a z
    · rw [List.mem_singleton.mp z]; exact hpb
  · obtain ⟨ys, e⟩ := o.bl b hb
    exact ⟨ys, by rw [upd_ne (ne_of_none e hp)]; exact e⟩
  · by_cases hk : k < α.length
    · rw [List.getElem?_append_left hk] at e1
      rw [List.getElem?_append_left (by rw [← o.len]; exact hk)] at e2
      obtain ⟨ys, h1, h2⟩ := o.cells k a m e1 e2
      exact ⟨ys, by rw [upd_ne (ne_of_none h1 hp)]; exact h1, s.reps h2⟩
    · have hk2 : k = α.length := by
        have := (List.getElem?_eq_some_iff.mp e1).1
        rw [List.length_append, List.length_singleton] at this
        omega
      subst hk2
      rw [List.getElem?_append_right (Nat.le_refl _), Nat.sub_self] at e1
      rw [o.len, List.getElem?_append_right (Nat.le_refl _), Nat.sub_self] at e2
      cases e1
      cases e2
      exact ⟨xs, upd_same, s.reps r⟩
end
section
variable {X : Cx} {Tb : List (Addr × Option Str)} {C : CallF} {a b c : E} {e l r : Expr} {pos : Pos}
theorem snd_newC {es : List Expr} (h : PA X es (tOfL X.K Tb fun env => bnd (ev C a env) listOf)) : PE X (.List es pos) (tOf X.K Tb (ev C (.newC a))) := by
  refine PE.by fun σ H Q h2 => ⟨_, pe_lst h, ?_⟩
  obtain ⟨β, α, st, env, o, e, h2⟩ := h2
  show tOfL X.K Tb _ σ H _
  refine tOfL_bnd (m := fun env => bnd (ev C a env) listOf) (S := fun α r H => Sat X.K Tb β α r H Q) o e h2 (fun _ _ z => z) (fun _ _ _ s h => h.step s) fun l st1 xs α1 H1 _ s o1 e1 r h1 => ?_
  unfold newCell at h1
  split at h1
  · rename_i hl
    refine ⟨by rw [r.length]; exact lenOk_le hl, fun p hp => ?_⟩
    obtain ⟨o2, s2⟩ := o1.cell hp r
    refine h1 (.ref p) _ _ s2 o2 ⟨p, rfl, ?_⟩
    rw [← o1.len, List.getElem?_append_right (Nat.le_refl _), Nat.sub_self]
    rfl
  · exact h1.elim
end
/-! ### readings of statements -/
def SatO (K : PySem.W.Frag) (Tb : List (Addr × Option Str)) (β α : List Addr) (o : Out) (n : Nat) (H : Hp) (Dn : Ends) : Prop := match o with
  | .next env' st' => ∀ σ' α' H', Stp α α' H H' → Ok K Tb β α' st' H' → EnvOk K α' (Mk (β ++ α') H') env' σ' → Dn.nx σ' H'
  | .ret d st' => ∀ v α' H', Stp α α' H H' → Ok K Tb β α' st' H' → Rep K α' (Mk (β ++ α') H') d v → Dn.rt v H'
  | .bad => False
def tEx (K : PySem.W.Frag) (Tb : List (Addr × Option Str)) (m : Env → St → Out) : TS := fun Dn σ H => ∃ β α st env, Ok K Tb β α st H ∧ EnvOk K α (Mk (β ++ α) H) env σ ∧ SatO K Tb β α (m env st) σ.length H Dn
section
variable {K : PySem.W.Frag} {Tb : List (Addr × Option Str)} {β α α1 : List Addr} {st st1 : St} {H H1 : Hp} {σ : L2.St} {n : Nat}
theorem SatO.step {o : Out} {Dn : Ends} (h : SatO K Tb β α o n H Dn) (s : Stp α α1 H H1) : SatO K Tb β α1 o n H1 Dn := by
  cases o with
  | next env st' => exact fun σ' α' H' s' o e => h σ' α' H' (s.trans s') o e
  | ret d st' => exact fun v α' H' s' o r => h v α' H' (s.trans s') o r
  | bad => exact h
theorem SatO.here {env : Env} {Dn : Ends} (h : SatO K Tb β α (.next env st) n H Dn) (o : Ok K Tb β α st H) (e : EnvOk K α (Mk (β ++ α) H) env σ) : Dn.nx σ H := h σ α H (Stp.refl α H) o e
theorem satO_run {γ : Type} {m : M γ} {f : γ → St → Out} {Dn : Ends} (h : SatO K Tb β α (run' m st f) n H Dn) : ∃ a st', m st = .ok a st' ∧ SatO K Tb β α (f a st') n H Dn := by
  unfold run' at h
  split at h
  · exact ⟨_, _, by assumption, h⟩
  · exact h.elim
theorem tEx_mk {m : Env → St → Out} {Dn : Ends} {env : Env} (o : Ok K Tb β α st H) (e : EnvOk K α (Mk (β ++ α) H) env σ) (h : SatO K Tb β α (m env st) n H Dn) : tEx K Tb m Dn σ H := by
  refine ⟨β, α, st, env, o, e, ?_⟩
  cases q : m env st with
  | next env' st' => rw [q] at h; exact h
  | ret d st' => rw [q] at h; exact h
  | bad => rw [q] at h; exact h
/-- an expression, then what follows -/
theorem run_E {m : Env → M D} {f : Env → D → St → Out} {Dn : Ends} (h : tEx K Tb (fun env st => run' (m env) st (f env)) Dn σ H) :
    tOf K Tb m σ H fun x H1 => ∃ β α st env d, Ok K Tb β α st H1 ∧ EnvOk K α (Mk (β ++ α) H1) env σ ∧ Rep K α (Mk (β ++ α) H1) d x ∧ SatO K Tb β α (f env d st) σ.length H1 Dn := by
  obtain ⟨β, α, st, env, o, e, h⟩ := h
  refine tOf_mk o e ?_
  obtain ⟨d, st', q, h1⟩ := satO_run h
  rw [q]
  exact fun v α1 H1 s o1 r => ⟨β, α1, st', env, d, o1, e.mono s.pre (s.le β), r, h1.step s⟩
theorem run_L {m : Env → M (List D)} {f : Env → List D → St → Out} {Dn : Ends} (h : tEx K Tb (fun env st => run' (m env) st (f env)) Dn σ H) :
    tOfL K Tb m σ H fun xs H1 => ∃ β α st env l, Ok K Tb β α st H1 ∧ EnvOk K α (Mk (β ++ α) H1) env σ ∧ Reps K α (Mk (β ++ α) H1) l xs ∧ SatO K Tb β α (f env l st) σ.length H1 Dn := by
  obtain ⟨β, α, st, env, o, e, h⟩ := h
  refine ⟨β, α, st, env, o, e, ?_⟩
  obtain ⟨l, st', q, h1⟩ := satO_run h
  rw [q]
  exact fun v α1 H1 s o1 r => ⟨β, α1, st', env, l, o1, e.mono s.pre (s.le β), r, h1.step s⟩
theorem run_B {m : Env → M Bool} {f : Env → Bool → St → Out} {Dn : Ends} (h : tEx K Tb (fun env st => run' (m env) st (f env)) Dn σ H) :
    tOfB K Tb m σ H fun b H1 => ∃ β α st env, Ok K Tb β α st H1 ∧ EnvOk K α (Mk (β ++ α) H1) env σ ∧ SatO K Tb β α (f env b st) σ.length H1 Dn := by
  obtain ⟨β, α, st, env, o, e, h⟩ := h
  refine tOfB_mk o e ?_
  obtain ⟨b, st', q, h1⟩ := satO_run h
  rw [q]
  exact fun α1 H1 s o1 => ⟨β, α1, st', env, o1, e.mono s.pre (s.le β), h1.step s⟩
end
/-! ### the statements -/
section
variable {X : Cx} {Tb : List (Addr × Option Str)} {C : CallF} {a b c : S} {e : Expr} {x : E} {stm : Stmt} {rest : List Stmt} {pos : Pos}
theorem PSs.by {X : Cx} {e : List Stmt} {t : TS} (h : ∀ D σ H, t D σ H → ∃ u, PSs X e u ∧ u D σ H) : PSs X e t := ⟨fun pins s σ H D I w => by
  obtain ⟨u, p, q⟩ := h D σ H w
  exact p.run pins s σ H D I q⟩
theorem snd_skip {stm : Stmt} (h : PS X stm tNext) : PS X stm (tEx X.K Tb (exec C .skip)) := by
  refine PS.by fun Dn σ H hw => ⟨_, h, ?_⟩
  obtain ⟨β, α, st, env, o, e, hw⟩ := hw
  exact SatO.here hw o e
theorem snd_snil : PSs X [] (tEx X.K Tb (exec C .skip)) := by
  refine PSs.by fun Dn σ H hw => ⟨_, pss_nil, ?_⟩
  obtain ⟨β, α, st, env, o, e, hw⟩ := hw
  exact SatO.here hw o e
theorem snd_scons (h1 : PS X stm (tEx X.K Tb (exec C a))) (h2 : PSs X rest (tEx X.K Tb (exec C b))) : PSs X (stm :: rest) (tEx X.K Tb (exec C (.seq a b))) := by
  refine PSs.by fun Dn σ H hw => ⟨_, pss_cons h1 h2, ?_⟩
  obtain ⟨β, α, st, env, o, e, hw⟩ := hw
  refine tEx_mk (n := σ.length) o e ?_
  simp only [exec] at hw
  cases q : exec C a env st with
  | next env2 st2 =>
    rw [q] at hw
    intro σ' α' H' s o' e'
    exact tEx_mk (n := σ.length) o' e' (SatO.step hw s)
  | ret d st2 =>
    rw [q] at hw
    exact hw
  | bad =>
    rw [q] at hw
    exact hw
theorem snd_sone (h1 : PS X stm (tEx X.K Tb (exec C a))) : PSs X [stm] (tEx X.K Tb (exec C a)) :=
  PSs.by fun Dn σ H hw => ⟨_, pss_one h1, hw⟩
theorem snd_asg {p : Pat} {tg : Expr} (hc : X.calm = true) (hN : X.N.Nodup) (hp : PatOk X tg p) (he : PE X e (tOf X.K Tb (ev C x))) (hs : swapsWithSole [tg] e pos.line X.env = pure false) (hw : swappedStores [tg] e X.env = pure none) (h1 : (assignEach [tg] X.env).map (·.2) = [assign tg X.env]) :
    PS X (.Assign [tg] e pos) (tEx X.K Tb (exec C (.asg p x))) := by
  refine PS.by fun Dn σ H h => ⟨_, ps_asg he (snd_pat (Tb := Tb) hc hN hp) hs hw h1, ?_⟩
  simp only [exec] at h
  refine tOf.imp (run_E (m := ev C x) (f := fun env d st => match p.bind d env with | some env' => .next env' st | none => .bad) h) fun v H1 ⟨β, α, st, env, d, o, en, r, hO⟩ => ?_
  split at hO
  · rename_i env' q
    exact ⟨β, α, st, env, d, env', o, en, r, q, fun σ' _ e' => hO.here o e'⟩
  · exact hO.elim
/-- the same by a comprehension on the name's own line -/
theorem snd_asgLc {i : Nat} {y : Str} {py : Pos} {e : Expr} {te : TE} (hps : PS X (.Assign [.Name y py] e pos) (tAsg te (gName i))) (hte : ∀ σ H Q, tOf X.K Tb (ev C x) σ H Q → te σ H Q) : PS X (.Assign [.Name y py] e pos) (tEx X.K Tb (exec C (.asg (.one i) x))) := by
  refine PS.by fun Dn σ H h => ⟨_, hps, ?_⟩
  simp only [exec] at h
  refine hte _ _ _ (tOf.imp (run_E (m := ev C x) (f := fun env d st => match (Pat.one i).bind d env with | some env' => .next env' st | none => .bad) h) fun v H1 ⟨β, α, st, env, d, o, en, r, hO⟩ => ?_)
  exact hO.here o (en.set i r)
theorem snd_par2 {i j : Nat} {y z : Str} {ea eb : Expr} {py pz pt : Pos} {kt k2 : Nat} {pt2 : Pos} (hc : X.calm = true) (hN : X.N.Nodup) (hi : X.N[i]? = some y) (hj : X.N[j]? = some z) (hij : i ≠ j)
    (hy : X.env.scope.names.lookup y = some .local) (hz : X.env.scope.names.lookup z = some .local) (ha : PA X [ea, eb] (tOfL X.K Tb fun env => bnd (ev C x env) listOf))
    (hw : swappedStores [.Tuple [.Name y py, .Name z pz] kt pt] (.Tuple [ea, eb] k2 pt2) X.env = pure (some [y, z])) (hs : swapsWithSole [.Tuple [.Name y py, .Name z pz] kt pt] (.Tuple [ea, eb] k2 pt2) pos.line X.env = pure false) :
    PS X (.Assign [.Tuple [.Name y py, .Name z pz] kt pt] (.Tuple [ea, eb] k2 pt2) pos) (tEx X.K Tb (exec C (.par [i, j] x))) := by
  refine PS.by fun Dn σ H h => ⟨_, ps_par hc hN hi hj hij hy hz ha hw hs, ?_⟩
  simp only [exec] at h
  refine tOfL.imp (run_L (m := fun env => bnd (ev C x env) listOf) (f := fun env l st => match setAll [i, j] l env with | some env' => .next env' st | none => .bad) h) fun vs H1 ⟨β, α, st, env, l, o, en, r, hO⟩ => ?_
  split at hO
  · rename_i env' q
    obtain ⟨k1, k2⟩ := setAll_env q r en
    match vs, k2, k1 with
    | [v, w], _, k1 => exact ⟨v, w, rfl, hO.here o k1⟩
  · exact hO.elim
theorem snd_par3 {i j k : Nat} {y z u : Str} {ea eb ec : Expr} {py pz pu pt : Pos} {kt k2 : Nat} {pt2 : Pos} (hc : X.calm = true) (hN : X.N.Nodup) (hi : X.N[i]? = some y) (hj : X.N[j]? = some z) (hk : X.N[k]? = some u) (hij : i ≠ j) (hik : i ≠ k) (hjk : j ≠ k)
    (hy : X.env.scope.names.lookup y = some .local) (hz : X.env.scope.names.lookup z = some .local) (hu : X.env.scope.names.lookup u = some .local) (ha : PA X [ea, eb, ec] (tOfL X.K Tb fun env => bnd (ev C x env) listOf))
    (hw : swappedStores [.Tuple [.Name y py, .Name z pz, .Name u pu] kt pt] (.Tuple [ea, eb, ec] k2 pt2) X.env = pure (some [y, z, u])) (hs : swapsWithSole [.Tuple [.Name y py, .Name z pz, .Name u pu] kt pt] (.Tuple [ea, eb, ec] k2 pt2) pos.line X.env = pure false) :
    PS X (.Assign [.Tuple [.Name y py, .Name z pz, .Name u pu] kt pt] (.Tuple [ea, eb, ec] k2 pt2) pos) (tEx X.K Tb (exec C (.par [i, j, k] x))) := by
  refine PS.by fun Dn σ H h => ⟨_, ps_par3 hc hN hi hj hk hij hik hjk hy hz hu ha hw hs, ?_⟩
  simp only [exec] at h
  refine tOfL.imp (run_L (m := fun env => bnd (ev C x env) listOf) (f := fun env l st => match setAll [i, j, k] l env with | some env' => .next env' st | none => .bad) h) fun vs H1 ⟨β, α, st, env, l, o, en, r, hO⟩ => ?_
  split at hO
  · rename_i env' q
    obtain ⟨k1, k2⟩ := setAll_env q r en
    match vs, k2, k1 with
    | [v, w, w2], _, k1 => exact ⟨v, w, w2, rfl, hO.here o k1⟩
  · exact hO.elim
theorem snd_drop (he : PE X e (tOf X.K Tb (ev C x))) (hs : swapsWith e none pos.line X.env = pure false) : PS X (.Expr e pos) (tEx X.K Tb (exec C (.drop x))) := by
  refine PS.by fun Dn σ H h => ⟨_, ps_expr he hs, ?_⟩
  simp only [exec] at h
  exact tOf.imp (run_E (m := ev C x) (f := fun env d st => .next env st) h) fun v H1 ⟨β, α, st, env, d, o, en, r, hO⟩ => hO.here o en
theorem snd_ret (he : PE X e (tOf X.K Tb (ev C x))) : PS X (.Return (some e) pos) (tEx X.K Tb (exec C (.ret x))) := by
  refine PS.by fun Dn σ H h => ⟨_, ps_ret he, ?_⟩
  simp only [exec] at h
  exact tOf.imp (run_E (m := ev C x) (f := fun env d st => .ret d st) h) fun v H1 ⟨β, α, st, env, d, o, en, r, hO⟩ => hO v α H1 (Stp.refl _ _) o r
theorem snd_retN : PS X (.Return none pos) (tEx X.K Tb (exec C (.ret (.con .non)))) := by
  refine PS.by fun Dn σ H h => ⟨_, ps_retN, ?_⟩
  obtain ⟨β, α, st, env, o, en, h⟩ := h
  exact h .non α H (Stp.refl _ _) o rfl
theorem snd_never {stm : Stmt} : PS X stm (tEx X.K Tb (exec C .never)) := by
  refine PS.by fun Dn σ H h => ⟨_, ps_never, ?_⟩
  obtain ⟨β, α, st, env, o, en, h⟩ := h
  exact h
theorem snd_if {p q : List Stmt} (hx : PT X e (tOfB X.K Tb fun env => bnd (ev C x env) truth)) (ha : PSs X p (tEx X.K Tb (exec C a))) (hb : PSs X q (tEx X.K Tb (exec C b))) : PS X (.If e p q pos) (tEx X.K Tb (exec C (.ite x a b))) := by
  refine PS.by fun Dn σ H h => ⟨_, ps_if hx ha hb, ?_⟩
  simp only [exec] at h
  refine tOfB.imp (run_B (m := fun env => bnd (ev C x env) truth) (f := fun env k st => match k with | true => exec C a env st | false => exec C b env st) h) fun k H1 ⟨β, α, st, env, o, en, hO⟩ => ?_
  cases k with
  | true => exact tEx_mk o en hO
  | false => exact tEx_mk o en hO
end
end Mp
end
section
set_option Elab.async false
set_option linter.all false
set_option maxRecDepth 100000
set_option maxHeartbeats 1000000
/-! Stores into lists; loops; defs. -/
namespace Mp
open PySem PySem.Spec L2 PyProof.Rows
section
variable {X : Cx} {Tb : List (Addr × Option Str)} {C : CallF} {b : S} {e eo ei : Expr} {x xo xi : E} {stm : Stmt} {pos sp : Pos}
theorem snd_setIdx (ho : PE X eo (tOf X.K Tb (ev C xo))) (hi : PE X ei (tOf X.K Tb (ev C xi))) (he : PE X e (tOf X.K Tb (ev C x))) (hs : swapsWithSole [.Subscript eo ei sp] e pos.line X.env = pure false) (hw : swappedStores [.Subscript eo ei sp] e X.env = pure none) (h1 : (assignEach [.Subscript eo ei sp] X.env).map (·.2) = [assign (.Subscript eo ei sp) X.env])
    (ha : ∀ v, assign (.Subscript eo ei sp) X.env v = (do
      let ov ← holding [v] (eval eo X.env)
      let iv ← holding [v, ov] (eval ei X.env)
      standAt sp
      holding [v, ov, iv] (setItem ov iv v)
      release [v, ov, iv] [])) : PS X (.Assign [.Subscript eo ei sp] e pos) (tEx X.K Tb (exec C (.setIdx xo xi x))) := by
  refine PS.by fun Dn σ H h => ⟨_, ps_asg he (pg_sub ho hi set_list ha) hs hw h1, ?_⟩
  obtain ⟨β, α, st, env, o, en, h⟩ := h
  simp only [exec] at h
  obtain ⟨u, stF, q, hO⟩ := satO_run h
  obtain ⟨d1, st1, q1, q⟩ := bnd_ok q
  obtain ⟨d2, st2, q2, q⟩ := bnd_ok q
  obtain ⟨d3, st3, q3, q⟩ := bnd_ok q
  refine tOf_mk o en ?_
  rw [q1]
  intro v1 α1 H1 s1 o1 r1
  have en1 := en.mono s1.pre (s1.le β)
  show tOf X.K Tb (ev C xo) σ H1 _
  refine tOf_mk o1 en1 ?_
  rw [q2]
  intro v2 α2 H2 s2 o2 r2
  have en2 := en1.mono s2.pre (s2.le β)
  refine tOf_mk o2 en2 ?_
  rw [q3]
  intro v3 α3 H3 s3 o3 r3
  have en3 := en2.mono s3.pre (s3.le β)
  have r1' := s3.rep (s2.rep r1)
  have r2' := s3.rep r2
  cases d2 <;> first
    | (cases q; done)
    | skip
  rename_i k
  cases d3 <;> first
    | (cases q; done)
    | skip
  rename_i i
  obtain ⟨p, rfl, hk⟩ := r2'
  obtain rfl : v3 = .int i := r3
  obtain ⟨l, xs, hl, hx, rx⟩ := o3.mem_of hk
  simp only [setAt, hl] at q
  cases hj : ixN l.length i with
  | none => rw [hj] at q; cases q
  | some j =>
    rw [hj] at q
    cases q
    refine ⟨p, xs, i, j, rfl, rfl, hx, by rw [rx.length]; exact hj, ?_⟩
    obtain ⟨o4, s4⟩ := o3.put hk (rx.set j r1')
    exact hO σ α3 _ (((s1.trans s2).trans s3).trans s4) o4 (en3.mono s4.pre (s4.le β))
/-- for -/
theorem snd_for {p : Pat} {tg iter : Expr} {body : List Stmt} (hxe : X.xe = fun _ _ => False) (hc : X.calm = true) (hN : X.N.Nodup) (hp : PatOk X tg p) (hi : PI X tg iter (tItr X.K Tb fun env => bnd (ev C x env) srcOf)) (hb : PSs X body (tEx X.K Tb (exec C b)))
    (hs : ∀ v, foldedSetIterable iter X.env v = pure v) : PS X (.For tg iter body [] pos) (tEx X.K Tb (exec C (.for_ p x b))) := by
  refine PS.by fun Dn σ H h => ⟨_, ps_for (by rw [hxe]; exact PassesOwn.never) hc hi (snd_pat (Tb := Tb) hc hN hp) hb hs, ?_⟩
  obtain ⟨β, α, st, env, o, en, h⟩ := h
  simp only [exec] at h
  obtain ⟨⟨l, g⟩, st1, q, hO⟩ := satO_run h
  simp only at hO
  refine ⟨β, α, st, env, o, en, ?_⟩
  simp only [q]
  intro J α1 H1 s1 o1 hc1 walk
  have en1 := en.mono s1.pre (s1.le β)
  have hO1 := hO.step s1
  generalize hoF : forL p (exec C b) g l env st1 = oF at hO1
  let Pv : Nat → L2.St → Hp → Prop := fun i σ2 H2 => ∃ α2 st2 env2, Stp α1 α2 H1 H2 ∧ Ok X.K Tb β α2 st2 H2 ∧ EnvOk X.K α2 (Mk (β ++ α2) H2) env2 σ2 ∧ chk g st2 = .ok () st2 ∧ forL p (exec C b) g (l.drop i) env2 st2 = oF
  refine ⟨fun i m σ2 H2 => m = l.length - i ∧ i ≤ l.length ∧ Pv i σ2 H2, ⟨l.length, by simp, Nat.zero_le _, α1, st1, env, Stp.refl _ _, o1, en1, hc1, hoF⟩, ?_⟩
  rintro i m σ2 H2 ⟨rfl, hi, α2, st2, env2, s2, o2, en2, c2, qr⟩
  obtain ⟨wg, ws, wy⟩ := walk β α2 st2 H2 (fun b hb => .inl hb) (s2.w β) o2 c2
  by_cases hlt : i < l.length
  · refine .inr ⟨wg i hlt, Pv (i + 1), fun σ' H' p' => ⟨l.length - (i + 1), by omega, rfl, hlt, p'⟩, fun v H3 y => ?_⟩
    obtain ⟨d, hd, o3, s3, r3⟩ := wy i v H3 hlt y
    have hdrop : l.drop i = d :: l.drop (i + 1) := by
      rw [List.drop_eq_getElem_cons hlt]
      congr 1
      rw [List.getElem?_eq_getElem hlt] at hd
      exact Option.some.inj hd
    rw [hdrop] at qr
    unfold forL at qr
    cases qb : p.bind d env2 with
    | none =>
      rw [qb] at qr
      simp only at qr
      subst qr
      exact hO1.elim
    | some env' =>
      rw [qb] at qr
      simp only at qr
      refine ⟨β, α2, st2, env2, d, env', o3, en2.mono s3.pre (s3.le β), r3, qb, fun σ' _ e' => ?_⟩
      refine tEx_mk (n := σ'.length) o3 e' ?_
      have s23 := s2.trans s3
      cases qx : exec C b env' st2 with
      | next env3 st3 =>
        rw [qx] at qr
        simp only at qr
        intro σ4 α4 H4 s4 o4 e4
        unfold run' at qr
        cases qc : chk g st3 with
        | bad =>
          rw [qc] at qr
          simp only at qr
          subst qr
          exact hO1.elim
        | ok u st4 =>
          rw [qc] at qr
          have := chk_st qc
          rw [this] at qc qr
          exact ⟨α4, st3, env3, s23.trans s4, o4, e4, qc, qr⟩
      | ret dv st3 =>
        rw [qx] at qr
        simp only at qr
        subst qr
        intro v4 α4 H4 s4 o4 r4
        exact hO1 v4 α4 H4 (s23.trans s4) o4 r4
      | bad =>
        rw [qx] at qr
        simp only at qr
        subst qr
        exact hO1
  · have e : i = l.length := by omega
    subst e
    rw [List.drop_length] at qr
    unfold forL at qr
    subst qr
    exact .inl ⟨ws, hO1 σ2 α2 H2 s2 o2 en2⟩
/-- while -/
theorem snd_while {body : List Stmt} (hxe : X.xe = fun _ _ => False) (hx : PT X e (tOfB X.K Tb fun env => bnd (ev C x env) truth)) (hb : PSs X body (tEx X.K Tb (exec C b))) : PS X (.While e body [] pos) (tEx X.K Tb (exec C (.while_ x b))) := by
  refine PS.by fun Dn σ H h => ⟨_, ps_while (by rw [hxe]; exact PassesOwn.never) hx hb, ?_⟩
  obtain ⟨β, α, st, env, o, en, h⟩ := h
  simp only [exec] at h
  generalize hn : (1000 : Nat) = n at h
  clear hn
  let Pv : Nat → L2.St → Hp → Prop := fun m σ2 H2 => ∃ α2 st2 env2, Stp α α2 H H2 ∧ Ok X.K Tb β α2 st2 H2 ∧ EnvOk X.K α2 (Mk (β ++ α2) H2) env2 σ2 ∧ SatO X.K Tb β α2 (whileL (ev C x) (exec C b) m env2 st2) σ.length H2 Dn
  refine ⟨Pv, ⟨n, α, st, env, Stp.refl _ _, o, en, h⟩, ?_⟩
  rintro m σ2 H2 ⟨α2, st2, env2, s2, o2, en2, hO⟩
  cases m with
  | zero => exact hO.elim
  | succ m =>
    unfold whileL at hO
    obtain ⟨k, st3, qk, hO⟩ := satO_run hO
    refine tOfB_mk o2 en2 ?_
    rw [qk]
    intro α3 H3 s3 o3
    have en3 := en2.mono s3.pre (s3.le β)
    have hO3 := hO.step s3
    cases k with
    | false => exact hO3.here o3 en3
    | true =>
      refine ⟨fun σ' H' => Pv m σ' H', fun σ' H' p' => ⟨m, Nat.lt_succ_self _, p'⟩, ?_⟩
      refine tEx_mk (n := σ2.length) o3 en3 ?_
      simp only at hO3
      cases qx : exec C b env2 st3 with
      | next env4 st4 =>
        rw [qx] at hO3
        intro σ4 α4 H4 s4 o4 e4
        exact ⟨α4, st4, env4, (s2.trans s3).trans s4, o4, e4, hO3.step s4⟩
      | ret dv st4 =>
        rw [qx] at hO3
        exact hO3
      | bad =>
        rw [qx] at hO3
        exact hO3
end
/-! ### defs -/
section
variable {K : PySem.W.Frag} {α : List Addr} {G G' : Hp} {n : Nat}
mutual
theorem Rep.low (hn : n ≤ α.length) (hG : LeG G G') : ∀ (d : D) (v : V), D.low n d = true → Rep K α G d v → Rep K (α.take n) G' d v
  | .non, _, _, h => h
  | .bl _, _, _, h => h
  | .int _, _, _, h => h
  | .str _, _, _, h => h
  | .tup l, _, z, ⟨a, xs, e, h1, h2⟩ => ⟨a, xs, e, hG.sqT h1, Reps.low hn hG l xs (by simpa [D.low] using z) h2⟩
  | .lst l, _, z, ⟨a, xs, e, h1, h2⟩ => ⟨a, xs, e, hG _ _ h1 noT_lst, Reps.low hn hG l xs (by simpa [D.low] using z) h2⟩
  | .scr _, _, _, ⟨a, e, h1⟩ => ⟨a, e, hG.sqL h1⟩
  | .cell k, _, z, ⟨a, e, h1⟩ => by
    have hk : k < n := by
      simp only [D.low] at z
      exact Nat.le_of_ble_eq_true z
    exact ⟨a, e, by rw [List.getElem?_take_of_lt hk]; exact h1⟩
theorem Reps.low (hn : n ≤ α.length) (hG : LeG G G') : ∀ (l : List D) (xs : List V), D.lows n l = true → Reps K α G l xs → Reps K (α.take n) G' l xs
  | [], _, _, h => h
  | d :: r, _, z, ⟨x, ys, e, h1, h2⟩ => by
    simp only [D.lows, Bool.and_eq_true] at z
    exact ⟨x, ys, e, Rep.low hn hG d x z.1 h1, Reps.low hn hG r ys z.2 h2⟩
end
end
section
variable {K : PySem.W.Frag} {Tb : List (Addr × Option Str)} {β α α1 : List Addr} {st st1 : St} {H H1 : Hp}
theorem take_pre (h : α <+: α1) : α1.take α.length = α := by
  obtain ⟨t, rfl⟩ := h
  rw [List.take_append_of_le_length (Nat.le_refl _), List.take_length]
/-- a def's own lists are let go -/
theorem Ok.leave (o : Ok K Tb β α1 st1 H1) (s : Stp α α1 H H1) (hl : (st1.take α.length).all (Cell.low α.length) = true) : Ok K Tb β α (st1.take α.length) H1 ∧ Stp α α H H1 := by
  have hp := take_pre s.pre
  have hsub : ∀ a ∈ α, a ∈ α1 := fun a ha => s.pre.subset ha
  have hlen : α.length ≤ α1.length := s.pre.length_le
  have le : LeG (Mk (β ++ α1) H1) (Mk (β ++ α) H1) := LeG.mk_sub fun b hb => (List.mem_append.mp hb).elim (fun z => List.mem_append_left _ z) fun z => List.mem_append_right _ (hsub b z)
  refine ⟨⟨o.nd.sublist s.pre.sublist, fun a ha => o.ap a (hsub a ha), o.bl, ?_, fun k a l e1 e2 => ?_, o.tabs⟩, ⟨List.prefix_rfl, fun _ h => .inl h, s.keep, s.tbl⟩⟩
  · rw [List.length_take, ← o.len]
    exact (Nat.min_eq_left hlen).symm
  · have hk : k < α.length := (List.getElem?_eq_some_iff.mp e1).1
    have hc : (st1.take α.length)[k]? = some (.lst l) := e2
    rw [List.getElem?_take_of_lt hk] at e2
    obtain ⟨xs, h1, h2⟩ := o.cells k a l (pre_get s.pre e1) e2
    have hlow : D.lows α.length l = true := by
      have := List.all_eq_true.mp hl (.lst l) (List.mem_of_getElem? hc)
      exact this
    have := Reps.low (K := K) hlen le l xs hlow h2
    rw [hp] at this
    exact ⟨xs, h1, this⟩
theorem sat_leave {d : D} {v : V} {Q : VK} (o0 : Ok K Tb β α st H) (o : Ok K Tb β α1 st1 H1) (s : Stp α α1 H H1) (r : Rep K α1 (Mk (β ++ α1) H1) d v) (h : Sat K Tb β α (Mp.leave st.length d st1) H Q) : Q v H1 := by
  have hlen : α.length ≤ α1.length := s.pre.length_le
  have hp := take_pre s.pre
  have hsub : ∀ a ∈ α, a ∈ α1 := fun a ha => s.pre.subset ha
  have le : LeG (Mk (β ++ α1) H1) (Mk (β ++ α) H1) := LeG.mk_sub fun b hb => (List.mem_append.mp hb).elim (fun z => List.mem_append_left _ z) fun z => List.mem_append_right _ (hsub b z)
  unfold Mp.leave at h
  rw [← o0.len] at h
  split at h
  · rename_i hl
    obtain ⟨o2, s2⟩ := o.leave s hl
    have key : ∀ d', D.low α.length d' = true → Rep K α1 (Mk (β ++ α1) H1) d' v → Rep K α (Mk (β ++ α) H1) d' v := fun d' hd' r' => by
      have := Rep.low (K := K) hlen le d' v hd' r'
      rw [hp] at this
      exact this
    split at h
    · rename_i k
      split at h
      · rename_i hk
        exact h v α H1 s2 o2 (key _ (by simp only [D.low]; exact hk) r)
      · rename_i hk
        split at h
        · rename_i l hst
          split at h
          · rename_i hlow
            obtain ⟨a, rfl, ha⟩ := r
            obtain ⟨xs, h1, h2⟩ := o.cells k a l ha hst
            refine h (.ref a) α H1 s2 o2 ⟨a, xs, rfl, ?_, ?_⟩
            · rw [mk_out fun z => ?_]
              · exact h1
              · rcases List.mem_append.mp z with z | z
                · exact o.ap a (List.mem_of_getElem? ha) z
                · obtain ⟨j, ej⟩ := List.getElem?_of_mem z
                  have hj : j < α.length := (List.getElem?_eq_some_iff.mp ej).1
                  have := nodup_at o.nd ha (pre_get s.pre ej)
                  subst this
                  have hk' : Nat.blt k α.length = true := by
                    unfold Nat.blt
                    exact Nat.ble_eq_true_of_le hj
                  rw [hk'] at hk
                  cases hk
            · have := Reps.low (K := K) hlen le l xs hlow h2
              rw [hp] at this
              exact this
          · exact h.elim
        · exact h.elim
    · split at h
      · rename_i hd
        exact h v α H1 s2 o2 (key _ hd r)
      · exact h.elim
  · exact h.elim
theorem start_env {N : List Str} {l : List D} {vs : List V} {ns : Nat} (r : Reps K α (Mk (β ++ α) H) l vs) (hn : ns = N.length) (hl : l.length ≤ ns) : EnvOk K α (Mk (β ++ α) H) (l.map some ++ List.replicate (ns - l.length) none) (L2.start N vs) := by
  have hv := r.length
  refine ⟨?_, fun i d e => ?_⟩
  · unfold L2.start
    rw [List.length_append, List.length_append, List.length_map, List.length_map, List.length_replicate, List.length_replicate, hv, hn]
  · by_cases hi : i < l.length
    · rw [List.getElem?_append_left (by rw [List.length_map]; exact hi), List.getElem?_map] at e
      cases q : l[i]? with
      | none => rw [q] at e; cases e
      | some d' =>
        rw [q] at e
        cases e
        obtain ⟨x, hx, rx⟩ := r.get q
        refine ⟨x, ?_, rx⟩
        unfold L2.start
        rw [List.getElem?_append_left (by rw [List.length_map, hv]; exact hi), List.getElem?_map, hx]
        rfl
    · rw [List.getElem?_append_right (by rw [List.length_map]; omega), List.getElem?_replicate] at e
      split at e <;> cases e
end
end Mp
end
section
set_option Elab.async false
set_option linter.all false
set_option maxRecDepth 100000
set_option maxHeartbeats 1000000
/-! From Python's text to the evaluator's. -/
namespace Mp
open PySem PySem.Spec L2 PyProof.Rows
/-- what is known of a def's names -/
structure Tx where
  N : List Str
  fs : List (Str × Nat × Nat)
  cs : List (Str × D)
  /-- built-ins that no global hides -/
  bl : List Str
  /-- built-ins that were imported -/
  im : List (Str × Prim)
structure Sc where
  sc : Scope
  fn : Str → Bool
def slot (x : Str) : List Str → Nat → Option Nat
  | [], _ => none
  | y :: r, i => if x == y then some i else slot x r (i + 1)
def isLocal (sc : Scope) (x : Str) : Bool := sc.names.lookup x == some .local
def isLoc (sc : Scope) (x : Str) : Bool := sc.names.lookup x == some .local || sc.names.lookup x == some .cell
def isVis (sc : Scope) (x : Str) : Bool := isLoc sc x || sc.names.lookup x == some .free
def isGl (sc : Scope) (x : Str) : Bool := sc.names.lookup x == some .globalImplicit
def dunder (x : Str) : Bool := x == "__debug__" || x == "__classdict__" || x == "__name__"
def trNm (t : Tx) (q : Sc) (x : Str) : Option Nat := if isLoc q.sc x && (q.fn x || isLocal q.sc x) then slot x t.N 0 else none
def trNms (t : Tx) (q : Sc) : List Expr → Option (List Nat)
  | [] => some []
  | .Name x _ :: r => match trNm t q x, trNms t q r with
    | some i, some l => some (i :: l)
    | _, _ => none
  | _ => none
def trPat (t : Tx) (q : Sc) : Expr → Option Pat
  | .Name x _ => (trNm t q x).map .one
  | .Tuple es _ _ => (trNms t q es).map .tup
  | _ => none
def trL (f : Expr → Option E) : List Expr → Option E
  | [] => some .nil
  | e :: es => match isStar e, f e, trL f es with
    | false, some a, some b => some (.cons a b)
    | _, _, _ => none
def isSet : Expr → Bool
  | .Set _ _ _ => true
  | _ => false
def isLst : Expr → Bool
  | .List _ _ => true
  | _ => false
def isTup : Expr → Bool
  | .Tuple _ _ _ => true
  | _ => false
/-- its test is its value's truth, or is told by parts -/
def tOk : Expr → Bool
  | .IfExp _ _ _ _ => false
  | .NamedExpr _ _ _ => false
  | _ => true
def plainIx : Expr → Bool
  | .Slice _ _ _ _ => false
  | _ => true
/-- what stands ahead of a method's name -/
def plainO : Expr → Bool
  | .Name _ _ => true
  | .Subscript _ _ _ => true
  | _ => false
def blt (t : Tx) (q : Sc) (x : Str) : Bool := isGl q.sc x && t.bl.contains x
def trI (t : Tx) (q : Sc) (f : Expr → Option E) (tg iter : Expr) : Option E := match iter with
  | .Call (.Name x _) [a] [] _ =>
    if x == "range" then match blt t q "range", isStar a, f a with
      | true, false, some a => some (.itr .range1 (.cons a .nil))
      | _, _, _ => none
    else if x == "enumerate" then match blt t q "enumerate", isTup tg, isStar a, f a with
      | true, true, false, some a => some (.itr .enum (.cons a .nil))
      | _, _, _, _ => none
    else (f iter).map fun a => .itr .seq (.cons a .nil)
  | .Call (.Name x _) [a, b] [] _ =>
    if x == "range" then match blt t q "range", isStar a, isStar b, f a, f b with
      | true, false, false, some a, some b => some (.itr .range2 (.cons a (.cons b .nil)))
      | _, _, _, _, _ => none
    else (f iter).map fun a => .itr .seq (.cons a .nil)
  | _ => if isSet iter then none else (f iter).map fun a => .itr .seq (.cons a .nil)
def trIfs (f : Expr → Option E) : List Expr → Option E
  | [] => some (.con (.bl true))
  | [c] => if tOk c then f c else none
  | _ => none
def trBin : Operator → Option Bin
  | .Add => some .add
  | .Sub => some .sub
  | .Mult => some .mul
  | .FloorDiv => some .fdiv
  | .Mod => some .mod
  | .Pow => some .pow
  | _ => none
def trCmp : CmpOp → Cmp
  | .Eq => .eq
  | .NotEq => .ne
  | .Lt => .lt
  | .LtE => .le
  | .Gt => .gt
  | .GtE => .ge
  | .In => .mem
  | .NotIn => .nmem
  | .Is => .is
  | .IsNot => .isn
/-- built-ins by name -/
def prims : List (Str × Prim) := [("len", .len), ("tuple", .tuple), ("list", .list), ("sorted", .sorted), ("min", .min), ("max", .max), ("sum", .sum), ("int", .int)]
def clss : List (Str × Nat) := [("int", 0), ("bool", 1), ("str", 2), ("tuple", 3), ("list", 4)]
def trCls (t : Tx) (q : Sc) (x : Str) : Option Nat := if blt t q x then clss.lookup x else none
def trClss (t : Tx) (q : Sc) : List Expr → Option (List Nat)
  | [] => some []
  | .Name x _ :: r => match trCls t q x, trClss t q r with
    | some i, some l => some (i :: l)
    | _, _ => none
  | _ => none
def ownOf (N : List Str) (l : List Nat) : List (Str × Nat) := l.map fun i => (N.getD i "", i)
def genC (N : List Str) (sc scope : Scope) (own : List (Str × Nat)) : Bool := blkC N sc scope own && !scope.isCoroutine && scope.names.all (fun y => y.2 != .cell) && scope.names.lookup (".0" : Str) == some .local
def keyC (params : Arguments) (body : Expr) (scope : Scope) : Bool := match params, body with
  | ⟨[], [⟨x, none, _⟩], none, [], [], none, []⟩, .Tuple [.Call (.Name l _) [.Name y _] [] _, .Name z _] _ _ =>
    l == "len" && x == y && x == z && isLocal scope x && !(x == "__debug__") && decide (scope.kind = .function) && !scope.isCoroutine && !scope.isGenerator && isGl scope "len" && scope.names.all fun y => y.2 != .cell && y.2 != .free
  | _, _ => false
abbrev Rec := Nat → Nat → Sc → Expr → Option E
/-- a comprehension's block -/
def blkSc (q : Sc) (scope : Scope) : Sc := ⟨relS scope q.sc, fun x => scope.names.lookup x == some .cell⟩
def genSc (scope : Scope) : Sc := ⟨scope, fun _ => false⟩
def trComp (t : Tx) (R : Rec) (md g : Nat) (q : Sc) (elt : Expr) (gs : List Comprehension) (scope : Scope) : Option E := match gs with
  | [⟨tg, iter, ifs, 0⟩] => match trPat t (blkSc q scope) tg, trI t q (R md g q) tg iter, trIfs (R md g (blkSc q scope)) ifs, R md g (blkSc q scope) elt with
    | some p, some s, some c, some e => if blkC t.N q.sc scope (ownOf t.N p.slots) then some (.comp p s c e) else none
    | _, _, _, _ => none
  | [⟨tg, iter, ifs, 0⟩, ⟨tg1, iter1, ifs1, 0⟩] => match trPat t (blkSc q scope) tg, trI t q (R md g q) tg iter, trIfs (R md g (blkSc q scope)) ifs, trPat t (blkSc q scope) tg1, trI t (blkSc q scope) (R md g (blkSc q scope)) tg1 iter1, trIfs (R md g (blkSc q scope)) ifs1, R md g (blkSc q scope) elt with
    | some p, some s, some c, some p1, some s1, some d, some e => if blkC t.N q.sc scope (ownOf t.N (p.slots ++ p1.slots)) then some (.comp2 p s c p1 s1 d e) else none
    | _, _, _, _, _, _, _ => none
  | _ => none
def trGen (t : Tx) (R : Rec) (md g : Nat) (q : Sc) (al : Bool) (elt : Expr) (gs : List Comprehension) (scope : Scope) : Option E := match md, g, gs with
  | 1, g + 1, [⟨tg, iter, ifs, 0⟩] => match trPat t (genSc scope) tg, trI t q (R 1 (g + 1) q) tg iter, trIfs (R 0 g (genSc scope)) ifs, R 0 g (genSc scope) elt with
    | some p, some s, some c, some e => if genC t.N q.sc scope (ownOf t.N p.slots) && !isLst iter then some (.gen al p s c e) else none
    | _, _, _, _ => none
  | 1, g + 1, [⟨tg, iter, ifs, 0⟩, ⟨tg1, iter1, ifs1, 0⟩] => match trPat t (genSc scope) tg, trI t q (R 1 (g + 1) q) tg iter, trIfs (R 0 g (genSc scope)) ifs, trPat t (genSc scope) tg1, trI t (genSc scope) (R 0 g (genSc scope)) tg1 iter1, trIfs (R 0 g (genSc scope)) ifs1, R 0 g (genSc scope) elt with
    | some p, some s, some c, some p1, some s1, some d, some e => if genC t.N q.sc scope (ownOf t.N (p.slots ++ p1.slots)) && !isLst iter then some (.gen2 al p s c p1 s1 d e) else none
    | _, _, _, _, _, _, _ => none
  | _, _, _ => none
def trBool (f : Expr → Option E) (k : E → E → E) : List Expr → Option E
  | [] => none
  | [a] => if tOk a then f a else none
  | a :: r => match tOk a, f a, trBool f k r with
    | true, some x, some y => some (k x y)
    | _, _, _ => none
def trPart (f : Expr → Option E) : Option Expr → Option (Bool × E)
  | none => some (false, .con .non)
  | some e => (f e).map fun x => (true, x)
def trConst : Const → Option D
  | .none => some .non
  | .bool b => some (.bl b)
  | .int i => some (.int i)
  | .str s => some (.str s)
  | _ => none
def nameOf : Expr → Option Str
  | .Name x _ => some x
  | _ => none
/-- tuple(range(..)), list(range(..)) -/
def trRng (t : Tx) (q : Sc) (f : Expr → Option E) (x : Str) (args : List Expr) : Option E := match args with
  | [.Call (.Name r _) [a] [] _] => if (x == "tuple" || x == "list") && t.bl.contains x && r == "range" && blt t q "range" && !isStar a then (f a).map (.rng1 (x == "tuple")) else none
  | [.Call (.Name r _) [a, b] [] _] => if (x == "tuple" || x == "list") && t.bl.contains x && r == "range" && blt t q "range" && !isStar a && !isStar b then (match f a, f b with
    | some a, some b => some (.rng2 (x == "tuple") a b)
    | _, _ => none) else none
  | _ => none
/-- a call f(..) -/
def trCall (t : Tx) (R : Rec) (md g : Nat) (q : Sc) (x : Str) (args : List Expr) : Option E := match isGl q.sc x && !dunder x, t.fs.lookup x with
  | false, _ => none
  | true, some (i, n) => if args.length = n then (trL (R md g q) args).map (.call i) else none
  | true, none => match trRng t q (R md g q) x args with
   | some e => some e
   | none => match args with
    | [] => none
    | [.GeneratorExp elt gs scope _] => if t.bl.contains x then (if x == "all" then trGen t R md g q true elt gs scope else if x == "any" then trGen t R md g q false elt gs scope else none) else none
    | [e, .Name c _] => if x == "isinstance" && t.bl.contains x then (match isStar e, R md g q e, trCls t q c with
        | false, some a, some i => some (.prim (.isI [i]) (.cons a .nil))
        | _, _, _ => none) else (match (if t.bl.contains x then prims.lookup x else t.im.lookup x), trL (R md g q) args with
        | some p, some a => some (.prim p a)
        | _, _ => none)
    | [e, .Tuple cs _ _] => if x == "isinstance" && t.bl.contains x then (match isStar e, R md g q e, trClss t q cs with
        | false, some a, some l => if l.length ≤ 30 then some (.prim (.isI l) (.cons a .nil)) else none
        | _, _, _ => none) else none
    | args => match (if t.bl.contains x then prims.lookup x else t.im.lookup x), trL (R md g q) args with
      | some p, some a => some (.prim p a)
      | _, _ => none
def trE (t : Tx) : Nat → Rec
  | 0, _, _, _, _ => none
  | n + 1, md, g, q, e => match e with
    | .Name x _ => if dunder x then none else if isVis q.sc x then (slot x t.N 0).map .var else if isGl q.sc x then (t.cs.lookup x).map .con else none
    | .Constant c _ _ => (trConst c).map .con
    | .Tuple es _ _ => (trL (trE t n md g q) es).map .tup
    | .List es _ => (trL (trE t n md g q) es).map .lst
    | .BinOp l op r _ => match trBin op, trE t n md g q l, trE t n md g q r with
      | some o, some a, some b => some (.bin o a b)
      | _, _, _ => none
    | .UnaryOp op x _ => match op with
      | .USub => (trE t n md g q x).map .neg
      | .Not => if tOk x then (trE t n md g q x).map .not else none
      | _ => none
    | .BoolOp op es _ => match op with
      | .And => trBool (trE t n md g q) .and es
      | .Or => trBool (trE t n md g q) .or es
    | .Compare l ops rs _ => match ops, rs with
      | [o], [r] => match isSet r, trE t n md g q l, trE t n md g q r with
        | false, some a, some b => some (.cmp (trCmp o) a b)
        | _, _, _ => none
      | [o, p], [r, r2] => match isSet r2, trE t n md g q l, trE t n md g q r, trE t n md g q r2 with
        | false, some a, some b, some c => some (.chain (trCmp o) (trCmp p) a b c)
        | _, _, _, _ => none
      | _, _ => none
    | .IfExp c a b _ => match tOk c, trE t n md g q c, trE t n md g q a, trE t n md g q b with
      | true, some c, some a, some b => some (.ite c a b)
      | _, _, _, _ => none
    | .Call fe args kws pos => match fe, kws with
      | .Name x _, [] => trCall t (trE t n) md g q x args
      | .Name x _, [⟨some kn, .Lambda params body lsc _, _⟩] => match args with
        | [e] => if x == "sorted" && kn == "key" && decide (md = 2) && blt t q "sorted" && t.bl.contains "len" && !isStar e && keyC params body lsc then (trE t n md g q e).map .sortLen else none
        | _ => none
      | .Attribute o a apos, [] => match args with
        | [e] => if a == "append" && plainO o && apos.endLine == pos.line && !isStar e then (match trE t n md g q o, trE t n md g q e with
            | some x, some y => some (.meth .append x (.cons y .nil))
            | _, _ => none) else none
        | _ => none
      | _, _ => none
    | .Subscript a ix _ => match ix with
      | .Slice lo hi none _ => match trE t n md g q a, trPart (trE t n md g q) lo, trPart (trE t n md g q) hi with
        | some a, some (bl, l), some (bh, h) => some (.slice bl bh a l h)
        | _, _, _ => none
      | i => if plainIx i then (match trE t n md g q a, trE t n md g q i with
        | some a, some i => some (.idx a i)
        | _, _ => none) else none
    | .ListComp elt gs scope _ => trComp t (trE t n) md g q elt gs scope
    | _ => none
/-! ### what is known where -/
structure Glb (P : Program) (w : World) (K : PySem.W.Frag) (mg : Str → Option Value) (base : Heap) (t : Tx) (Tb : List (Addr × Option Str)) (k : Nat) (C : CallF) : Prop where
  fs : ∀ x i n, t.fs.lookup x = some (i, n) → FnT P w K mg base Tb k C x i n
  cs : ∀ x d, t.cs.lookup x = some d → ∃ u v, mg x = some u ∧ RelV v u ∧ ∀ (K : PySem.W.Frag) (α : List Addr) (G : Hp), Rep K α G d v
  bl : ∀ x, t.bl.contains x = true → mg x = none
  im : ∀ x p, t.im.lookup x = some p → mg x = some p.val ∧ ∀ cs, p ≠ .isI cs
/-- the running code's table -/
def Cod (X : Cx) (Tb : List (Addr × Option Str)) (md : Nat) : Prop := match md with
  | 1 => ∃ c P, X.env.code = .ref c ∧ GxR.TabB X.base X.mg c P ∧ (P, none) ∈ Tb ∧ ∀ q, (P, some q) ∉ Tb
  | 2 => ∃ c P, X.env.code = .ref c ∧ GxR.TabB X.base X.mg c P ∧ (P, some (X.env.qual ++ "<lambda>")) ∈ Tb ∧ ∀ z, (P, z) ∈ Tb → z = some (X.env.qual ++ "<lambda>")
  | _ => True
structure Cxt (t : Tx) (Tb : List (Addr × Option Str)) (k : Nat) (C : CallF) (md g : Nat) (q : Sc) (X : Cx) : Prop where
  glb : Glb X.prog X.w X.K X.mg X.base t Tb k C
  N : X.N = t.N
  nd : t.N.Nodup
  sc : X.env.scope = q.sc
  fn : X.fn = q.fn
  calm : X.calm = true
  room : Room (k + g) X.A
  cod : Cod X Tb md
end Mp
end
section
set_option Elab.async false
set_option linter.all false
set_option maxRecDepth 100000
set_option maxHeartbeats 1000000
/-! Ranges made tuples and lists. -/
namespace Mp
open PySem PySem.Spec L2 PyProof.Rows
section
variable {X : Cx} {Tb : List (Addr × Option Str)} {C : CallF} {a b : E} {e r : Expr} {pos p pos2 p2 : Pos} {nm : Str}
theorem rgV_reps {K : PySem.W.Frag} {α : List Addr} {G : Hp} {lo hi : Int} : Reps K α G (upto lo (hi - lo).toNat) (rgV lo hi) := by
  unfold upto rgV
  generalize (List.range (hi - lo).toNat) = l
  induction l with
  | nil => exact rfl
  | cons x l ih => exact ⟨_, _, rfl, rfl, ih⟩
theorem rngD_snd {β α : List Addr} {st : St} {H : Hp} {t : Bool} {x y : D} {u v : V} {Q : VK} (o : Ok X.K Tb β α st H) (rx : Rep X.K α (Mk (β ++ α) H) x u) (ry : Rep X.K α (Mk (β ++ α) H) y v) (h : Sat X.K Tb β α (rngD t x y st) H Q) :
    ∃ i j, u = .int i ∧ v = .int j ∧ RgOk i j ∧ ∀ q, H q = none → Q (.ref q) (upd H q (if t then .tup (rgV i j) else .lst (rgV i j))) := by
  unfold rngD at h
  split at h
  · rename_i i j
    cases rx
    cases ry
    split at h
    · rename_i hc
      rw [Bool.and_eq_true, Bool.and_eq_true] at hc
      obtain ⟨b1, b2⟩ := rangeOk_is hc.1.1
      obtain ⟨b3, b4⟩ := rangeOk_is hc.1.2
      have b5 := Nat.le_of_ble_eq_true hc.2
      refine ⟨i, j, rfl, rfl, ⟨b1, b2, b3, b4, b5⟩, fun q hq => ?_⟩
      cases t with
      | true => exact Sat.newTup h o hq rgV_reps
      | false => exact Sat.newLst h o hq rgV_reps
    · exact h.elim
  · exact h.elim
theorem tup_or (nm : Str) (h : nm == "tuple" ∨ nm == "list") : (nm = "tuple" ∧ (nm == ("tuple" : Str)) = true) ∨ (nm = "list" ∧ (nm == ("tuple" : Str)) = false) := by
  rcases h with h | h
  · exact .inl ⟨eq_of_beq h, h⟩
  · obtain rfl := eq_of_beq h
    exact .inr ⟨rfl, by decide⟩
theorem snd_rng1 (hc : X.calm = true) (hg : Gl X nm) (hm : X.mg nm = none) (hn : nm == "tuple" ∨ nm == "list") (hg2 : Gl X "range") (hm2 : X.mg "range" = none) (hs : isStar e = false) (he : PE X e (tOf X.K Tb (ev C a))) :
    PE X (.Call (.Name nm p) [.Call (.Name "range" p2) [e] [] pos2] [] pos) (tOf X.K Tb (ev C (.rng1 (nm == "tuple") a))) := by
  have core : ∀ {t : Bool} {σ : L2.St} {H : Hp} {Q : VK}, tOf X.K Tb (ev C (.rng1 t a)) σ H Q → tRg1 (tOf X.K Tb (ev C a)) σ H fun i j H1 => RgOk i j ∧ ∀ q, H1 q = none → Q (.ref q) (upd H1 q (if t then .tup (rgV i j) else .lst (rgV i j))) := fun {t σ H Q} h => by
    obtain ⟨β, α, st, env, o, en, h⟩ := h
    refine tOf_bnd (m := ev C a) (S := fun α r H => Sat X.K Tb β α r H Q) o en h (fun _ _ z => z) (fun _ _ _ s h => h.step s) fun d st1 v α1 H1 _ s o1 e1 r h1 => ?_
    obtain ⟨i, j, k1, k2, k3⟩ := rngD_snd o1 (x := .int 0) (u := .int 0) rfl r h1
    cases k1
    exact ⟨j, k2, k3⟩
  rcases tup_or nm hn with ⟨rfl, e1⟩ | ⟨rfl, e1⟩
  · rw [e1]
    exact PE.by fun σ H Q h => ⟨_, pe_tupRg hc hg hm (prg_1 hg2 hm2 he (star_cons (isStar_ne hs))) rfl, core h⟩
  · rw [e1]
    exact PE.by fun σ H Q h => ⟨_, pe_listRg hc hg hm (prg_1 hg2 hm2 he (star_cons (isStar_ne hs))) rfl, core h⟩
theorem snd_rng2 (hc : X.calm = true) (hg : Gl X nm) (hm : X.mg nm = none) (hn : nm == "tuple" ∨ nm == "list") (hg2 : Gl X "range") (hm2 : X.mg "range" = none) (hs : isStar e = false) (hs2 : isStar r = false) (he : PE X e (tOf X.K Tb (ev C a))) (hr : PE X r (tOf X.K Tb (ev C b))) :
    PE X (.Call (.Name nm p) [.Call (.Name "range" p2) [e, r] [] pos2] [] pos) (tOf X.K Tb (ev C (.rng2 (nm == "tuple") a b))) := by
  have s2 : starEach [r] X.env = (false, eval r X.env) :: starEach [] X.env := star_cons (isStar_ne hs2)
  have core : ∀ {t : Bool} {σ : L2.St} {H : Hp} {Q : VK}, tOf X.K Tb (ev C (.rng2 t a b)) σ H Q → tRg2 (tOf X.K Tb (ev C a)) (tOf X.K Tb (ev C b)) σ H fun i j H1 => RgOk i j ∧ ∀ q, H1 q = none → Q (.ref q) (upd H1 q (if t then .tup (rgV i j) else .lst (rgV i j))) := fun {t σ H Q} h => by
    refine tOf.imp (two (F := fun x y => rngD t x y) h) fun v H1 h1 => tOf.imp h1 fun w H2 h2 => ?_
    obtain ⟨β, α, st, x, y, o, rx, ry, h3⟩ := h2
    obtain ⟨i, j, k1, k2, k3⟩ := rngD_snd o rx ry h3
    exact ⟨i, j, k1, k2, k3⟩
  rcases tup_or nm hn with ⟨rfl, e1⟩ | ⟨rfl, e1⟩
  · rw [e1]
    exact PE.by fun σ H Q h => ⟨_, pe_tupRg hc hg hm (prg_2 hg2 hm2 he hr (star_cons (isStar_ne hs)) s2 (by rw [s2]; rfl)) rfl, core h⟩
  · rw [e1]
    exact PE.by fun σ H Q h => ⟨_, pe_listRg hc hg hm (prg_2 hg2 hm2 he hr (star_cons (isStar_ne hs)) s2 (by rw [s2]; rfl)) rfl, core h⟩
end
end Mp
end
section
set_option Elab.async false
set_option linter.all false
set_option maxRecDepth 100000
set_option maxHeartbeats 1000000
/-! The translation is sound: expressions. -/
namespace Mp
open PySem PySem.Spec L2 PyProof.Rows
theorem slot_at {x : Str} : ∀ {N : List Str} {k i : Nat}, slot x N k = some i → k ≤ i ∧ N[i - k]? = some x
  | [], _, _, h => by cases h
  | y :: r, k, i, h => by
    unfold slot at h
    split at h
    · rename_i e
      cases h
      refine ⟨Nat.le_refl _, ?_⟩
      rw [Nat.sub_self, eq_of_beq e]
      rfl
    · obtain ⟨h1, h2⟩ := slot_at h
      refine ⟨by omega, ?_⟩
      have e : i - k = (i - (k + 1)) + 1 := by omega
      rw [e, List.getElem?_cons_succ]
      exact h2
theorem slot_ok {x : Str} {N : List Str} {i : Nat} (h : slot x N 0 = some i) : N[i]? = some x := (slot_at h).2
section
variable {t : Tx} {Tb : List (Addr × Option Str)} {k md g : Nat} {C : CallF} {q : Sc} {X : Cx}
theorem isLocal_is {sc : Scope} {x : Str} (h : isLocal sc x = true) : sc.names.lookup x = some .local := by simpa [isLocal] using h
theorem isLoc_is {sc : Scope} {x : Str} (h : isLoc sc x = true) : L2.Loc sc x := by simpa [isLoc, L2.Loc] using h
theorem isVis_is {sc : Scope} {x : Str} (h : isVis sc x = true) : Vis sc x := by
  simp only [isVis, isLoc, Bool.or_eq_true, beq_iff_eq] at h
  rcases h with (h | h) | h
  · exact .inl h
  · exact .inr (.inl h)
  · exact .inr (.inr h)
theorem isGl_is {sc : Scope} {x : Str} (h : isGl sc x = true) : sc.names.lookup x = some .globalImplicit := by simpa [isGl] using h
theorem Cxt.gl (cx : Cxt t Tb k C md g q X) {x : Str} (h : isGl q.sc x = true) : Gl X x := by
  show X.env.scope.names.lookup x = _
  rw [cx.sc]
  exact isGl_is h
theorem Cxt.hu (cx : Cxt t Tb k C md g q X) : X.A.units + 65 < cLine := by have := cx.room.un; omega
theorem Cxt.hN (cx : Cxt t Tb k C md g q X) : X.N.Nodup := by rw [cx.N]; exact cx.nd
theorem trNm_ok (cx : Cxt t Tb k C md g q X) {x : Str} {i : Nat} (h : trNm t q x = some i) : NmOk X x i := by
  unfold trNm at h
  split at h
  · rename_i hc
    rw [Bool.and_eq_true, Bool.or_eq_true] at hc
    refine ⟨by rw [cx.N]; exact slot_ok h, by rw [cx.sc]; exact isLoc_is hc.1, ?_⟩
    rcases hc.2 with z | z
    · exact .inl (by rw [cx.fn]; exact z)
    · exact .inr (by rw [cx.sc]; exact isLocal_is z)
  · cases h
theorem trNms_ok (cx : Cxt t Tb k C md g q X) : ∀ {es : List Expr} {l : List Nat}, trNms t q es = some l → NmsOk X es l
  | [], _, h => by cases h; trivial
  | e :: r, l, h => by
    cases e with
    | Name x p =>
      unfold trNms at h
      split at h
      · rename_i i l' h1 h2
        cases h
        exact ⟨trNm_ok cx h1, trNms_ok cx h2⟩
      · cases h
    | _ => cases h
theorem trPat_ok (cx : Cxt t Tb k C md g q X) {e : Expr} {p : Pat} (h : trPat t q e = some p) : PatOk X e p := by
  cases e with
  | Name x pos =>
    simp only [trPat] at h
    obtain ⟨i, h1, rfl⟩ := Option.map_eq_some_iff.mp h
    exact trNm_ok cx h1
  | Tuple es kk pos =>
    simp only [trPat] at h
    obtain ⟨l, h1, rfl⟩ := Option.map_eq_some_iff.mp h
    exact trNms_ok cx h1
  | _ => cases h
/-- sound: a value, and (where it may be) a test -/
def SndE (X : Cx) (Tb : List (Addr × Option Str)) (C : CallF) (e : Expr) (x : E) : Prop := PE X e (tOf X.K Tb (ev C x)) ∧ (tOk e = true → PT X e (tOfB X.K Tb fun env => bnd (ev C x env) truth))
def SndF (X : Cx) (Tb : List (Addr × Option Str)) (C : CallF) (f : Expr → Option E) : Prop := ∀ e x, f e = some x → SndE X Tb C e x
theorem trL_len {f : Expr → Option E} : ∀ {es : List Expr} {a : E} {env : Env} {st : St} {l : List D} {st' : St}, trL f es = some a → bnd (ev C a env) listOf st = .ok l st' → l.length = es.length
  | [], a, env, st, l, st', h, hl => by
    cases h
    cases hl
    rfl
  | e :: es, a, env, st, l, st', h, hl => by
    unfold trL at h
    split at h
    · rename_i x y h1 h2 h3
      cases h
      rw [show ev C (.cons x y) env = bnd (ev C x env) fun a => bnd (bnd (ev C y env) listOf) fun l => ret (.lst (a :: l)) from rfl, bnd_assoc] at hl
      obtain ⟨d, st1, _, hl⟩ := bnd_ok hl
      rw [bnd_assoc] at hl
      obtain ⟨l2, st2, q2, hl⟩ := bnd_ok hl
      cases hl
      rw [List.length_cons, List.length_cons, trL_len h3 q2]
    · cases h
theorem trL_snd {f : Expr → Option E} (hf : SndF X Tb C f) : ∀ {es : List Expr} {a : E}, trL f es = some a → PA X es (tOfL X.K Tb fun env => bnd (ev C a env) listOf) ∧ (es.all fun e => !isStar e) = true
  | [], a, h => by
    cases h
    exact ⟨snd_nil, rfl⟩
  | e :: es, a, h => by
    unfold trL at h
    split at h
    · rename_i x y h1 h2 h3
      cases h
      obtain ⟨k1, k2⟩ := trL_snd hf h3
      refine ⟨snd_cons (isStar_ne h1) (hf e x h2).1 k1, ?_⟩
      rw [List.all_cons, h1, k2]
      rfl
    · cases h
theorem not_set_fold {iter : Expr} (h : isSet iter = false) (env : PySem.Env) (v : Value) : foldedSetIterable iter env v = pure v := by
  cases iter <;> first
    | rfl
    | cases h
theorem not_set_gen {iter : Expr} (h : isSet iter = false) (h2 : isLst iter = false) (env : PySem.Env) (v : Value) : genFold iter env v = pure v := by
  cases iter <;> first
    | (cases h2; done)
    | (cases h; done)
    | rfl
theorem not_set_marks {op : CmpOp} {r : Expr} (h : isSet r = false) : behindInMarks op r = false := by
  cases r <;> first
    | rfl
    | cases h
theorem Cxt.bl (cx : Cxt t Tb k C md g q X) {x : Str} (h : blt t q x = true) : Gl X x ∧ X.mg x = none := by
  unfold blt at h
  rw [Bool.and_eq_true] at h
  exact ⟨cx.gl h.1, cx.glb.bl x h.2⟩
theorem trI_set {f : Expr → Option E} {tg iter : Expr} {x : E} (h : trI t q f tg iter = some x) : isSet iter = false := by
  cases iter with
  | Set es kk p =>
    simp only [trI, isSet, if_true] at h
    cases h
  | _ => rfl
theorem trI_snd (cx : Cxt t Tb k C md g q X) {f : Expr → Option E} (hf : SndF X Tb C f) {tg iter : Expr} {x : E} (h : trI t q f tg iter = some x) : PI X tg iter (tItr X.K Tb fun env => bnd (ev C x env) srcOf) := by
  have gen : ∀ {y : E}, (f iter).map (fun a => E.itr .seq (.cons a .nil)) = some y → PI X tg iter (tItr X.K Tb fun env => bnd (ev C y env) srcOf) := fun {y} hy => by
    obtain ⟨a, h1, rfl⟩ := Option.map_eq_some_iff.mp hy
    exact snd_itr_seq (hf iter a h1).1
  unfold trI at h
  split at h
  · rename_i x0 p0 a pos
    split at h
    · rename_i e
      have e := eq_of_beq e
      subst e
      split at h
      · rename_i a' h1 h2 h3
        cases h
        obtain ⟨k1, k2⟩ := cx.bl h1
        exact snd_itr_rng1 k1 k2 h2 (hf a a' h3).1
      · cases h
    · split at h
      · rename_i e
        have e := eq_of_beq e
        subst e
        split at h
        · rename_i a' h1 h0 h2 h3
          cases h
          obtain ⟨k1, k2⟩ := cx.bl h1
          cases tg with
          | Tuple es kk pp => exact snd_itr_enum k1 k2 h2 (hf a a' h3).1
          | _ => cases h0
        · cases h
      · exact gen h
  · rename_i x0 p0 a b pos
    split at h
    · rename_i e
      have e := eq_of_beq e
      subst e
      split at h
      · rename_i a' b' h1 h2 h3 h4 h5
        cases h
        obtain ⟨k1, k2⟩ := cx.bl h1
        exact snd_itr_rng2 k1 k2 h2 h3 (hf a a' h4).1 (hf b b' h5).1
      · cases h
    · exact gen h
  · split at h
    · cases h
    · exact gen h
theorem PTs.by {X : Cx} {e : List Expr} {t : TT} (h : ∀ σ H Q, t σ H Q → ∃ u, PTs X e u ∧ u σ H Q) : PTs X e t := ⟨fun pins s σ H Q I w => by
  obtain ⟨u, p, q⟩ := h σ H Q w
  exact p.run pins s σ H Q I q⟩
theorem trIfs_snd {f : Expr → Option E} (hf : SndF X Tb C f) {ifs : List Expr} {x : E} (h : trIfs f ifs = some x) : PTs X ifs (tTst X.K Tb (ev C x)) := by
  unfold trIfs at h
  split at h
  · cases h
    refine PTs.by fun σ H Q hw => ⟨_, pts_nil, ?_⟩
    obtain ⟨β, α, st, env, o, en, hw⟩ := hw
    exact SatB.here (b := true) hw o
  · rename_i c
    split at h
    · rename_i ht
      exact pts_one ((hf c x h).2 ht)
    · cases h
  · cases h
theorem ownOf_slots {N : List Str} {l : List Nat} : (ownOf N l).map (·.2) = l := by
  unfold ownOf
  rw [List.map_map]
  exact List.map_id _
/-- a comprehension's block -/
theorem Cxt.blk (cx : Cxt t Tb k C md g q X) (scope : Scope) (s : Shared) (H : Hp) (Cd : Addr) (cl : List (Str × Addr)) (fp : List Addr) : Cxt t Tb k C md g (blkSc q scope) (X.blk s H scope (compEnvC scope cl Cd X.env) fp) where
  glb := cx.glb
  N := cx.N
  nd := cx.nd
  sc := by
    show relabel scope X.env = relS scope q.sc
    rw [← cx.sc]
    rfl
  fn := rfl
  calm := cx.calm
  room := cx.room
  cod := by
    have h := cx.cod
    unfold Cod at h ⊢
    exact h
theorem room_gen {j : Nat} {A : Around} (r : Room (j + 1) A) (env : PySem.Env) : Room j (A.in1.in1.deeper env) :=
  ⟨r.hd, by have := r.dp; show A.depth + 1 + 3 * j + 5 < _; omega, by have := r.un; show A.units + 1 + 1 + 3 + 16 * j + 200 < _; omega⟩
theorem Cxt.gen (cx : Cxt t Tb k C md (g + 1) q X) (scope : Scope) (s : Shared) (H : Hp) (Cd : Addr) (code : Value) (fp : List Addr) (pn : List (Addr × Obj)) : Cxt t Tb k C 0 g (genSc scope) (gC X scope s H Cd code fp pn) where
  glb := cx.glb
  N := cx.N
  nd := cx.nd
  sc := rfl
  fn := rfl
  calm := cx.calm
  room := room_gen cx.room _
  cod := trivial
theorem blk_own {N : List Str} {sc scope : Scope} {l : List Nat} (h : blkC N sc scope (ownOf N l) = true) : BlkOk N sc scope (ownOf N l) := blkOk_by h
theorem genC_ok {N : List Str} {sc scope : Scope} {own : List (Str × Nat)} (h : genC N sc scope own = true) : GenOk N sc scope own := by
  unfold genC at h
  simp only [Bool.and_eq_true, Bool.not_eq_true', List.all_eq_true, bne_iff_ne, beq_iff_eq] at h
  exact ⟨blkOk_by h.1.1.1, h.1.1.2, fun y hy => h.1.2 y hy, h.2⟩
theorem primAt (cx : Cxt t Tb k C md g q X) {x : Str} {v : Value} (h : isGl q.sc x = true) (hd : dunder x = false) (hb : t.bl.contains x = true) (hv : bootBuiltins x = some v) : PrimAt X x v := by
  unfold dunder at hd
  simp only [Bool.or_eq_false_iff] at hd
  exact ⟨cx.gl h, .inl ⟨cx.glb.bl x hb, hv, fun z => by have := hd.2; rw [z] at this; simp at this⟩, hd.1.1⟩
theorem boot_all' : bootBuiltins "all" = some (.builtin "all") := by decide +kernel
theorem boot_any' : bootBuiltins "any" = some (.builtin "any") := by decide +kernel
theorem boot_prims : ∀ p ∈ prims, bootBuiltins p.1 = some p.2.val ∧ ∀ cs, p.2 ≠ .isI cs := by
  intro p hp
  have : (prims.all fun p => decide (bootBuiltins p.1 = some p.2.val)) = true := by decide +kernel
  refine ⟨by simpa using List.all_eq_true.mp this p hp, fun cs z => ?_⟩
  have h2 : (prims.all fun p => match p.2 with | .isI _ => false | _ => true) = true := by decide +kernel
  have := List.all_eq_true.mp h2 p hp
  rw [z] at this
  cases this
theorem boot_cls : ∀ p ∈ clss, bootBuiltins p.1 = some (.type (clsName p.2)) ∧ p.2 < 5 := by
  intro p hp
  have : (clss.all fun p => decide (bootBuiltins p.1 = some (.type (clsName p.2))) && decide (p.2 < 5)) = true := by decide +kernel
  simpa using List.all_eq_true.mp this p hp
theorem mem_of_lk {α : Type} {l : List (Str × α)} {x : Str} {a : α} (h : l.lookup x = some a) : (x, a) ∈ l := PySem.mem_of_lookup h
end
end Mp
end
section
set_option Elab.async false
set_option linter.all false
set_option maxRecDepth 100000
set_option maxHeartbeats 2000000
/-! The translation is sound: comprehensions, calls, the whole of it. -/
namespace Mp
open PySem PySem.Spec L2 PyProof.Rows
section
variable {t : Tx} {Tb : List (Addr × Option Str)} {k md g : Nat} {C : CallF} {q : Sc} {X : Cx} {R : Rec}
/-- the recursion is sound wherever it is asked -/
def SndR (t : Tx) (Tb : List (Addr × Option Str)) (k : Nat) (C : CallF) (R : Rec) : Prop := ∀ md g q X, Cxt t Tb k C md g q X → SndF X Tb C (R md g q)
theorem leaf {e : Expr} {x : E} (h : PE X e (tOf X.K Tb (ev C x))) (he : ∀ whole, PySem.isTrue e X.env whole = (do let v ← whole; standAt e.pos; holding [v] (truthy v))) : SndE X Tb C e x := ⟨h, fun _ => tst_val h he⟩
theorem trComp_snd (cx : Cxt t Tb k C md g q X) (hR : SndR t Tb k C R) {elt : Expr} {gs : List Comprehension} {scope : Scope} {pos : Pos} {x : E} (h : trComp t R md g q elt gs scope = some x) :
    PE X (.ListComp elt gs scope pos) (tOf X.K Tb (ev C x)) ∧
    (∀ (i : Nat) (y : Str) (py : Pos) (spos : Pos), X.N[i]? = some y → X.env.scope.names.lookup y = some .local → swapsWith (.ListComp elt gs scope pos) (some (.Name y py)) spos.line X.env = pure true → PS X (.Assign [.Name y py] (.ListComp elt gs scope pos) spos) (tEx X.K Tb (exec C (.asg (.one i) x)))) := by
  unfold trComp at h
  split at h
  · rename_i tg iter ifs
    split at h
    · rename_i p s c e h1 h2 h3 h4
      split at h
      · rename_i hb
        cases h
        have hi := trI_snd cx (hR md g q X cx) h2
        have ok : BlkOk X.N X.env.scope scope (ownOf t.N p.slots) := by rw [cx.N, cx.sc]; exact blk_own hb
        have hgP : ∀ (s : Shared) (H : Hp) (Cd : Addr) (cl : List (Str × Addr)) (fp : List Addr), PG (X.blk s H scope (compEnvC scope cl Cd X.env) fp) tg (gOf X.K Tb p) := fun s H Cd cl fp => snd_pat (cx.blk scope s H Cd cl fp).calm (cx.blk scope s H Cd cl fp).hN (trPat_ok (cx.blk scope s H Cd cl fp) h1)
        have htP : ∀ (s : Shared) (H : Hp) (Cd : Addr) (cl : List (Str × Addr)) (fp : List Addr), PTs (X.blk s H scope (compEnvC scope cl Cd X.env) fp) ifs (tTst X.K Tb (ev C c)) := fun s H Cd cl fp => trIfs_snd (hR _ _ _ _ (cx.blk scope s H Cd cl fp)) h3
        have heP : ∀ (s : Shared) (H : Hp) (Cd : Addr) (cl : List (Str × Addr)) (fp : List Addr), PE (X.blk s H scope (compEnvC scope cl Cd X.env) fp) elt (tOf X.K Tb (ev C e)) := fun s H Cd cl fp => (hR _ _ _ _ (cx.blk scope s H Cd cl fp) elt e h4).1
        refine ⟨PE.by fun σ H Q hw => ⟨_, pe_lc cx.calm cx.hN hi ok hgP htP heP (not_set_fold (trI_set h2) X.env), lc_tell ownOf_slots hw⟩, fun i y py spos hy hyl hsw => ?_⟩
        exact snd_asgLc (ps_setLc (i := i) cx.calm cx.hN hy hyl hsw hi ok hgP htP heP (not_set_fold (trI_set h2) X.env)) fun σ H Q hw => lc_tell ownOf_slots hw
      · cases h
    · cases h
  · rename_i tg iter ifs tg1 iter1 ifs1
    split at h
    · rename_i p s c p1 s1 d e h1 h2 h3 h4 h5 h6 h7
      split at h
      · rename_i hb
        cases h
        have hi := trI_snd cx (hR md g q X cx) h2
        have ok : BlkOk X.N X.env.scope scope (ownOf t.N (p.slots ++ p1.slots)) := by rw [cx.N, cx.sc]; exact blk_own hb
        have hgP : ∀ (s : Shared) (H : Hp) (Cd : Addr) (cl : List (Str × Addr)) (fp : List Addr), PG (X.blk s H scope (compEnvC scope cl Cd X.env) fp) tg (gOf X.K Tb p) := fun s H Cd cl fp => snd_pat (cx.blk scope s H Cd cl fp).calm (cx.blk scope s H Cd cl fp).hN (trPat_ok (cx.blk scope s H Cd cl fp) h1)
        have htP : ∀ (s : Shared) (H : Hp) (Cd : Addr) (cl : List (Str × Addr)) (fp : List Addr), PTs (X.blk s H scope (compEnvC scope cl Cd X.env) fp) ifs (tTst X.K Tb (ev C c)) := fun s H Cd cl fp => trIfs_snd (hR _ _ _ _ (cx.blk scope s H Cd cl fp)) h3
        have hiP1 : ∀ (s : Shared) (H : Hp) (Cd : Addr) (cl : List (Str × Addr)) (fp : List Addr), PI (X.blk s H scope (compEnvC scope cl Cd X.env) fp) tg1 iter1 (tItr X.K Tb fun env => bnd (ev C s1 env) srcOf) := fun s H Cd cl fp => trI_snd (cx.blk scope s H Cd cl fp) (hR _ _ _ _ (cx.blk scope s H Cd cl fp)) h5
        have hgP1 : ∀ (s : Shared) (H : Hp) (Cd : Addr) (cl : List (Str × Addr)) (fp : List Addr), PG (X.blk s H scope (compEnvC scope cl Cd X.env) fp) tg1 (gOf X.K Tb p1) := fun s H Cd cl fp => snd_pat (cx.blk scope s H Cd cl fp).calm (cx.blk scope s H Cd cl fp).hN (trPat_ok (cx.blk scope s H Cd cl fp) h4)
        have htP1 : ∀ (s : Shared) (H : Hp) (Cd : Addr) (cl : List (Str × Addr)) (fp : List Addr), PTs (X.blk s H scope (compEnvC scope cl Cd X.env) fp) ifs1 (tTst X.K Tb (ev C d)) := fun s H Cd cl fp => trIfs_snd (hR _ _ _ _ (cx.blk scope s H Cd cl fp)) h6
        have heP : ∀ (s : Shared) (H : Hp) (Cd : Addr) (cl : List (Str × Addr)) (fp : List Addr), PE (X.blk s H scope (compEnvC scope cl Cd X.env) fp) elt (tOf X.K Tb (ev C e)) := fun s H Cd cl fp => (hR _ _ _ _ (cx.blk scope s H Cd cl fp) elt e h7).1
        have hv : ∀ i ∈ p1.slots, i ∈ (ownOf t.N (p.slots ++ p1.slots)).map (·.2) := fun i hi => by rw [ownOf_slots]; exact List.mem_append_right _ hi
        refine ⟨PE.by fun σ H Q hw => ⟨_, pe_lc2 cx.calm cx.hN hi ok hv hgP htP hiP1 hgP1 htP1 heP (not_set_fold (trI_set h2) X.env) (fun env v => not_set_fold (trI_set h5) env v), lc2_tell ownOf_slots rfl hw⟩, fun i y py spos hy hyl hsw => ?_⟩
        exact snd_asgLc (ps_setLc2 (i := i) cx.calm cx.hN hy hyl hsw hi ok hv hgP htP hiP1 hgP1 htP1 heP (not_set_fold (trI_set h2) X.env) (fun env v => not_set_fold (trI_set h5) env v)) fun σ H Q hw => lc2_tell ownOf_slots rfl hw
      · cases h
    · cases h
  · cases h
theorem trGen_snd (cx : Cxt t Tb k C md g q X) (hR : SndR t Tb k C R) {al : Bool} {elt : Expr} {gs : List Comprehension} {scope : Scope} {gpos p pos : Pos} {nm : Str} {x : E} (hb : PrimAt X nm (.builtin (if al then "all" else "any"))) (h : trGen t R md g q al elt gs scope = some x) :
    PE X (.Call (.Name nm p) [.GeneratorExp elt gs scope gpos] [] pos) (tOf X.K Tb (ev C x)) := by
  unfold trGen at h
  split at h
  · rename_i md' g' g tg iter ifs
    obtain ⟨cd, P, hcode, TB, hP, hq⟩ := cx.cod
    split at h
    · rename_i pt s c e h1 h2 h3 h4
      split at h
      · rename_i hc
        rw [Bool.and_eq_true] at hc
        cases h
        have ok : GenOk X.N X.env.scope scope (ownOf t.N pt.slots) := by rw [cx.N, cx.sc]; exact genC_ok hc.1
        refine PE.by fun σ H Q hw => ⟨_, pe_gen (al := al) cx.calm cx.room hb TB hcode ok cx.hN (trI_snd cx (hR _ _ _ _ cx) h2) (fun s H Cd code fp pn => snd_pat (Tb := Tb) (cx.gen scope s H Cd code fp pn).calm (cx.gen scope s H Cd code fp pn).hN (trPat_ok (cx.gen scope s H Cd code fp pn) h1)) (fun s H Cd code fp pn => trIfs_snd (hR _ _ _ _ (cx.gen scope s H Cd code fp pn)) h3)
          (fun s H Cd code fp pn => (hR _ _ _ _ (cx.gen scope s H Cd code fp pn) elt e h4).1) (not_set_gen (trI_set h2) (by simpa using hc.2) X.env), gen_tell hP hq ownOf_slots hw⟩
      · cases h
    · cases h
  · rename_i md' g' g tg iter ifs tg1 iter1 ifs1
    obtain ⟨cd, P, hcode, TB, hP, hq⟩ := cx.cod
    split at h
    · rename_i pt s c p1 s1 d e h1 h2 h3 h4 h5 h6 h7
      split at h
      · rename_i hc
        rw [Bool.and_eq_true] at hc
        cases h
        have ok : GenOk X.N X.env.scope scope (ownOf t.N (pt.slots ++ p1.slots)) := by rw [cx.N, cx.sc]; exact genC_ok hc.1
        have hv : ∀ i ∈ p1.slots, i ∈ (ownOf t.N (pt.slots ++ p1.slots)).map (·.2) := fun i hi => by rw [ownOf_slots]; exact List.mem_append_right _ hi
        refine PE.by fun σ H Q hw => ⟨_, pe_gen2 (al := al) cx.calm cx.room hb TB hcode ok cx.hN (trI_snd cx (hR _ _ _ _ cx) h2) (fun s H Cd code fp pn => snd_pat (Tb := Tb) (cx.gen scope s H Cd code fp pn).calm (cx.gen scope s H Cd code fp pn).hN (trPat_ok (cx.gen scope s H Cd code fp pn) h1)) (fun s H Cd code fp pn => trIfs_snd (hR _ _ _ _ (cx.gen scope s H Cd code fp pn)) h3)
          (fun s H Cd code fp pn => trI_snd (cx.gen scope s H Cd code fp pn) (hR _ _ _ _ (cx.gen scope s H Cd code fp pn)) h5) (fun s H Cd code fp pn => snd_pat (Tb := Tb) (cx.gen scope s H Cd code fp pn).calm (cx.gen scope s H Cd code fp pn).hN (trPat_ok (cx.gen scope s H Cd code fp pn) h4)) (fun s H Cd code fp pn => trIfs_snd (hR _ _ _ _ (cx.gen scope s H Cd code fp pn)) h6)
          (fun s H Cd code fp pn => (hR _ _ _ _ (cx.gen scope s H Cd code fp pn) elt e h7).1) (not_set_gen (trI_set h2) (by simpa using hc.2) X.env) (fun env v => not_set_fold (trI_set h5) env v) hv, gen2_tell hP hq ownOf_slots rfl hw⟩
      · cases h
    · cases h
  · cases h
theorem trCls_ok (cx : Cxt t Tb k C md g q X) {x : Str} {n : Nat} (h : trCls t q x = some n) : TyAt X x n := by
  unfold trCls at h
  split at h
  · rename_i hb
    obtain ⟨k1, k2⟩ := cx.bl hb
    have hm := mem_of_lk h
    obtain ⟨b1, b2⟩ := boot_cls _ hm
    have hnm : x ≠ "__name__" ∧ (x == ("__debug__" : Str)) = false := by
      have : (clss.all fun p => !(p.1 == "__name__") && !(p.1 == ("__debug__" : Str))) = true := by decide +kernel
      have := List.all_eq_true.mp this _ hm
      simp only [Bool.and_eq_true, Bool.not_eq_true'] at this
      exact ⟨fun z => by rw [z] at this; simp at this, this.2⟩
    exact ⟨k1, k2, b1, hnm.1, hnm.2, b2⟩
  · cases h
theorem trClss_ok (cx : Cxt t Tb k C md g q X) : ∀ {es : List Expr} {l : List Nat}, trClss t q es = some l → TysAt X es l
  | [], _, h => by cases h; trivial
  | e :: r, l, h => by
    cases e with
    | Name x p =>
      unfold trClss at h
      split at h
      · rename_i i l' h1 h2
        cases h
        exact ⟨trCls_ok cx h1, trClss_ok cx h2⟩
      · cases h
    | _ => cases h
theorem trPrim_snd (cx : Cxt t Tb k C md g q X) {f : Expr → Option E} (hf : SndF X Tb C f) {nm : Str} {args : List Expr} {p pos : Pos} {x : E} (hg : isGl q.sc nm = true) (hd : dunder nm = false) (hne : args ≠ [])
    (h : (match (if t.bl.contains nm then prims.lookup nm else t.im.lookup nm), trL f args with | some p, some a => some (E.prim p a) | _, _ => none) = some x) : PE X (.Call (.Name nm p) args [] pos) (tOf X.K Tb (ev C x)) := by
  split at h
  · rename_i pr a h1 h2
    cases h
    obtain ⟨k1, k2⟩ := trL_snd hf h2
    cases args with
    | nil => exact absurd rfl hne
    | cons e es =>
      rw [List.all_cons, Bool.and_eq_true] at k2
      have hs : isStar e = false := by simpa using k2.1
      split at h1
      · rename_i hb
        obtain ⟨b1, b2⟩ := boot_prims _ (mem_of_lk h1)
        exact snd_prim cx.calm cx.hu pr b2 (primAt cx hg hd hb b1) k1 hs k2.2
      · obtain ⟨m1, m2⟩ := cx.glb.im nm pr h1
        unfold dunder at hd
        simp only [Bool.or_eq_false_iff] at hd
        exact snd_prim cx.calm cx.hu pr m2 ⟨cx.gl hg, .inr m1, hd.1.1⟩ k1 hs k2.2
  · cases h
theorem boot_isi' : bootBuiltins "isinstance" = some (.builtin "isinstance") := by decide +kernel
theorem boot_sorted' : bootBuiltins "sorted" = some (.builtin "sorted") := by decide +kernel
theorem room_le {j i : Nat} {A : Around} (r : Room (j + i) A) : Room j A := r.mono (Nat.le_add_right _ _)
theorem trRng_snd (cx : Cxt t Tb k C md g q X) {f : Expr → Option E} (hf : SndF X Tb C f) {nm : Str} {args : List Expr} {p pos : Pos} {x : E} (hg : isGl q.sc nm = true) (h : trRng t q f nm args = some x) : PE X (.Call (.Name nm p) args [] pos) (tOf X.K Tb (ev C x)) := by
  unfold trRng at h
  split at h
  · split at h
    · rename_i rn rp a ip hc
      simp only [Bool.and_eq_true, Bool.or_eq_true, Bool.not_eq_true'] at hc
      obtain ⟨⟨⟨⟨hn, hb⟩, hr⟩, hbr⟩, hs⟩ := hc
      obtain ⟨y, h1, rfl⟩ := Option.map_eq_some_iff.mp h
      obtain rfl := eq_of_beq hr
      exact snd_rng1 cx.calm (cx.gl hg) (cx.glb.bl nm hb) hn (cx.bl hbr).1 (cx.bl hbr).2 hs (hf a y h1).1
    · cases h
  · split at h
    · rename_i rn rp a b ip hc
      simp only [Bool.and_eq_true, Bool.or_eq_true, Bool.not_eq_true'] at hc
      obtain ⟨⟨⟨⟨⟨hn, hb⟩, hr⟩, hbr⟩, hs⟩, hs2⟩ := hc
      obtain rfl := eq_of_beq hr
      split at h
      · rename_i y z h1 h2
        cases h
        exact snd_rng2 cx.calm (cx.gl hg) (cx.glb.bl nm hb) hn (cx.bl hbr).1 (cx.bl hbr).2 hs hs2 (hf a y h1).1 (hf b z h2).1
      · cases h
    · cases h
  · cases h
theorem trCall_snd (cx : Cxt t Tb k C md g q X) (hR : SndR t Tb k C R) {nm : Str} {args : List Expr} {p pos : Pos} {x : E} (h : trCall t R md g q nm args = some x) : PE X (.Call (.Name nm p) args [] pos) (tOf X.K Tb (ev C x)) := by
  have hf := hR md g q X cx
  unfold trCall at h
  split at h
  · cases h
  · rename_i i n hgd hl
    rw [Bool.and_eq_true, Bool.not_eq_true'] at hgd
    have hd := hgd.2
    unfold dunder at hd
    simp only [Bool.or_eq_false_iff] at hd
    split at h
    · rename_i hn
      obtain ⟨a, h1, rfl⟩ := Option.map_eq_some_iff.mp h
      obtain ⟨k1, k2⟩ := trL_snd hf h1
      have F := cx.glb.fs nm i n hl
      cases args with
      | nil =>
        cases h1
        have hn : n = 0 := hn.symm
        subst hn
        exact snd_call0 F (room_le cx.room) (cx.gl hgd.1) hd.1.1
      | cons e es =>
        rw [List.all_cons, Bool.and_eq_true] at k2
        exact snd_call F (room_le cx.room) (cx.gl hgd.1) hd.1.1 k1 (by simpa using k2.1) k2.2 hn.symm fun env st l st' hl => trL_len h1 hl
    · cases h
  · rename_i hgd hl
    rw [Bool.and_eq_true, Bool.not_eq_true'] at hgd
    split at h
    · rename_i e hr
      cases h
      exact trRng_snd cx hf hgd.1 hr
    rename_i hrn
    clear hrn
    split at h
    · cases h
    · rename_i elt gs scope gpos
      split at h
      · rename_i hb
        split at h
        · rename_i e
          have e := eq_of_beq e
          exact trGen_snd cx hR (al := true) (primAt cx hgd.1 hgd.2 hb (by rw [e]; exact boot_all')) h
        · split at h
          · rename_i e
            have e := eq_of_beq e
            exact trGen_snd cx hR (al := false) (primAt cx hgd.1 hgd.2 hb (by rw [e]; exact boot_any')) h
          · cases h
      · cases h
    · rename_i e c cp
      split at h
      · rename_i hi
        rw [Bool.and_eq_true] at hi
        have e0 := eq_of_beq hi.1
        split at h
        · rename_i a i h1 h2 h3
          cases h
          exact snd_isi (primAt cx hgd.1 hgd.2 hi.2 (by rw [e0]; exact boot_isi')) (trCls_ok cx h3) (hf e a h2).1 h1
        · cases h
      · exact trPrim_snd cx hf hgd.1 hgd.2 (by simp) h
    · rename_i e cs kt cp
      split at h
      · rename_i hi
        rw [Bool.and_eq_true] at hi
        have e0 := eq_of_beq hi.1
        split at h
        · rename_i a l h1 h2 h3
          split at h
          · rename_i hl30
            cases h
            exact snd_isiT (primAt cx hgd.1 hgd.2 hi.2 (by rw [e0]; exact boot_isi')) (trClss_ok cx h3) hl30 (hf e a h2).1 h1
          · cases h
        · cases h
      · cases h
    · rename_i hne _ _ _
      exact trPrim_snd cx hf hgd.1 hgd.2 (fun z => by subst z; simp_all) h
end
end Mp
end
section
set_option Elab.async false
set_option linter.all false
set_option maxRecDepth 100000
set_option maxHeartbeats 2000000
/-! The translation is sound: all expressions. -/
namespace Mp
open PySem PySem.Spec L2 PyProof.Rows
section
variable {t : Tx} {Tb : List (Addr × Option Str)} {k md g : Nat} {C : CallF} {q : Sc} {X : Cx} {R : Rec}
theorem trCmp_op (o : CmpOp) : (trCmp o).op = o := by cases o <;> rfl
theorem trBin_op {o : Operator} {b : Bin} (h : trBin o = some b) : b.op = o := by
  cases o <;> first
    | (cases h; rfl)
    | cases h
/-- and, or -/
theorem pw_one_and {a : Expr} {pos : Pos} {tA : TT} (h : PT X a tA) : PW X (.BoolOp .And [a] pos) tA := pw_and1 h
theorem trBool_snd (op : BoolOp) (kk : E → E → E) (hk : (op = .And ∧ kk = E.and) ∨ (op = .Or ∧ kk = E.or)) {f : Expr → Option E} (hf : SndF X Tb C f) {pos : Pos} : ∀ {es : List Expr} {x : E}, trBool f kk es = some x →
    PE X (.BoolOp op es pos) (tOf X.K Tb (ev C x)) ∧ PW X (.BoolOp op es pos) (tOfB X.K Tb fun env => bnd (ev C x env) truth)
  | [], x, h => by cases h
  | [a], x, h => by
    unfold trBool at h
    split at h
    · rename_i ht
      obtain ⟨k1, k2⟩ := hf a x h
      rcases hk with ⟨rfl, rfl⟩ | ⟨rfl, rfl⟩
      · exact ⟨⟨fun pins s σ H Q I hw => k1.run pins s σ H Q I hw⟩, pw_and1 (k2 ht)⟩
      · exact ⟨⟨fun pins s σ H Q I hw => k1.run pins s σ H Q I hw⟩, pw_or1 (k2 ht)⟩
    · cases h
  | a :: b :: r, x, h => by
    unfold trBool at h
    split at h
    · rename_i x1 y1 h1 h2 h3
      cases h
      obtain ⟨k1, k2⟩ := hf a x1 h2
      obtain ⟨k3, k4⟩ := trBool_snd op kk hk hf (pos := pos) h3
      rcases hk with ⟨rfl, rfl⟩ | ⟨rfl, rfl⟩
      · exact ⟨snd_and k1 k3, tst_and (k2 h1) k4⟩
      · exact ⟨snd_or k1 k3, tst_or (k2 h1) k4⟩
    · cases h
theorem trPart_snd {f : Expr → Option E} (hf : SndF X Tb C f) {o : Option Expr} {b : Bool} {x : E} (h : trPart f o = some (b, x)) : PartOk X Tb C o b x := by
  cases o with
  | none => cases h; exact ⟨rfl, rfl⟩
  | some e =>
    simp only [trPart] at h
    obtain ⟨y, h1, h2⟩ := Option.map_eq_some_iff.mp h
    cases h2
    exact ⟨rfl, (hf e _ h1).1⟩
theorem plainIx_is {e : Expr} (h : plainIx e = true) : PlainIx e := by
  intro o i
  cases e <;> first
    | rfl
    | cases h
theorem keyC_ok {params : Arguments} {body : Expr} {scope : Scope} (h : keyC params body scope = true) : KeyLam params body scope := by
  unfold keyC at h
  split at h
  · rename_i x p0 l p1 y p2 p3 z p4 kk p5
    simp only [Bool.and_eq_true, beq_iff_eq, Bool.not_eq_true', decide_eq_true_eq, List.all_eq_true, bne_iff_ne] at h
    obtain ⟨⟨⟨⟨⟨⟨⟨⟨⟨h1, h2⟩, h3⟩, h4⟩, h5⟩, h6⟩, h7⟩, h8⟩, h9⟩, h10⟩ := h
    subst h1 h2 h3
    exact ⟨⟨x, p0, p1, p2, p3, p4, p5, kk, rfl, rfl, isLocal_is h4, by simpa using h5⟩, h6, h7, h8, isGl_is h9, fun y hy => h10 y hy⟩
  · cases h
theorem PE.cst {e : Expr} {d : D} {v : V} (h : PE X e (tC v)) (r : ∀ K α G, Rep K α G d v) (he : ∀ whole, PySem.isTrue e X.env whole = (do let v ← whole; standAt e.pos; holding [v] (truthy v))) : SndE X Tb C e (.con d) := leaf (snd_con h r) he
theorem trE_snd (t : Tx) (Tb : List (Addr × Option Str)) (k : Nat) (C : CallF) : ∀ n, SndR t Tb k C (trE t n) := by
  intro n
  induction n with
  | zero => intro md g q X cx e x h; cases h
  | succ n ih =>
    intro md g q X cx e x h
    have hf := ih md g q X cx
    cases e with
    | Name nm pos =>
      simp only [trE] at h
      split at h
      · cases h
      · rename_i hd
        have hd : dunder nm = false := by simpa using hd
        unfold dunder at hd
        simp only [Bool.or_eq_false_iff] at hd
        split at h
        · rename_i hv
          obtain ⟨i, h1, rfl⟩ := Option.map_eq_some_iff.mp h
          exact leaf (snd_var (by rw [cx.N]; exact slot_ok h1) (by rw [cx.sc]; exact isVis_is hv) hd.1.1 hd.1.2) fun _ => rfl
        · split at h
          · rename_i hg
            obtain ⟨d, h1, rfl⟩ := Option.map_eq_some_iff.mp h
            obtain ⟨u, v, m1, m2, m3⟩ := cx.glb.cs nm d h1
            exact PE.cst (pe_glob (cx.gl hg) m1 m2 hd.1.1) m3 fun _ => rfl
          · cases h
    | Constant c kk pos =>
      simp only [trE] at h
      obtain ⟨d, h1, rfl⟩ := Option.map_eq_some_iff.mp h
      cases c with
      | none => cases h1; exact PE.cst (v := .non) pe_non (fun _ _ _ => rfl) fun _ => rfl
      | bool b => cases h1; exact PE.cst (v := .bl b) pe_bl (fun _ _ _ => rfl) fun _ => rfl
      | int i => cases h1; exact PE.cst (v := .int i) pe_int (fun _ _ _ => rfl) fun _ => rfl
      | str s => cases h1; exact PE.cst (v := .str s) pe_str (fun _ _ _ => rfl) fun _ => rfl
      | _ => cases h1
    | Tuple es kk pos =>
      simp only [trE] at h
      obtain ⟨a, h1, rfl⟩ := Option.map_eq_some_iff.mp h
      exact leaf (snd_tup (trL_snd hf h1).1) fun _ => rfl
    | List es pos =>
      simp only [trE] at h
      obtain ⟨a, h1, rfl⟩ := Option.map_eq_some_iff.mp h
      exact leaf (snd_lst (trL_snd hf h1).1) fun _ => rfl
    | BinOp l op r pos =>
      simp only [trE] at h
      split at h
      · rename_i o a b h1 h2 h3
        cases h
        rw [← trBin_op h1]
        exact leaf (snd_bin o (hf l a h2).1 (hf r b h3).1) fun _ => rfl
      · cases h
    | UnaryOp op y pos =>
      cases op with
      | USub =>
        simp only [trE] at h
        obtain ⟨a, h1, rfl⟩ := Option.map_eq_some_iff.mp h
        exact leaf (snd_neg (hf y a h1).1) fun _ => rfl
      | Not =>
        simp only [trE] at h
        split at h
        · rename_i ht
          obtain ⟨a, h1, rfl⟩ := Option.map_eq_some_iff.mp h
          exact ⟨snd_not (hf y a h1).1, fun _ => tst_not ((hf y a h1).2 ht)⟩
        · cases h
      | _ => cases h
    | BoolOp op es pos =>
      cases op with
      | And =>
        simp only [trE] at h
        obtain ⟨k1, k2⟩ := trBool_snd .And .and (.inl ⟨rfl, rfl⟩) hf (pos := pos) h
        exact ⟨k1, fun _ => ⟨fun pins s σ H Q I hw => k2.run _ pins s σ H Q I hw⟩⟩
      | Or =>
        simp only [trE] at h
        obtain ⟨k1, k2⟩ := trBool_snd .Or .or (.inr ⟨rfl, rfl⟩) hf (pos := pos) h
        exact ⟨k1, fun _ => ⟨fun pins s σ H Q I hw => k2.run _ pins s σ H Q I hw⟩⟩
    | Compare l ops rs pos =>
      simp only [trE] at h
      split at h
      · rename_i o r
        split at h
        · rename_i a b h1 h2 h3
          cases h
          have k1 := snd_cmp (pos := pos) cx.hu (trCmp o) (not_set_marks h1) (hf l a h2).1 (hf r b h3).1
          have k2 := tst_cmp (pos := pos) cx.hu (trCmp o) (not_set_marks h1) (hf l a h2).1 (hf r b h3).1
          rw [trCmp_op] at k1 k2
          exact ⟨k1, fun _ => k2⟩
        · cases h
      · rename_i o p r r2
        split at h
        · rename_i a b c h1 h2 h3 h4
          cases h
          have k1 := snd_chain (pos := pos) cx.hu (trCmp o) (trCmp p) (not_set_marks h1) (hf l a h2).1 (hf r b h3).1 (hf r2 c h4).1
          have k2 := tst_chain (pos := pos) cx.hu (trCmp o) (trCmp p) (not_set_marks h1) (hf l a h2).1 (hf r b h3).1 (hf r2 c h4).1
          rw [trCmp_op, trCmp_op] at k1 k2
          exact ⟨k1, fun _ => k2⟩
        · cases h
      · cases h
    | IfExp c a b pos =>
      simp only [trE] at h
      split at h
      · rename_i x1 x2 x3 h1 h2 h3 h4
        cases h
        exact ⟨snd_ite ((hf c x1 h2).2 h1) (hf a x2 h3).1 (hf b x3 h4).1, fun z => by cases z⟩
      · cases h
    | Call fe args kws pos =>
      simp only [trE] at h
      split at h
      · rename_i nm p
        exact leaf (trCall_snd cx ih h) fun _ => rfl
      · rename_i nm p kn params body lsc lp kp
        split at h
        · rename_i e1
          split at h
          · rename_i hc
            simp only [Bool.and_eq_true, beq_iff_eq, decide_eq_true_eq, Bool.not_eq_true'] at hc
            obtain ⟨⟨⟨⟨⟨⟨h1, h2⟩, h3⟩, h4⟩, h5⟩, h6⟩, h7⟩ := hc
            subst h1 h2 h3
            obtain ⟨a, ha, rfl⟩ := Option.map_eq_some_iff.mp h
            obtain ⟨cd, P, hcode, TB, hP, hq⟩ := cx.cod
            obtain ⟨b1, b2⟩ := cx.bl h4
            refine leaf (snd_sortLen cx.hu (by have := cx.room.dp; omega) ⟨TB.code, TB.bm, TB.gP⟩ hcode hP hq ⟨b1, .inl ⟨b2, boot_sorted', by decide⟩, by decide⟩ (cx.glb.bl _ h5) (keyC_ok h7) h6 (hf e1 a ha).1) fun _ => rfl
          · cases h
        · cases h
      · rename_i o an apos
        split at h
        · rename_i e1
          split at h
          · rename_i hc
            simp only [Bool.and_eq_true, beq_iff_eq, Bool.not_eq_true'] at hc
            obtain ⟨⟨⟨h1, h2⟩, h3⟩, h4⟩ := hc
            subst h1
            split at h
            · rename_i x1 y1 h5 h6
              cases h
              refine leaf (snd_app (hf o x1 h5).1 (hf e1 y1 h6).1 h4 ?_ (by simpa using h3)) fun _ => rfl
              cases o <;> first
                | rfl
                | cases h2
            · cases h
          · cases h
        · cases h
      · cases h
    | Subscript a ix pos =>
      simp only [trE] at h
      split at h
      · rename_i lo hi p2
        split at h
        · rename_i x1 bl l bh hx h1 h2 h3
          cases h
          exact leaf (snd_slice (hf a x1 h1).1 (trPart_snd hf h2) (trPart_snd hf h3)) fun _ => rfl
        · cases h
      · split at h
        · rename_i hp
          split at h
          · rename_i x1 x2 h1 h2
            cases h
            exact leaf (snd_idx (plainIx_is hp) (hf a x1 h1).1 (hf ix x2 h2).1) fun _ => rfl
          · cases h
        · cases h
    | ListComp elt gs scope pos =>
      simp only [trE] at h
      exact leaf (trComp_snd cx ih h).1 fun _ => rfl
    | _ => cases h
end
end Mp
end
section
set_option Elab.async false
set_option linter.all false
set_option maxRecDepth 100000
set_option maxHeartbeats 2000000
/-! The translation of statements, and that it is sound. -/
namespace Mp
open PySem PySem.Spec L2 PyProof.Rows
def isComp : Expr → Bool
  | .ListComp _ _ _ _ => true
  | .SetComp _ _ _ _ => true
  | .DictComp _ _ _ _ _ => true
  | _ => false
/-- names stored side by side, or by way of a tuple -/
def swp (sc : Scope) (ts vs : List Expr) : Option (Option (List Str)) :=
  if (!(ts.length == 2 || ts.length == 3) || vs.length != ts.length) = true then some none
  else if (vs.any isStar) = true then some none
  else
    let line := (Option.map (fun x => x.pos.line) ts.head?).getD 0
    let names := List.filterMap (fun x => match x with
      | Expr.Name id pos => if (sc.names.lookup id == some NameKind.local && pos.line == line) = true then some id else none
      | _ => none) ts
    if (names.length != ts.length || names.eraseDups.length != names.length) = true then some none
    else if vs.all (foldedForSure 8) = true then some none
    else if vs.all (constantsAlone 8) = true then none
    else some (some names)
/-- a display on a name that will change -/
def trOwn (R : Expr → Option E) (ow : List Nat) (i : Nat) (e : Expr) : Option E := match ow.contains i, e with
  | true, .List es _ => (trL R es).map .newC
  | _, e => R e
def trOwns (R : Expr → Option E) (ow : List Nat) : List Nat → List Expr → Option E
  | [], [] => some .nil
  | i :: is, e :: es => match isStar e, trOwn R ow i e, trOwns R ow is es with
    | false, some a, some b => some (.cons a b)
    | _, _, _ => none
  | _, _ => none
def locals (sc : Scope) : List Expr → Bool
  | [] => true
  | .Name x _ :: r => isLocal sc x && locals sc r
  | _ => false
def trAsg (t : Tx) (ow : List Nat) (R : Rec) (md g : Nat) (q : Sc) (tg e : Expr) (pos : Pos) : Option S := match tg with
  | .Name x py => match trNm t q x with
    | none => none
    | some i => match e with
      | .ListComp elt gs scope lp =>
        if isLocal q.sc x then (if py.line == lp.line && !(scope.names.any fun (n, k) => n == x && (k == .local || k == .cell)) then (trComp t R md g q elt gs scope).map (.asg (.one i)) else none)
        else (trComp t R md g q elt gs scope).map (.asg (.one i))
      | e => if isComp e then none else (trOwn (R md g q) ow i e).map (.asg (.one i))
  | .Tuple ts kt pt => match e with
    | .Tuple vs k2 p2 => match swp q.sc ts vs with
      | some none => match trPat t q (.Tuple ts kt pt), R md g q (.Tuple vs k2 p2) with
        | some p, some x => some (.asg p x)
        | _, _ => none
      | some (some _) => match trNms t q ts with
        | some is => if decide is.Nodup && locals q.sc ts then (trOwns (R md g q) ow is vs).map (.par is) else none
        | none => none
      | none => none
    | e => if isComp e then none else match trPat t q (.Tuple ts kt pt), R md g q e with
      | some p, some x => some (.asg p x)
      | _, _ => none
  | .Subscript o i _ => if isComp e || isStar e || !plainIx i then none else match R md g q o, R md g q i, R md g q e with
    | some a, some b, some c => some (.setIdx a b c)
    | _, _, _ => none
  | _ => none
def trSs (f : Stmt → Option S) : List Stmt → Option S
  | [] => some .skip
  | [s] => f s
  | s :: r => match f s, trSs f r with
    | some a, some b => some (.seq a b)
    | _, _ => none
def trS (t : Tx) (ow : List Nat) (R : Rec) (md g : Nat) (q : Sc) : Nat → Stmt → Option S
  | 0, _ => none
  | n + 1, s => match s with
    | .Pass _ => some .skip
    | .Expr e _ => match e with
      | .Constant (.str _) _ _ => some .skip
      | e => if isComp e then none else (R md g q e).map .drop
    | .Assign tgs e pos => match tgs with
      | [tg] => trAsg t ow R md g q tg e pos
      | _ => none
    | .AugAssign tg op e _ => match tg, op with
      | .Name x _, .Add => match trNm t q x, R md g q e with
        | some i, some a => some (.aug i a)
        | _, _ => none
      | _, _ => none
    | .Return o _ => match o with
      | none => some (.ret (.con .non))
      | some e => (R md g q e).map .ret
    | .If c a b _ => match tOk c, R md g q c, trSs (trS t ow R md g q n) a, trSs (trS t ow R md g q n) b with
      | true, some c, some a, some b => some (.ite c a b)
      | _, _, _, _ => none
    | .For tg iter body els _ => match els with
      | [] => match trPat t q tg, trI t q (R md g q) tg iter, trSs (trS t ow R md g q n) body with
        | some p, some s, some b => some (.for_ p s b)
        | _, _, _ => none
      | _ => none
    | .While c body els _ => match els with
      | [] => match tOk c, R md g q c, trSs (trS t ow R md g q n) body with
        | true, some c, some b => some (.while_ c b)
        | _, _, _ => none
      | _ => none
    | .Raise _ _ _ => some .never
    | _ => none
section
variable {t : Tx} {Tb : List (Addr × Option Str)} {k md g : Nat} {C : CallF} {q : Sc} {X : Cx} {R : Rec} {ow : List Nat}
theorem sole_eq (tg e : Expr) (l : Nat) (env : PySem.Env) : swapsWithSole [tg] e l env = swapsWith e (some tg) l env := by
  unfold swapsWithSole
  rfl
theorem swaps_no {e : Expr} (h : isComp e = false) (tg : Option Expr) (l : Nat) (env : PySem.Env) : swapsWith e tg l env = pure false := by
  cases e <;> first
    | (cases h; done)
    | rfl
theorem sole_no {e : Expr} (h : isComp e = false) (tg : Expr) (l : Nat) (env : PySem.Env) : swapsWithSole [tg] e l env = pure false := (sole_eq tg e l env).trans (swaps_no h _ _ _)
theorem two_len {α : Type} : ∀ {l : List α}, l.length = 2 → ∃ a b, l = [a, b]
  | [a, b], _ => ⟨a, b, rfl⟩
theorem three_len {α : Type} : ∀ {l : List α}, l.length = 3 → ∃ a b c, l = [a, b, c]
  | [a, b, c], _ => ⟨a, b, c, rfl⟩
theorem swp_two {sc : Scope} {y z : Str} {py pz : Pos} {vs : List Expr} {nms : List Str} (hy : sc.names.lookup y = some .local) (hz : sc.names.lookup z = some .local) (h : swp sc [.Name y py, .Name z pz] vs = some (some nms)) : vs.length = 2 ∧ nms = [y, z] := by
  unfold swp at h
  split at h
  · cases h
  · rename_i h1
    split at h
    · cases h
    · have hv : vs.length = 2 := by simpa using h1
      refine ⟨hv, ?_⟩
      by_cases hl : (pz.line == py.line) = true
      · simp only [List.filterMap, hy, hz, List.head?, Option.map, Option.getD, Expr.pos, hl, beq_self_eq_true, Bool.and_self, if_true] at h
        repeat' split at h
        all_goals first
          | (cases h; done)
          | (cases h; rfl)
      · simp only [Bool.not_eq_true] at hl
        simp only [List.filterMap, hy, hz, List.head?, Option.map, Option.getD, Expr.pos, hl, beq_self_eq_true, Bool.and_self, if_true, Bool.and_false, Bool.false_eq_true, if_false, List.length] at h
        simp at h
theorem swp_three {sc : Scope} {y z u : Str} {py pz pu : Pos} {vs : List Expr} {nms : List Str} (hy : sc.names.lookup y = some .local) (hz : sc.names.lookup z = some .local) (hu : sc.names.lookup u = some .local) (h : swp sc [.Name y py, .Name z pz, .Name u pu] vs = some (some nms)) : vs.length = 3 ∧ nms = [y, z, u] := by
  unfold swp at h
  split at h
  · cases h
  · rename_i h1
    split at h
    · cases h
    · have hv : vs.length = 3 := by simpa using h1
      refine ⟨hv, ?_⟩
      by_cases hl : (pz.line == py.line) = true
      · by_cases hm : (pu.line == py.line) = true
        · simp only [List.filterMap, hy, hz, hu, List.head?, Option.map, Option.getD, Expr.pos, hl, hm, beq_self_eq_true, Bool.and_self, if_true] at h
          repeat' split at h
          all_goals first
            | (cases h; done)
            | (cases h; rfl)
        · simp only [Bool.not_eq_true] at hm
          simp only [List.filterMap, hy, hz, hu, List.head?, Option.map, Option.getD, Expr.pos, hl, hm, beq_self_eq_true, Bool.and_self, if_true, Bool.and_false, Bool.false_eq_true, if_false, List.length] at h
          simp at h
      · simp only [Bool.not_eq_true] at hl
        by_cases hm : (pu.line == py.line) = true
        · simp only [List.filterMap, hy, hz, hu, List.head?, Option.map, Option.getD, Expr.pos, hl, hm, beq_self_eq_true, Bool.and_self, if_true, Bool.and_false, Bool.false_eq_true, if_false, List.length] at h
          simp at h
        · simp only [Bool.not_eq_true] at hm
          simp only [List.filterMap, hy, hz, hu, List.head?, Option.map, Option.getD, Expr.pos, hl, hm, beq_self_eq_true, Bool.and_self, if_true, Bool.and_false, Bool.false_eq_true, if_false, List.length] at h
          simp at h
theorem swp_len {sc : Scope} {ts vs : List Expr} {nms : List Str} (h : swp sc ts vs = some (some nms)) : ts.length = 2 ∨ ts.length = 3 := by
  unfold swp at h
  split at h
  · cases h
  · rename_i h1
    simp only [Bool.or_eq_true, Bool.not_eq_true', not_or, bne_iff_ne, ne_eq, Decidable.not_not, beq_iff_eq, Bool.not_eq_false] at h1
    exact h1.1
theorem tup_no {tg e : Expr} (h : isTup e = false) (env : PySem.Env) : swappedStores [tg] e env = pure none := by
  cases e <;> first
    | (cases h; done)
    | (cases tg <;> rfl)
theorem nm_no {x : Str} {p : Pos} {e : Expr} {env : PySem.Env} : swappedStores [.Name x p] e env = pure none := by
  cases e <;> rfl
theorem sub_no {a b e : Expr} {p : Pos} {env : PySem.Env} : swappedStores [.Subscript a b p] e env = pure none := by
  cases e <;> rfl
theorem swp_ok {ts vs : List Expr} {kt k2 : Nat} {pt p2 : Pos} {r : Option (List Str)} {env : PySem.Env} (hk : env.scope.kind = .function) (h : swp env.scope ts vs = some r) : swappedStores [.Tuple ts kt pt] (.Tuple vs k2 p2) env = pure r := by
  have hb : env.blockKind = .function := by unfold Env.blockKind; rw [hk]; rfl
  unfold swappedStores
  simp only [hb, bne_self_eq_false, Bool.or_false]
  unfold swp at h
  by_cases h1 : (!(ts.length == 2 || ts.length == 3) || vs.length != ts.length) = true
  · rw [if_pos h1] at h
    cases h
    exact if_pos h1
  · rw [if_neg h1] at h
    rw [if_neg h1]
    by_cases h2 : (vs.any isStar) = true
    · rw [if_pos h2] at h
      cases h
      exact if_pos ((congrArg vs.any (funext fun x => by cases x <;> rfl)).trans h2)
    · rw [if_neg h2] at h
      refine (if_neg fun z => h2 ((congrArg vs.any (funext fun x => by cases x <;> rfl)).trans z)).trans ?_
      simp only at h
      split at h
      · rename_i h3
        cases h
        exact if_pos h3
      · rename_i h3
        refine (if_neg h3).trans ?_
        split at h
        · rename_i h4
          cases h
          exact if_pos h4
        · rename_i h4
          rw [if_neg h4]
          split at h
          · cases h
          · rename_i h5
            cases h
            exact if_neg h5
theorem asg_sub {o i : Expr} {sp : Pos} {env : PySem.Env} (h : plainIx i = true) (v : PySem.Value) : assign (.Subscript o i sp) env v = (do
      let ov ← holding [v] (eval o env)
      let iv ← holding [v, ov] (eval i env)
      standAt sp
      holding [v, ov, iv] (setItem ov iv v)
      release [v, ov, iv] []) := by
  refine (arm_assign_Subscript o i sp env v).trans ?_
  cases i <;> first
    | rfl
    | cases h
/-- sound: a statement -/
def SndS (X : Cx) (Tb : List (Addr × Option Str)) (C : CallF) (s : Stmt) (x : S) : Prop := PS X s (tEx X.K Tb (exec C x))
theorem trOwn_snd {f : Expr → Option E} (hf : SndF X Tb C f) {i : Nat} {e : Expr} {x : E} (h : trOwn f ow i e = some x) : PE X e (tOf X.K Tb (ev C x)) := by
  unfold trOwn at h
  split at h
  · obtain ⟨a, h1, rfl⟩ := Option.map_eq_some_iff.mp h
    exact snd_newC (trL_snd hf h1).1
  · exact (hf _ x h).1
theorem trOwns_snd {f : Expr → Option E} (hf : SndF X Tb C f) : ∀ {is : List Nat} {es : List Expr} {x : E}, trOwns f ow is es = some x → PA X es (tOfL X.K Tb fun env => bnd (ev C x env) listOf) ∧ is.length = es.length
  | [], [], x, h => by
    cases h
    exact ⟨snd_nil, rfl⟩
  | [], _ :: _, _, h => by cases h
  | _ :: _, [], _, h => by cases h
  | i :: is, e :: es, x, h => by
    unfold trOwns at h
    split at h
    · rename_i a b h1 h2 h3
      cases h
      obtain ⟨k1, k2⟩ := trOwns_snd hf h3
      exact ⟨snd_cons (isStar_ne h1) (trOwn_snd hf h2) k1, by rw [List.length_cons, List.length_cons, k2]⟩
    · cases h
theorem locals_is {sc : Scope} : ∀ {ts : List Expr}, locals sc ts = true → ∀ x ∈ ts, ∃ y p, x = .Name y p ∧ sc.names.lookup y = some .local
  | [], _, _, h => by cases h
  | e :: r, h, x, hx => by
    cases e with
    | Name y p =>
      simp only [locals, Bool.and_eq_true] at h
      rcases List.mem_cons.mp hx with rfl | hx
      · exact ⟨y, p, rfl, isLocal_is h.1⟩
      · exact locals_is h.2 x hx
    | _ => cases h
theorem trAsg_snd (cx : Cxt t Tb k C md g q X) (hkind : X.env.scope.kind = .function) (hR : SndR t Tb k C R) {tg e : Expr} {pos : Pos} {x : S} (h : trAsg t ow R md g q tg e pos = some x) : SndS X Tb C (.Assign [tg] e pos) x := by
  have hf := hR md g q X cx
  unfold trAsg at h
  split at h
  · rename_i nm py
    split at h
    · cases h
    · rename_i i hi
      have hnm := trNm_ok cx hi
      split at h
      · rename_i elt gs scope lp
        split at h
        · rename_i hloc
          split at h
          · rename_i hc
            rw [Bool.and_eq_true, Bool.not_eq_true'] at hc
            obtain ⟨a, h1, rfl⟩ := Option.map_eq_some_iff.mp h
            have hl : X.env.scope.names.lookup nm = some .local := by rw [cx.sc]; exact isLocal_is hloc
            exact (trComp_snd cx hR (pos := lp) h1).2 i nm py pos hnm.at_ hl (sw_true hkind hl (by simpa using hc.1) hc.2)
          · cases h
        · rename_i hloc
          obtain ⟨a, h1, rfl⟩ := Option.map_eq_some_iff.mp h
          refine snd_asg cx.calm cx.hN (p := .one i) hnm (trComp_snd cx hR h1).1 ?_ nm_no rfl
          have hl : (X.env.kindOf nm == some NameKind.local) = false := by
            show (X.env.scope.names.lookup nm == some NameKind.local) = false
            rw [cx.sc]
            simpa [isLocal] using hloc
          refine (sole_eq _ _ _ _).trans ?_
          unfold swapsWith
          simp only [hl, Bool.and_false, Bool.false_and]
      · split at h
        · cases h
        · rename_i hcomp
          obtain ⟨a, h1, rfl⟩ := Option.map_eq_some_iff.mp h
          exact snd_asg cx.calm cx.hN (p := .one i) hnm (trOwn_snd hf h1) (sole_no (by simpa using hcomp) _ _ _) nm_no rfl
  · rename_i ts kt pt
    split at h
    · rename_i vs k2 p2
      split at h
      · rename_i hs
        split at h
        · rename_i p a h1 h2
          cases h
          refine snd_asg cx.calm cx.hN (trPat_ok cx h1) (hf _ a h2).1 rfl (swp_ok hkind (by rw [cx.sc]; exact hs)) rfl
        · cases h
      · rename_i nms hs
        split at h
        · rename_i is h1
          split at h
          · rename_i hc
            rw [Bool.and_eq_true, decide_eq_true_eq] at hc
            obtain ⟨a, h2, rfl⟩ := Option.map_eq_some_iff.mp h
            obtain ⟨k1, k2'⟩ := trOwns_snd hf h2
            have hsw := swp_ok (kt := kt) (k2 := k2) (pt := pt) (p2 := p2) hkind (r := some nms) (by rw [cx.sc]; exact hs)
            have hnms := trNms_ok cx h1
            have hscn : X.env.scope.names = q.sc.names := by rw [cx.sc]
            have hloc := locals_is hc.2
            have e0 : ∀ (y : Str) (p : Pos), trNms t q [.Name y p] = (trNm t q y).map (fun i => [i]) := fun y p => by
              simp only [trNms]
              cases trNm t q y <;> rfl
            rcases swp_len hs with hl | hl
            · obtain ⟨b1, b2, rfl⟩ := two_len hl
              obtain ⟨y, py, rfl, hy⟩ := hloc b1 (by simp)
              obtain ⟨z, pz, rfl, hz⟩ := hloc b2 (by simp)
              obtain ⟨hv, rfl⟩ := swp_two hy hz hs
              obtain ⟨ea, eb, rfl⟩ := two_len hv
              rw [trNms, e0] at h1
              cases q1 : trNm t q y with
              | none => rw [q1] at h1; cases h1
              | some i =>
                cases q2 : trNm t q z with
                | none => rw [q1, q2] at h1; cases h1
                | some j =>
                  rw [q1, q2] at h1
                  cases h1
                  have hij : i ≠ j := by simpa using hc.1
                  exact snd_par2 cx.calm cx.hN (trNm_ok cx q1).at_ (trNm_ok cx q2).at_ hij (by rw [hscn]; exact hy) (by rw [hscn]; exact hz) k1 hsw ((sole_no rfl _ _ _))
            · obtain ⟨b1, b2, b3, rfl⟩ := three_len hl
              obtain ⟨y, py, rfl, hy⟩ := hloc b1 (by simp)
              obtain ⟨z, pz, rfl, hz⟩ := hloc b2 (by simp)
              obtain ⟨u, pu, rfl, hu⟩ := hloc b3 (by simp)
              obtain ⟨hv, rfl⟩ := swp_three hy hz hu hs
              obtain ⟨ea, eb, ec, rfl⟩ := three_len hv
              rw [trNms, trNms, e0] at h1
              cases q1 : trNm t q y with
              | none => rw [q1] at h1; cases h1
              | some i =>
                cases q2 : trNm t q z with
                | none => rw [q1, q2] at h1; cases h1
                | some j =>
                  cases q3 : trNm t q u with
                  | none => rw [q1, q2, q3] at h1; cases h1
                  | some l =>
                    rw [q1, q2, q3] at h1
                    cases h1
                    have hn : ¬(i = j ∨ i = l) ∧ ¬j = l := by simpa using hc.1
                    exact snd_par3 cx.calm cx.hN (trNm_ok cx q1).at_ (trNm_ok cx q2).at_ (trNm_ok cx q3).at_ (fun z => hn.1 (.inl z)) (fun z => hn.1 (.inr z)) hn.2 (by rw [hscn]; exact hy) (by rw [hscn]; exact hz) (by rw [hscn]; exact hu) k1 hsw ((sole_no rfl _ _ _))
          · cases h
        · cases h
      · cases h
    · split at h
      · cases h
      · rename_i hcomp
        split at h
        · rename_i p a h1 h2
          cases h
          exact snd_asg cx.calm cx.hN (trPat_ok cx h1) (hf _ a h2).1 (sole_no (by simpa using hcomp) _ _ _) (tup_no (by
            cases e <;> first
              | rfl
              | simp_all) _) rfl
        · cases h
  · rename_i o i sp
    split at h
    · cases h
    · rename_i hc
      simp only [Bool.or_eq_true, not_or, Bool.not_eq_true', Bool.not_eq_true] at hc
      split at h
      · rename_i a b c h1 h2 h3
        cases h
        exact snd_setIdx (hf o a h1).1 (hf i b h2).1 (hf e c h3).1 (sole_no hc.1.1 _ _ _) sub_no rfl (fun v => asg_sub (by simpa using hc.2) v)
      · cases h
  · cases h
end
end Mp
end
section
set_option Elab.async false
set_option linter.all false
set_option maxRecDepth 100000
set_option maxHeartbeats 2000000
/-! Every statement that is translated is sound. -/
namespace Mp
open PySem PySem.Spec L2 PyProof.Rows
section
variable {t : Tx} {Tb : List (Addr × Option Str)} {k md g : Nat} {C : CallF} {q : Sc} {X : Cx} {R : Rec} {ow : List Nat}
theorem snd_aug {i : Nat} {x : Str} {e : Expr} {y : E} {pos pos' : Pos} (hN : X.N.Nodup) (hi : X.N[i]? = some x) (hx : Loc X.env.scope x) (hf : X.fn x = true ∨ X.env.scope.names.lookup x = some .local) (he : PE X e (tOf X.K Tb (ev C y))) : PS X (.AugAssign (.Name x pos') .Add e pos) (tEx X.K Tb (exec C (.aug i y))) := by
  refine PS.by fun Dn σ H h => ⟨_, ps_aug hN hi hx he ip_add hf, ?_⟩
  obtain ⟨β, α, st, env, o, en, h⟩ := h
  simp only [exec] at h
  split at h
  · rename_i a ha
    obtain ⟨v, hv, rv⟩ := en.2 i _ ha
    cases rv
    refine ⟨_, hv, ?_⟩
    have h' : tEx X.K Tb (fun env st => run' (ev C y env) st fun d st => match d with
      | .int b => .next (env.set i (some (.int (a + b)))) st
      | _ => .bad) Dn σ H := tEx_mk o en h
    refine tOf.imp (run_E (m := ev C y) (f := fun env d st => match d with
      | .int b => .next (env.set i (some (.int (a + b)))) st
      | _ => .bad) h') fun v H1 ⟨β, α, st, env, d, o, en, r, hO⟩ => ?_
    cases d with
    | int b =>
      cases r
      exact ⟨_, _, rfl, rfl, hO.here o (en.set i rfl)⟩
    | _ => exact hO.elim
  · exact h.elim
theorem trSs_snd {f : Stmt → Option S} (hf : ∀ s x, f s = some x → SndS X Tb C s x) : ∀ {l : List Stmt} {x : S}, trSs f l = some x → PSs X l (tEx X.K Tb (exec C x))
  | [], x, h => by
    cases h
    exact snd_snil
  | [s], x, h => snd_sone (hf s x h)
  | s :: s2 :: r, x, h => by
    unfold trSs at h
    split at h
    · rename_i a b h1 h2
      cases h
      exact snd_scons (hf s a h1) (trSs_snd hf h2)
    · cases h
theorem trS_snd (cx : Cxt t Tb k C md g q X) (hxe : X.xe = fun _ _ => False) (hkind : X.env.scope.kind = .function) (hR : SndR t Tb k C R) : ∀ n s x, trS t ow R md g q n s = some x → SndS X Tb C s x := by
  intro n
  have hf := hR md g q X cx
  induction n with
  | zero => intro s x h; cases h
  | succ n ih =>
    intro s x h
    cases s with
    | Pass pos =>
      simp only [trS] at h
      cases h
      exact snd_skip ps_pass
    | Expr e pos =>
      simp only [trS] at h
      split at h
      · cases h
        exact snd_skip ps_doc
      · split at h
        · cases h
        · rename_i hc
          obtain ⟨a, h1, rfl⟩ := Option.map_eq_some_iff.mp h
          exact snd_drop (hf e a h1).1 (swaps_no (by simpa using hc) _ _ _)
    | Assign tgs e pos =>
      simp only [trS] at h
      split at h
      · exact trAsg_snd cx hkind hR h
      · cases h
    | AugAssign tg op e pos =>
      simp only [trS] at h
      split at h
      · rename_i nm py
        split at h
        · rename_i i a h1 h2
          cases h
          have hn := trNm_ok cx h1
          exact snd_aug cx.hN hn.at_ hn.loc hn.fn (hf e a h2).1
        · cases h
      · cases h
    | Return o pos =>
      simp only [trS] at h
      split at h
      · cases h
        exact snd_retN
      · obtain ⟨a, h1, rfl⟩ := Option.map_eq_some_iff.mp h
        exact snd_ret (hf _ a h1).1
    | If c a b pos =>
      simp only [trS] at h
      split at h
      · rename_i y u v h0 h1 h2 h3
        cases h
        exact snd_if ((hf c y h1).2 h0) (trSs_snd ih h2) (trSs_snd ih h3)
      · cases h
    | For tg iter body els pos =>
      simp only [trS] at h
      split at h
      · split at h
        · rename_i p s b h1 h2 h3
          cases h
          exact snd_for hxe cx.calm cx.hN (trPat_ok cx h1) (trI_snd cx hf h2) (trSs_snd ih h3) (not_set_fold (trI_set h2) _)
        · cases h
      · cases h
    | While c body els pos =>
      simp only [trS] at h
      split at h
      · split at h
        · rename_i y b h0 h1 h2
          cases h
          exact snd_while hxe ((hf c y h1).2 h0) (trSs_snd ih h2)
        · cases h
      · cases h
    | Raise a b pos =>
      simp only [trS] at h
      cases h
      exact snd_never
    | _ => cases h
end
end Mp
end
section
set_option Elab.async false
set_option linter.all false
set_option maxRecDepth 100000
set_option maxHeartbeats 2000000
/-! Defs, and what their runs answer. -/
namespace Mp
open PySem PySem.Spec L2 PyProof.Rows
/-- a def of the text: its name, its text, its slots, how many parameters, its mode, the slots whose displays change -/
structure Dd where
  x : Str
  st : Stmt
  N : List Str
  np : Nat
  md : Nat
  ow : List Nat
def Tx.at (t : Tx) (N : List Str) : Tx := { t with N := N }
def trDef (t : Tx) (g fuel : Nat) (d : Dd) : Option FD := (trSs (trS (t.at d.N) d.ow (trE (t.at d.N) fuel) d.md g ⟨defScope d.st, fun _ => true⟩ fuel) (defBody d.st)).map fun b => ⟨d.np, d.N.length, b⟩
/-- the code's table, by its value -/
def CodV (base : Heap) (mg : Str → Option Value) (Tb : List (Addr × Option Str)) (qual : Str) (cdv : Value) (md : Nat) : Prop := match md with
  | 1 => ∃ c P, cdv = .ref c ∧ GxR.TabB base mg c P ∧ (P, none) ∈ Tb ∧ ∀ q, (P, some q) ∉ Tb
  | 2 => ∃ c P, cdv = .ref c ∧ GxR.TabB base mg c P ∧ (P, some (qual ++ "<lambda>")) ∈ Tb ∧ ∀ z, (P, z) ∈ Tb → z = some (qual ++ "<lambda>")
  | _ => True
/-- a def as the top has left it -/
structure DdOk (K : PySem.W.Frag) (mg : Str → Option Value) (t : Tx) (T : List FD) (g fuel : Nat) (d : Dd) (i : Nat) (f : Addr) (cdv : Value) : Prop where
  at_ : ∃ (oc : Value) (od : Option Addr) (kV doc pm : Value) (an : Option Addr) (ct : Value) (osl : Array (Option Value)),
    K.lookup f = some ⟨oc, od, .func (PySem.W.fnOf d.x d.x (defArgs d.st) (defBody d.st) (defScope d.st) .none kV doc pm an cdv ct), osl⟩ ∧
      Binds K (PySem.W.fnOf d.x d.x (defArgs d.st) (defBody d.st) (defScope d.st) .none kV doc pm an cdv ct) (d.N.take d.np) []
  mgf : mg d.x = some (.ref f)
  kp : PySem.W.keepIn K (.ref f) = true
  cd : PySem.W.codeIn K cdv d.x = true
  sc : FnScope d.N (d.N.take d.np) (defScope d.st)
  np : d.np ≤ d.N.length
  tr : trDef t g fuel d = T[i]?
  has : i < T.length
section
variable {P : Program} {w : World} {K : PySem.W.Frag} {mg : Str → Option Value} {base : Heap} {t : Tx} {Tb : List (Addr × Option Str)} {T : List FD} {g fuel k : Nat}
theorem Glb.at_ {N : List Str} {C : CallF} (h : Glb P w K mg base t Tb k C) : Glb P w K mg base (t.at N) Tb k C := ⟨h.fs, h.cs, h.bl, h.im⟩
theorem nd_take {l : List Str} {n : Nat} (h : n ≤ l.length) : (l.take n).length = n := by
  rw [List.length_take]
  exact Nat.min_eq_left h
theorem codV_is {X : Cx} : ∀ {md : Nat}, CodV X.base X.mg Tb X.env.qual X.env.code md → Cod X Tb md
  | 0, _ => trivial
  | 1, h => h
  | 2, h => h
  | _ + 3, _ => trivial
theorem cod_of {X : Cx} {base : Heap} {mg : Str → Option Value} {qual : Str} {cdv : Value} {md : Nat} (h1 : X.base = base) (h2 : X.mg = mg) (h3 : X.env.qual = qual) (h4 : X.env.code = cdv) (h : CodV base mg Tb qual cdv md) : Cod X Tb md := by
  subst h1 h2 h3 h4
  exact codV_is h
theorem def_ok {d : Dd} {i : Nat} {f : Addr} {cdv : Value} {n : Nat} {oc kV doc pm ct : Value} {od an : Option Addr} {osl : Array (Option Value)} (D : DdOk K mg t T g fuel d i f cdv) (lk : K.lookup f = some ⟨oc, od, .func (PySem.W.fnOf d.x d.x (defArgs d.st) (defBody d.st) (defScope d.st) .none kV doc pm an cdv ct), osl⟩) (hcod : CodV base mg Tb (d.x ++ ".<locals>.") cdv d.md) (G : Glb P w K mg base t Tb k (run T n)) :
    FnOk P w K mg base CX0 (k + g + 1) f (PySem.W.fnOf d.x d.x (defArgs d.st) (defBody d.st) (defScope d.st) .none kV doc pm an cdv ct) (d.N.take d.np) (spOf K Tb (run T (n + 1) i) d.np) := by
  have htr := D.tr
  rw [List.getElem?_eq_getElem D.has] at htr
  unfold trDef at htr
  obtain ⟨b, h1, h2⟩ := Option.map_eq_some_iff.mp htr
  refine fn_of (CX := CX0) lk D.cd D.sc (fun vs H Q E h => ?_) (fun A outer s H vs Q E hr h => ?_)
  · obtain ⟨β, α, st, l, hl, o, r, h⟩ := h
    rw [nd_take D.np, ← hl]
    first
      | exact r.length
      | exact r.length.symm
  · obtain ⟨β, α, st, l, hl, o, r, h⟩ := h
    have cx : Cxt (t.at d.N) Tb k (run T n) d.md g ⟨defScope d.st, fun _ => true⟩ (cxOf CX0 P w K mg base d.N d.x (defScope d.st) f cdv A outer s H E).nox := by
      refine ⟨G.at_, rfl, D.sc.nd, rfl, rfl, rfl, hr, ?_⟩
      exact cod_of (base := base) (mg := mg) (qual := d.x ++ ".<locals>.") (cdv := cdv) rfl rfl rfl rfl hcod
    have hbody := trSs_snd (trS_snd (ow := d.ow) cx rfl D.sc.kind (trE_snd (t.at d.N) Tb k (run T n) fuel) fuel) h1
    refine ⟨_, hbody.nox, ?_⟩
    have hrun : run T (n + 1) i l = callB (run T n) (T[i]'D.has) l := by
      simp only [run, List.getElem?_eq_getElem D.has]
    rw [hrun, ← h2] at h
    have hlen : l.length ≤ d.N.length := by rw [hl]; exact D.np
    have en := start_env (N := d.N) (ns := d.N.length) r rfl hlen
    refine tEx_mk (n := (L2.start d.N vs).length) o en ?_
    unfold callB at h
    simp only [hl, decide_true] at h
    rw [hl]
    cases q : exec (run T n) b (l.map some ++ List.replicate (d.N.length - d.np) none) st with
    | next env' st' =>
      rw [q] at h
      intro σ' α' H' s' o' e'
      exact sat_leave o o' s' (d := .non) (v := .non) rfl h
    | ret x st' =>
      rw [q] at h
      intro v α' H' s' o' r'
      exact sat_leave o o' s' r' h
    | bad =>
      rw [q] at h
      exact h
theorem def_sound {d : Dd} {i : Nat} {f : Addr} {cdv : Value} {n : Nat} (D : DdOk K mg t T g fuel d i f cdv) (hcod : CodV base mg Tb (d.x ++ ".<locals>.") cdv d.md) (G : Glb P w K mg base t Tb k (run T n)) :
    FnT P w K mg base Tb (k + g + 1) (run T (n + 1)) d.x i d.np := by
  obtain ⟨oc, od, kV, doc, pm, an, ct, osl, lk, hb⟩ := D.at_
  exact ⟨f, _, d.N.take d.np, D.mgf, D.kp, def_ok D lk hcod G, hb⟩
/-- what is known of the names -/
structure Nms (K : PySem.W.Frag) (mg : Str → Option Value) (t : Tx) : Prop where
  cs : ∀ x d, t.cs.lookup x = some d → ∃ u v, mg x = some u ∧ RelV v u ∧ ∀ (K : PySem.W.Frag) (α : List Addr) (G : Hp), Rep K α G d v
  bl : ∀ x, t.bl.contains x = true → mg x = none
  im : ∀ x p, t.im.lookup x = some p → mg x = some p.val ∧ ∀ cs, p ≠ .isI cs
/-- every def, by its depth -/
theorem glb_all (M : Nms K mg t) (hD : ∀ x i n, t.fs.lookup x = some (i, n) → ∃ d f cdv, d.x = x ∧ d.np = n ∧ DdOk K mg t T g fuel d i f cdv ∧ CodV base mg Tb (x ++ ".<locals>.") cdv d.md) : ∀ n, Glb P w K mg base t Tb ((g + 1) * n) (run T n)
  | 0 => ⟨fun x i n h => by
      obtain ⟨d, f, cdv, rfl, rfl, D, _⟩ := hD x i n h
      obtain ⟨oc, od, kV, doc, pm, an, ct, osl, lk, hb⟩ := D.at_
      refine ⟨f, _, d.N.take d.np, D.mgf, D.kp, ⟨fun vs H Q E h => ?_, fun A outer s H args us vs Q E hr e0 b r h => ?_⟩, hb⟩
      · obtain ⟨β, α, st, l, hl, o, r, h⟩ := h
        exact h.elim
      · obtain ⟨β, α, st, l, hl, o, r, h⟩ := h
        exact h.elim, M.cs, M.bl, M.im⟩
  | n + 1 => ⟨fun x i m h => by
      obtain ⟨d, f, cdv, rfl, rfl, D, c⟩ := hD x i m h
      exact def_sound D c (glb_all M hD n), M.cs, M.bl, M.im⟩
end
end Mp
end
section
set_option Elab.async false
set_option linter.all false
set_option maxRecDepth 100000
set_option maxHeartbeats 2000000
/-! The end: a row from the run of its law. -/
namespace Mp
open PySem PySem.Spec L2 PyProof.Rows
/-- how a def's arguments bind, whatever stands beside its text -/
def SB (d : Dd) : Prop := ∀ (kV doc pm : Value) (an : Option Addr) (cdv ct : Value) (us : List Value), us.length = (d.N.take d.np).length → bindArgs (PySem.W.fnOf d.x d.x (defArgs d.st) (defBody d.st) (defScope d.st) .none kV doc pm an cdv ct) ⟨us, []⟩ = pure ((d.N.take d.np).zip us)
/-- what can be told of a def by its text alone -/
def SC (d : Dd) : Bool := scopeOk d.N (d.N.take d.np) (defScope d.st) && Nat.ble d.np d.N.length
where
  scopeOk (N P : List Str) (sc : Scope) : Bool := decide (sc.kind = .function) && !sc.isCoroutine && !sc.isGenerator && decide N.Nodup && decide (N.take P.length = P) && P.all (fun x => decide (sc.names.lookup x = some .local) || decide (sc.names.lookup x = some .cell)) && sc.names.all (fun y => !decide (y.2 = .free))
theorem SC.is {d : Dd} (h : SC d = true) : FnScope d.N (d.N.take d.np) (defScope d.st) ∧ d.np ≤ d.N.length := by
  unfold SC SC.scopeOk at h
  simp only [Bool.and_eq_true, Bool.not_eq_true', decide_eq_true_eq, List.all_eq_true, Bool.or_eq_true, decide_eq_false_iff_not, Nat.ble_eq] at h
  obtain ⟨⟨⟨⟨⟨⟨⟨g1, g2⟩, g3⟩, g4⟩, g5⟩, g6⟩, g7⟩, g8⟩ := h
  exact ⟨⟨g1, g2, g3, g4, g5, g6, g7⟩, g8⟩
/-- every def's translation -/
def trAll (t : Tx) (g fuel : Nat) : List Dd → Option (List FD)
  | [] => some []
  | d :: r => match trDef t g fuel d, trAll t g fuel r with
    | some a, some b => some (a :: b)
    | _, _ => none
theorem trAll_at {t : Tx} {g fuel : Nat} : ∀ {l : List Dd} {T : List FD} {i : Nat} {d : Dd}, trAll t g fuel l = some T → l[i]? = some d → trDef t g fuel d = T[i]? ∧ i < T.length
  | [], _, _, _, _, h => by cases h
  | e :: r, T, i, d, h, hi => by
    unfold trAll at h
    split at h
    · rename_i a b h1 h2
      cases h
      cases i with
      | zero =>
        cases hi
        exact ⟨h1, Nat.zero_lt_succ _⟩
      | succ i =>
        obtain ⟨k1, k2⟩ := trAll_at h2 hi
        exact ⟨k1, Nat.succ_lt_succ k2⟩
    · cases h
/-- names, by place -/
def fsOf : Nat → List Dd → List (Str × Nat × Nat)
  | _, [] => []
  | i, d :: r => (d.x, i, d.np) :: fsOf (i + 1) r
theorem fsOf_at : ∀ {l : List Dd} {j : Nat} {x : Str} {i n : Nat}, (fsOf j l).lookup x = some (i, n) → ∃ d, j ≤ i ∧ l[i - j]? = some d ∧ d.x = x ∧ d.np = n
  | [], _, _, _, _, h => by cases h
  | e :: r, j, x, i, n, h => by
    unfold fsOf at h
    rw [List.lookup_cons] at h
    split at h
    · rename_i hx
      cases h
      exact ⟨e, Nat.le_refl _, by rw [Nat.sub_self]; rfl, (beq_iff_eq.mp hx).symm, rfl⟩
    · obtain ⟨d, h1, h2, h3⟩ := fsOf_at h
      refine ⟨d, by omega, ?_, h3⟩
      rw [show i - j = (i - (j + 1)) + 1 by omega]
      exact h2
/-- a def behind the top: its function object, its code -/
structure KD (K : PySem.W.Frag) (d : Dd) (f : Addr) (cdv : Value) : Prop where
  ns : PySem.W.nsIn K mainGlobals d.x = some (some (.ref f))
  lk : ∃ (oc : Value) (od : Option Addr) (kV doc pm : Value) (an : Option Addr) (ct : Value) (osl : Array (Option Value)),
    K.lookup f = some ⟨oc, od, .func (PySem.W.fnOf d.x d.x (defArgs d.st) (defBody d.st) (defScope d.st) .none kV doc pm an cdv ct), osl⟩
  cd : PySem.W.codeIn K cdv d.x = true
  kp : PySem.W.keepIn K (.ref f) = true
/-- name, mode, code, table -/
abbrev Tl := Str × Nat × Addr × Addr
/-- all defs behind the top; with the tables of those that make code as they run -/
def KDs (K : PySem.W.Frag) : List Dd → List Tl → Prop
  | [], L => L = []
  | d :: r, L => (d.md = 0 ∧ (∃ f cdv, KD K d f cdv) ∧ KDs K r L) ∨ ∃ c P L', L = (d.x, d.md, c, P) :: L' ∧ (∃ f, KD K d f (.ref c)) ∧ PySem.W.tabIn K d.x = some (c, P) ∧ K.lookup P = none ∧ KDs K r L'
theorem kd_nil {K : PySem.W.Frag} : KDs K [] [] := rfl
theorem kd_cons {K : PySem.W.Frag} {d : Dd} {r : List Dd} {L : List Tl} {f : Addr} {oc : Value} {od an : Option Addr} {osl : Array (Option Value)} {kV doc pm cdv ct : Value} (a : PySem.W.nsIn K mainGlobals d.x = some (some (.ref f)))
    (l : K.lookup f = some ⟨oc, od, .func (PySem.W.fnOf d.x d.x (defArgs d.st) (defBody d.st) (defScope d.st) .none kV doc pm an cdv ct), osl⟩) (c : PySem.W.codeIn K cdv d.x = true) (k : PySem.W.keepIn K (.ref f) = true) (h0 : d.md = 0) (h : KDs K r L) : KDs K (d :: r) L :=
  .inl ⟨h0, ⟨f, cdv, a, ⟨oc, od, kV, doc, pm, an, ct, osl, l⟩, c, k⟩, h⟩
theorem kd_tab {K : PySem.W.Frag} {d : Dd} {r : List Dd} {L : List Tl} {f C P : Addr} {oc ic : Value} {od an id : Option Addr} {osl isl : Array (Option Value)} {kV doc pm ct : Value} {vs : Array Value} (a : PySem.W.nsIn K mainGlobals d.x = some (some (.ref f)))
    (l : K.lookup f = some ⟨oc, od, .func (PySem.W.fnOf d.x d.x (defArgs d.st) (defBody d.st) (defScope d.st) .none kV doc pm an (.ref C) ct), osl⟩) (c : PySem.W.codeIn K (.ref C) d.x = true) (k : PySem.W.keepIn K (.ref f) = true)
    (lc : K.lookup C = some ⟨ic, id, .fields vs, isl⟩) (lp : (vs[11]? : Option Value) = some (.ref P)) (ln : (K.lookup P).isNone = true) (h : KDs K r L) : KDs K (d :: r) ((d.x, d.md, C, P) :: L) := by
  refine .inr ⟨C, P, L, rfl, ⟨f, a, ⟨oc, od, kV, doc, pm, an, ct, osl, l⟩, c, k⟩, ?_, Option.isNone_iff_eq_none.mp ln, h⟩
  unfold PySem.W.tabIn
  simp only [a, l, PySem.W.fnOf, lc, lp]
theorem KDs.at_ {K : PySem.W.Frag} : ∀ {l : List Dd} {L : List Tl}, KDs K l L → ∀ d ∈ l, ∃ f cdv, KD K d f cdv ∧ (d.md = 0 ∨ ∃ c P, cdv = .ref c ∧ (d.x, d.md, c, P) ∈ L)
  | [], _, _, _, hd => by cases hd
  | e :: r, L, h, d, hd => by
    rcases h with ⟨h0, ⟨f, cdv, k⟩, h⟩ | ⟨c, P, L', rfl, ⟨f, k⟩, h1, h2, h⟩
    · rcases List.mem_cons.mp hd with rfl | hd
      · exact ⟨f, cdv, k, .inl h0⟩
      · exact h.at_ d hd
    · rcases List.mem_cons.mp hd with rfl | hd
      · exact ⟨f, _, k, .inr ⟨c, P, rfl, List.mem_cons_self⟩⟩
      · obtain ⟨f', cdv, k', z⟩ := h.at_ d hd
        exact ⟨f', cdv, k', z.imp_right fun ⟨c, P, e, m⟩ => ⟨c, P, e, List.mem_cons_of_mem _ m⟩⟩
theorem KDs.tab {K : PySem.W.Frag} : ∀ {l : List Dd} {L : List Tl}, KDs K l L → ∀ p ∈ L, PySem.W.tabIn K p.1 = some p.2.2 ∧ K.lookup p.2.2.2 = none ∧ ∃ d ∈ l, d.x = p.1
  | [], _, h, p, hp => by
    cases h
    cases hp
  | e :: r, L, h, p, hp => by
    rcases h with ⟨h0, ⟨f, cdv, k⟩, h⟩ | ⟨c, P, L', rfl, ⟨f, k⟩, h1, h2, h⟩
    · obtain ⟨z1, z2, d, hd, e⟩ := h.tab p hp
      exact ⟨z1, z2, d, List.mem_cons_of_mem _ hd, e⟩
    · rcases List.mem_cons.mp hp with rfl | hp
      · exact ⟨h1, h2, e, List.mem_cons_self, rfl⟩
      · obtain ⟨z1, z2, d, hd, e⟩ := h.tab p hp
        exact ⟨z1, z2, d, List.mem_cons_of_mem _ hd, e⟩
def tbOf (L : List Tl) : List (Addr × Option Str) := L.map fun p => (p.2.2.2, if p.2.1 = 1 then none else some (p.1 ++ ".<locals>." ++ "<lambda>"))
def csOf (L : List Tl) : List (Addr × Addr) := L.map fun p => p.2.2
def tblsApart (L : List Tl) : Bool := decide ((L.map fun p => p.2.2.2).Nodup)
theorem map_inj_of_nodup {α β : Type} {f : α → β} : ∀ {l : List α}, (l.map f).Nodup → ∀ a ∈ l, ∀ b ∈ l, f a = f b → a = b
  | [], _, _, h, _, _, _ => by cases h
  | x :: r, hn, a, ha, b, hb, e => by
    rw [List.map_cons, List.nodup_cons] at hn
    cases ha with
    | head =>
      cases hb with
      | head => rfl
      | tail _ hb => exact absurd (List.mem_map.mpr ⟨b, hb, e.symm⟩) hn.1
    | tail _ ha =>
      cases hb with
      | head => exact absurd (List.mem_map.mpr ⟨a, ha, e⟩) hn.1
      | tail _ hb => exact map_inj_of_nodup hn.2 a ha b hb e
theorem codV_of {base : Heap} {mg : Str → Option Value} {L : List Tl} {x : Str} {md : Nat} {c P : Addr} (hn : tblsApart L = true) (hm : (x, md, c, P) ∈ L) (hT : GxR.TabB base mg c P) : CodV base mg (tbOf L) (x ++ ".<locals>.") (.ref c) md := by
  have hn : (L.map fun p => p.2.2.2).Nodup := by simpa [tblsApart] using hn
  have key : ∀ z, (P, z) ∈ tbOf L → z = if md = 1 then none else some (x ++ ".<locals>." ++ "<lambda>") := fun z hz => by
    obtain ⟨p, hp, e⟩ := List.mem_map.mp hz
    have e1 : p.2.2.2 = P := congrArg Prod.fst e
    have e2 := map_inj_of_nodup hn p hp (x, md, c, P) hm e1
    rw [e2] at e
    exact (congrArg Prod.snd e).symm
  have mem : (P, if md = 1 then none else some (x ++ ".<locals>." ++ "<lambda>")) ∈ tbOf L := List.mem_map.mpr ⟨_, hm, rfl⟩
  match md, key, mem with
  | 0, _, _ => trivial
  | 1, key, mem => exact ⟨c, P, rfl, hT, mem, fun q hq => by cases key _ hq⟩
  | 2, key, mem => exact ⟨c, P, rfl, hT, mem, fun z hz => key z hz⟩
  | _ + 3, _, _ => trivial
/-- names of values -/
def csNs (K : PySem.W.Frag) : List (Str × D) → Prop
  | [] => True
  | (x, d) :: r => (∃ u v, PySem.W.nsIn K mainGlobals x = some (some u) ∧ RelV v u ∧ ∀ (K : PySem.W.Frag) (α : List Addr) (G : Hp), Rep K α G d v) ∧ csNs K r
def blNs (K : PySem.W.Frag) : List Str → Prop
  | [] => True
  | x :: r => PySem.W.nsIn K mainGlobals x = some none ∧ blNs K r
def imNs (K : PySem.W.Frag) : List (Str × Prim) → Prop
  | [] => True
  | (x, p) :: r => (PySem.W.nsIn K mainGlobals x = some (some p.val) ∧ ∀ cs, p ≠ .isI cs) ∧ imNs K r
theorem csNs_nil {K : PySem.W.Frag} : csNs K [] := trivial
theorem csNs_int {K : PySem.W.Frag} {x : Str} {i : Int} {tk : Tok} {r : List (Str × D)} (h : PySem.W.nsIn K mainGlobals x = some (some (.int i tk))) (hr : csNs K r) : csNs K ((x, .int i) :: r) := ⟨⟨_, .int i, h, ⟨_, rfl⟩, fun _ _ _ => rfl⟩, hr⟩
theorem blNs_nil {K : PySem.W.Frag} : blNs K [] := trivial
theorem blNs_cons {K : PySem.W.Frag} {x : Str} {r : List Str} (h : PySem.W.nsIn K mainGlobals x = some none) (hr : blNs K r) : blNs K (x :: r) := ⟨h, hr⟩
theorem imNs_nil {K : PySem.W.Frag} : imNs K [] := trivial
theorem imNs_cons {K : PySem.W.Frag} {x : Str} {p : Prim} {r : List (Str × Prim)} (h : PySem.W.nsIn K mainGlobals x = some (some p.val)) (hp : ∀ cs, p ≠ .isI cs) (hr : imNs K r) : imNs K ((x, p) :: r) := ⟨⟨h, hp⟩, hr⟩
section
variable {K : PySem.W.Frag} {mg : Str → Option Value} {h : Heap}
theorem csNs_is (X : K.In h) (G : h.Ns mainGlobals mg) : ∀ {l : List (Str × D)}, csNs K l → ∀ x d, l.lookup x = some d → ∃ u v, mg x = some u ∧ RelV v u ∧ ∀ (K : PySem.W.Frag) (α : List Addr) (G : Hp), Rep K α G d v
  | [], _, _, _, e => by cases e
  | (y, d) :: r, ⟨⟨u, v, h1, h2⟩, hr⟩, x, d', e => by
    rw [List.lookup_cons] at e
    split at e
    · rename_i hx
      cases e
      rw [beq_iff_eq.mp hx]
      exact ⟨u, v, PySem.W.mg_of X G h1, h2⟩
    · exact csNs_is X G hr x d' e
theorem blNs_is (X : K.In h) (G : h.Ns mainGlobals mg) : ∀ {l : List Str}, blNs K l → ∀ x, l.contains x = true → mg x = none
  | [], _, _, e => by cases e
  | y :: r, ⟨h1, hr⟩, x, e => by
    rw [List.contains_cons, Bool.or_eq_true] at e
    rcases e with e | e
    · rw [beq_iff_eq.mp e]
      exact PySem.W.mg_none_of X G h1
    · exact blNs_is X G hr x e
theorem imNs_is (X : K.In h) (G : h.Ns mainGlobals mg) : ∀ {l : List (Str × Prim)}, imNs K l → ∀ x p, l.lookup x = some p → mg x = some p.val ∧ ∀ cs, p ≠ .isI cs
  | [], _, _, _, e => by cases e
  | (y, d) :: r, ⟨⟨h1, h2⟩, hr⟩, x, d', e => by
    rw [List.lookup_cons] at e
    split at e
    · rename_i hx
      cases e
      rw [beq_iff_eq.mp hx]
      exact ⟨PySem.W.mg_of X G h1, h2⟩
    · exact imNs_is X G hr x d' e
end
/-- the tables that the top has left are empty -/
def TabF (q : Program) (K : PySem.W.Frag) (h : Heap) : Prop := ∀ x c P, ((recsOf q).any fun e => e.name == x) = true → PySem.W.tabIn K x = some (c, P) → PySem.W.CodeHd h c P ∧ h.get? P = some { cls := .none, data := .fields #[] }
theorem walk_T {l : PySem.W.OpenLaw} {n k : Nat} {q : Program} {loose : List Str} {XP : (Str → Option Value) → Heap → Prop} {YP : World → Heap → Prop} {d : DefRec} {K : Params → PySem.W.Frag} {x : Str}
    (hn : l.most = some n) (hn2 : n ≤ sizeLine) (hdf : d.params.defaults = []) (hr : Room k callerA) (hY : ∀ (w : World) (h : Heap), YP w h → (K w.params).In h)
    (F : ∀ (w : World) (mg : Str → Option Value) (fa : Addr) (h : Heap), (K w.params).In h → h.Ns mainGlobals mg → TabF q (K w.params) h → mg d.name = some (.ref fa) → LamX.LawAtS l w (K w.params) CX0 k n x mg fa h) :
    PySem.W.WalkO q loose XP YP l.row.toRowW d [] (fun f vs => PySem.call f vs) := by
  refine Att.attach_callB hn hdf fun w s₀ s₁ mg mb fa o pm cd doc a vs ns G Y ho hd hcd hmg hobj hints hlen hbits hg => ?_
  have X := hY w _ Y
  have tf : TabF q (K w.params) s₁.heap := fun y c P hy ht => by
    cases e : (recsOf q).find? fun e => e.name == y with
    | none =>
      rw [List.find?_eq_none] at e
      obtain ⟨r, h1, h2⟩ := List.any_eq_true.mp hy
      exact absurd h2 (e r h1)
    | some r => exact PySem.W.tab_of G.T X e ht
  obtain ⟨fd, cs, sp, z1, z2, z3, z4, z5, z6⟩ := F w mg fa _ X G.T.g tf hmg
  exact LamX.law_callTs (CX := CX0) X G.T.g G.T.b G.T.builtins G.T.nolimit hg z1 z2 z3 G.T.bmain hobj hints (Nat.le_trans hlen hn2) hr z6 z4 (fun H t1 t2 => z5 H a ns hlen hbits t1 t2) fun _ _ _ z => z
theorem law_at {l : PySem.W.OpenLaw} {w : World} {K : PySem.W.Frag} {q : Program} {mg : Str → Option Value} {fa : Addr} {h : Heap} {n : Nat} {x : Str} {t : Tx} {g fuel m iL : Nat} {dds : List Dd} {T : List FD} {dL : Dd} {L : List Tl}
    (X : K.In h) (G : h.Ns mainGlobals mg) (TF : TabF q K h) (hmg : mg dL.x = some (.ref fa)) (hfs : t.fs = fsOf 0 dds) (hT : trAll t g fuel dds = some T) (hsc : dds.all SC = true) (hsb : ∀ d ∈ dds, SB d)
    (hrec : dds.all (fun d => (recsOf q).any fun e => e.name == d.x) = true) (hL : dds[iL]? = some dL) (hx : dL.N.take dL.np = [x])
    (hl : t.fs.lookup dL.x = some (iL, dL.np))
    (main : ∀ ns : List Int, ns.length ≤ n → ∃ st, run T m iL [.scr ns] [] = .ok (.bl true) st)
    (hk : KDs K dds L) (hap : tblsApart L = true) (hcs : csNs K t.cs) (hbl : blNs K t.bl) (him : imNs K t.im) : LamX.LawAtS l w K CX0 ((g + 1) * m) n x mg fa h := by
  have M : Nms K mg t := ⟨csNs_is X G hcs, blNs_is X G hbl, imNs_is X G him⟩
  have np1 : dL.np = 1 := by
    have e := congrArg List.length hx
    rw [List.length_take, List.length_singleton] at e
    have := (SC.is (List.all_eq_true.mp hsc dL (List.mem_of_getElem? hL))).2
    omega
  obtain ⟨f, cdv, kd, hc⟩ := hk.at_ dL (List.mem_of_getElem? hL)
  obtain ⟨oc, od, kV, doc, pm, an, ct, osl, lk⟩ := kd.lk
  have ef : fa = f := by
    have e := hmg.symm.trans (PySem.W.mg_of X G kd.ns)
    cases e
    rfl
  subst ef
  have tabs : ∀ p ∈ csOf L, PySem.W.CodeHd h p.1 p.2 ∧ h.get? p.2 = some { cls := .none, data := .fields #[] } := fun p hp => by
    obtain ⟨e, he, rfl⟩ := List.mem_map.mp hp
    obtain ⟨h1, _, d, hd, h3⟩ := hk.tab e he
    refine TF e.1 e.2.2.1 e.2.2.2 ?_ h1
    rw [← h3]
    exact List.all_eq_true.mp hrec d hd
  have hbn := hsb dL (List.mem_of_getElem? hL) kV doc pm an cdv ct
  rw [hx] at hbn
  refine ⟨PySem.W.fnOf dL.x dL.x (defArgs dL.st) (defBody dL.st) (defScope dL.st) .none kV doc pm an cdv ct, csOf L, spOf K (tbOf L) (run T m iL) 1, fun p hp => (tabs p hp).2, fun p hp => ?_, fun p hp => (tabs p hp).1, fun s u => BindsTo.of_eq (hbn [u] rfl), fun H a ns h1 h2 h3 h4 => ?_, fun base KB GB hB => ?_⟩
  · obtain ⟨e, he, rfl⟩ := List.mem_map.mp hp
    exact (hk.tab e he).2.1
  · obtain ⟨st, hm⟩ := main ns h1
    refine ⟨[], [], [], [.scr ns], rfl, ⟨List.nodup_nil, (fun _ z => by cases z), (fun _ z => by cases z), rfl, (fun _ _ _ z => by cases z), fun p hp => ?_⟩, ⟨.ref a, [], rfl, ⟨a, rfl, h4⟩, rfl⟩, ?_⟩
    · obtain ⟨e, he, rfl⟩ := List.mem_map.mp hp
      have z : H e.2.2.2 = some (.tbl #[]) := h3 e.2.2 (List.mem_map.mpr ⟨e, he, rfl⟩)
      unfold TabOk
      split
      · exact ⟨#[], z, trivial⟩
      · exact ⟨#[], z, trivial, fun pos cv hc => by cases hc⟩
    · rw [hm]
      intro v α' H' s' o' r'
      exact r'
  · have hD : ∀ x i n, t.fs.lookup x = some (i, n) → ∃ d f cdv, d.x = x ∧ d.np = n ∧ DdOk K mg t T g fuel d i f cdv ∧ CodV base mg (tbOf L) (x ++ ".<locals>.") cdv d.md := fun x i n e => by
      rw [hfs] at e
      obtain ⟨d, _, h2, h3, h4⟩ := fsOf_at e
      rw [Nat.sub_zero] at h2
      have hd := List.mem_of_getElem? h2
      obtain ⟨f, cdv, kd, hc⟩ := hk.at_ d hd
      obtain ⟨oc, od, kV, doc, pm, an, ct, osl, lk⟩ := kd.lk
      obtain ⟨s1, s2⟩ := SC.is (List.all_eq_true.mp hsc d hd)
      obtain ⟨t1, t2⟩ := trAll_at hT h2
      refine ⟨d, f, cdv, h3, h4, ⟨⟨oc, od, kV, doc, pm, an, ct, osl, lk, .all (hsb d hd kV doc pm an cdv ct)⟩, PySem.W.mg_of X G kd.ns, kd.kp, kd.cd, s1, s2, t1, t2⟩, ?_⟩
      rcases hc with z | ⟨c, P, rfl, hm⟩
      · rw [z]
        trivial
      · have z := hB (c, P) (List.mem_map.mpr ⟨_, hm, rfl⟩)
        rw [← h3]
        exact codV_of hap hm ⟨z.code, z.bm, z.gP⟩
    cases m with
    | zero =>
      obtain ⟨st, hm⟩ := main [] (Nat.zero_le _)
      cases hm
    | succ m =>
      have hd := List.mem_of_getElem? hL
      obtain ⟨s1, s2⟩ := SC.is (List.all_eq_true.mp hsc dL hd)
      obtain ⟨t1, t2⟩ := trAll_at hT hL
      have D : DdOk K mg t T g fuel dL iL fa cdv := ⟨⟨oc, od, kV, doc, pm, an, ct, osl, lk, .all (hsb dL hd kV doc pm an cdv ct)⟩, hmg, kd.kp, kd.cd, s1, s2, t1, t2⟩
      have hcod : CodV base mg (tbOf L) (dL.x ++ ".<locals>.") cdv dL.md := by
        rcases hc with z | ⟨c, P, rfl, hm⟩
        · rw [z]
          trivial
        · have z := hB (c, P) (List.mem_map.mpr ⟨_, hm, rfl⟩)
          exact codV_of hap hm ⟨z.code, z.bm, z.gP⟩
      have r := def_ok (P := l.prog) (w := w) D lk hcod (glb_all M hD m)
      rw [hx, np1] at r
      exact r
end Mp
end
section
set_option Elab.async false
set_option linter.all false
set_option maxRecDepth 100000
set_option maxHeartbeats 1000000
/-! Runs, step by step. -/
namespace Mp
open PySem
theorem bk {α β : Type} {m : M α} {f : α → M β} {v : α} {st st1 : St} (h : m st = .ok v st1) : bnd m f st = f v st1 := by
  unfold bnd
  rw [h]
theorem bk2 {α β : Type} {m : M α} {f : α → M β} {v : α} {st st1 : St} {r : Res β} (h : m st = .ok v st1) (h2 : f v st1 = r) : bnd m f st = r := (bk h).trans h2
/-- no cell in it -/
abbrev Pl (d : D) : Prop := D.low 0 d = true
mutual
theorem D.low_mono {n m : Nat} (h : n ≤ m) : ∀ d : D, D.low n d = true → D.low m d = true
  | .cell k, z => by
    simp only [D.low] at z ⊢
    exact Nat.ble_eq_true_of_le (Nat.le_trans (Nat.le_of_ble_eq_true z) h)
  | .tup l, z => by
    simp only [D.low] at z ⊢
    exact D.lows_mono h l z
  | .lst l, z => by
    simp only [D.low] at z ⊢
    exact D.lows_mono h l z
  | .non, _ => rfl
  | .bl _, _ => rfl
  | .int _, _ => rfl
  | .str _, _ => rfl
  | .scr _, _ => rfl
theorem D.lows_mono {n m : Nat} (h : n ≤ m) : ∀ l : List D, D.lows n l = true → D.lows m l = true
  | [], _ => rfl
  | d :: r, z => by
    simp only [D.lows, Bool.and_eq_true] at z ⊢
    exact ⟨D.low_mono h d z.1, D.lows_mono h r z.2⟩
end
theorem D.lows_iff {n : Nat} : ∀ {l : List D}, D.lows n l = true ↔ ∀ d ∈ l, D.low n d = true
  | [] => by simp [D.lows]
  | d :: r => by simp [D.lows, D.lows_iff (l := r)]
/-- every cell tells of older ones alone -/
abbrev Low (st : St) : Prop := st.all (Cell.low st.length) = true
theorem leave_pl {st : St} {d : D} (hs : Low st) (hd : Pl d) : leave st.length d st = .ok d st := by
  have h1 : D.low st.length d = true := D.low_mono (Nat.zero_le _) d hd
  have e : st.take st.length = st := List.take_length
  unfold leave
  rw [e, hs]
  cases d with
  | cell k => cases hd
  | _ => simp only [h1]
/-- .. with cells of its own let go -/
theorem leave_own {st st1 : St} {d : D} (hs : Low st) (hd : Pl d) : leave st.length d (st ++ st1) = .ok d st := by
  have h1 : D.low st.length d = true := D.low_mono (Nat.zero_le _) d hd
  have e : (st ++ st1).take st.length = st := List.take_left
  unfold leave
  rw [e, hs]
  cases d with
  | cell k => cases hd
  | _ => simp only [h1]
/-- .. where the answer is a list of its own -/
theorem leave_cell {st : St} {l : List D} (hs : Low st) (hd : ∀ d ∈ l, Pl d) : leave st.length (.cell st.length) (st ++ [.lst l]) = .ok (.lst l) st := by
  have h1 : D.lows st.length l = true := D.lows_iff.mpr fun d h => D.low_mono (Nat.zero_le _) d (hd d h)
  have e : (st ++ [Cell.lst l]).take st.length = st := List.take_left
  unfold leave
  rw [e, hs]
  have e2 : (st ++ [Cell.lst l])[st.length]? = some (.lst l) := by
    rw [List.getElem?_append_right (Nat.le_refl _), Nat.sub_self]
    rfl
  have e3 : Nat.blt st.length st.length = false := by
    cases q : Nat.blt st.length st.length with
    | false => rfl
    | true => exact absurd (Nat.le_of_ble_eq_true q) (Nat.not_succ_le_self _)
  simp only [e3, e2, h1]
section
variable {T : List FD} {C : CallF} {env env1 env2 : Env} {st st1 st2 st3 : St} {a b c e x : E} {d y z w : D} {l : List D} {i : Nat} {s u : S} {o : Out}
theorem vr (h : env[i]? = some (some d)) : ev C (.var i) env st = .ok d st := by
  simp only [ev, h]
  rfl
theorem cn : ev C (.con d) env st = .ok d st := rfl
theorem al0 : bnd (ev C .nil env) listOf st = .ok [] st := rfl
theorem ev_lst {m : M D} (h : bnd m listOf st = .ok l st1) : m st = .ok (.lst l) st1 := by
  unfold bnd at h
  split at h
  · rename_i v st' hv
    rw [hv]
    cases v <;> first
      | (cases h; done)
      | (cases h; rfl)
  · cases h
theorem al (h1 : ev C a env st = .ok d st1) (h2 : bnd (ev C b env) listOf st1 = .ok l st2) : bnd (ev C (.cons a b) env) listOf st = .ok (d :: l) st2 := by
  have h3 : ev C (.cons a b) env st = .ok (.lst (d :: l)) st2 := by
    simp only [ev]
    exact bk2 h1 (bk2 h2 rfl)
  exact bk2 h3 rfl
theorem lenOk_of {l : List D} (h : l.length ≤ line) : lenOk l = true := Nat.ble_eq_true_of_le h
theorem tp (h : bnd (ev C a env) listOf st = .ok l st1) (hl : l.length ≤ line) : ev C (.tup a) env st = .ok (.tup l) st1 := by
  simp only [ev]
  refine bk2 h ?_
  simp only [retTup, lenOk_of hl]
theorem ls (h : bnd (ev C a env) listOf st = .ok l st1) (hl : l.length ≤ line) : ev C (.lst a) env st = .ok (.lst l) st1 := by
  simp only [ev]
  refine bk2 h ?_
  simp only [retLst, lenOk_of hl]
theorem nw (h : bnd (ev C a env) listOf st = .ok l st1) (hl : l.length ≤ line) : ev C (.newC a) env st = .ok (.cell st1.length) (st1 ++ [.lst l]) := by
  simp only [ev]
  refine bk2 h ?_
  simp only [newCell, lenOk_of hl]
theorem bn {o : Bin} (h1 : ev C a env st = .ok y st1) (h2 : ev C b env st1 = .ok z st2) (h : binD o y z st2 = .ok w st3) : ev C (.bin o a b) env st = .ok w st3 := by
  simp only [ev]
  exact bk2 h1 (bk2 h2 h)
theorem cm {o : Cmp} (h1 : ev C a env st = .ok y st1) (h2 : ev C b env st1 = .ok z st2) (h : cmpD o y z st2 = .ok w st3) : ev C (.cmp o a b) env st = .ok w st3 := by
  simp only [ev]
  exact bk2 h1 (bk2 h2 h)
theorem ng {i : Int} (h1 : ev C a env st = .ok (.int i) st1) : ev C (.neg a) env st = .ok (.int (-i)) st1 := by
  simp only [ev]
  exact bk2 h1 rfl
/-- tests -/
theorem tb {k : Bool} (h : ev C c env st = .ok (.bl k) st1) : bnd (ev C c env) truth st = .ok k st1 := bk2 h rfl
theorem nt {k : Bool} (h : bnd (ev C c env) truth st = .ok k st1) : ev C (.not c) env st = .ok (.bl (!k)) st1 := by
  simp only [ev]
  exact bk2 h rfl
theorem an {k m : Bool} (h1 : ev C a env st = .ok (.bl k) st) (h2 : k = true → ev C b env st = .ok (.bl m) st) : ev C (.and a b) env st = .ok (.bl (k && m)) st := by
  simp only [ev]
  refine bk2 h1 ?_
  cases k with
  | true => exact h2 rfl
  | false => rfl
theorem orr {k m : Bool} (h1 : ev C a env st = .ok (.bl k) st) (h2 : k = false → ev C b env st = .ok (.bl m) st) : ev C (.or a b) env st = .ok (.bl (k || m)) st := by
  simp only [ev]
  refine bk2 h1 ?_
  cases k with
  | true => rfl
  | false => exact h2 rfl
theorem chn {o p : Cmp} {k m : Bool} (h1 : ev C a env st = .ok y st) (h2 : ev C b env st = .ok z st) (h3 : cmpD o y z st = .ok (.bl k) st) (h4 : ev C c env st = .ok w st) (h5 : cmpD p z w st = .ok (.bl m) st) : ev C (.chain o p a b c) env st = .ok (.bl (k && m)) st := by
  simp only [ev]
  refine bk2 h1 (bk2 h2 (bk2 (bk2 h3 rfl) ?_))
  cases k with
  | true => exact bk2 h4 h5
  | false => rfl
theorem cl {f : Nat} {r : Res D} (h : bnd (ev C a env) listOf st = .ok l st1) (h2 : C f l st1 = r) : ev C (.call f a) env st = r := by
  simp only [ev]
  exact bk2 h h2
theorem pr {p : Prim} {r : Res D} (h : bnd (ev C a env) listOf st = .ok l st1) (h2 : primD p l st1 = r) : ev C (.prim p a) env st = r := by
  simp only [ev]
  exact bk2 h h2
theorem mth {m : Meth} {r : Res D} (h1 : ev C a env st = .ok y st1) (h : bnd (ev C b env) listOf st1 = .ok l st2) (h2 : methD m y l st2 = r) : ev C (.meth m a b) env st = r := by
  simp only [ev]
  exact bk2 h1 (bk2 h h2)
theorem ix {r : Res D} (h1 : ev C a env st = .ok y st1) (h2 : ev C b env st1 = .ok z st2) (h : idxD y z st2 = r) : ev C (.idx a b) env st = r := by
  simp only [ev]
  exact bk2 h1 (bk2 h2 h)
theorem slc {p q : Bool} {r : Res D} (h1 : ev C a env st = .ok y st1) (h2 : ev C b env st1 = .ok z st2) (h3 : ev C c env st2 = .ok w st3) (h : sliceD y (bound p z) (bound q w) st3 = r) : ev C (.slice p q a b c) env st = r := by
  simp only [ev]
  exact bk2 h1 (bk2 h2 (bk2 h3 h))
theorem slen {r : Res D} (h1 : ev C a env st = .ok y st1) (h : sortLenD y st1 = r) : ev C (.sortLen a) env st = r := by
  simp only [ev]
  exact bk2 h1 h
/-- what is walked -/
theorem it {k : Itk} {g : Option (Nat × List D)} (h : bnd (ev C a env) listOf st = .ok l st1) {xs : List D} (h2 : itemsD k l st1 = .ok (xs, g) st2) : bnd (ev C (.itr k a) env) srcOf st = .ok (xs, g) st2 := by
  have h3 : ev C (.itr k a) env st = .ok (srcD (xs, g)) st2 := by
    simp only [ev]
    exact bk2 h (bk2 h2 rfl)
  refine bk2 h3 ?_
  cases g with
  | none => rfl
  | some g => rfl
/-! comprehensions, pure -/
theorem compL_pl {α : Type} {p : Pat} {c e : Env → M D} {g : Option (Nat × List D)} {f : α → D} {t : α → Bool} {r : α → D} (hg : chk g st = .ok () st) : ∀ {l : List α}, (∀ x ∈ l, ∃ env', p.bind (f x) env = some env' ∧ bnd (c env') truth st = .ok (t x) st ∧ (t x = true → e env' st = .ok (r x) st)) →
    compL p c e env g (l.map f) st = .ok ((l.filter t).map r) st
  | [], _ => rfl
  | x :: l, h => by
    obtain ⟨env', h1, h2, h3⟩ := h x List.mem_cons_self
    have ih := compL_pl (p := p) (c := c) (e := e) (g := g) (f := f) (t := t) (r := r) hg fun y hy => h y (List.mem_cons_of_mem _ hy)
    rw [List.map_cons]
    unfold compL
    refine bk2 (v := env') (by rw [h1]; rfl) (bk2 h2 ?_)
    cases q : t x with
    | true =>
      rw [List.filter_cons_of_pos q]
      exact bk2 (h3 q) (bk2 hg (bk2 ih rfl))
    | false =>
      rw [List.filter_cons_of_neg (by rw [q]; simp)]
      exact bk2 hg ih
theorem compJ_pl {α : Type} {p : Pat} {c : Env → M D} {e : Env → M (List D)} {g : Option (Nat × List D)} {f : α → D} {t : α → Bool} {r : α → List D} (hg : chk g st = .ok () st) : ∀ {l : List α}, (∀ x ∈ l, ∃ env', p.bind (f x) env = some env' ∧ bnd (c env') truth st = .ok (t x) st ∧ (t x = true → e env' st = .ok (r x) st)) →
    compJ p c e env g (l.map f) st = .ok ((l.filter t).flatMap r) st
  | [], _ => rfl
  | x :: l, h => by
    obtain ⟨env', h1, h2, h3⟩ := h x List.mem_cons_self
    have ih := compJ_pl (p := p) (c := c) (e := e) (g := g) (f := f) (t := t) (r := r) hg fun y hy => h y (List.mem_cons_of_mem _ hy)
    rw [List.map_cons]
    unfold compJ
    refine bk2 (v := env') (by rw [h1]; rfl) (bk2 h2 ?_)
    cases q : t x with
    | true =>
      rw [List.filter_cons_of_pos q, List.flatMap_cons]
      exact bk2 (h3 q) (bk2 hg (bk2 ih rfl))
    | false =>
      rw [List.filter_cons_of_neg (by rw [q]; simp)]
      exact bk2 hg ih
theorem genL_pl {α : Type} {p : Pat} {c : Env → M D} {e : Env → M Bool} {g : Option (Nat × List D)} {f : α → D} {t r : α → Bool} {k : Bool} (hg : chk g st = .ok () st) : ∀ {l : List α}, (∀ x ∈ l, ∃ env', p.bind (f x) env = some env' ∧ bnd (c env') truth st = .ok (t x) st ∧ (t x = true → e env' st = .ok (r x) st)) →
    genL k p c e env g (l.map f) st = .ok (if k then (l.filter t).all r else (l.filter t).any r) st
  | [], _ => by cases k <;> rfl
  | x :: l, h => by
    obtain ⟨env', h1, h2, h3⟩ := h x List.mem_cons_self
    have ih := genL_pl (p := p) (c := c) (e := e) (g := g) (f := f) (t := t) (r := r) (k := k) hg fun y hy => h y (List.mem_cons_of_mem _ hy)
    rw [List.map_cons]
    unfold genL
    refine bk2 (v := env') (by rw [h1]; rfl) (bk2 h2 ?_)
    cases q : t x with
    | true =>
      rw [List.filter_cons_of_pos q, List.all_cons, List.any_cons]
      refine bk2 (h3 q) ?_
      cases k <;> cases r x <;> first
        | rfl
        | exact bk2 hg ih
    | false =>
      rw [List.filter_cons_of_neg (by rw [q]; simp)]
      exact bk2 hg ih
theorem cmp_ {α : Type} {p : Pat} {f : α → D} (t : α → Bool) (r : α → D) {xs : List α} {g : Option (Nat × List D)} (h : bnd (ev C x env) srcOf st = .ok (xs.map f, g) st) (hg : chk g st = .ok () st) (hx : ∀ x ∈ xs, ∃ env', p.bind (f x) (wipeE env p.slots) = some env' ∧ bnd (ev C c env') truth st = .ok (t x) st ∧ (t x = true → ev C e env' st = .ok (r x) st))
    (hl : ((xs.filter t).map r).length ≤ line) : ev C (.comp p x c e) env st = .ok (.lst ((xs.filter t).map r)) st := by
  simp only [ev]
  refine bk2 h (bk2 (compL_pl hg hx) ?_)
  simp only [retLst, lenOk_of hl]
theorem gen_ {α : Type} {p : Pat} {f : α → D} (t r : α → Bool) {k : Bool} {xs : List α} {g : Option (Nat × List D)} (h : bnd (ev C x env) srcOf st = .ok (xs.map f, g) st) (hg : chk g st = .ok () st) (hx : ∀ x ∈ xs, ∃ env', p.bind (f x) (wipeE env p.slots) = some env' ∧ bnd (ev C c env') truth st = .ok (t x) st ∧ (t x = true → ev C e env' st = .ok (.bl (r x)) st)) :
    ev C (.gen k p x c e) env st = .ok (.bl (if k then (xs.filter t).all r else (xs.filter t).any r)) st := by
  simp only [ev]
  refine bk2 h (bk2 (genL_pl (t := t) (r := r) hg fun y hy => ?_) rfl)
  obtain ⟨env', h1, h2, h3⟩ := hx y hy
  exact ⟨env', h1, h2, fun q => bk2 (h3 q) rfl⟩
theorem cmp0 {α : Type} {p : Pat} {f : α → D} (r : α → D) {xs : List α} {g : Option (Nat × List D)} (h : bnd (ev C x env) srcOf st = .ok (xs.map f, g) st) (hg : chk g st = .ok () st) (hx : ∀ x ∈ xs, ∃ env', p.bind (f x) (wipeE env p.slots) = some env' ∧ ev C e env' st = .ok (r x) st)
    (hl : xs.length ≤ line) : ev C (.comp p x (.con (.bl true)) e) env st = .ok (.lst (xs.map r)) st := by
  have ef : xs.filter (fun _ => true) = xs := List.filter_eq_self.mpr fun _ _ => rfl
  have := cmp_ (C := C) (c := .con (.bl true)) (e := e) (fun _ => true) r h hg (fun y hy => by
    obtain ⟨env', h1, h2⟩ := hx y hy
    exact ⟨env', h1, rfl, fun _ => h2⟩) (by rw [ef, List.length_map]; exact hl)
  rw [ef] at this
  exact this
theorem genA {α : Type} {p : Pat} {f : α → D} (r : α → Bool) {xs : List α} {g : Option (Nat × List D)} (h : bnd (ev C x env) srcOf st = .ok (xs.map f, g) st) (hg : chk g st = .ok () st) (hx : ∀ x ∈ xs, ∃ env', p.bind (f x) (wipeE env p.slots) = some env' ∧ ev C e env' st = .ok (.bl (r x)) st) :
    ev C (.gen true p x (.con (.bl true)) e) env st = .ok (.bl (xs.all r)) st := by
  have ef : xs.filter (fun _ => true) = xs := List.filter_eq_self.mpr fun _ _ => rfl
  have := gen_ (C := C) (c := .con (.bl true)) (e := e) (k := true) (fun _ => true) r h hg (fun y hy => by
    obtain ⟨env', h1, h2⟩ := hx y hy
    exact ⟨env', h1, rfl, fun _ => h2⟩)
  rw [ef] at this
  exact this
theorem genE {α : Type} {p : Pat} {f : α → D} (r : α → Bool) {xs : List α} {g : Option (Nat × List D)} (h : bnd (ev C x env) srcOf st = .ok (xs.map f, g) st) (hg : chk g st = .ok () st) (hx : ∀ x ∈ xs, ∃ env', p.bind (f x) (wipeE env p.slots) = some env' ∧ ev C e env' st = .ok (.bl (r x)) st) :
    ev C (.gen false p x (.con (.bl true)) e) env st = .ok (.bl (xs.any r)) st := by
  have ef : xs.filter (fun _ => true) = xs := List.filter_eq_self.mpr fun _ _ => rfl
  have := gen_ (C := C) (c := .con (.bl true)) (e := e) (k := false) (fun _ => true) r h hg (fun y hy => by
    obtain ⟨env', h1, h2⟩ := hx y hy
    exact ⟨env', h1, rfl, fun _ => h2⟩)
  rw [ef] at this
  exact this
/-- two for's in one comprehension -/
theorem cmp2_ {α β : Type} {p q : Pat} {y2 d2 : E} {f : α → D} (t : α → Bool) (r : α → List D) {xs : List α} {g : Option (Nat × List D)} (h : bnd (ev C x env) srcOf st = .ok (xs.map f, g) st) (hg : chk g st = .ok () st)
    (hx : ∀ x ∈ xs, ∃ env', p.bind (f x) (wipeE env (p.slots ++ q.slots)) = some env' ∧ bnd (ev C c env') truth st = .ok (t x) st ∧ (t x = true → ∃ (ys : List β) (g2 : Option (Nat × List D)) (f2 : β → D) (t2 : β → Bool) (r2 : β → D), bnd (ev C y2 env') srcOf st = .ok (ys.map f2, g2) st ∧ chk g2 st = .ok () st ∧
      (∀ y ∈ ys, ∃ env2, q.bind (f2 y) (wipeE env' q.slots) = some env2 ∧ bnd (ev C d2 env2) truth st = .ok (t2 y) st ∧ (t2 y = true → ev C e env2 st = .ok (r2 y) st)) ∧ (ys.filter t2).map r2 = r x))
    (hl : ((xs.filter t).flatMap r).length ≤ line) : ev C (.comp2 p x c q y2 d2 e) env st = .ok (.lst ((xs.filter t).flatMap r)) st := by
  simp only [ev]
  refine bk2 h (bk2 (compJ_pl (t := t) (r := r) hg fun y hy => ?_) ?_)
  · obtain ⟨env', h1, h2, h3⟩ := hx y hy
    refine ⟨env', h1, h2, fun k => ?_⟩
    obtain ⟨ys, g2, f2, t2, r2, k1, k2, k3, k4⟩ := h3 k
    rw [← k4]
    exact bk2 k1 (compL_pl k2 k3)
  · simp only [retLst, lenOk_of hl]
theorem cmp20 {α β : Type} {p q : Pat} {y2 d2 : E} {f : α → D} (r : α → List D) {xs : List α} {g : Option (Nat × List D)} (h : bnd (ev C x env) srcOf st = .ok (xs.map f, g) st) (hg : chk g st = .ok () st)
    (hx : ∀ x ∈ xs, ∃ env', p.bind (f x) (wipeE env (p.slots ++ q.slots)) = some env' ∧ ∃ (ys : List β) (g2 : Option (Nat × List D)) (f2 : β → D) (t2 : β → Bool) (r2 : β → D), bnd (ev C y2 env') srcOf st = .ok (ys.map f2, g2) st ∧ chk g2 st = .ok () st ∧
      (∀ y ∈ ys, ∃ env2, q.bind (f2 y) (wipeE env' q.slots) = some env2 ∧ bnd (ev C d2 env2) truth st = .ok (t2 y) st ∧ (t2 y = true → ev C e env2 st = .ok (r2 y) st)) ∧ (ys.filter t2).map r2 = r x)
    (hl : (xs.flatMap r).length ≤ line) : ev C (.comp2 p x (.con (.bl true)) q y2 d2 e) env st = .ok (.lst (xs.flatMap r)) st := by
  have ef : xs.filter (fun _ => true) = xs := List.filter_eq_self.mpr fun _ _ => rfl
  have := cmp2_ (C := C) (β := β) (c := .con (.bl true)) (e := e) (q := q) (y2 := y2) (d2 := d2) (fun _ => true) r h hg (fun y hy => by
    obtain ⟨env', h1, h2⟩ := hx y hy
    exact ⟨env', h1, rfl, fun _ => h2⟩) (by rw [ef]; exact hl)
  rw [ef] at this
  exact this
/-- two for's in one generator expression, all -/
theorem gen2A {α β : Type} {p q : Pat} {y2 d2 : E} {f : α → D} (r : α → Bool) {xs : List α} {g : Option (Nat × List D)} (h : bnd (ev C x env) srcOf st = .ok (xs.map f, g) st) (hg : chk g st = .ok () st)
    (hx : ∀ x ∈ xs, ∃ env', p.bind (f x) (wipeE env (p.slots ++ q.slots)) = some env' ∧ ∃ (ys : List β) (g2 : Option (Nat × List D)) (f2 : β → D) (t2 r2 : β → Bool), bnd (ev C y2 env') srcOf st = .ok (ys.map f2, g2) st ∧ chk g2 st = .ok () st ∧
      (∀ y ∈ ys, ∃ env2, q.bind (f2 y) (wipeE env' q.slots) = some env2 ∧ bnd (ev C d2 env2) truth st = .ok (t2 y) st ∧ (t2 y = true → ev C e env2 st = .ok (.bl (r2 y)) st)) ∧ (ys.filter t2).all r2 = r x) : ev C (.gen2 true p x (.con (.bl true)) q y2 d2 e) env st = .ok (.bl (xs.all r)) st := by
  have ef : xs.filter (fun _ => true) = xs := List.filter_eq_self.mpr fun _ _ => rfl
  have key := genL_pl (p := p) (c := ev C (.con (.bl true))) (e := fun env => bnd (bnd (ev C y2 env) srcOf) fun s => genL true q (ev C d2) (fun env => bnd (ev C e env) boolOf) (wipeE env q.slots) s.2 s.1) (env := wipeE env (p.slots ++ q.slots)) (f := f) (t := fun _ => true) (r := r) (k := true) hg (l := xs) fun y hy => by
    obtain ⟨env', h1, ys, g2, f2, t2, r2, k1, k2, k3, k4⟩ := hx y hy
    refine ⟨env', h1, rfl, fun _ => ?_⟩
    rw [← k4]
    refine bk2 k1 ((genL_pl (t := t2) (r := r2) (k := true) k2 fun z hz => ?_).trans rfl)
    obtain ⟨env2, j1, j2, j3⟩ := k3 z hz
    exact ⟨env2, j1, j2, fun q => bk2 (j3 q) rfl⟩
  rw [ef] at key
  simp only [ev]
  exact bk2 h (bk2 key rfl)
/-! statements -/
theorem sq (h : exec C s env st = .next env1 st1) (h2 : exec C u env1 st1 = o) : exec C (.seq s u) env st = o := by
  simp only [exec, h]
  exact h2
theorem sqr (h : exec C s env st = .ret d st1) : exec C (.seq s u) env st = .ret d st1 := by
  simp only [exec, h]
theorem sk : exec C .skip env st = .next env st := rfl
theorem rt (h : ev C e env st = .ok d st1) : exec C (.ret e) env st = .ret d st1 := by
  simp only [exec, run', h]
theorem asg {p : Pat} (h : ev C e env st = .ok d st1) (h2 : p.bind d env = some env1) : exec C (.asg p e) env st = .next env1 st1 := by
  simp only [exec, run', h, h2]
theorem drp (h : ev C e env st = .ok d st1) : exec C (.drop e) env st = .next env st1 := by
  simp only [exec, run', h]
theorem iff_ {k : Bool} (h : bnd (ev C c env) truth st = .ok k st1) (h2 : (if k then exec C s env st1 else exec C u env st1) = o) : exec C (.ite c s u) env st = o := by
  simp only [exec, run', h]
  cases k with
  | true => exact h2
  | false => exact h2
theorem ift (h : bnd (ev C c env) truth st = .ok true st1) (h2 : exec C s env st1 = o) : exec C (.ite c s u) env st = o := iff_ h h2
theorem ife (h : bnd (ev C c env) truth st = .ok false st1) (h2 : exec C u env st1 = o) : exec C (.ite c s u) env st = o := iff_ h h2
/-- a for, by an invariant over the things walked -/
theorem forL_inv {α : Type} {p : Pat} {b : Env → St → Out} {g : Option (Nat × List D)} {f : α → D} (I : List α → Env → St → Prop) : ∀ {l done : List α} {env : Env} {st : St}, I done env st →
    (∀ (x : α) (dn : List α) (env : Env) (st : St), x ∈ l → dn ++ [x] <+: done ++ l → I dn env st → ∃ env' env2 st2, p.bind (f x) env = some env' ∧ b env' st = .next env2 st2 ∧ chk g st2 = .ok () st2 ∧ I (dn ++ [x]) env2 st2) →
    ∃ env2 st2, forL p b g (l.map f) env st = .next env2 st2 ∧ I (done ++ l) env2 st2
  | [], done, env, st, h0, _ => ⟨env, st, rfl, by rw [List.append_nil]; exact h0⟩
  | x :: l, done, env, st, h0, hs => by
    obtain ⟨env', env2, st2, h1, h2, h3, h4⟩ := hs x done env st List.mem_cons_self (by rw [show done ++ x :: l = (done ++ [x]) ++ l by simp]; exact List.prefix_append _ _) h0
    obtain ⟨env3, st3, h5, h6⟩ := forL_inv (p := p) (b := b) (g := g) (f := f) I (l := l) (done := done ++ [x]) h4 fun y dn e s hy hp hi => hs y dn e s (List.mem_cons_of_mem _ hy) (by rw [show done ++ x :: l = (done ++ [x]) ++ l by simp]; exact hp) hi
    refine ⟨env3, st3, ?_, by rw [show done ++ x :: l = (done ++ [x]) ++ l by simp]; exact h6⟩
    rw [List.map_cons]
    unfold forL
    simp only [h1, h2, run', h3]
    exact h5
theorem for1 {α : Type} {p : Pat} {f : α → D} {xs : List α} {g : Option (Nat × List D)} (I : List α → Env → St → Prop) (h : bnd (ev C e env) srcOf st = .ok (xs.map f, g) st1) (h0 : I [] env st1)
    (hs : ∀ (x : α) (dn : List α) (env : Env) (st : St), x ∈ xs → dn ++ [x] <+: xs → I dn env st → ∃ env' env2 st2, p.bind (f x) env = some env' ∧ exec C s env' st = .next env2 st2 ∧ chk g st2 = .ok () st2 ∧ I (dn ++ [x]) env2 st2) :
    ∃ env2 st2, exec C (.for_ p e s) env st = .next env2 st2 ∧ I xs env2 st2 := by
  obtain ⟨env2, st2, h1, h2⟩ := forL_inv (p := p) (b := exec C s) (g := g) (f := f) I (l := xs) (done := []) h0 hs
  refine ⟨env2, st2, ?_, h2⟩
  simp only [exec, run', h]
  exact h1
/-! defs -/
theorem run_ret {i n : Nat} {fd : FD} {st1 st2 : St} (hi : T[i]? = some fd) (hn : l.length = fd.np) (h : exec (run T n) fd.body (l.map some ++ List.replicate (fd.ns - fd.np) none) st = .ret d st1) (hl : leave st.length d st1 = .ok y st2) : run T (n + 1) i l st = .ok y st2 := by
  simp only [run, hi, callB, hn, decide_true, h]
  exact hl
theorem run_next {i n : Nat} {fd : FD} {st1 st2 : St} (hi : T[i]? = some fd) (hn : l.length = fd.np) (h : exec (run T n) fd.body (l.map some ++ List.replicate (fd.ns - fd.np) none) st = .next env1 st1) (hl : leave st.length .non st1 = .ok y st2) : run T (n + 1) i l st = .ok y st2 := by
  simp only [run, hi, callB, hn, decide_true, h]
  exact hl
theorem run_pl {i n : Nat} {fd : FD} (hs : Low st) (hi : T[i]? = some fd) (hn : l.length = fd.np) (hd : Pl d) (h : exec (run T n) fd.body (l.map some ++ List.replicate (fd.ns - fd.np) none) st = .ret d st) : run T (n + 1) i l st = .ok d st := run_ret hi hn h (leave_pl hs hd)
end
end Mp
end
section
set_option Elab.async false
set_option linter.all false
set_option maxRecDepth 100000
set_option maxHeartbeats 1000000
/-! Data that tells numbers, tuples of them, and so on. -/
namespace Mp
open PySem
class Dat (α : Type) [DecidableEq α] where
  enc : α → D
  lv : Nat
  ltb : α → α → Bool
  shp : ∀ (x : α) (n : Nat), lv ≤ n → D.shp n (enc x) = true
  eq : ∀ x y : α, D.eq (enc x) (enc y) = decide (x = y)
  pl : ∀ x : α, Pl (enc x)
  alike : ∀ x y : α, D.alike (enc x) (enc y) = true
  lt : ∀ x y : α, D.lt (enc x) (enc y) = ltb x y
  same : ∀ x : α, D.same (enc x) (enc x) = true
open Dat (enc)
instance : Dat Nat where
  enc n := .int n
  lv := 0
  ltb x y := decide (x < y)
  shp x n _ := by cases n <;> rfl
  eq x y := by
    simp only [D.eq]
    by_cases h : x = y
    · subst h
      simp
    · have h' : ¬ (x : Int) = (y : Int) := fun z => h (Int.ofNat.inj z)
      simp [h, h']
  pl x := rfl
  alike x y := rfl
  lt x y := by
    simp only [D.lt]
    by_cases h : x < y
    · simp [h]
    · simp [h]
  same x := by simp [D.same]
instance : Dat Int where
  enc n := .int n
  lv := 0
  ltb x y := decide (x < y)
  shp x n _ := by cases n <;> rfl
  eq x y := by
    simp only [D.eq]
    by_cases h : x = y
    · subst h
      simp
    · simp [h]
  pl x := rfl
  alike x y := rfl
  lt x y := by simp only [D.lt]
  same x := by simp [D.same]
section
variable {α : Type} [DecidableEq α] [Dat α]
/-- order by the first place that differs -/
def ltL : List α → List α → Bool
  | [], [] => false
  | [], _ :: _ => true
  | _ :: _, [] => false
  | a :: r, b :: s => if a = b then ltL r s else Dat.ltb a b
theorem shps_map {n : Nat} (hn : Dat.lv α ≤ n) : ∀ l : List α, D.shps n (l.map enc) = true
  | [] => rfl
  | x :: l => by
    simp only [List.map_cons, D.shps, Dat.shp x n hn, shps_map hn l, Bool.and_self]
theorem eqs_map : ∀ l m : List α, D.eqs (l.map enc) (m.map enc) = decide (l = m)
  | [], [] => rfl
  | [], _ :: _ => rfl
  | _ :: _, [] => rfl
  | x :: l, y :: m => by
    simp only [List.map_cons, D.eqs, Dat.eq, eqs_map l m, List.cons.injEq]
    exact (Bool.decide_and _ _).symm
theorem lows_map : ∀ l : List α, D.lows 0 (l.map enc) = true
  | [] => rfl
  | x :: l => by
    simp only [List.map_cons, D.lows, lows_map l, Bool.and_true]
    exact Dat.pl x
theorem alikes_map : ∀ l m : List α, D.alikes (l.map enc) (m.map enc) = true
  | [], _ => by simp [D.alikes]
  | _ :: _, [] => rfl
  | x :: l, y :: m => by simp only [List.map_cons, D.alikes, Dat.alike, alikes_map l m, Bool.and_self]
theorem lts_map : ∀ l m : List α, D.lts (l.map enc) (m.map enc) = ltL l m
  | [], [] => rfl
  | [], _ :: _ => rfl
  | _ :: _, [] => rfl
  | x :: l, y :: m => by
    simp only [List.map_cons, D.lts, Dat.eq, Dat.lt, lts_map l m, ltL, decide_eq_true_eq]
theorem sames_map : ∀ l : List α, D.sames (l.map enc) (l.map enc) = true
  | [] => rfl
  | x :: l => by simp only [List.map_cons, D.sames, Dat.same, sames_map l, Bool.and_self]
instance : Dat (List α) where
  enc l := .tup (l.map enc)
  lv := Dat.lv α + 1
  ltb := ltL
  shp l n h := by
    cases n with
    | zero => cases h
    | succ n =>
      simp only [D.shp]
      exact shps_map (Nat.le_of_succ_le_succ h) l
  eq l m := by
    simp only [D.eq, eqs_map]
  pl l := by
    show D.low 0 (.tup _) = true
    simp only [D.low, lows_map]
  alike l m := by
    simp only [D.alike, alikes_map]
  lt l m := by
    simp only [D.lt, lts_map]
  same l := by
    simp only [D.same, sames_map]
variable {β : Type} [DecidableEq β] [Dat β]
instance : Dat (α × β) where
  enc p := .tup [enc p.1, enc p.2]
  lv := max (Dat.lv α) (Dat.lv β) + 1
  ltb p q := if p.1 = q.1 then (if p.2 = q.2 then false else Dat.ltb p.2 q.2) else Dat.ltb p.1 q.1
  shp p n h := by
    cases n with
    | zero => cases h
    | succ n =>
      have h := Nat.le_of_succ_le_succ h
      simp only [D.shp, D.shps, Dat.shp p.1 n (Nat.le_trans (Nat.le_max_left _ _) h), Dat.shp p.2 n (Nat.le_trans (Nat.le_max_right _ _) h), Bool.and_self]
  eq p q := by
    obtain ⟨a, b⟩ := p
    obtain ⟨c, d⟩ := q
    simp only [D.eq, D.eqs, Dat.eq, Bool.and_true, Prod.mk.injEq]
    exact (Bool.decide_and _ _).symm
  pl p := by
    show D.low 0 (.tup _) = true
    simp only [D.low, D.lows, Bool.and_true, Bool.and_eq_true]
    exact ⟨Dat.pl _, Dat.pl _⟩
  alike p q := by
    simp only [D.alike, D.alikes, Dat.alike, Bool.and_self]
  lt p q := by
    obtain ⟨a, b⟩ := p
    obtain ⟨c, d⟩ := q
    simp only [D.lt, D.lts, Dat.eq, Dat.lt, decide_eq_true_eq]
  same p := by
    simp only [D.same, D.sames, Dat.same, Bool.and_self]
/-- a list of such -/
abbrev dL (l : List α) : D := .lst (l.map enc)
theorem pl_L {l : List α} : Pl (dL l) := by
  show D.low 0 (.lst _) = true
  simp only [D.low, lows_map]
theorem ok_of {x : α} (h : Dat.lv α ≤ 60 := by decide) : D.ok (enc x) = true := Dat.shp x 60 h
theorem ok_L {l : List α} (h : Dat.lv α ≤ 59 := by decide) : D.ok (dL l) = true := by
  show D.shp 60 (.lst _) = true
  simp only [D.shp]
  exact shps_map h l
variable {st : St}
theorem eq_ {x y : α} [Decidable (x = y)] (h : Dat.lv α ≤ 60 := by decide) : cmpS .eq (enc x) (enc y) st = .ok (.bl (decide (x = y))) st := by
  simp only [cmpS, ok_of h, Bool.and_self, if_true, Dat.eq, ret]
  congr
theorem ne_ {x y : α} [Decidable (x = y)] (h : Dat.lv α ≤ 60 := by decide) : cmpS .ne (enc x) (enc y) st = .ok (.bl (!decide (x = y))) st := by
  simp only [cmpS, ok_of h, Bool.and_self, if_true, Dat.eq, ret]
  congr
theorem eq_L {x y : List α} [Decidable (x = y)] (h : Dat.lv α ≤ 59 := by decide) : cmpS .eq (dL x) (dL y) st = .ok (.bl (decide (x = y))) st := by
  have e : D.eq (dL x) (dL y) = decide (x = y) := by
    simp only [D.eq, eqs_map]
    congr
  simp only [cmpS, ok_L h, Bool.and_self, if_true, ret, e]
theorem any_map {x : α} : ∀ l : List α, (l.map enc).any (fun z => D.eq z (enc x)) = decide (x ∈ l)
  | [] => by simp
  | y :: l => by
    rw [List.map_cons, List.any_cons, any_map l, Dat.eq, ← Bool.decide_or]
    refine decide_eq_decide.mpr ?_
    rw [List.mem_cons]
    exact or_congr_left eq_comm
theorem mem_ {x : α} {l : List α} [Decidable (x ∈ l)] (h : Dat.lv α ≤ 59 := by decide) : cmpS .mem (enc x) (.tup (l.map enc)) st = .ok (.bl (decide (x ∈ l))) st := by
  have h1 : D.ok (enc x) = true := ok_of (Nat.le_succ_of_le h)
  have h2 : D.ok (.tup (l.map enc)) = true := ok_of (α := List α) (Nat.succ_le_succ h)
  simp only [cmpS, h1, h2, Bool.and_self, if_true, any_map, ret]
  congr
theorem nmem_ {x : α} {l : List α} [Decidable (x ∈ l)] (h : Dat.lv α ≤ 59 := by decide) : cmpS .nmem (enc x) (.tup (l.map enc)) st = .ok (.bl (!decide (x ∈ l))) st := by
  have h1 : D.ok (enc x) = true := ok_of (Nat.le_succ_of_le h)
  have h2 : D.ok (.tup (l.map enc)) = true := ok_of (α := List α) (Nat.succ_le_succ h)
  simp only [cmpS, h1, h2, Bool.and_self, if_true, any_map, ret]
  congr
theorem memL_ {x : α} {l : List α} [Decidable (x ∈ l)] (h : Dat.lv α ≤ 59 := by decide) : cmpS .mem (enc x) (dL l) st = .ok (.bl (decide (x ∈ l))) st := by
  have h1 : D.ok (enc x) = true := ok_of (Nat.le_succ_of_le h)
  have h2 : D.ok (dL l) = true := ok_L h
  simp only [cmpS, h1, h2, Bool.and_self, if_true, any_map, ret]
  congr
theorem nmemL_ {x : α} {l : List α} [Decidable (x ∈ l)] (h : Dat.lv α ≤ 59 := by decide) : cmpS .nmem (enc x) (dL l) st = .ok (.bl (!decide (x ∈ l))) st := by
  have h1 : D.ok (enc x) = true := ok_of (Nat.le_succ_of_le h)
  have h2 : D.ok (dL l) = true := ok_L h
  simp only [cmpS, h1, h2, Bool.and_self, if_true, any_map, ret]
  congr
theorem ltT_ {x y : List α} (h : Dat.lv α ≤ 59 := by decide) : cmpS .lt (.tup (x.map enc)) (.tup (y.map enc)) st = .ok (.bl (ltL x y)) st := by
  have h1 : D.ok (.tup (x.map enc)) = true := ok_of (α := List α) (Nat.succ_le_succ h)
  have h2 : D.ok (.tup (y.map enc)) = true := ok_of (α := List α) (Nat.succ_le_succ h)
  simp only [cmpS, h1, h2, alikes_map, lts_map, Bool.and_self, if_true, ret]
theorem upto_nat (a n : Nat) : upto (a : Int) n = (List.range' a n).map enc := by
  unfold upto
  rw [List.range'_eq_map_range, List.map_map]
  refine List.map_congr_left fun i _ => ?_
  show D.int _ = D.int _
  simp
theorem upto_zero (n : Nat) : upto 0 n = (List.range n).map enc := by
  rw [List.range_eq_range']
  exact upto_nat 0 n
/-- order that sorts -/
def leb (x y : α) : Bool := !Dat.ltb y x
theorem leD_enc {x y : α} : leD (enc x) (enc y) = leb x y := by
  unfold leD leb
  rw [Dat.lt]
theorem ins_map {γ δ : Type} {f : γ → δ} {le : γ → γ → Bool} {le' : δ → δ → Bool} (h : ∀ x y, le' (f x) (f y) = le x y) (x : γ) : ∀ l : List γ, ins le' (f x) (l.map f) = (ins le x l).map f
  | [] => rfl
  | y :: l => by
    rw [List.map_cons]
    unfold ins
    rw [h]
    split
    · rfl
    · rw [List.map_cons, ins_map h x l]
theorem isort_map {γ δ : Type} {f : γ → δ} {le : γ → γ → Bool} {le' : δ → δ → Bool} (h : ∀ x y, le' (f x) (f y) = le x y) : ∀ l : List γ, isort le' (l.map f) = (isort le l).map f
  | [] => rfl
  | x :: l => by
    rw [List.map_cons, isort, isort, isort_map h l, ins_map h]
theorem isort_enc (l : List α) : isort leD (l.map enc) = (isort leb l).map enc := isort_map (fun _ _ => leD_enc) l
theorem pD {p : Prim} {d e : D} {r : List D} (hp : ∀ cs, p ≠ .isI cs) (h : deref d st = .ok e st) : primD p (d :: r) st = primS p (e :: r) st := by
  cases p <;> first
    | exact bk h
    | exact absurd rfl (hp _)
theorem sorted_T {l : List (List α)} (h : Dat.lv α ≤ 59 := by decide) (h2 : (∀ x ∈ l, x ≠ []) ∨ l = [[]]) : primD .sorted [dL l] st = .ok (dL (isort leb l)) st := by
  have hok : (l.map enc).all D.ok = true := List.all_eq_true.mpr fun d hd => by
    obtain ⟨x, hx, rfl⟩ := List.mem_map.mp hd
    exact ok_of (Nat.succ_le_succ h)
  have hal : (l.map enc).all (fun a => (l.map enc).all fun b => D.alike a b) = true := List.all_eq_true.mpr fun d hd => List.all_eq_true.mpr fun e he => by
    obtain ⟨x, hx, rfl⟩ := List.mem_map.mp hd
    obtain ⟨y, hy, rfl⟩ := List.mem_map.mp he
    exact Dat.alike x y
  have hs : sortable (l.map enc) = true := by
    unfold sortable
    simp only [Bool.and_eq_true, Bool.or_eq_true]
    refine ⟨⟨hok, ?_⟩, ?_⟩
    · cases l with
      | nil => rfl
      | cons x r => exact hal
    · rcases h2 with h2 | h2
      · refine .inl (.inl (List.all_eq_true.mpr fun d hd => ?_))
        obtain ⟨x, hx, rfl⟩ := List.mem_map.mp hd
        cases x with
        | nil => exact absurd rfl (h2 [] hx)
        | cons a r => rfl
      · subst h2
        exact .inr rfl
  refine (pD (fun _ z => by cases z) (e := dL l) rfl).trans ?_
  simp only [primS, hs, if_true, isort_enc, ret]
end
end Mp
end
section
set_option Elab.async false
set_option linter.all false
set_option maxRecDepth 100000
set_option maxHeartbeats 1000000
/-! More steps of runs. -/
namespace Mp
open PySem
open Dat (enc)
section
variable {T : List FD} {C : CallF} {env env1 env2 : Env} {st st1 st2 st3 : St} {a b c e x : E} {d y z w : D} {l : List D} {s u : S} {o : Out}
variable {α : Type} [DecidableEq α] [Dat α]
theorem gen_all {γ : Type} {p : Pat} {f : γ → D} {xs : List γ} {g : Option (Nat × List D)} (h : bnd (ev C x env) srcOf st = .ok (xs.map f, g) st) (hg : chk g st = .ok () st) (hx : ∀ x ∈ xs, ∃ env', p.bind (f x) (wipeE env p.slots) = some env' ∧ ev C e env' st = .ok (.bl true) st) :
    ev C (.gen true p x (.con (.bl true)) e) env st = .ok (.bl true) st := by
  have := genA (fun _ => true) h hg hx
  rw [show xs.all (fun _ => true) = true from List.all_eq_true.mpr fun _ _ => rfl] at this
  exact this
theorem rangeOk_of {i : Int} (h1 : -16777217 ≤ i) (h2 : i ≤ 16777217) : rangeOk i = true := by
  unfold rangeOk
  rw [Bool.and_eq_true, decide_eq_true_eq, decide_eq_true_eq]
  omega
theorem it_rng1 {i : Int} {n : Nat} (h : ev C a env st = .ok (.int i) st1) (hn : i.toNat = n) (h1 : -16777217 ≤ i) (h2 : i ≤ 16777217) : bnd (ev C (.itr .range1 (.cons a .nil)) env) srcOf st = .ok ((List.range n).map enc, none) st1 := by
  refine it (al h al0) ?_
  simp only [itemsD, rangeOk_of h1 h2, if_true, ret]
  rw [← upto_zero, hn]
theorem it_rng2 {k j : Nat} (h : ev C a env st = .ok (.int k) st1) (hb : ev C b env st1 = .ok (.int j) st2) (h1 : k ≤ 16777216) (h2 : j ≤ 16777216) : bnd (ev C (.itr .range2 (.cons a (.cons b .nil))) env) srcOf st = .ok ((List.range' k (j - k)).map enc, none) st2 := by
  refine it (al h (al hb al0)) ?_
  simp only [itemsD, rangeOk_of (i := k) (by omega) (by omega), rangeOk_of (i := j) (by omega) (by omega), Bool.and_self, if_true, ret]
  rw [← upto_nat, show ((j : Int) - (k : Int)).toNat = j - k by omega]
theorem numbered_map : ∀ (l : List α) (k : Nat), numbered k (l.map enc) = (l.zipIdx k).map fun p => .tup [.int p.2, enc p.1]
  | [], _ => rfl
  | x :: l, k => by
    rw [List.map_cons, List.zipIdx_cons, List.map_cons]
    unfold numbered
    rw [numbered_map l (k + 1)]
/-- enumerate of a tuple -/
theorem it_enum {xs : List α} (h : ev C a env st = .ok (.tup (xs.map enc)) st1) : bnd (ev C (.itr .enum (.cons a .nil)) env) srcOf st = .ok (xs.zipIdx.map fun p => .tup [.int p.2, enc p.1], none) st1 := by
  refine it (al h al0) ?_
  rw [← numbered_map]
  rfl
theorem it_tup {xs : List D} (h : ev C a env st = .ok (.tup xs) st1) : bnd (ev C (.itr .seq (.cons a .nil)) env) srcOf st = .ok (xs, none) st1 := it (al h al0) rfl
theorem it_lst {xs : List D} (h : ev C a env st = .ok (.lst xs) st1) : bnd (ev C (.itr .seq (.cons a .nil)) env) srcOf st = .ok (xs, none) st1 := it (al h al0) rfl
theorem atI_map {β γ : Type} {f : β → γ} {xs : List β} {i : Nat} {v : β} (h : xs[i]? = some v) : L2.atI (xs.map f) (i : Int) = some (f v) := by
  obtain ⟨hi, _⟩ := List.getElem?_eq_some_iff.mp h
  unfold L2.atI L2.ixN
  rw [List.length_map, if_pos (by omega), if_pos (by omega)]
  show (xs.map f)[(i : Int).toNat]? = _
  rw [Int.toNat_natCast, List.getElem?_map, h]
  rfl
theorem atI_end {β γ : Type} {f : β → γ} {xs : List β} {v : β} (h : xs.getLast? = some v) : L2.atI (xs.map f) (-1) = some (f v) := by
  have hne : xs.length ≠ 0 := fun z => by
    rw [List.length_eq_zero_iff] at z
    subst z
    cases h
  unfold L2.atI L2.ixN
  rw [List.length_map, if_neg (by omega), if_pos (by omega)]
  show (xs.map f)[(-1 + (xs.length : Int)).toNat]? = _
  rw [show (-1 + (xs.length : Int)).toNat = xs.length - 1 by omega, List.getElem?_map, ← List.getLast?_eq_getElem?, h]
  rfl
theorem ixT {xs : List α} {i : Nat} {v : α} (h : xs[i]? = some v) : idxD (.tup (xs.map enc)) (.int i) st = .ok (enc v) st := by
  refine bk2 (v := .tup (xs.map enc)) (st1 := st) rfl ?_
  show opt (L2.atI (xs.map enc) (i : Int)) st = _
  rw [atI_map h]
  rfl
theorem ixT_end {xs : List α} {v : α} (h : xs.getLast? = some v) : idxD (.tup (xs.map enc)) (.int (-1)) st = .ok (enc v) st := by
  refine bk2 (v := .tup (xs.map enc)) (st1 := st) rfl ?_
  show opt (L2.atI (xs.map enc) (-1)) st = _
  rw [atI_end h]
  rfl
theorem ixL {xs : List α} {i : Nat} {v : α} (h : xs[i]? = some v) : idxD (dL xs) (.int i) st = .ok (enc v) st := by
  refine bk2 (v := dL xs) (st1 := st) rfl ?_
  show opt (L2.atI (xs.map enc) (i : Int)) st = _
  rw [atI_map h]
  rfl
theorem ixL_end {xs : List α} {v : α} (h : xs.getLast? = some v) : idxD (dL xs) (.int (-1)) st = .ok (enc v) st := by
  refine bk2 (v := dL xs) (st1 := st) rfl ?_
  show opt (L2.atI (xs.map enc) (-1)) st = _
  rw [atI_end h]
  rfl
theorem cut_take {xs : List D} (i : Nat) : cut xs none (some (i : Int)) = xs.take i := by
  unfold cut
  rw [HT.sIx_none, HT.sIx_nat, List.drop_zero, Nat.sub_zero]
  rcases Nat.le_total i xs.length with h | h
  · rw [Nat.min_eq_left h]
  · rw [Nat.min_eq_right h, List.take_of_length_le (Nat.le_refl _), List.take_of_length_le h]
theorem cut_drop {xs : List D} (i : Nat) : cut xs (some (i : Int)) none = xs.drop i := by
  unfold cut
  rw [HT.sIx_none, HT.sIx_nat]
  rcases Nat.le_total i xs.length with h | h
  · rw [Nat.min_eq_left h]
    exact List.take_of_length_le (by rw [List.length_drop]; omega)
  · rw [Nat.min_eq_right h, Nat.sub_self, List.take_zero, List.drop_eq_nil_of_le h]
theorem cut_init {xs : List D} : cut xs none (some (-1)) = xs.dropLast := by
  unfold cut
  rw [HT.sIx_none, List.drop_zero, Nat.sub_zero, List.dropLast_eq_take]
  have e : HT.sIx xs.length xs.length (some (-1)) = xs.length - 1 := by
    show (if (-1 : Int) < 0 then (-1 + (xs.length : Int)).toNat else min (-1 : Int).toNat xs.length) = _
    rw [if_pos (by omega)]
    omega
  rw [e]
theorem addT {xs ys : List α} (h : (xs ++ ys).length ≤ line) : binD .add (.tup (xs.map enc)) (.tup (ys.map enc)) st = .ok (.tup ((xs ++ ys).map enc)) st := by
  refine bk2 (v := .tup (xs.map enc)) (st1 := st) rfl (bk2 (v := .tup (ys.map enc)) (st1 := st) rfl ?_)
  simp only [binS, retTup]
  rw [← List.map_append, lenOk_of (by rw [List.length_map]; exact h)]
theorem addL {xs ys : List α} (h : (xs ++ ys).length ≤ line) : binD .add (dL xs) (dL ys) st = .ok (dL (xs ++ ys)) st := by
  refine bk2 (v := dL xs) (st1 := st) rfl (bk2 (v := dL ys) (st1 := st) rfl ?_)
  simp only [binS, retLst]
  rw [← List.map_append, lenOk_of (by rw [List.length_map]; exact h)]
theorem tp1 {v : α} (h : ev C a env st = .ok (enc v) st1) : ev C (.tup (.cons a .nil)) env st = .ok (.tup ([v].map enc)) st1 := tp (al h al0) (by show 1 ≤ line; decide)
theorem ls1 {v : α} (h : ev C a env st = .ok (enc v) st1) : ev C (.lst (.cons a .nil)) env st = .ok (dL [v]) st1 := ls (al h al0) (by show 1 ≤ line; decide)
theorem low_snoc {l : List D} (hs : Low st) (h : ∀ d ∈ l, Pl d) : Low (st ++ [.lst l]) := by
  unfold Low at hs ⊢
  rw [List.all_append, Bool.and_eq_true, List.length_append]
  refine ⟨List.all_eq_true.mpr fun c hc => ?_, ?_⟩
  · have q := List.all_eq_true.mp hs c hc
    cases c with
    | lst m => exact D.lows_mono (Nat.le_add_right _ _) m q
  · simp only [List.all_cons, List.all_nil, Bool.and_true, Cell.low]
    exact D.lows_iff.mpr fun d hd => D.low_mono (Nat.zero_le _) d (h d hd)
theorem app_own {l : List D} (h : l.length < line) : methD .append (.cell st.length) [d] (st ++ [.lst l]) = .ok .non (st ++ [.lst (l ++ [d])]) := by
  unfold methD
  simp only
  have e : (st ++ [Cell.lst l])[st.length]? = some (.lst l) := by
    rw [List.getElem?_append_right (Nat.le_refl _), Nat.sub_self]
    rfl
  rw [e]
  simp only [h, decide_true, if_true, List.set_append_right, Nat.le_refl, Nat.sub_self, List.set_cons_zero]
theorem deref_own {l : List D} : deref (.cell st.length) (st ++ [.lst l]) = .ok (.lst l) (st ++ [.lst l]) := by
  unfold deref
  simp only
  have e : (st ++ [Cell.lst l])[st.length]? = some (.lst l) := by
    rw [List.getElem?_append_right (Nat.le_refl _), Nat.sub_self]
    rfl
  rw [e]
end
end Mp
end
section
set_option Elab.async false
set_option linter.all false
/-! Paintings, counted by heaps. -/
namespace GM
abbrev Heaps := List (List Nat)
abbrev Col := List (Nat × List Nat)
/-- ways to add a house to heaps; fr: the heap has no neighbor of it -/
def wW (fr : List Nat → Bool) (P : Heaps) (h : Nat) : List Heaps := (P ++ [[h]]) :: (P.zipIdx.filter fun p => fr p.1).map fun p => P.take p.2 ++ [p.1 ++ [h]] ++ P.drop (p.2 + 1)
def cols (K : Col) : List Nat := K.map Prod.fst
def hps (K : Col) : Heaps := K.map Prod.snd
def upd (h c : Nat) (K : Col) : Col := if c ∈ cols K then K.map fun q => if q.1 = c then (q.1, q.2 ++ [h]) else q else K ++ [(c, [h])]
def okc (fr : List Nat → Bool) (K : Col) (c : Nat) : Bool := K.all fun q => !decide (q.1 = c) || fr q.2
/-- sum over a list -/
def sm {α : Type} (f : α → Nat) (l : List α) : Nat := (l.map f).sum
section
variable {α β : Type}
theorem sm_nil {f : α → Nat} : sm f [] = 0 := rfl
theorem sm_cons {f : α → Nat} {a : α} {l : List α} : sm f (a :: l) = f a + sm f l := by
  unfold sm
  rw [List.map_cons, List.sum_cons]
theorem sm_append {f : α → Nat} {l m : List α} : sm f (l ++ m) = sm f l + sm f m := by
  unfold sm
  rw [List.map_append, List.sum_append_nat]
theorem sm_map {f : β → Nat} {g : α → β} {l : List α} : sm f (l.map g) = sm (fun a => f (g a)) l := by
  unfold sm
  rw [List.map_map]
  rfl
theorem sm_congr {f g : α → Nat} {l : List α} (h : ∀ a ∈ l, f a = g a) : sm f l = sm g l := by
  unfold sm
  rw [List.map_congr_left h]
theorem sm_flatMap {f : β → Nat} {g : α → List β} : ∀ {l : List α}, sm f (l.flatMap g) = sm (fun a => sm f (g a)) l
  | [] => rfl
  | a :: l => by rw [List.flatMap_cons, sm_append, sm_cons, sm_flatMap]
theorem sm_perm {f : α → Nat} {l m : List α} (h : l.Perm m) : sm f l = sm f m := (h.map f).sum_nat
theorem sm_mul {f : α → Nat} {k : Nat} : ∀ {l : List α}, sm (fun a => k * f a) l = k * sm f l
  | [] => rfl
  | a :: l => by rw [sm_cons, sm_cons, sm_mul, Nat.mul_add]
theorem sm_const {k : Nat} : ∀ {l : List α}, sm (fun _ => k) l = l.length * k
  | [] => by rw [sm_nil, List.length_nil, Nat.zero_mul]
  | a :: l => by rw [sm_cons, sm_const, List.length_cons, Nat.succ_mul, Nat.add_comm]
theorem sm_split {f : α → Nat} {p : α → Bool} : ∀ {l : List α}, sm f l = sm f (l.filter p) + sm f (l.filter fun a => !p a)
  | [] => rfl
  | a :: l => by
    rw [sm_cons, sm_split (l := l) (p := p)]
    cases h : p a with
    | true =>
      rw [List.filter_cons_of_pos h, List.filter_cons_of_neg (by rw [h]; simp), sm_cons]
      omega
    | false =>
      rw [List.filter_cons_of_neg (by rw [h]; simp), List.filter_cons_of_pos (by rw [h]; simp), sm_cons]
      omega
theorem len_flatMap {g : α → List β} : ∀ {l : List α}, (l.flatMap g).length = sm (fun a => (g a).length) l
  | [] => rfl
  | a :: l => by rw [List.flatMap_cons, List.length_append, sm_cons, len_flatMap]
end
/-- so many choices in sequence -/
def prm (p : Nat) : Nat → Nat
  | 0 => 1
  | k + 1 => prm p k * (p - k)
theorem prm_pos {p : Nat} : ∀ {k : Nat}, k ≤ p → 0 < prm p k
  | 0, _ => Nat.one_pos
  | k + 1, h => Nat.mul_pos (prm_pos (Nat.le_of_succ_le h)) (Nat.sub_pos_of_lt h)
theorem prm_zero {p : Nat} : ∀ {k : Nat}, p < k → prm p k = 0
  | k + 1, h => by
    unfold prm
    rcases Nat.lt_or_ge p k with z | z
    · rw [prm_zero z, Nat.zero_mul]
    · rw [Nat.sub_eq_zero_of_le (by omega), Nat.mul_zero]
variable {fr : List Nat → Bool} {h pots : Nat}
/-- colors unlike, and within the pots -/
def Good (pots : Nat) (K : Col) : Prop := (cols K).Nodup ∧ ∀ c ∈ cols K, 1 ≤ c ∧ c ≤ pots
theorem upd_in {K : Col} {c : Nat} (hc : c ∈ cols K) : upd h c K = K.map fun q => if q.1 = c then (q.1, q.2 ++ [h]) else q := if_pos hc
theorem upd_new {K : Col} {c : Nat} (hc : ¬ c ∈ cols K) : upd h c K = K ++ [(c, [h])] := if_neg hc
theorem cols_upd {K : Col} {c : Nat} : cols (upd h c K) = if c ∈ cols K then cols K else cols K ++ [c] := by
  unfold upd
  split
  · unfold cols
    rw [List.map_map]
    refine List.map_congr_left fun q _ => ?_
    show (if q.1 = c then (q.1, q.2 ++ [h]) else q).1 = q.1
    split <;> rfl
  · unfold cols
    rw [List.map_append]
    rfl
theorem good_upd {K : Col} {c : Nat} (g : Good pots K) (h1 : 1 ≤ c) (h2 : c ≤ pots) : Good pots (upd h c K) := by
  unfold Good
  rw [cols_upd]
  split
  · exact g
  · rename_i hc
    refine ⟨List.nodup_append.mpr ⟨g.1, List.pairwise_singleton _ _, fun a ha b hb => ?_⟩, fun x hx => ?_⟩
    · rw [List.mem_singleton.mp hb]
      exact fun e => hc (e ▸ ha)
    · rcases List.mem_append.mp hx with hx | hx
      · exact g.2 x hx
      · rw [List.mem_singleton.mp hx]
        exact ⟨h1, h2⟩
theorem len_le {K : Col} (g : Good pots K) : K.length ≤ pots := by
  have h1 : cols K ⊆ List.range' 1 pots := fun c hc => by
    have := g.2 c hc
    exact List.mem_range'_1.mpr ⟨this.1, by omega⟩
  have h2 := (List.Nodup.length_le_of_subset g.1 h1)
  rw [List.length_range'] at h2
  unfold cols at h2
  rwa [List.length_map] at h2
theorem rest_len {K : Col} (g : Good pots K) : ((List.range' 1 pots).filter fun c => !decide (c ∈ cols K)).length = pots - K.length := by
  have h1 : ((List.range' 1 pots).filter fun c => decide (c ∈ cols K)).Perm (cols K) := by
    refine (List.perm_ext_iff_of_nodup (List.Pairwise.filter _ List.nodup_range') g.1).mpr fun c => ?_
    rw [List.mem_filter, decide_eq_true_eq]
    refine ⟨fun z => z.2, fun z => ⟨?_, z⟩⟩
    have := g.2 c z
    exact List.mem_range'_1.mpr ⟨this.1, by omega⟩
  have h2 := h1.length_eq
  have h3 := sm_split (f := fun _ => 1) (p := fun c => decide (c ∈ cols K)) (l := List.range' 1 pots)
  rw [sm_const, sm_const, sm_const, List.length_range'] at h3
  unfold cols at h2 h3 ⊢
  rw [List.length_map] at h2
  omega
theorem okc_used {K : Col} (nd : (cols K).Nodup) {q : Nat × List Nat} (hq : q ∈ K) : okc fr K q.1 = fr q.2 := by
  cases e : fr q.2 with
  | true =>
    refine List.all_eq_true.mpr fun r hr => ?_
    by_cases z : r.1 = q.1
    · have : r = q := by
        by_cases w : r = q
        · exact w
        · exact absurd z (by
            have := nd
            unfold cols at this
            have k := List.pairwise_map.mp this
            rcases List.mem_iff_getElem.mp hr with ⟨i, hi, rfl⟩
            rcases List.mem_iff_getElem.mp hq with ⟨j, hj, rfl⟩
            have kk := List.pairwise_iff_getElem.mp k
            rcases Nat.lt_trichotomy i j with l | l | l
            · exact kk i j hi hj l
            · subst l
              exact absurd rfl w
            · exact fun e => kk j i hj hi l e.symm)
      rw [this, e, Bool.or_true]
    · rw [decide_eq_false z]
      rfl
  | false =>
    cases k : okc fr K q.1 with
    | false => rfl
    | true =>
      have := List.all_eq_true.mp k q hq
      rw [decide_eq_true rfl, e] at this
      cases this
theorem okc_new {K : Col} {c : Nat} (hc : ¬ c ∈ cols K) : okc fr K c = true := List.all_eq_true.mpr fun q hq => by
  rw [decide_eq_false fun e => hc (by rw [← e]; exact List.mem_map_of_mem hq)]
  rfl
/-- the heap at a place grows -/
theorem upd_at {A B : Col} {q : Nat × List Nat} (nd : (cols (A ++ q :: B)).Nodup) : hps (upd h q.1 (A ++ q :: B)) = hps A ++ [q.2 ++ [h]] ++ hps B := by
  have hm : q.1 ∈ cols (A ++ q :: B) := List.mem_map_of_mem (List.mem_append_right _ List.mem_cons_self)
  rw [upd_in hm]
  unfold cols at nd
  rw [List.map_append, List.map_cons, List.nodup_append] at nd
  obtain ⟨n1, n2, n3⟩ := nd
  rw [List.nodup_cons] at n2
  unfold hps
  have e1 : A.map (fun r => if r.1 = q.1 then (r.1, r.2 ++ [h]) else r) = A := by
    refine (List.map_congr_left fun r hr => ?_).trans (List.map_id A)
    rw [if_neg fun e => n3 r.1 (List.mem_map_of_mem hr) q.1 List.mem_cons_self e]
    rfl
  have e2 : B.map (fun r => if r.1 = q.1 then (r.1, r.2 ++ [h]) else r) = B := by
    refine (List.map_congr_left fun r hr => ?_).trans (List.map_id B)
    rw [if_neg fun e => n2.1 (by rw [← e]; exact List.mem_map_of_mem hr)]
    rfl
  rw [List.map_append, List.map_cons, e1, e2, if_pos rfl, List.map_append, List.map_cons, List.append_assoc]
  rfl
theorem zip_sum {F : Heaps → Nat} {X : Col} : ∀ {B A : Col}, X = A ++ B → (cols X).Nodup →
    sm (fun q => F (hps (upd h q.1 X))) (B.filter fun q => fr q.2) = sm (fun p : List Nat × Nat => F ((hps X).take p.2 ++ [p.1 ++ [h]] ++ (hps X).drop (p.2 + 1))) (((hps B).zipIdx A.length).filter fun p => fr p.1)
  | [], _, _, _ => rfl
  | q :: B, A, e, nd => by
    have ih := zip_sum (F := F) (B := B) (A := A ++ [q]) (by rw [e, List.append_assoc]; rfl) nd
    rw [List.length_append, List.length_singleton] at ih
    have e0 : hps (q :: B) = q.2 :: hps B := rfl
    rw [e0, List.zipIdx_cons]
    have key : F (hps (upd h q.1 X)) = F ((hps X).take A.length ++ [q.2 ++ [h]] ++ (hps X).drop (A.length + 1)) := by
      rw [e] at nd
      rw [e, upd_at nd]
      have l : (hps A).length = A.length := List.length_map _
      have e1 : hps (A ++ q :: B) = hps A ++ q.2 :: hps B := by
        unfold hps
        rw [List.map_append, List.map_cons]
      rw [e1, ← l, List.take_left, List.drop_append, List.drop_eq_nil_of_le (Nat.le_succ _), Nat.add_sub_cancel_left]
      rfl
    cases k : fr q.2 with
    | true =>
      rw [List.filter_cons_of_pos (by exact k), List.filter_cons_of_pos (by exact k), sm_cons, sm_cons, ih, key]
    | false =>
      rw [List.filter_cons_of_neg (by simp [k]), List.filter_cons_of_neg (by simp [k]), ih]
/-- one house more, summed up -/
theorem step_one {F : Heaps → Nat} {K : Col} (g : Good pots K) :
    sm (fun c => F (hps (upd h c K))) ((List.range' 1 pots).filter (okc fr K)) = (pots - (hps K).length) * F (hps K ++ [[h]]) + sm (fun p : List Nat × Nat => F ((hps K).take p.2 ++ [p.1 ++ [h]] ++ (hps K).drop (p.2 + 1))) ((hps K).zipIdx.filter fun p => fr p.1) := by
  have lk : (hps K).length = K.length := List.length_map _
  have e1 : sm (fun c => F (hps (upd h c K))) ((List.range' 1 pots).filter (okc fr K)) = sm (fun c => F (hps (upd h c K))) ((cols K).filter (okc fr K)) + (pots - K.length) * F (hps K ++ [[h]]) := by
    rw [sm_split (p := fun c => decide (c ∈ cols K))]
    congr 1
    · refine sm_perm ?_
      refine (List.perm_ext_iff_of_nodup (List.Pairwise.filter _ (List.Pairwise.filter _ List.nodup_range')) (List.Pairwise.filter _ g.1)).mpr fun c => ?_
      rw [List.mem_filter, List.mem_filter, List.mem_filter, decide_eq_true_eq]
      refine ⟨fun z => ⟨z.2, z.1.2⟩, fun z => ⟨⟨?_, z.2⟩, z.1⟩⟩
      have := g.2 c z.1
      exact List.mem_range'_1.mpr ⟨this.1, by omega⟩
    · have e2 : ((List.range' 1 pots).filter (okc fr K)).filter (fun c => !decide (c ∈ cols K)) = (List.range' 1 pots).filter fun c => !decide (c ∈ cols K) := by
        rw [List.filter_filter]
        refine List.filter_congr fun c _ => ?_
        cases z : decide (c ∈ cols K) with
        | true => rfl
        | false =>
          rw [okc_new (of_decide_eq_false z)]
          rfl
      rw [e2, ← rest_len g]
      refine (sm_congr (g := fun _ => F (hps K ++ [[h]])) fun c hc => ?_).trans sm_const
      have hc := (List.mem_filter.mp hc).2
      rw [upd_new (by simpa using hc)]
      unfold hps
      rw [List.map_append]
      rfl
  have e3 : (cols K).filter (okc fr K) = (K.filter fun q => fr q.2).map Prod.fst := by
    unfold cols
    rw [List.filter_map]
    congr 1
    exact List.filter_congr fun q hq => okc_used g.1 hq
  have e4 := zip_sum (fr := fr) (h := h) (F := F) (X := K) (B := K) (A := []) rfl g.1
  rw [e1, e3, sm_map, e4, lk, Nat.add_comm]
  rfl
theorem step_ways {F : Heaps → Nat} {P : Heaps} : prm pots P.length * ((pots - P.length) * F (P ++ [[h]]) + sm (fun p : List Nat × Nat => F (P.take p.2 ++ [p.1 ++ [h]] ++ P.drop (p.2 + 1))) (P.zipIdx.filter fun p => fr p.1)) = sm (fun P => prm pots P.length * F P) (wW fr P h) := by
  unfold wW
  rw [sm_cons, sm_map, Nat.mul_add]
  congr 1
  · rw [List.length_append, List.length_singleton]
    rw [show prm pots (P.length + 1) = prm pots P.length * (pots - P.length) from rfl, Nat.mul_assoc]
  · rw [← sm_mul]
    refine sm_congr fun p hp => ?_
    have := List.mem_zipIdx' (List.mem_filter.mp hp).1
    have l : (P.take p.2 ++ [p.1 ++ [h]] ++ P.drop (p.2 + 1)).length = P.length := by
      simp only [List.length_append, List.length_take, List.length_drop, List.length_singleton]
      omega
    rw [l]
end GM
end
section
set_option Elab.async false
set_option linter.all false
namespace GM
def barred (adj : Nat → Nat → Bool) (lot : List Nat) (i h : Nat) (t : List Nat) : List Nat := ((List.range i).filter fun k => adj h (lot.getD k 0)).map fun k => t.getD k 0
def lwStep (adj : Nat → Nat → Bool) (lot : List Nat) (pots i h : Nat) (W : List (List Nat)) : List (List Nat) := W.flatMap fun t => ((List.range' 1 pots).filter fun c => !decide (c ∈ barred adj lot i h t)).map fun c => t ++ [c]
def lwFrom (adj : Nat → Nat → Bool) (lot : List Nat) (pots : Nat) (l : List (Nat × Nat)) (W : List (List Nat)) : List (List Nat) := l.foldl (fun W p => lwStep adj lot pots p.2 p.1 W) W
def lawWays (adj : Nat → Nat → Bool) (lot : List Nat) (pots : Nat) : List (List Nat) := lwFrom adj lot pots lot.zipIdx [[]]
def parts (fr : Nat → List Nat → Bool) (lot : List Nat) (W : List Heaps) : List Heaps := lot.foldl (fun W h => W.flatMap fun P => wW (fr h) P h) W
structure Inv (dn t : List Nat) (K : Col) : Prop where
  len : t.length = dn.length
  fwd : ∀ q ∈ K, ∀ x ∈ q.2, ∃ k, k < dn.length ∧ dn.getD k 0 = x ∧ t.getD k 0 = q.1
  bwd : ∀ k, k < dn.length → ∃ q ∈ K, q.1 = t.getD k 0 ∧ dn.getD k 0 ∈ q.2
theorem getD_l {l m : List Nat} {k : Nat} (h : k < l.length) : (l ++ m).getD k 0 = l.getD k 0 := by
  rw [List.getD_eq_getElem?_getD, List.getD_eq_getElem?_getD, List.getElem?_append_left h]
theorem getD_e {l : List Nat} {x : Nat} : (l ++ [x]).getD l.length 0 = x := by
  rw [List.getD_eq_getElem?_getD, List.getElem?_append_right (Nat.le_refl _), Nat.sub_self]
  rfl
theorem getD_mem {l : List Nat} {k : Nat} (h : k < l.length) : l.getD k 0 ∈ l := by
  rw [List.getD_eq_getElem?_getD, List.getElem?_eq_getElem h]
  exact List.getElem_mem h
theorem Inv.ok {dn t rest : List Nat} {K : Col} {h c : Nat} {adj : Nat → Nat → Bool} {fr : List Nat → Bool} (I : Inv dn t K) (hf : ∀ q ∈ K, fr q.2 = !(q.2.any fun o => adj h o)) :
    (!decide (c ∈ barred adj (dn ++ rest) dn.length h t)) = okc fr K c := by
  cases e : okc fr K c with
  | true =>
    rw [Bool.not_eq_true', decide_eq_false_iff_not]
    intro hc
    unfold barred at hc
    obtain ⟨k, hk, rfl⟩ := List.mem_map.mp hc
    obtain ⟨hk, ha⟩ := List.mem_filter.mp hk
    have hk := List.mem_range.mp hk
    rw [getD_l hk] at ha
    obtain ⟨q, hq, e1, e2⟩ := I.bwd k hk
    have := List.all_eq_true.mp e q hq
    rw [decide_eq_true e1, hf q hq] at this
    have z : q.2.any (fun o => adj h o) = true := List.any_eq_true.mpr ⟨_, e2, ha⟩
    rw [z] at this
    cases this
  | false =>
    rw [Bool.not_eq_false', decide_eq_true_eq]
    unfold okc at e
    rw [List.all_eq_false] at e
    obtain ⟨q, hq, z⟩ := e
    rw [hf q hq] at z
    have z1 : q.1 = c := by
      by_cases w : q.1 = c
      · exact w
      · rw [decide_eq_false w] at z
        exact absurd rfl z
    have z2 : q.2.any (fun o => adj h o) = true := by
      cases w : q.2.any (fun o => adj h o) with
      | true => rfl
      | false =>
        rw [w] at z
        simp at z
    obtain ⟨x, hx, ha⟩ := List.any_eq_true.mp z2
    obtain ⟨k, hk, e1, e2⟩ := I.fwd q hq x hx
    refine List.mem_map.mpr ⟨k, List.mem_filter.mpr ⟨List.mem_range.mpr hk, ?_⟩, by rw [e2, z1]⟩
    rw [getD_l hk, e1]
    exact ha
theorem Inv.add {dn t : List Nat} {K : Col} {h c : Nat} (I : Inv dn t K) : Inv (dn ++ [h]) (t ++ [c]) (upd h c K) := by
  have hl := I.len
  refine ⟨by rw [List.length_append, List.length_append, hl]; rfl, fun q hq x hx => ?_, fun k hk => ?_⟩
  · rw [List.length_append, List.length_singleton]
    by_cases hc : c ∈ cols K
    · rw [upd_in hc] at hq
      obtain ⟨r, hr, rfl⟩ := List.mem_map.mp hq
      by_cases e : r.1 = c
      · rw [if_pos e] at hx ⊢
        rcases List.mem_append.mp hx with hx | hx
        · obtain ⟨k, hk, e1, e2⟩ := I.fwd r hr x hx
          exact ⟨k, by omega, by rw [getD_l hk]; exact e1, by rw [getD_l (by omega)]; exact e2⟩
        · rw [List.mem_singleton.mp hx]
          refine ⟨dn.length, by omega, getD_e, ?_⟩
          rw [← hl, getD_e]
          exact e.symm
      · rw [if_neg e] at hx ⊢
        obtain ⟨k, hk, e1, e2⟩ := I.fwd r hr x hx
        exact ⟨k, by omega, by rw [getD_l hk]; exact e1, by rw [getD_l (by omega)]; exact e2⟩
    · rw [upd_new hc] at hq
      rcases List.mem_append.mp hq with hq | hq
      · obtain ⟨k, hk, e1, e2⟩ := I.fwd q hq x hx
        exact ⟨k, by omega, by rw [getD_l hk]; exact e1, by rw [getD_l (by omega)]; exact e2⟩
      · rw [List.mem_singleton.mp hq] at hx ⊢
        rw [List.mem_singleton.mp hx]
        refine ⟨dn.length, by omega, getD_e, ?_⟩
        rw [← hl, getD_e]
  · rw [List.length_append, List.length_singleton] at hk
    rcases Nat.lt_or_ge k dn.length with z | z
    · rw [getD_l z, getD_l (by omega)]
      obtain ⟨q, hq, e1, e2⟩ := I.bwd k z
      unfold upd
      split
      · refine ⟨_, List.mem_map_of_mem hq, ?_⟩
        split
        · exact ⟨e1, List.mem_append_left _ e2⟩
        · exact ⟨e1, e2⟩
      · exact ⟨q, List.mem_append_left _ hq, e1, e2⟩
    · have : k = dn.length := by omega
      subst this
      rw [getD_e, ← hl, getD_e]
      unfold upd
      split
      · rename_i hc
        obtain ⟨q, hq, e⟩ := List.mem_map.mp hc
        refine ⟨_, List.mem_map_of_mem hq, ?_⟩
        rw [if_pos e]
        exact ⟨e, List.mem_append_right _ List.mem_cons_self⟩
      · exact ⟨_, List.mem_append_right _ List.mem_cons_self, rfl, List.mem_cons_self⟩
theorem fm_congr {α β : Type} {f g : α → List β} {l : List α} (h : ∀ a ∈ l, f a = g a) : l.flatMap f = l.flatMap g := by
  unfold List.flatMap
  rw [List.map_congr_left h]
/-- the paintings are as many as the parts told by heaps, each with its choices -/
theorem count_from {adj : Nat → Nat → Bool} {fr : Nat → List Nat → Bool} {pots : Nat} {lot : List Nat} (hf : ∀ h ∈ lot, ∀ H : List Nat, (∀ x ∈ H, x ∈ lot) → fr h H = !(H.any fun o => adj h o)) :
    ∀ (rest dn : List Nat) (TK : List (List Nat × Col)) (Ps : List Heaps), lot = dn ++ rest → (∀ s ∈ TK, Inv dn s.1 s.2 ∧ Good pots s.2) →
      (∀ F : Heaps → Nat, sm (fun s => F (hps s.2)) TK = sm (fun P => prm pots P.length * F P) Ps) →
      (lwFrom adj lot pots (rest.zipIdx dn.length) (TK.map Prod.fst)).length = sm (fun P => prm pots P.length) (parts fr rest Ps)
  | [], dn, TK, Ps, e, hI, hF => by
    have := hF fun _ => 1
    rw [sm_const] at this
    simp only [Nat.mul_one] at this
    show (TK.map Prod.fst).length = sm _ Ps
    rw [List.length_map, ← this]
  | h :: rest, dn, TK, Ps, e, hI, hF => by
    have hh : h ∈ lot := by rw [e]; exact List.mem_append_right _ List.mem_cons_self
    have hfr : ∀ s ∈ TK, ∀ q ∈ s.2, fr h q.2 = !(q.2.any fun o => adj h o) := fun s hs q hq => hf h hh q.2 fun x hx => by
      obtain ⟨k, hk, e1, _⟩ := (hI s hs).1.fwd q hq x hx
      rw [e, ← e1]
      exact List.mem_append_left _ (getD_mem hk)
    have ih := count_from hf rest (dn ++ [h]) (TK.flatMap fun s => ((List.range' 1 pots).filter (okc (fr h) s.2)).map fun c => (s.1 ++ [c], upd h c s.2)) (Ps.flatMap fun P => wW (fr h) P h) (by rw [e, List.append_assoc]; rfl) (fun s hs => by
      obtain ⟨r, hr, hs⟩ := List.mem_flatMap.mp hs
      obtain ⟨c, hc, rfl⟩ := List.mem_map.mp hs
      have hc := List.mem_range'_1.mp (List.mem_filter.mp hc).1
      exact ⟨(hI r hr).1.add, good_upd (hI r hr).2 hc.1 (by omega)⟩) (fun F => by
      rw [sm_flatMap, sm_flatMap]
      have s1 : sm (fun s => sm (fun a => F (hps a.2)) (((List.range' 1 pots).filter (okc (fr h) s.2)).map fun c => (s.1 ++ [c], upd h c s.2))) TK = sm (fun s => (pots - (hps s.2).length) * F (hps s.2 ++ [[h]]) + sm (fun p : List Nat × Nat => F ((hps s.2).take p.2 ++ [p.1 ++ [h]] ++ (hps s.2).drop (p.2 + 1))) ((hps s.2).zipIdx.filter fun p => fr h p.1)) TK := by
        refine sm_congr fun s hs => ?_
        rw [sm_map]
        exact step_one (hI s hs).2
      rw [s1]
      refine (hF fun P => (pots - P.length) * F (P ++ [[h]]) + sm (fun p : List Nat × Nat => F (P.take p.2 ++ [p.1 ++ [h]] ++ P.drop (p.2 + 1))) (P.zipIdx.filter fun p => fr h p.1)).trans ?_
      refine sm_congr fun P _ => ?_
      exact step_ways)
    rw [List.length_append, List.length_singleton] at ih
    rw [List.zipIdx_cons]
    show (lwFrom adj lot pots (rest.zipIdx (dn.length + 1)) (lwStep adj lot pots dn.length h (TK.map Prod.fst))).length = sm _ (parts fr rest (Ps.flatMap fun P => wW (fr h) P h))
    rw [← ih]
    congr 2
    unfold lwStep
    rw [List.flatMap_map, List.map_flatMap]
    refine fm_congr fun s hs => ?_
    rw [e]
    rw [List.map_map, List.filter_congr fun c _ => (hI s hs).1.ok (rest := h :: rest) (hfr s hs)]
    rfl
theorem count_ways {adj : Nat → Nat → Bool} {fr : Nat → List Nat → Bool} {pots : Nat} {lot : List Nat} (hf : ∀ h ∈ lot, ∀ H : List Nat, (∀ x ∈ H, x ∈ lot) → fr h H = !(H.any fun o => adj h o)) : (lawWays adj lot pots).length = sm (fun P => prm pots P.length) (parts fr lot [[]]) := by
  refine count_from hf lot [] [([], [])] [[]] rfl (fun s hs => ?_) fun F => ?_
  · rw [List.mem_singleton.mp hs]
    exact ⟨⟨rfl, (fun _ z => by cases z), (fun _ z => by cases z)⟩, List.Pairwise.nil, (fun _ z => by cases z)⟩
  · show F [] + 0 = 1 * F [] + 0
    omega
theorem sm_zero {α : Type} {f : α → Nat} : ∀ {l : List α}, sm f l = 0 ↔ ∀ a ∈ l, f a = 0
  | [] => by simp [sm]
  | a :: l => by rw [sm_cons, Nat.add_eq_zero_iff, sm_zero (l := l), List.forall_mem_cons]
/-- no painting exactly if all parts have more heaps than there are pots -/
theorem no_ways {adj : Nat → Nat → Bool} {fr : Nat → List Nat → Bool} {pots : Nat} {lot : List Nat} (hf : ∀ h ∈ lot, ∀ H : List Nat, (∀ x ∈ H, x ∈ lot) → fr h H = !(H.any fun o => adj h o)) : lawWays adj lot pots = [] ↔ ∀ P ∈ parts fr lot [[]], pots < P.length := by
  rw [← List.length_eq_zero_iff, count_ways hf, sm_zero]
  refine forall_congr' fun P => forall_congr' fun _ => ⟨fun z => ?_, fun z => prm_zero z⟩
  rcases Nat.lt_or_ge pots P.length with w | w
  · exact w
  · have := prm_pos w
    omega
end GM
end
section
set_option Elab.async false
set_option linter.all false
namespace GM
open Mp
section
variable {α : Type} {le : α → α → Bool}
theorem ins_perm {x : α} : ∀ {l : List α}, (ins le x l).Perm (x :: l)
  | [] => .refl _
  | y :: l => by
    unfold ins
    split
    · exact .refl _
    · exact (List.Perm.cons y ins_perm).trans (List.Perm.swap x y l)
theorem isort_perm : ∀ {l : List α}, (isort le l).Perm l
  | [] => .refl _
  | x :: l => by
    unfold isort
    exact ins_perm.trans (List.Perm.cons x isort_perm)
theorem ins_sorted (tot : ∀ a b, le a b = true ∨ le b a = true) (tr : ∀ a b c, le a b = true → le b c = true → le a c = true) {x : α} : ∀ {l : List α}, l.Pairwise (fun a b => le a b = true) → (ins le x l).Pairwise fun a b => le a b = true
  | [], _ => List.pairwise_singleton _ _
  | y :: l, h => by
    have h' := List.pairwise_cons.mp h
    unfold ins
    split
    · rename_i z
      refine List.pairwise_cons.mpr ⟨fun a ha => ?_, h⟩
      rcases List.mem_cons.mp ha with rfl | ha
      · exact z
      · exact tr _ _ _ z (h'.1 a ha)
    · rename_i z
      refine List.pairwise_cons.mpr ⟨fun a ha => ?_, ins_sorted tot tr h'.2⟩
      rcases List.mem_cons.mp (ins_perm.mem_iff.mp ha) with rfl | ha
      · rcases tot a y with w | w
        · exact absurd w z
        · exact w
      · exact h'.1 a ha
theorem isort_sorted (tot : ∀ a b, le a b = true ∨ le b a = true) (tr : ∀ a b c, le a b = true → le b c = true → le a c = true) : ∀ {l : List α}, (isort le l).Pairwise fun a b => le a b = true
  | [] => List.Pairwise.nil
  | x :: l => by
    unfold isort
    exact ins_sorted tot tr (isort_sorted tot tr)
end
/-! tuples of numbers -/
theorem ltL_irr : ∀ l : List Nat, ltL l l = false
  | [] => rfl
  | a :: l => by
    unfold ltL
    rw [if_pos rfl]
    exact ltL_irr l
theorem ltL_tri : ∀ l m : List Nat, ltL l m = true ∨ l = m ∨ ltL m l = true
  | [], [] => .inr (.inl rfl)
  | [], _ :: _ => .inl rfl
  | _ :: _, [] => .inr (.inr rfl)
  | a :: l, b :: m => by
    unfold ltL
    by_cases e : a = b
    · subst e
      rw [if_pos rfl, if_pos rfl]
      rcases ltL_tri l m with h | h | h
      · exact .inl h
      · exact .inr (.inl (by rw [h]))
      · exact .inr (.inr h)
    · rw [if_neg e, if_neg (Ne.symm e)]
      show decide (a < b) = true ∨ _ ∨ decide (b < a) = true
      rw [decide_eq_true_eq, decide_eq_true_eq]
      rcases Nat.lt_trichotomy a b with h | h | h
      · exact .inl h
      · exact absurd h e
      · exact .inr (.inr h)
theorem ltL_tr : ∀ l m n : List Nat, ltL l m = true → ltL m n = true → ltL l n = true
  | [], m, [], _, h => by cases m <;> cases h
  | [], _, _ :: _, _, _ => rfl
  | _ :: _, [], _, h, _ => by cases h
  | _ :: _, _ :: _, [], _, h => by cases h
  | a :: l, b :: m, c :: n, h, k => by
    unfold ltL at h k ⊢
    by_cases e : a = b
    · subst e
      rw [if_pos rfl] at h
      by_cases f : a = c
      · rw [if_pos f] at k ⊢
        exact ltL_tr l m n h k
      · rw [if_neg f] at k ⊢
        exact k
    · rw [if_neg e] at h
      have h : a < b := of_decide_eq_true h
      by_cases f : b = c
      · subst f
        rw [if_neg e]
        exact decide_eq_true h
      · rw [if_neg f] at k
        have k : b < c := of_decide_eq_true k
        rw [if_neg (by omega)]
        exact decide_eq_true (Nat.lt_trans h k)
theorem leb_tot (l m : List Nat) : leb l m = true ∨ leb m l = true := by
  unfold leb
  show (!ltL m l) = true ∨ (!ltL l m) = true
  rcases ltL_tri l m with h | h | h
  · refine .inl ?_
    cases k : ltL m l with
    | false => rfl
    | true =>
      have := ltL_tr _ _ _ h k
      rw [ltL_irr] at this
      cases this
  · subst h
    rw [ltL_irr]
    exact .inl rfl
  · refine .inr ?_
    cases k : ltL l m with
    | false => rfl
    | true =>
      have := ltL_tr _ _ _ h k
      rw [ltL_irr] at this
      cases this
theorem leb_iff {l m : List Nat} : leb l m = true ↔ ltL l m = true ∨ l = m := by
  show (!ltL m l) = true ↔ _
  rw [Bool.not_eq_true']
  constructor
  · intro h
    rcases ltL_tri l m with k | k | k
    · exact .inl k
    · exact .inr k
    · rw [h] at k
      cases k
  · rintro (h | h)
    · cases k : ltL m l with
      | false => rfl
      | true =>
        have := ltL_tr _ _ _ h k
        rw [ltL_irr] at this
        cases this
    · subst h
      exact ltL_irr l
theorem leb_tr (l m n : List Nat) (h : leb l m = true) (k : leb m n = true) : leb l n = true := by
  rw [leb_iff] at h k ⊢
  rcases h with h | rfl
  · rcases k with k | rfl
    · exact .inl (ltL_tr _ _ _ h k)
    · exact .inl h
  · exact k
theorem leb_anti {l m : List Nat} (h : leb l m = true) (k : leb m l = true) : l = m := by
  rw [leb_iff] at h k
  rcases h with h | h
  · rcases k with k | k
    · have := ltL_tr _ _ _ h k
      rw [ltL_irr] at this
      cases this
    · exact k.symm
  · exact h
theorem leb_sorted {l : List (List Nat)} : (isort leb l).Pairwise fun a b => leb a b = true := isort_sorted leb_tot leb_tr
theorem leb_uniq {l m : List (List Nat)} (h : l.Pairwise fun a b => leb a b = true) (k : m.Pairwise fun a b => leb a b = true) (p : l.Perm m) : l = m := List.Perm.eq_of_pairwise (fun _ _ _ _ a b => leb_anti a b) h k p
theorem isort_eq {l m : List (List Nat)} (p : l.Perm m) : isort leb l = isort leb m := leb_uniq leb_sorted leb_sorted (isort_perm.trans (p.trans isort_perm.symm))
/-- by length, then by itself -/
def lenLe (l m : List Nat) : Bool := if l.length = m.length then leb l m else decide (l.length < m.length)
theorem lenLe_tot (l m : List Nat) : lenLe l m = true ∨ lenLe m l = true := by
  unfold lenLe
  by_cases e : l.length = m.length
  · rw [if_pos e, if_pos e.symm]
    exact leb_tot l m
  · rw [if_neg e, if_neg (Ne.symm e), decide_eq_true_eq, decide_eq_true_eq]
    omega
theorem lenLe_len {l m : List Nat} (h : lenLe l m = true) : l.length ≤ m.length := by
  unfold lenLe at h
  split at h
  · omega
  · exact Nat.le_of_lt (of_decide_eq_true h)
theorem lenLe_tr (l m n : List Nat) (h : lenLe l m = true) (k : lenLe m n = true) : lenLe l n = true := by
  have h1 := lenLe_len h
  have k1 := lenLe_len k
  unfold lenLe at h k ⊢
  by_cases e : l.length = n.length
  · rw [if_pos e]
    rw [if_pos (by omega)] at h k
    exact leb_tr _ _ _ h k
  · rw [if_neg e, decide_eq_true_eq]
    omega
theorem lenLe_sorted {l : List (List Nat)} : (isort lenLe l).Pairwise fun a b => lenLe a b = true := isort_sorted lenLe_tot lenLe_tr
/-- those of one size, in order -/
theorem size_eq {l : List (List Nat)} {p : List Nat → Bool} {m : Nat} : ((isort lenLe l).filter p).filter (fun x => decide (x.length = m)) = isort leb ((l.filter p).filter fun x => decide (x.length = m)) := by
  refine leb_uniq ?_ leb_sorted (((isort_perm.filter p).filter _).trans isort_perm.symm)
  have h := (lenLe_sorted (l := l)).filter p
  have h2 := h.filter (fun x : List Nat => decide (x.length = m))
  refine List.Pairwise.imp_of_mem (fun {a b} ha hb z => ?_) h2
  have ha := of_decide_eq_true (List.mem_filter.mp ha).2
  have hb := of_decide_eq_true (List.mem_filter.mp hb).2
  unfold lenLe at z
  rw [if_pos (by rw [ha, hb])] at z
  exact z
/-- the first one of a list by length is a least one -/
theorem first_least {l : List (List Nat)} {x : List Nat} (h : l.Pairwise fun a b => lenLe a b = true) (hx : l.head? = some x) : ∀ y ∈ l, x.length ≤ y.length := by
  cases l with
  | nil => cases hx
  | cons a r =>
    cases hx
    intro y hy
    rcases List.mem_cons.mp hy with rfl | hy
    · exact Nat.le_refl _
    · exact lenLe_len ((List.pairwise_cons.mp h).1 y hy)
theorem last_most {l : List (List Nat)} {x : List Nat} (h : l.Pairwise fun a b => lenLe a b = true) (hx : l.getLast? = some x) : ∀ y ∈ l, y.length ≤ x.length := by
  intro y hy
  obtain ⟨r, rfl⟩ := List.getLast?_eq_some_iff.mp hx
  rcases List.mem_append.mp hy with hy | hy
  · exact lenLe_len ((List.pairwise_append.mp h).2.2 y hy x List.mem_cons_self)
  · rw [List.mem_singleton.mp hy]
    exact Nat.le_refl _
end GM
end
section
set_option Elab.async false
set_option linter.all false
namespace GM
open Mp
/-! lots -/
def lots : Nat → List (List Nat)
  | 0 => [[]]
  | n + 1 => lots n ++ (lots n).map fun l => l ++ [n]
theorem lots_len : ∀ n, (lots n).length = 2 ^ n
  | 0 => rfl
  | n + 1 => by
    rw [lots, List.length_append, List.length_map, lots_len n, Nat.pow_succ]
    omega
theorem lots_most {n : Nat} (h : n ≤ 7) : (lots n).length ≤ 128 := by
  rw [lots_len]
  exact Nat.pow_le_pow_right (by omega) h
theorem lots_is : ∀ {n : Nat} {l : List Nat}, l ∈ lots n → (l.Pairwise fun a b => a < b) ∧ (∀ x ∈ l, x < n) ∧ l.length ≤ n
  | 0, l, h => by
    rw [List.mem_singleton.mp h]
    exact ⟨List.Pairwise.nil, (fun x z => by cases z), Nat.le_refl _⟩
  | n + 1, l, h => by
    rcases List.mem_append.mp h with h | h
    · obtain ⟨h1, h2, h3⟩ := lots_is h
      exact ⟨h1, fun x hx => Nat.lt_succ_of_lt (h2 x hx), Nat.le_succ_of_le h3⟩
    · obtain ⟨m, hm, rfl⟩ := List.mem_map.mp h
      obtain ⟨h1, h2, h3⟩ := lots_is hm
      refine ⟨List.pairwise_append.mpr ⟨h1, List.pairwise_singleton _ _, fun a ha b hb => ?_⟩, fun x hx => ?_, ?_⟩
      · rw [List.mem_singleton.mp hb]
        exact h2 a ha
      · rcases List.mem_append.mp hx with hx | hx
        · exact Nat.lt_succ_of_lt (h2 x hx)
        · rw [List.mem_singleton.mp hx]
          exact Nat.lt_succ_self _
      · rw [List.length_append, List.length_singleton]
        omega
theorem lots_nil : ∀ n, [] ∈ lots n
  | 0 => List.mem_singleton.mpr rfl
  | n + 1 => List.mem_append_left _ (lots_nil n)
theorem lots_of : ∀ {n : Nat} {l : List Nat}, l.Pairwise (fun a b => a < b) → (∀ x ∈ l, x < n) → l ∈ lots n
  | 0, l, _, h => by
    cases l with
    | nil => exact lots_nil 0
    | cons a r => exact absurd (h a List.mem_cons_self) (Nat.not_lt_zero _)
  | n + 1, l, hp, h => by
    rcases List.eq_nil_or_concat l with rfl | ⟨m, x, rfl⟩
    · exact lots_nil _
    · rw [List.concat_eq_append] at hp h ⊢
      have hp' := List.pairwise_append.mp hp
      have hx : x < n + 1 := h x (List.mem_append_right _ List.mem_cons_self)
      rcases Nat.lt_or_ge x n with z | z
      · refine List.mem_append_left _ (lots_of hp fun y hy => ?_)
        rcases List.mem_append.mp hy with hy | hy
        · exact Nat.lt_trans (hp'.2.2 y hy x List.mem_cons_self) z
        · rw [List.mem_singleton.mp hy]
          exact z
      · have : x = n := by omega
        subst this
        exact List.mem_append_right _ (List.mem_map.mpr ⟨m, lots_of hp'.1 fun y hy => hp'.2.2 y hy x List.mem_cons_self, rfl⟩)
theorem lots_nodup : ∀ n, (lots n).Nodup
  | 0 => List.pairwise_singleton _ _
  | n + 1 => by
    refine List.nodup_append.mpr ⟨lots_nodup n, ?_, fun a ha b hb e => ?_⟩
    · refine List.pairwise_map.mpr ((lots_nodup n).imp fun {a b} h e => h ?_)
      exact List.append_cancel_right e
    · obtain ⟨m, _, rfl⟩ := List.mem_map.mp hb
      have := (lots_is ha).2.1 n (by rw [e]; exact List.mem_append_right _ List.mem_cons_self)
      omega
theorem lt_uniq {l m : List Nat} (h : l.Pairwise fun a b => a < b) (k : m.Pairwise fun a b => a < b) (e : ∀ x, x ∈ l ↔ x ∈ m) : l = m := by
  refine List.Perm.eq_of_pairwise (le := fun a b => a ≤ b) (fun a b _ _ x y => Nat.le_antisymm x y) (h.imp fun z => Nat.le_of_lt z) (k.imp fun z => Nat.le_of_lt z) ?_
  exact (List.perm_ext_iff_of_nodup (h.imp fun z => Nat.ne_of_lt z) (k.imp fun z => Nat.ne_of_lt z)).mpr e
/-! bare rows -/
section
variable (N : Nat) (adj : Nat → Nat → Bool)
def nb (h : Nat) : List Nat := (List.range N).filter fun o => adj h o
theorem mem_nb {h o : Nat} : o ∈ nb N adj h ↔ o < N ∧ adj h o = true := by
  unfold nb
  rw [List.mem_filter, List.mem_range]
def goesOn (row : List Nat) (h : Nat) : Bool := decide (h ∈ nb N adj (row.getLastD 0)) && (!decide (h ∈ row) && !((nb N adj h).any fun x => decide (x ∈ row.dropLast)))
def ext (rows : List (List Nat)) : List (List Nat) := rows.flatMap fun row => ((List.range N).filter (goesOn N adj row)).map fun h => row ++ [h]
def rows1 : List (List Nat) := (List.range N).map fun h => [h]
def progRows : List (List Nat) := (ext N adj (ext N adj (ext N adj (rows1 N)))).filter fun r => decide (r.headD 0 < r.getLastD 0)
def Bare (a b c d : Nat) : Prop := (a < N ∧ b < N ∧ c < N ∧ d < N) ∧ (b ≠ a ∧ c ≠ a ∧ c ≠ b ∧ d ≠ a ∧ d ≠ b ∧ d ≠ c) ∧ (adj a b = true ∧ adj b c = true ∧ adj c d = true) ∧ (adj a c = false ∧ adj a d = false ∧ adj b d = false)
variable {N adj}
theorem any_in {h : Nat} {row : List Nat} (hr : ∀ x ∈ row, x < N) : (nb N adj h).any (fun x => decide (x ∈ row)) = row.any fun x => adj h x := by
  refine Bool.eq_iff_iff.mpr ?_
  rw [List.any_eq_true, List.any_eq_true]
  constructor
  · rintro ⟨x, hx, k⟩
    exact ⟨x, of_decide_eq_true k, (mem_nb N adj).mp hx |>.2⟩
  · rintro ⟨x, hx, k⟩
    exact ⟨x, (mem_nb N adj).mpr ⟨hr x hx, k⟩, decide_eq_true hx⟩
theorem mem_ext {rows : List (List Nat)} {r : List Nat} : r ∈ ext N adj rows ↔ ∃ row ∈ rows, ∃ h, (h < N ∧ goesOn N adj row h = true) ∧ row ++ [h] = r := by
  unfold ext
  simp only [List.mem_flatMap, List.mem_map, List.mem_filter, List.mem_range]
theorem ext_nodup {rows : List (List Nat)} (h : rows.Nodup) : (ext N adj rows).Nodup := by
  refine List.pairwise_flatMap.mpr ⟨fun row _ => ?_, h.imp fun {a b} z x hx y hy e => z ?_⟩
  · refine List.pairwise_map.mpr ((List.Pairwise.filter _ List.nodup_range).imp fun {a b} z e => z ?_)
    have := List.append_cancel_left e
    exact List.cons.inj this |>.1
  · obtain ⟨i, _, rfl⟩ := List.mem_map.mp hx
    obtain ⟨j, _, rfl⟩ := List.mem_map.mp hy
    exact (List.append_inj' e rfl).1
theorem progRows_nodup : (progRows N adj).Nodup := by
  refine List.Pairwise.filter _ (ext_nodup (ext_nodup (ext_nodup ?_)))
  refine List.pairwise_map.mpr (List.nodup_range.imp fun {a b} z e => z (List.cons.inj e |>.1))
theorem goesOn_iff {row : List Nat} {x h : Nat} (hr : ∀ y ∈ row, y < N) : goesOn N adj (row ++ [x]) h = true ↔ h < N ∧ adj x h = true ∧ (¬ h ∈ row ∧ h ≠ x) ∧ ∀ y ∈ row, adj h y = false := by
  unfold goesOn
  rw [List.getLastD_concat, List.dropLast_concat, any_in hr]
  simp only [Bool.and_eq_true, decide_eq_true_eq, mem_nb, Bool.not_eq_true', decide_eq_false_iff_not, List.mem_append, List.mem_singleton, not_or, List.any_eq_false, Bool.not_eq_true]
  exact ⟨fun ⟨⟨a, b⟩, c, d⟩ => ⟨a, b, c, d⟩, fun ⟨a, b, c, d⟩ => ⟨⟨a, b⟩, c, d⟩⟩
theorem mem_progRows {r : List Nat} (sy : ∀ x y, adj x y = adj y x) : r ∈ progRows N adj ↔ ∃ a b c d, r = [a, b, c, d] ∧ Bare N adj a b c d ∧ a < d := by
  unfold progRows
  rw [List.mem_filter, decide_eq_true_eq]
  constructor
  · rintro ⟨h, hl⟩
    obtain ⟨r3, h3, d, ⟨hd, gd⟩, rfl⟩ := mem_ext.mp h
    obtain ⟨r2, h2, c, ⟨hc, gc⟩, rfl⟩ := mem_ext.mp h3
    obtain ⟨r1, h1, b, ⟨hb, gb⟩, rfl⟩ := mem_ext.mp h2
    obtain ⟨a, ha, rfl⟩ := List.mem_map.mp h1
    have ha := List.mem_range.mp ha
    have k1 := (goesOn_iff (row := []) (x := a) (by simp)).mp gb
    have k2 := (goesOn_iff (row := [a]) (x := b) (by simp [ha])).mp gc
    have k3 := (goesOn_iff (row := [a, b]) (x := c) (by simp [ha, hb])).mp gd
    simp at k1 k2 k3
    refine ⟨a, b, c, d, rfl, ⟨⟨ha, hb, hc, hd⟩, ⟨k1.2.2, k2.2.2.1.1, k2.2.2.1.2, k3.2.2.1.1.1, k3.2.2.1.1.2, k3.2.2.1.2⟩, ⟨k1.2.1, k2.2.1, k3.2.1⟩, ?_, ?_, ?_⟩, by simpa using hl⟩
    · rw [sy]; exact k2.2.2.2
    · rw [sy]; exact k3.2.2.2.1
    · rw [sy]; exact k3.2.2.2.2
  · rintro ⟨a, b, c, d, rfl, ⟨⟨ha, hb, hc, hd⟩, ⟨n1, n2, n3, n4, n5, n6⟩, ⟨j1, j2, j3⟩, l1, l2, l3⟩, hl⟩
    refine ⟨mem_ext.mpr ⟨[a, b, c], mem_ext.mpr ⟨[a, b], mem_ext.mpr ⟨[a], List.mem_map.mpr ⟨a, List.mem_range.mpr ha, rfl⟩, b, ⟨hb, (goesOn_iff (row := []) (x := a) (by simp)).mpr ?_⟩, rfl⟩, c, ⟨hc, (goesOn_iff (row := [a]) (x := b) (by simp [ha])).mpr ?_⟩, rfl⟩, d, ⟨hd, (goesOn_iff (row := [a, b]) (x := c) (by simp [ha, hb])).mpr ?_⟩, rfl⟩, by simpa using hl⟩
    · simp [*]
    · simp [*, sy c a]
    · simp [*, sy d a, sy d b]
/-- the law's rows -/
def lawCond (one two three four : Nat) : Bool := decide ([adj one two, adj two three, adj three four] = [true, true, true]) && (!adj one three && !adj two four)
def lawThree (L : List Nat) (one four two : Nat) : Nat := (L.filter fun h => !decide (h ∈ [one, two, four])).headD 0
variable (adj)
def lawTwo (L : List Nat) (one four : Nat) : List (List Nat) := (L.filter fun h => !decide (h ∈ [one, four])).flatMap fun two => if lawCond (adj := adj) one two (lawThree L one four two) four then [[one, two, lawThree L one four two, four]] else []
def lawFour (L : List Nat) (one : Nat) : List (List Nat) := (L.filter fun h => decide (one < h) && !adj one h).flatMap fun four => lawTwo adj L one four
def lawLot (L : List Nat) : List (List Nat) := if L.length = 4 then L.flatMap fun one => lawFour adj L one else []
def lawRows (LL : List (List Nat)) : List (List Nat) := LL.flatMap fun L => lawLot adj L
variable {adj}
theorem mem_lawTwo {L : List Nat} {one four : Nat} {r : List Nat} : r ∈ lawTwo adj L one four ↔ ∃ two, (two ∈ L ∧ two ≠ one ∧ two ≠ four) ∧ lawCond (adj := adj) one two (lawThree L one four two) four = true ∧ r = [one, two, lawThree L one four two, four] := by
  unfold lawTwo
  simp only [List.mem_flatMap, List.mem_filter, Bool.not_eq_true', decide_eq_false_iff_not, List.mem_cons, List.not_mem_nil, or_false, not_or]
  refine exists_congr fun two => and_congr_right fun _ => ?_
  split
  · rename_i h
    rw [List.mem_singleton]
    exact ⟨fun z => ⟨h, z⟩, fun z => z.2⟩
  · rename_i h
    exact ⟨(fun z => by cases z), fun z => absurd z.1 h⟩
theorem three_of {L : List Nat} {a b d : Nat} (hl : L.Pairwise fun a b => a < b) (h4 : L.length = 4) (ha : a ∈ L) (hb : b ∈ L) (hd : d ∈ L) : lawThree L a d b ∈ L ∧ ¬ lawThree L a d b ∈ [a, b, d] := by
  unfold lawThree
  cases e : L.filter fun h => !decide (h ∈ [a, b, d]) with
  | nil =>
    have hs : L ⊆ [a, b, d] := fun x hx => by
      by_cases z : x ∈ [a, b, d]
      · exact z
      · have : x ∈ L.filter fun h => !decide (h ∈ [a, b, d]) := List.mem_filter.mpr ⟨hx, by rw [decide_eq_false z]; rfl⟩
        rw [e] at this
        cases this
    have := List.Nodup.length_le_of_subset (hl.imp fun z => Nat.ne_of_lt z) hs
    rw [h4] at this
    exact absurd this (by show ¬ 4 ≤ 3; decide)
  | cons x r =>
    have : x ∈ L.filter fun h => !decide (h ∈ [a, b, d]) := by rw [e]; exact List.mem_cons_self
    have := List.mem_filter.mp this
    refine ⟨this.1, ?_⟩
    have k := this.2
    rw [Bool.not_eq_true', decide_eq_false_iff_not] at k
    exact k
theorem mem_lawLot {L : List Nat} {r : List Nat} : r ∈ lawLot adj L ↔ L.length = 4 ∧ ∃ one ∈ L, ∃ four, (four ∈ L ∧ one < four ∧ adj one four = false) ∧ r ∈ lawTwo adj L one four := by
  unfold lawLot
  split
  · rename_i h
    unfold lawFour
    simp only [List.mem_flatMap, List.mem_filter, Bool.and_eq_true, decide_eq_true_eq, Bool.not_eq_true', h, true_and]
  · rename_i h
    exact ⟨(fun z => by cases z), fun z => absurd z.1 h⟩
theorem lawLot_of {L : List Nat} {r : List Nat} (hl : L.Pairwise fun a b => a < b) (h : r ∈ lawLot adj L) : ∃ a b c d, r = [a, b, c, d] ∧ (a ∈ L ∧ b ∈ L ∧ c ∈ L ∧ d ∈ L) ∧ (b ≠ a ∧ c ≠ a ∧ c ≠ b ∧ d ≠ a ∧ d ≠ b ∧ d ≠ c) ∧ (adj a b = true ∧ adj b c = true ∧ adj c d = true) ∧ (adj a c = false ∧ adj a d = false ∧ adj b d = false) ∧ a < d ∧ L.length = 4 := by
  obtain ⟨h4, a, ha, d, ⟨hd, had, jd⟩, h⟩ := mem_lawLot.mp h
  obtain ⟨b, ⟨hb, n1, n2⟩, hc, rfl⟩ := mem_lawTwo.mp h
  obtain ⟨k1, k2⟩ := three_of hl h4 ha hb hd
  unfold lawCond at hc
  simp at hc k2
  exact ⟨a, b, _, d, rfl, ⟨ha, hb, k1, hd⟩, ⟨n1, k2.1, k2.2.1, by omega, Ne.symm n2, fun e => k2.2.2 e.symm⟩, hc.1, ⟨hc.2.1, jd, hc.2.2⟩, had, h4⟩
theorem all_of {L : List Nat} {a b c d : Nat} (hl : L.Pairwise fun a b => a < b) (h4 : L.length = 4) (hm : a ∈ L ∧ b ∈ L ∧ c ∈ L ∧ d ∈ L) (hn : b ≠ a ∧ c ≠ a ∧ c ≠ b ∧ d ≠ a ∧ d ≠ b ∧ d ≠ c) : ∀ x, x ∈ L ↔ x ∈ [a, b, c, d] := by
  obtain ⟨m1, m2, m3, m4⟩ := hm
  obtain ⟨n1, n2, n3, n4, n5, n6⟩ := hn
  have nd : [a, b, c, d].Nodup := by simp [List.nodup_cons]; omega
  have hs : [a, b, c, d] ⊆ L := fun x hx => by
    simp only [List.mem_cons, List.not_mem_nil, or_false] at hx
    rcases hx with rfl | rfl | rfl | rfl <;> assumption
  intro x
  refine ⟨fun hx => ?_, fun hx => hs hx⟩
  by_cases z : x ∈ [a, b, c, d]
  · exact z
  · have nd2 : (x :: [a, b, c, d]).Nodup := List.nodup_cons.mpr ⟨z, nd⟩
    have := List.Nodup.length_le_of_subset nd2 (l₂ := L) fun y hy => by
      rcases List.mem_cons.mp hy with rfl | hy
      · exact hx
      · exact hs hy
    rw [h4] at this
    exact absurd this (by show ¬ 5 ≤ 4; decide)
theorem lawRows_nodup {LL : List (List Nat)} (hn : LL.Nodup) (hl : ∀ L ∈ LL, L.Pairwise fun a b => a < b) : (lawRows adj LL).Nodup := by
  refine List.pairwise_flatMap.mpr ⟨fun L hL => ?_, List.Pairwise.imp_of_mem (fun {A B} hA hB z x hx y hy e => z ?_) hn⟩
  · have nd : L.Nodup := (hl L hL).imp fun z => Nat.ne_of_lt z
    unfold lawLot
    split
    · refine List.pairwise_flatMap.mpr ⟨fun one _ => ?_, nd.imp fun {a b} z x hx y hy e => z ?_⟩
      · refine List.pairwise_flatMap.mpr ⟨fun four _ => ?_, (List.Pairwise.filter _ nd).imp fun {a b} z x hx y hy e => z ?_⟩
        · refine List.pairwise_flatMap.mpr ⟨fun two _ => ?_, (List.Pairwise.filter _ nd).imp fun {a b} z x hx y hy e => z ?_⟩
          · split
            · exact List.pairwise_singleton _ _
            · exact List.Pairwise.nil
          · split at hx
            · split at hy
              · rw [List.mem_singleton.mp hx, List.mem_singleton.mp hy] at e
                simp at e
                exact e.1
              · cases hy
            · cases hx
        · obtain ⟨_, _, _, rfl⟩ := mem_lawTwo.mp hx
          obtain ⟨_, _, _, rfl⟩ := mem_lawTwo.mp hy
          simp at e
          exact e.2.2
      · unfold lawFour at hx hy
        obtain ⟨_, _, hx⟩ := List.mem_flatMap.mp hx
        obtain ⟨_, _, hy⟩ := List.mem_flatMap.mp hy
        obtain ⟨_, _, _, rfl⟩ := mem_lawTwo.mp hx
        obtain ⟨_, _, _, rfl⟩ := mem_lawTwo.mp hy
        simp at e
        exact e.1
    · exact List.Pairwise.nil
  · obtain ⟨a, b, c, d, rfl, m1, n1, _, _, _, l1⟩ := lawLot_of (hl A hA) hx
    obtain ⟨a', b', c', d', rfl, m2, n2, _, _, _, l2⟩ := lawLot_of (hl B hB) hy
    have e1 := all_of (hl A hA) l1 m1 n1
    have e2 := all_of (hl B hB) l2 m2 n2
    rw [← e] at e2
    exact lt_uniq (hl A hA) (hl B hB) fun x => (e1 x).trans (e2 x).symm
theorem mem_lawRows {LL : List (List Nat)} (hl : ∀ L, L ∈ LL ↔ L ∈ lots N) {r : List Nat} : r ∈ lawRows adj LL ↔ ∃ a b c d, r = [a, b, c, d] ∧ Bare N adj a b c d ∧ a < d := by
  unfold lawRows
  rw [List.mem_flatMap]
  constructor
  · rintro ⟨L, hL, h⟩
    have hL := lots_is ((hl L).mp hL)
    obtain ⟨a, b, c, d, rfl, m1, n1, j, k, l, _⟩ := lawLot_of hL.1 h
    exact ⟨a, b, c, d, rfl, ⟨⟨hL.2.1 a m1.1, hL.2.1 b m1.2.1, hL.2.1 c m1.2.2.1, hL.2.1 d m1.2.2.2⟩, n1, j, k⟩, l⟩
  · rintro ⟨a, b, c, d, rfl, ⟨⟨ha, hb, hc, hd⟩, ⟨n1, n2, n3, n4, n5, n6⟩, ⟨j1, j2, j3⟩, l1, l2, l3⟩, hlt⟩
    have nd : [a, b, c, d].Nodup := by simp [List.nodup_cons]; omega
    let L := (List.range N).filter fun x => decide (x ∈ [a, b, c, d])
    have hp : L.Pairwise fun a b => a < b := List.Pairwise.filter _ List.pairwise_lt_range
    have hm : ∀ x, x ∈ L ↔ x ∈ [a, b, c, d] := fun x => by
      rw [List.mem_filter, decide_eq_true_eq, List.mem_range]
      refine ⟨fun z => z.2, fun z => ⟨?_, z⟩⟩
      simp only [List.mem_cons, List.not_mem_nil, or_false] at z
      rcases z with rfl | rfl | rfl | rfl <;> assumption
    have h4 : L.length = 4 := ((List.perm_ext_iff_of_nodup (hp.imp fun z => Nat.ne_of_lt z) nd).mpr hm).length_eq
    have ma : a ∈ L := (hm a).mpr (by simp)
    have mb : b ∈ L := (hm b).mpr (by simp)
    have md : d ∈ L := (hm d).mpr (by simp)
    obtain ⟨k1, k2⟩ := three_of hp h4 ma mb md
    have k3 := (hm _).mp k1
    have e3 : lawThree L a d b = c := by
      simp only [List.mem_cons, List.not_mem_nil, or_false, not_or] at k2 k3
      omega
    refine ⟨L, (hl L).mpr (lots_of hp fun x hx => List.mem_range.mp (List.mem_filter.mp hx).1), mem_lawLot.mpr ⟨h4, a, ma, d, ⟨md, hlt, l2⟩, mem_lawTwo.mpr ⟨b, ⟨mb, n1, Ne.symm n5⟩, ?_, by rw [e3]⟩⟩⟩
    rw [e3]
    unfold lawCond
    simp [*]
theorem rows_perm {LL : List (List Nat)} (sy : ∀ x y, adj x y = adj y x) (hp : LL.Perm (lots N)) : (lawRows adj LL).Perm (progRows N adj) := by
  refine (List.perm_ext_iff_of_nodup (lawRows_nodup (hp.nodup_iff.mpr (lots_nodup N)) fun L hL => (lots_is (hp.mem_iff.mp hL)).1) progRows_nodup).mpr fun r => ?_
  rw [mem_lawRows (N := N) (fun L => hp.mem_iff), mem_progRows sy]
end
end GM
end
section
set_option Elab.async false
set_option linter.all false
set_option maxRecDepth 100000
/-! The defs of the program and of the laws, callees by their places. -/
namespace Mk
open PySem Mp
/-- _law_taken -/
abbrev F__law_taken : FD := ⟨2, 4, (.seq (.ite (.cmp .gt (.idx (.var 0) (.con (.int (3)))) (.con (.int (0)))) (.seq (.asg (.one 2) (.bin .mod (.prim .int (.cons (.idx (.var 0) (.con (.int (3)))) .nil)) (.var 1))) (.seq (.setIdx (.var 0) (.con (.int (3))) (.bin .fdiv (.idx (.var 0) (.con (.int (3)))) (.var 1))) (.ret (.var 2)))) .skip) (.seq (.setIdx (.var 0) (.con (.int (1))) (.bin .add (.idx (.var 0) (.con (.int (1)))) (.con (.int (1))))) (.seq (.ite (.cmp .gt (.idx (.var 0) (.con (.int (1)))) (.prim .len (.cons (.idx (.var 0) (.con (.int (0)))) .nil))) (.seq (.setIdx (.var 0) (.con (.int (2))) (.bin .mod (.prim .int (.cons (.bin .add (.bin .mul (.idx (.var 0) (.con (.int (2)))) (.con (.int (48271)))) (.con (.int (11)))) .nil)) (.con (.int (2147483647))))) (.ret (.bin .mod (.prim .int (.cons (.bin .fdiv (.idx (.var 0) (.con (.int (2)))) (.con (.int (7)))) .nil)) (.var 1)))) .skip) (.seq (.asg (.one 3) (.idx (.idx (.var 0) (.con (.int (0)))) (.bin .sub (.idx (.var 0) (.con (.int (1)))) (.con (.int (1)))))) (.seq (.setIdx (.var 0) (.con (.int (2))) (.bin .mod (.prim .int (.cons (.bin .add (.bin .add (.bin .mul (.idx (.var 0) (.con (.int (2)))) (.con (.int (48271)))) (.var 3)) (.con (.int (11)))) .nil)) (.con (.int (2147483647))))) (.seq (.ite (.cmp .ge (.var 3) (.bin .pow (.con (.int (10))) (.con (.int (18))))) (.setIdx (.var 0) (.con (.int (3))) (.bin .fdiv (.var 3) (.var 1))) .skip) (.ret (.bin .mod (.prim .int (.cons (.var 3) .nil)) (.var 1)))))))))⟩
/-- _law_town -/
abbrev F__law_town (c__law_taken : Nat) : FD := ⟨3, 6, (.seq (.asg (.one 3) (.newC .nil)) (.seq (.for_ (.one 4) (.itr .range1 (.cons (.var 1) .nil)) (.for_ (.one 5) (.itr .range2 (.cons (.bin .add (.var 4) (.con (.int (1)))) (.cons (.var 1) .nil))) (.ite (.cmp .eq (.call c__law_taken (.cons (.var 0) (.cons (.var 2) .nil))) (.con (.int (0)))) (.drop (.meth .append (.var 3) (.cons (.tup (.cons (.var 4) (.cons (.var 5) .nil))) .nil))) .skip))) (.ret (.tup (.cons (.var 1) (.cons (.prim .tuple (.cons (.var 3) .nil)) .nil))))))⟩
/-- _law_any -/
abbrev F__law_any (c__law_town c__law_taken : Nat) : FD := ⟨2, 6, (.seq (.asg (.one 2) (.call c__law_town (.cons (.var 0) (.cons (.bin .add (.con (.int (1))) (.call c__law_taken (.cons (.var 0) (.cons (.var 1) .nil)))) (.cons (.idx (.lst (.cons (.con (.int (2))) (.cons (.con (.int (2))) (.cons (.con (.int (3))) (.cons (.con (.int (5))) .nil))))) (.call c__law_taken (.cons (.var 0) (.cons (.con (.int (4))) .nil)))) .nil))))) (.seq (.ite (.cmp .gt (.call c__law_taken (.cons (.var 0) (.cons (.con (.int (3))) .nil))) (.con (.int (0)))) (.ret (.var 2)) .skip) (.seq (.asg (.one 3) (.lst .nil)) (.seq (.for_ (.one 4) (.itr .range1 (.cons (.idx (.var 2) (.con (.int (0)))) .nil)) (.asg (.one 3) (.bin .add (.var 3) (.comp (.one 5) (.itr .range2 (.cons (.bin .add (.var 4) (.con (.int (1)))) (.cons (.idx (.var 2) (.con (.int (0)))) .nil))) (.cmp .nmem (.tup (.cons (.var 4) (.cons (.var 5) .nil))) (.idx (.var 2) (.con (.int (1))))) (.tup (.cons (.var 4) (.cons (.var 5) .nil))))))) (.ret (.tup (.cons (.idx (.var 2) (.con (.int (0)))) (.cons (.prim .tuple (.cons (.var 3) .nil)) .nil))))))))⟩
/-- _law_lots -/
abbrev F__law_lots : FD := ⟨1, 4, (.seq (.asg (.one 1) (.lst (.cons (.tup .nil) .nil))) (.seq (.for_ (.one 2) (.itr .range1 (.cons (.var 0) .nil)) (.asg (.one 1) (.bin .add (.var 1) (.comp (.one 3) (.itr .seq (.cons (.var 1) .nil)) (.con (.bl true)) (.bin .add (.var 3) (.tup (.cons (.var 2) .nil))))))) (.ret (.sortLen (.var 1)))))⟩
/-- _law_pick -/
abbrev F__law_pick (c__law_taken : Nat) : FD := ⟨2, 2, (.ret (.idx (.var 1) (.call c__law_taken (.cons (.var 0) (.cons (.prim .len (.cons (.var 1) .nil)) .nil)))))⟩
/-- _law_alike -/
abbrev F__law_alike (c__law_alike : Nat) : FD := ⟨2, 3, (.seq (.ite (.prim (.isI [3, 4]) (.cons (.var 1) .nil)) (.seq (.ite (.or (.not (.prim (.isI [3, 4]) (.cons (.var 0) .nil))) (.cmp .ne (.prim (.isI [4]) (.cons (.var 0) .nil)) (.prim (.isI [4]) (.cons (.var 1) .nil)))) (.ret (.con (.bl false))) .skip) (.seq (.ite (.cmp .ne (.prim .len (.cons (.var 0) .nil)) (.prim .len (.cons (.var 1) .nil))) (.ret (.con (.bl false))) .skip) (.ret (.cmp .eq (.comp (.one 2) (.itr .range1 (.cons (.prim .len (.cons (.var 1) .nil)) .nil)) (.not (.call c__law_alike (.cons (.idx (.var 0) (.var 2)) (.cons (.idx (.var 1) (.var 2)) .nil)))) (.var 2)) (.lst .nil))))) .skip) (.seq (.ite (.or (.cmp .is (.var 1) (.con .non)) (.prim (.isI [2]) (.cons (.var 1) .nil))) (.ret (.and (.cmp .eq (.var 0) (.var 1)) (.cmp .eq (.prim (.isI [2]) (.cons (.var 0) .nil)) (.prim (.isI [2]) (.cons (.var 1) .nil))))) .skip) (.ret (.and (.prim (.isI [0]) (.cons (.var 0) .nil)) (.and (.cmp .eq (.prim (.isI [1]) (.cons (.var 0) .nil)) (.prim (.isI [1]) (.cons (.var 1) .nil))) (.cmp .eq (.var 0) (.var 1)))))))⟩
/-- is_number -/
abbrev F_is_number : FD := ⟨3, 3, (.ret (.and (.prim (.isI [0]) (.cons (.var 0) .nil)) (.and (.not (.prim (.isI [1]) (.cons (.var 0) .nil))) (.chain .le .le (.var 1) (.var 0) (.var 2)))))⟩
/-- are_houses -/
abbrev F_are_houses (c_is_number : Nat) : FD := ⟨2, 3, (.ret (.and (.prim (.isI [3]) (.cons (.var 0) .nil)) (.gen true (.one 2) (.itr .seq (.cons (.var 0) .nil)) (.con (.bl true)) (.call c_is_number (.cons (.var 2) (.cons (.con (.int (0))) (.cons (.bin .sub (.var 1) (.con (.int (1)))) .nil)))))))⟩
/-- is_ascending -/
abbrev F_is_ascending : FD := ⟨1, 2, (.ret (.gen true (.one 1) (.itr .range1 (.cons (.bin .sub (.prim .len (.cons (.var 0) .nil)) (.con (.int (1)))) .nil)) (.con (.bl true)) (.cmp .lt (.idx (.var 0) (.var 1)) (.idx (.var 0) (.bin .add (.var 1) (.con (.int (1))))))))⟩
/-- is_lot -/
abbrev F_is_lot (c_are_houses c_is_ascending : Nat) : FD := ⟨2, 2, (.ret (.and (.call c_are_houses (.cons (.var 0) (.cons (.var 1) .nil))) (.call c_is_ascending (.cons (.var 0) .nil))))⟩
/-- are_pairs -/
abbrev F_are_pairs (c_is_lot c_is_ascending : Nat) : FD := ⟨2, 3, (.seq (.ite (.not (.prim (.isI [3]) (.cons (.var 0) .nil))) (.ret (.con (.bl false))) .skip) (.ret (.and (.gen true (.one 2) (.itr .seq (.cons (.var 0) .nil)) (.con (.bl true)) (.and (.call c_is_lot (.cons (.var 2) (.cons (.var 1) .nil))) (.cmp .eq (.prim .len (.cons (.var 2) .nil)) (.con (.int (2)))))) (.call c_is_ascending (.cons (.var 0) .nil)))))⟩
/-- check_map -/
abbrev F_check_map (c_is_number c_are_pairs : Nat) : FD := ⟨1, 3, (.seq (.ite (.or (.not (.prim (.isI [3]) (.cons (.var 0) .nil))) (.cmp .ne (.prim .len (.cons (.var 0) .nil)) (.con (.int (2))))) .never .skip) (.seq (.asg (.tup [1, 2]) (.var 0)) (.seq (.ite (.not (.call c_is_number (.cons (.var 1) (.cons (.con (.int (1))) (.cons (.con (.int (7))) .nil))))) .never .skip) (.ite (.not (.call c_are_pairs (.cons (.var 2) (.cons (.var 1) .nil)))) .never .skip))))⟩
/-- check_lot -/
abbrev F_check_lot (c_is_lot : Nat) : FD := ⟨2, 2, (.ite (.not (.call c_is_lot (.cons (.var 1) (.cons (.idx (.var 0) (.con (.int (0)))) .nil)))) .never .skip)⟩
/-- share -/
abbrev F_share : FD := ⟨2, 3, (.ret (.gen false (.one 2) (.itr .seq (.cons (.var 0) .nil)) (.con (.bl true)) (.cmp .mem (.var 2) (.var 1))))⟩
/-- ways_with -/
abbrev F_ways_with (c_share : Nat) : FD := ⟨3, 6, (.seq (.asg (.one 3) (.newC (.cons (.bin .add (.var 1) (.tup (.cons (.tup (.cons (.var 2) .nil)) .nil))) .nil))) (.seq (.for_ (.tup [4, 5]) (.itr .enum (.cons (.var 1) .nil)) (.ite (.not (.call c_share (.cons (.idx (.var 0) (.var 2)) (.cons (.var 5) .nil)))) (.drop (.meth .append (.var 3) (.cons (.bin .add (.bin .add (.slice false true (.var 1) (.con .non) (.var 4)) (.tup (.cons (.bin .add (.var 5) (.tup (.cons (.var 2) .nil))) .nil))) (.slice true false (.var 1) (.bin .add (.var 4) (.con (.int (1)))) (.con .non))) .nil))) .skip)) (.ret (.var 3))))⟩
/-- ways_to_part -/
abbrev F_ways_to_part (c_ways_with : Nat) : FD := ⟨2, 6, (.seq (.asg (.one 2) (.lst (.cons (.tup .nil) .nil))) (.seq (.for_ (.one 3) (.itr .seq (.cons (.var 1) .nil)) (.asg (.one 2) (.comp2 (.one 4) (.itr .seq (.cons (.var 2) .nil)) (.con (.bl true)) (.one 5) (.itr .seq (.cons (.call c_ways_with (.cons (.var 0) (.cons (.var 4) (.cons (.var 3) .nil)))) .nil)) (.con (.bl true)) (.var 5)))) (.ret (.var 2))))⟩
/-- fewest_paints -/
abbrev F_fewest_paints (c_ways_to_part : Nat) : FD := ⟨2, 3, (.ret (.prim .min (.cons (.comp (.one 2) (.itr .seq (.cons (.call c_ways_to_part (.cons (.var 0) (.cons (.var 1) .nil))) .nil)) (.con (.bl true)) (.prim .len (.cons (.var 2) .nil))) .nil)))⟩
/-- neighbors -/
abbrev F_neighbors : FD := ⟨1, 5, (.seq (.asg (.tup [1, 2]) (.var 0)) (.ret (.comp (.one 4) (.itr .range1 (.cons (.var 1) .nil)) (.con (.bl true)) (.prim .tuple (.cons (.comp (.one 3) (.itr .range1 (.cons (.var 1) .nil)) (.or (.cmp .mem (.tup (.cons (.var 4) (.cons (.var 3) .nil))) (.var 2)) (.cmp .mem (.tup (.cons (.var 3) (.cons (.var 4) .nil))) (.var 2))) (.var 3)) .nil)))))⟩
/-- need -/
abbrev F_need (c_check_map c_check_lot c_fewest_paints c_neighbors : Nat) : FD := ⟨2, 2, (.seq (.drop (.call c_check_map (.cons (.var 0) .nil))) (.seq (.drop (.call c_check_lot (.cons (.var 0) (.cons (.var 1) .nil)))) (.ret (.call c_fewest_paints (.cons (.call c_neighbors (.cons (.var 0) .nil)) (.cons (.var 1) .nil))))))⟩
/-- _law_near -/
abbrev F__law_near : FD := ⟨3, 3, (.ret (.cmp .mem (.tup (.cons (.prim .min (.cons (.var 1) (.cons (.var 2) .nil))) (.cons (.prim .max (.cons (.var 1) (.cons (.var 2) .nil))) .nil))) (.idx (.var 0) (.con (.int (1))))))⟩
/-- _law_ways -/
abbrev F__law_ways (c__law_near : Nat) : FD := ⟨3, 11, (.seq (.asg (.one 3) (.lst (.cons (.tup .nil) .nil))) (.seq (.for_ (.tup [4, 5]) (.itr .enum (.cons (.var 1) .nil)) (.seq (.asg (.one 6) (.lst .nil)) (.seq (.for_ (.one 7) (.itr .seq (.cons (.var 3) .nil)) (.seq (.asg (.one 8) (.comp (.one 9) (.itr .range1 (.cons (.var 4) .nil)) (.call c__law_near (.cons (.var 0) (.cons (.var 5) (.cons (.idx (.var 1) (.var 9)) .nil)))) (.idx (.var 7) (.var 9)))) (.asg (.one 6) (.bin .add (.var 6) (.comp (.one 10) (.itr .range2 (.cons (.con (.int (1))) (.cons (.bin .add (.var 2) (.con (.int (1)))) .nil))) (.cmp .nmem (.var 10) (.var 8)) (.bin .add (.var 7) (.tup (.cons (.var 10) .nil)))))))) (.asg (.one 3) (.var 6))))) (.ret (.var 3))))⟩
/-- _law_need -/
abbrev F__law_need (c__law_ways : Nat) : FD := ⟨2, 3, (.seq (.asg (.one 2) (.con (.int (0)))) (.seq (.while_ (.cmp .eq (.call c__law_ways (.cons (.var 0) (.cons (.var 1) (.cons (.var 2) .nil)))) (.lst .nil)) (.asg (.one 2) (.bin .add (.var 2) (.con (.int (1)))))) (.ret (.var 2))))⟩
/-- check_house -/
abbrev F_check_house (c_is_number : Nat) : FD := ⟨2, 2, (.ite (.not (.call c_is_number (.cons (.var 1) (.cons (.con (.int (0))) (.cons (.bin .sub (.idx (.var 0) (.con (.int (0)))) (.con (.int (1)))) .nil))))) .never .skip)⟩
/-- near -/
abbrev F_near (c_check_map c_check_house c_neighbors : Nat) : FD := ⟨2, 2, (.seq (.drop (.call c_check_map (.cons (.var 0) .nil))) (.seq (.drop (.call c_check_house (.cons (.var 0) (.cons (.var 1) .nil)))) (.ret (.idx (.call c_neighbors (.cons (.var 0) .nil)) (.var 1)))))⟩
/-- check_number -/
abbrev F_check_number (c_is_number : Nat) : FD := ⟨3, 3, (.ite (.not (.call c_is_number (.cons (.var 0) (.cons (.var 1) (.cons (.var 2) .nil))))) .never .skip)⟩
/-- every_house -/
abbrev F_every_house : FD := ⟨1, 1, (.ret (.rng1 true (.idx (.var 0) (.con (.int (0))))))⟩
/-- count_paintings -/
abbrev F_count_paintings (c_check_map c_check_number c_ways_to_part c_neighbors c_every_house : Nat) : FD := ⟨2, 4, (.seq (.drop (.call c_check_map (.cons (.var 0) .nil))) (.seq (.drop (.call c_check_number (.cons (.var 1) (.cons (.con (.int (0))) (.cons (.con (.int (9))) .nil))))) (.seq (.asg (.one 2) (.call c_ways_to_part (.cons (.call c_neighbors (.cons (.var 0) .nil)) (.cons (.call c_every_house (.cons (.var 0) .nil)) .nil)))) (.ret (.prim .sum (.cons (.comp (.one 3) (.itr .seq (.cons (.var 2) .nil)) (.con (.bl true)) (.prim .perm (.cons (.var 1) (.cons (.prim .len (.cons (.var 3) .nil)) .nil)))) .nil))))))⟩
/-- all_lots -/
abbrev F_all_lots : FD := ⟨1, 4, (.seq (.asg (.one 1) (.lst (.cons (.tup .nil) .nil))) (.seq (.for_ (.one 2) (.itr .range1 (.cons (.idx (.var 0) (.con (.int (0)))) .nil)) (.asg (.one 1) (.bin .add (.var 1) (.comp (.one 3) (.itr .seq (.cons (.var 1) .nil)) (.con (.bl true)) (.bin .add (.var 3) (.tup (.cons (.var 2) .nil))))))) (.ret (.var 1))))⟩
/-- is_mutual -/
abbrev F_is_mutual : FD := ⟨2, 4, (.ret (.gen2 true (.one 2) (.itr .seq (.cons (.var 1) .nil)) (.con (.bl true)) (.one 3) (.itr .seq (.cons (.var 1) .nil)) (.cmp .ne (.var 3) (.var 2)) (.cmp .mem (.var 3) (.idx (.var 0) (.var 2)))))⟩
/-- lots_of_size -/
abbrev F_lots_of_size : FD := ⟨2, 3, (.ret (.prim .tuple (.cons (.prim .sorted (.cons (.comp (.one 2) (.itr .seq (.cons (.var 0) .nil)) (.cmp .eq (.prim .len (.cons (.var 2) .nil)) (.var 1)) (.var 2)) .nil)) .nil)))⟩
/-- most_mutual -/
abbrev F_most_mutual (c_check_map c_neighbors c_all_lots c_is_mutual c_lots_of_size : Nat) : FD := ⟨1, 4, (.seq (.drop (.call c_check_map (.cons (.var 0) .nil))) (.seq (.asg (.one 1) (.call c_neighbors (.cons (.var 0) .nil))) (.seq (.asg (.one 2) (.comp (.one 3) (.itr .seq (.cons (.call c_all_lots (.cons (.var 0) .nil)) .nil)) (.call c_is_mutual (.cons (.var 1) (.cons (.var 3) .nil))) (.var 3))) (.ret (.call c_lots_of_size (.cons (.var 2) (.cons (.prim .max (.cons (.comp (.one 3) (.itr .seq (.cons (.var 2) .nil)) (.con (.bl true)) (.prim .len (.cons (.var 3) .nil))) .nil)) .nil)))))))⟩
/-- _law_rows -/
abbrev F__law_rows (c__law_lots c__law_near : Nat) : FD := ⟨1, 9, (.seq (.asg (.one 1) (.newC .nil)) (.seq (.for_ (.one 2) (.itr .seq (.cons (.call c__law_lots (.cons (.idx (.var 0) (.con (.int (0)))) .nil)) .nil)) (.ite (.cmp .eq (.prim .len (.cons (.var 2) .nil)) (.con (.int (4)))) (.for_ (.one 3) (.itr .seq (.cons (.var 2) .nil)) (.for_ (.one 4) (.itr .seq (.cons (.comp (.one 5) (.itr .seq (.cons (.var 2) .nil)) (.and (.cmp .gt (.var 5) (.var 3)) (.not (.call c__law_near (.cons (.var 0) (.cons (.var 3) (.cons (.var 5) .nil)))))) (.var 5)) .nil)) (.for_ (.one 6) (.itr .seq (.cons (.comp (.one 5) (.itr .seq (.cons (.var 2) .nil)) (.cmp .nmem (.var 5) (.tup (.cons (.var 3) (.cons (.var 4) .nil)))) (.var 5)) .nil)) (.seq (.asg (.one 7) (.idx (.comp (.one 5) (.itr .seq (.cons (.var 2) .nil)) (.cmp .nmem (.var 5) (.tup (.cons (.var 3) (.cons (.var 6) (.cons (.var 4) .nil))))) (.var 5)) (.con (.int (0))))) (.seq (.asg (.one 8) (.lst (.cons (.call c__law_near (.cons (.var 0) (.cons (.var 3) (.cons (.var 6) .nil)))) (.cons (.call c__law_near (.cons (.var 0) (.cons (.var 6) (.cons (.var 7) .nil)))) (.cons (.call c__law_near (.cons (.var 0) (.cons (.var 7) (.cons (.var 4) .nil)))) .nil))))) (.ite (.and (.cmp .eq (.var 8) (.bin .mul (.lst (.cons (.con (.bl true)) .nil)) (.con (.int (3))))) (.and (.not (.call c__law_near (.cons (.var 0) (.cons (.var 3) (.cons (.var 7) .nil))))) (.not (.call c__law_near (.cons (.var 0) (.cons (.var 6) (.cons (.var 4) .nil))))))) (.drop (.meth .append (.var 1) (.cons (.tup (.cons (.var 3) (.cons (.var 6) (.cons (.var 7) (.cons (.var 4) .nil))))) .nil))) .skip)))))) .skip)) (.ret (.prim .sorted (.cons (.var 1) .nil)))))⟩
/-- goes_on -/
abbrev F_goes_on (c_share : Nat) : FD := ⟨3, 3, (.ret (.and (.cmp .mem (.var 2) (.idx (.var 0) (.idx (.var 1) (.neg (.con (.int (1))))))) (.and (.cmp .nmem (.var 2) (.var 1)) (.not (.call c_share (.cons (.idx (.var 0) (.var 2)) (.cons (.slice false true (.var 1) (.con .non) (.neg (.con (.int (1))))) .nil)))))))⟩
/-- bare_rows -/
abbrev F_bare_rows (c_check_map c_neighbors c_goes_on : Nat) : FD := ⟨1, 6, (.seq (.drop (.call c_check_map (.cons (.var 0) .nil))) (.seq (.asg (.one 1) (.call c_neighbors (.cons (.var 0) .nil))) (.seq (.asg (.one 2) (.comp (.one 3) (.itr .range1 (.cons (.idx (.var 0) (.con (.int (0)))) .nil)) (.con (.bl true)) (.tup (.cons (.var 3) .nil)))) (.seq (.for_ (.one 4) (.itr .range1 (.cons (.bin .sub (.con (.int (4))) (.con (.int (1)))) .nil)) (.asg (.one 2) (.comp2 (.one 5) (.itr .seq (.cons (.var 2) .nil)) (.con (.bl true)) (.one 3) (.itr .range1 (.cons (.idx (.var 0) (.con (.int (0)))) .nil)) (.call c_goes_on (.cons (.var 1) (.cons (.var 5) (.cons (.var 3) .nil)))) (.bin .add (.var 5) (.tup (.cons (.var 3) .nil)))))) (.ret (.prim .tuple (.cons (.prim .sorted (.cons (.comp (.one 5) (.itr .seq (.cons (.var 2) .nil)) (.cmp .lt (.idx (.var 5) (.con (.int (0)))) (.idx (.var 5) (.neg (.con (.int (1)))))) (.var 5)) .nil)) .nil)))))))⟩
/-- left_out -/
abbrev F_left_out (c_bare_rows c_all_lots c_share c_lots_of_size : Nat) : FD := ⟨1, 5, (.seq (.asg (.one 1) (.call c_bare_rows (.cons (.var 0) .nil))) (.seq (.asg (.one 2) (.comp (.one 3) (.itr .seq (.cons (.call c_all_lots (.cons (.var 0) .nil)) .nil)) (.gen true (.one 4) (.itr .seq (.cons (.var 1) .nil)) (.con (.bl true)) (.call c_share (.cons (.var 4) (.cons (.var 3) .nil)))) (.var 3))) (.ret (.call c_lots_of_size (.cons (.var 2) (.cons (.prim .min (.cons (.comp (.one 3) (.itr .seq (.cons (.var 2) .nil)) (.con (.bl true)) (.prim .len (.cons (.var 3) .nil))) .nil)) .nil))))))⟩
end Mk
end
section
set_option Elab.async false
set_option linter.all false
set_option maxRecDepth 100000
set_option maxHeartbeats 400000
/-! What the program's defs answer: maps and lots. -/
namespace Mk
open PySem Mp GM
open Dat (enc)
abbrev Prs := List (Nat × Nat)
abbrev dTown (N : Nat) (ps : Prs) : D := .tup [.int N, enc ps]
/-- a map -/
structure Town (N : Nat) (ps : Prs) : Prop where
  pos : 1 ≤ N
  most : N ≤ 7
  lt : ∀ p ∈ ps, p.1 < p.2 ∧ p.2 < N
  asc : ps.Pairwise fun p q => Dat.ltb p q = true
/-- neighbors -/
def adj (ps : Prs) (h o : Nat) : Bool := decide ((h, o) ∈ ps) || decide ((o, h) ∈ ps)
theorem adj_sy (ps : Prs) (h o : Nat) : adj ps h o = adj ps o h := Bool.or_comm _ _
theorem ltb_irr (p : Nat × Nat) : Dat.ltb p p = false := by
  show (if p.1 = p.1 then (if p.2 = p.2 then false else Dat.ltb p.2 p.2) else Dat.ltb p.1 p.1) = false
  rw [if_pos rfl, if_pos rfl]
theorem Town.nodup {N : Nat} {ps : Prs} (h : Town N ps) : ps.Nodup := h.asc.imp fun {a b} z e => by
  subst e
  rw [ltb_irr] at z
  cases z
theorem Town.len {N : Nat} {ps : Prs} (h : Town N ps) : ps.length ≤ 100 := by
  have := List.Nodup.length_le_of_subset h.nodup (l₂ := (List.range 7).flatMap fun a => (List.range 7).map fun b => (a, b)) fun p hp => by
    have h1 := h.lt p hp
    have h2 := h.most
    exact List.mem_flatMap.mpr ⟨p.1, List.mem_range.mpr (by omega), List.mem_map.mpr ⟨p.2, List.mem_range.mpr (by omega), rfl⟩⟩
  exact Nat.le_trans this (by decide)
theorem Town.adj_lt {N : Nat} {ps : Prs} (h : Town N ps) {a b : Nat} (k : adj ps a b = true) : a < N ∧ b < N ∧ a ≠ b := by
  unfold adj at k
  rw [Bool.or_eq_true, decide_eq_true_eq, decide_eq_true_eq] at k
  rcases k with k | k
  · have := h.lt _ k
    simp only at this
    omega
  · have := h.lt _ k
    simp only at this
    omega
abbrev nbs (N : Nat) (ps : Prs) (h : Nat) : List Nat := nb N (adj ps) h
def beside (N : Nat) (ps : Prs) : List (List Nat) := (List.range N).map (nbs N ps)
theorem beside_at {N h : Nat} {ps : Prs} (hh : h < N) : (beside N ps)[h]? = some (nbs N ps h) := by
  unfold beside
  rw [List.getElem?_map, List.getElem?_range hh]
  rfl
theorem range_pre {dn : List Nat} {x N : Nat} (h : dn ++ [x] <+: List.range N) : x = dn.length := by
  obtain ⟨t, e⟩ := h
  have h1 : (List.range N)[dn.length]? = some x := by
    rw [← e, List.append_assoc, List.getElem?_append_right (Nat.le_refl _), Nat.sub_self]
    rfl
  obtain ⟨h2, h3⟩ := List.getElem?_eq_some_iff.mp h1
  rw [List.getElem_range] at h3
  exact h3.symm
theorem ascAt {α : Type} {R : α → α → Prop} {l : List α} (h : l.Pairwise R) {i : Nat} (hi : i < l.length - 1) : ∃ x y, l[i]? = some x ∧ l[i + 1]? = some y ∧ R x y := by
  have h1 : i < l.length := by omega
  have h2 : i + 1 < l.length := by omega
  exact ⟨l[i], l[i + 1], List.getElem?_eq_getElem h1, List.getElem?_eq_getElem h2, List.pairwise_iff_getElem.mp h i (i + 1) h1 h2 (Nat.lt_succ_self i)⟩
theorem pl_map {α : Type} [DecidableEq α] [Dat α] (l : List α) : ∀ d ∈ l.map enc, Pl d := fun d hd => by
  obtain ⟨x, _, rfl⟩ := List.mem_map.mp hd
  exact Dat.pl x
theorem le_line {k : Nat} (h : k ≤ 16777216) : k ≤ line := h
/-! numbers of a list -/
theorem ints_nat : ∀ l : List Nat, intsOf (l.map enc) = some (l.map fun x : Nat => (x : Int))
  | [] => rfl
  | x :: l => by
    rw [List.map_cons, List.map_cons]
    show (intsOf (l.map enc)).map (fun r => (x : Int) :: r) = _
    rw [ints_nat l]
    rfl
theorem ints_int : ∀ l : List Int, intsOf (l.map enc) = some l
  | [] => rfl
  | x :: l => by
    rw [List.map_cons]
    show (intsOf (l.map enc)).map (fun r => x :: r) = _
    rw [ints_int l]
    rfl
theorem fold_min : ∀ (l : List Nat) (x : Nat), (l.map fun x : Nat => (x : Int)).foldl min (x : Int) = ((l.foldl min x : Nat) : Int)
  | [], _ => rfl
  | y :: l, x => by
    rw [List.map_cons, List.foldl_cons, List.foldl_cons, ← fold_min l]
    congr 1
    omega
theorem fold_max : ∀ (l : List Nat) (x : Nat), (l.map fun x : Nat => (x : Int)).foldl max (x : Int) = ((l.foldl max x : Nat) : Int)
  | [], _ => rfl
  | y :: l, x => by
    rw [List.map_cons, List.foldl_cons, List.foldl_cons, ← fold_max l]
    congr 1
    omega
theorem fold_min_is : ∀ (l : List Nat) (x : Nat), l.foldl min x ∈ x :: l ∧ ∀ y ∈ x :: l, l.foldl min x ≤ y
  | [], x => by simp
  | z :: l, x => by
    obtain ⟨h1, h2⟩ := fold_min_is l (min x z)
    rw [List.foldl_cons]
    refine ⟨?_, fun y hy => ?_⟩
    · rcases List.mem_cons.mp h1 with h | h
      · rw [h]
        rcases Nat.le_total x z with k | k
        · rw [Nat.min_eq_left k]; simp
        · rw [Nat.min_eq_right k]; simp
      · exact List.mem_cons_of_mem _ (List.mem_cons_of_mem _ h)
    · have := h2 (min x z) List.mem_cons_self
      rcases List.mem_cons.mp hy with rfl | hy
      · omega
      · rcases List.mem_cons.mp hy with rfl | hy
        · omega
        · exact h2 y (List.mem_cons_of_mem _ hy)
theorem fold_max_is : ∀ (l : List Nat) (x : Nat), l.foldl max x ∈ x :: l ∧ ∀ y ∈ x :: l, y ≤ l.foldl max x
  | [], x => by simp
  | z :: l, x => by
    obtain ⟨h1, h2⟩ := fold_max_is l (max x z)
    rw [List.foldl_cons]
    refine ⟨?_, fun y hy => ?_⟩
    · rcases List.mem_cons.mp h1 with h | h
      · rw [h]
        rcases Nat.le_total x z with k | k
        · rw [Nat.max_eq_right k]; simp
        · rw [Nat.max_eq_left k]; simp
      · exact List.mem_cons_of_mem _ (List.mem_cons_of_mem _ h)
    · have := h2 (max x z) List.mem_cons_self
      rcases List.mem_cons.mp hy with rfl | hy
      · omega
      · rcases List.mem_cons.mp hy with rfl | hy
        · omega
        · exact h2 y (List.mem_cons_of_mem _ hy)
theorem prim_min {l : List Nat} {m : Nat} {st : St} (hm : m ∈ l) (hl : ∀ x ∈ l, m ≤ x) : primD .min [dL l] st = .ok (enc m) st := by
  cases l with
  | nil => cases hm
  | cons x l =>
    obtain ⟨h1, h2⟩ := fold_min_is l x
    have e : l.foldl min x = m := Nat.le_antisymm (h2 m hm) (hl _ h1)
    refine (pD (fun _ z => by cases z) (e := dL (x :: l)) rfl).trans ?_
    show opt (((intsOf ((x :: l).map enc)).bind leastI).map D.int) st = _
    rw [ints_nat]
    show opt (some (D.int ((l.map fun x : Nat => (x : Int)).foldl min (x : Int)))) st = _
    rw [fold_min, e]
    rfl
theorem prim_max {l : List Nat} {m : Nat} {st : St} (hm : m ∈ l) (hl : ∀ x ∈ l, x ≤ m) : primD .max [dL l] st = .ok (enc m) st := by
  cases l with
  | nil => cases hm
  | cons x l =>
    obtain ⟨h1, h2⟩ := fold_max_is l x
    have e : l.foldl max x = m := Nat.le_antisymm (hl _ h1) (h2 m hm)
    refine (pD (fun _ z => by cases z) (e := dL (x :: l)) rfl).trans ?_
    show opt (((intsOf ((x :: l).map enc)).bind mostI).map D.int) st = _
    rw [ints_nat]
    show opt (some (D.int ((l.map fun x : Nat => (x : Int)).foldl max (x : Int)))) st = _
    rw [fold_max, e]
    rfl
theorem prim_sum {l : List Int} {st : St} : primD .sum [dL l] st = .ok (.int l.sum) st := by
  refine (pD (fun _ z => by cases z) (e := dL l) rfl).trans ?_
  show opt ((intsOf (l.map enc)).map fun l => D.int l.sum) st = _
  rw [ints_int]
  rfl
theorem prim_min2 {a b : Nat} {st : St} : primD .min [enc a, enc b] st = .ok (enc (min a b)) st := by
  refine (pD (fun _ z => by cases z) (e := enc a) rfl).trans ?_
  show Mp.ret (D.int (if (b : Int) < (a : Int) then (b : Int) else a)) st = _
  rw [show (if (b : Int) < (a : Int) then (b : Int) else a) = ((min a b : Nat) : Int) by split <;> omega]
  rfl
theorem prim_max2 {a b : Nat} {st : St} : primD .max [enc a, enc b] st = .ok (enc (max a b)) st := by
  refine (pD (fun _ z => by cases z) (e := enc a) rfl).trans ?_
  show Mp.ret (D.int (if (b : Int) > (a : Int) then (b : Int) else a)) st = _
  rw [show (if (b : Int) > (a : Int) then (b : Int) else a) = ((max a b : Nat) : Int) by split <;> omega]
  rfl
theorem fp_prm {p : Nat} : ∀ {k : Nat}, k ≤ p → Builtin.Math.fallingProduct p k = (prm p k : Nat)
  | 0, _ => rfl
  | k + 1, h => by
    rw [PySem.W.mc_fp_succ, fp_prm (Nat.le_of_succ_le h), show prm p (k + 1) = prm p k * (p - k) from rfl, Int.natCast_mul]
    congr 1
    omega
theorem perm_prm (p k : Nat) : PySem.W.mcPerm (p : Int) (k : Int) = (prm p k : Nat) := by
  rcases Nat.lt_or_ge p k with h | h
  · rw [PySem.W.mcPerm_above (by omega), prm_zero h]
    rfl
  · rw [PySem.W.mcPerm_at (by omega)]
    exact fp_prm h
section
variable {T : List FD}
/-! checks -/
def SpShare (T : List FD) (i : Nat) : Prop := ∀ (n : Nat) (st : St), 1 ≤ n → Low st → ∀ a b : List Nat, run T n i [enc a, enc b] st = .ok (.bl (a.any fun h => decide (h ∈ b))) st
theorem share_ok {i : Nat} (hT : T[i]? = some F_share) : SpShare T i := fun n st hn hs a b => by
  obtain ⟨m, rfl⟩ := Nat.exists_eq_add_of_le' hn
  exact run_pl hs hT rfl rfl (rt (genE (f := enc (α := Nat)) _ (it_tup (vr rfl)) rfl fun x hx => ⟨_, rfl, cm (vr rfl) (vr rfl) mem_⟩))
def SpNum (T : List FD) (i : Nat) : Prop := ∀ (n : Nat) (st : St), 1 ≤ n → Low st → ∀ v a b : Int, run T n i [.int v, .int a, .int b] st = .ok (.bl (decide (a ≤ v) && decide (v ≤ b))) st
theorem num_ok {i : Nat} (hT : T[i]? = some F_is_number) : SpNum T i := fun n st hn hs v a b => by
  obtain ⟨m, rfl⟩ := Nat.exists_eq_add_of_le' hn
  exact run_pl hs hT rfl rfl (rt (an (k := true) (pr (al (vr rfl) al0) rfl) fun _ => an (k := true) (nt (k := false) (tb (pr (al (vr rfl) al0) rfl))) fun _ => chn (vr rfl) (vr rfl) rfl (vr rfl) rfl))
theorem num_t {i n : Nat} {st : St} (sp : SpNum T i) (hn : 1 ≤ n) (hs : Low st) {v a b : Int} (h1 : a ≤ v) (h2 : v ≤ b) : run T n i [.int v, .int a, .int b] st = .ok (.bl true) st := by
  rw [sp n st hn hs v a b, decide_eq_true h1, decide_eq_true h2]
  rfl
def SpHouses (T : List FD) (i : Nat) : Prop := ∀ (n : Nat) (st : St), 2 ≤ n → Low st → ∀ (l : List Nat) (N : Nat), (∀ x ∈ l, x < N) → run T n i [enc l, .int N] st = .ok (.bl true) st
theorem houses_ok {i c : Nat} (hT : T[i]? = some (F_are_houses c)) (k1 : SpNum T c) : SpHouses T i := fun n st hn hs l N h => by
  obtain ⟨m, rfl⟩ := Nat.exists_eq_add_of_le' hn
  exact run_pl hs hT rfl rfl (rt (an (k := true) (m := true) (pr (al (vr rfl) al0) rfl) fun _ => gen_all (f := enc (α := Nat)) (it_tup (vr rfl)) rfl fun x hx => ⟨_, rfl, cl (al (vr rfl) (al cn (al (bn (vr rfl) cn rfl) al0))) (num_t k1 (by omega) hs (by show (0 : Int) ≤ (x : Int); omega) (by have := h x hx; show (x : Int) ≤ (N : Int) - 1; omega))⟩))
def SpAsc (T : List FD) (i : Nat) : Prop := ∀ (n : Nat) (st : St), 1 ≤ n → Low st → (∀ l : List Nat, l.length ≤ 100 → (l.Pairwise fun a b => a < b) → run T n i [enc l] st = .ok (.bl true) st) ∧ ∀ l : Prs, l.length ≤ 100 → (l.Pairwise fun a b => Dat.ltb a b = true) → run T n i [enc l] st = .ok (.bl true) st
theorem asc_ok {i : Nat} (hT : T[i]? = some F_is_ascending) : SpAsc T i := fun n st hn hs => by
  obtain ⟨m, rfl⟩ := Nat.exists_eq_add_of_le' hn
  refine ⟨fun l hl h => ?_, fun l hl h => ?_⟩
  · refine run_pl hs hT rfl rfl (rt (gen_all (it_rng1 (n := l.length - 1) (bn (pr (al (vr rfl) al0) rfl) cn rfl) (by show (((l.map enc).length : Int) - 1).toNat = _; rw [List.length_map]; omega) (by show _ ≤ (((l.map enc).length : Int) - 1); omega) (by show (((l.map enc).length : Int) - 1) ≤ _; rw [List.length_map]; omega)) rfl fun i hi => ?_))
    obtain ⟨x, y, h1, h2, h3⟩ := ascAt h (List.mem_range.mp hi)
    refine ⟨_, rfl, cm (ix (vr rfl) (vr rfl) (ixT h1)) (ix (vr rfl) (bn (vr rfl) cn rfl) (ixT (i := i + 1) h2)) ?_⟩
    show Mp.ret (D.bl (decide ((x : Int) < (y : Int)))) st = _
    rw [decide_eq_true (by omega)]
    rfl
  · refine run_pl hs hT rfl rfl (rt (gen_all (it_rng1 (n := l.length - 1) (bn (pr (al (vr rfl) al0) rfl) cn rfl) (by show (((l.map enc).length : Int) - 1).toNat = _; rw [List.length_map]; omega) (by show _ ≤ (((l.map enc).length : Int) - 1); omega) (by show (((l.map enc).length : Int) - 1) ≤ _; rw [List.length_map]; omega)) rfl fun i hi => ?_))
    obtain ⟨x, y, h1, h2, h3⟩ := ascAt h (List.mem_range.mp hi)
    refine ⟨_, rfl, cm (ix (vr rfl) (vr rfl) (ixT h1)) (ix (vr rfl) (bn (vr rfl) cn rfl) (ixT (i := i + 1) h2)) ?_⟩
    refine bk2 (v := enc x) (st1 := st) rfl (bk2 (v := enc y) (st1 := st) rfl ?_)
    have e : D.lts [enc x.1, enc x.2] [enc y.1, enc y.2] = true := by
      have q := Dat.lt x y
      rw [h3] at q
      have q' : D.lt (.tup [enc x.1, enc x.2]) (.tup [enc y.1, enc y.2]) = true := q
      simpa only [D.lt] using q'
    show (if D.ok (enc x) && D.ok (enc y) && D.alikes [enc x.1, enc x.2] [enc y.1, enc y.2] then Mp.ret (D.bl (D.lts [enc x.1, enc x.2] [enc y.1, enc y.2])) else bad) st = _
    rw [ok_of, ok_of, e]
    rfl
def SpLot (T : List FD) (i : Nat) : Prop := ∀ (n : Nat) (st : St), 3 ≤ n → Low st → ∀ (l : List Nat) (N : Nat), (∀ x ∈ l, x < N) → l.length ≤ 100 → (l.Pairwise fun a b => a < b) → run T n i [enc l, .int N] st = .ok (.bl true) st
theorem lot_ok {i c d : Nat} (hT : T[i]? = some (F_is_lot c d)) (k1 : SpHouses T c) (k2 : SpAsc T d) : SpLot T i := fun n st hn hs l N h hl ha => by
  obtain ⟨m, rfl⟩ := Nat.exists_eq_add_of_le' hn
  exact run_pl hs hT rfl rfl (rt (an (k := true) (m := true) (cl (al (vr rfl) (al (vr rfl) al0)) (k1 _ _ (by omega) hs l N h)) fun _ => cl (al (vr rfl) al0) ((k2 _ _ (by omega) hs).1 l hl ha)))
def SpPairs (T : List FD) (i : Nat) : Prop := ∀ (n : Nat) (st : St), 4 ≤ n → Low st → ∀ (l : Prs) (N : Nat), (∀ p ∈ l, p.1 < p.2 ∧ p.2 < N) → l.length ≤ 100 → (l.Pairwise fun a b => Dat.ltb a b = true) → run T n i [enc l, .int N] st = .ok (.bl true) st
theorem pairs_ok {i c d : Nat} (hT : T[i]? = some (F_are_pairs c d)) (k1 : SpLot T c) (k2 : SpAsc T d) : SpPairs T i := fun n st hn hs l N h hl ha => by
  obtain ⟨m, rfl⟩ := Nat.exists_eq_add_of_le' hn
  refine run_pl hs hT rfl rfl (sq (ife (tb (nt (k := true) (tb (pr (al (vr rfl) al0) rfl)))) sk) (rt (an (k := true) (m := true) (gen_all (f := enc (α := Nat × Nat)) (it_tup (vr rfl)) rfl fun x hx => ⟨_, rfl, an (k := true) (m := true) (cl (al (vr rfl) (al (vr rfl) al0)) ?_) fun _ => cm (pr (al (vr rfl) al0) rfl) cn rfl⟩) fun _ => cl (al (vr rfl) al0) ((k2 _ _ (by omega) hs).2 l hl ha))))
  obtain ⟨h1, h2⟩ := h x hx
  exact k1 _ _ (by omega) hs [x.1, x.2] N (by intro y hy; simp at hy; omega) (by simp) (by simpa using h1)
def SpMap (T : List FD) (i : Nat) : Prop := ∀ (n : Nat) (st : St), 5 ≤ n → Low st → ∀ (N : Nat) (ps : Prs), Town N ps → run T n i [dTown N ps] st = .ok .non st
theorem map_ok {i c d : Nat} (hT : T[i]? = some (F_check_map c d)) (k1 : SpNum T c) (k2 : SpPairs T d) : SpMap T i := fun n st hn hs N ps h => by
  obtain ⟨m, rfl⟩ := Nat.exists_eq_add_of_le' hn
  have h1 := h.pos
  have h2 := h.most
  exact run_next hT rfl (sq (ife (tb (orr (k := false) (m := false) (nt (k := true) (tb (pr (al (vr rfl) al0) rfl))) fun _ => cm (pr (al (vr rfl) al0) rfl) cn rfl)) sk) (sq (asg (vr rfl) rfl) (sq (ife (tb (nt (k := true) (tb (cl (al (vr rfl) (al cn (al cn al0))) (num_t k1 (by omega) hs (by omega) (by omega)))))) sk)
    (ife (tb (nt (k := true) (tb (cl (al (vr rfl) (al (vr rfl) al0)) (k2 _ _ (by omega) hs ps N h.lt h.len h.asc))))) sk)))) (leave_pl hs rfl)
def SpCLot (T : List FD) (i : Nat) : Prop := ∀ (n : Nat) (st : St), 4 ≤ n → Low st → ∀ (N : Nat) (ps : Prs) (l : List Nat), (∀ x ∈ l, x < N) → l.length ≤ 100 → (l.Pairwise fun a b => a < b) → run T n i [dTown N ps, enc l] st = .ok .non st
theorem clot_ok {i c : Nat} (hT : T[i]? = some (F_check_lot c)) (k1 : SpLot T c) : SpCLot T i := fun n st hn hs N ps l h hl ha => by
  obtain ⟨m, rfl⟩ := Nat.exists_eq_add_of_le' hn
  exact run_next hT rfl (ife (tb (nt (k := true) (tb (cl (al (vr rfl) (al (ix (vr rfl) cn rfl) al0)) (k1 _ _ (by omega) hs l N h hl ha))))) sk) (leave_pl hs rfl)
def SpCHouse (T : List FD) (i : Nat) : Prop := ∀ (n : Nat) (st : St), 2 ≤ n → Low st → ∀ (N : Nat) (ps : Prs) (h : Nat), h < N → run T n i [dTown N ps, enc h] st = .ok .non st
theorem chouse_ok {i c : Nat} (hT : T[i]? = some (F_check_house c)) (k1 : SpNum T c) : SpCHouse T i := fun n st hn hs N ps h hh => by
  obtain ⟨m, rfl⟩ := Nat.exists_eq_add_of_le' hn
  exact run_next hT rfl (ife (tb (nt (k := true) (tb (cl (al (vr rfl) (al cn (al (bn (ix (vr rfl) cn rfl) cn rfl) al0))) (num_t k1 (by omega) hs (by show (0 : Int) ≤ (h : Int); omega) (by show (h : Int) ≤ (N : Int) - 1; omega)))))) sk) (leave_pl hs rfl)
def SpCNum (T : List FD) (i : Nat) : Prop := ∀ (n : Nat) (st : St), 2 ≤ n → Low st → ∀ v a b : Int, a ≤ v → v ≤ b → run T n i [.int v, .int a, .int b] st = .ok .non st
theorem cnum_ok {i c : Nat} (hT : T[i]? = some (F_check_number c)) (k1 : SpNum T c) : SpCNum T i := fun n st hn hs v a b h1 h2 => by
  obtain ⟨m, rfl⟩ := Nat.exists_eq_add_of_le' hn
  exact run_next hT rfl (ife (tb (nt (k := true) (tb (cl (al (vr rfl) (al (vr rfl) (al (vr rfl) al0))) (num_t k1 (by omega) hs h1 h2))))) sk) (leave_pl hs rfl)
/-! lots -/
def SpEvery (T : List FD) (i : Nat) : Prop := ∀ (n : Nat) (st : St), 1 ≤ n → Low st → ∀ (N : Nat) (ps : Prs), N ≤ 7 → run T n i [dTown N ps] st = .ok (enc (List.range N)) st
theorem every_ok {i : Nat} (hT : T[i]? = some F_every_house) : SpEvery T i := fun n st hn hs N ps hN => by
  obtain ⟨m, rfl⟩ := Nat.exists_eq_add_of_le' hn
  refine run_pl hs hT rfl (Dat.pl _) (rt ?_)
  have h1 : ev (run T m) (.idx (.var 0) (.con (.int 0))) [some (dTown N ps)] st = .ok (.int N) st := ix (vr rfl) cn rfl
  show ev (run T m) (.rng1 true (.idx (.var 0) (.con (.int 0)))) [some (dTown N ps)] st = _
  simp only [ev]
  refine bk2 h1 ?_
  unfold rngD
  have e1 : Nat.ble ((N : Int) - 0).toNat line = true := Nat.ble_eq_true_of_le (by show ((N : Int) - 0).toNat ≤ 16777216; omega)
  simp only [rangeOk_of (i := 0) (by omega) (by omega), rangeOk_of (i := N) (by omega) (by omega), e1, Bool.and_self, if_true, Mp.ret]
  rw [show ((N : Int) - 0).toNat = N by omega, upto_zero]
  rfl
def SpLots (T : List FD) (i : Nat) : Prop := ∀ (n : Nat) (st : St), 1 ≤ n → Low st → ∀ (N : Nat) (ps : Prs), N ≤ 7 → run T n i [dTown N ps] st = .ok (dL (lots N)) st
theorem lots_ok {i : Nat} (hT : T[i]? = some F_all_lots) : SpLots T i := fun n st hn hs N ps hN => by
  obtain ⟨m, rfl⟩ := Nat.exists_eq_add_of_le' hn
  obtain ⟨env2, st2, h1, ⟨y2, rfl⟩, rfl⟩ := for1 (C := run T m) (p := .one 2) (e := .itr .range1 (.cons (.idx (.var 0) (.con (.int 0))) .nil)) (s := .asg (.one 1) (.bin .add (.var 1) (.comp (.one 3) (.itr .seq (.cons (.var 1) .nil)) (.con (.bl true)) (.bin .add (.var 3) (.tup (.cons (.var 2) .nil))))))
    (env := [some (dTown N ps), some (dL (lots 0)), none, none]) (st := st) (f := enc (α := Nat)) (xs := List.range N)
    (fun dn env s => (∃ y2, env = [some (dTown N ps), some (dL (lots dn.length)), y2, none]) ∧ s = st) (it_rng1 (n := N) (ix (vr rfl) cn rfl) (by omega) (by omega) (by omega)) ⟨⟨none, rfl⟩, rfl⟩ fun x dn env s hx hp ⟨⟨y2, e1⟩, e2⟩ => by
      subst e1 e2
      have hx := range_pre hp
      have hd : dn.length ≤ 6 := by
        have := List.mem_range.mp (by assumption : x ∈ List.range N)
        omega
      have hl := lots_most (n := dn.length) (by omega)
      subst hx
      refine ⟨_, [some (dTown N ps), some (dL (lots (dn.length + 1))), some (enc dn.length), none], s, rfl, asg (bn (vr rfl) (cmp0 (xs := lots dn.length) (f := enc) (fun l => enc (l ++ [dn.length])) (it_lst (vr rfl)) rfl (fun l hl => ⟨_, rfl, bn (vr rfl) (tp1 (vr rfl)) (addT ?_)⟩) (by show _ ≤ 16777216; omega)) ?_) rfl, rfl, ⟨some (enc dn.length), ?_⟩, rfl⟩
      · have := (lots_is hl).2.2
        rw [List.length_append, List.length_singleton]
        show _ ≤ 16777216
        omega
      · rw [show (lots dn.length).map (fun l => enc (l ++ [dn.length])) = ((lots dn.length).map fun l => l ++ [dn.length]).map enc by rw [List.map_map]; rfl]
        refine addL ?_
        rw [List.length_append, List.length_map]
        show _ ≤ 16777216
        omega
      · rw [List.length_append, List.length_singleton]
  rw [List.length_range] at h1
  exact run_pl hs hT rfl pl_L (sq (asg (ls1 (v := ([] : List Nat)) (tp al0 (Nat.zero_le _))) rfl) (sq h1 (rt (vr rfl))))
def SpNbs (T : List FD) (i : Nat) : Prop := ∀ (n : Nat) (st : St), 1 ≤ n → Low st → ∀ (N : Nat) (ps : Prs), N ≤ 7 → run T n i [dTown N ps] st = .ok (dL (beside N ps)) st
theorem nbs_ok {i : Nat} (hT : T[i]? = some F_neighbors) : SpNbs T i := fun n st hn hs N ps hN => by
  obtain ⟨m, rfl⟩ := Nat.exists_eq_add_of_le' hn
  refine run_pl hs hT rfl pl_L (sq (asg (vr rfl) rfl) (rt ?_))
  have e : beside N ps = (List.range N).map (nbs N ps) := rfl
  rw [e, dL, List.map_map]
  refine cmp0 (xs := List.range N) (f := enc) (fun h => enc (nbs N ps h)) (it_rng1 (n := N) (vr rfl) (by omega) (by omega) (by omega)) rfl (fun h hh => ⟨_, rfl, pr (al (cmp_ (xs := List.range N) (f := enc) (fun o => decide ((h, o) ∈ ps) || decide ((o, h) ∈ ps)) enc (it_rng1 (n := N) (vr rfl) (by omega) (by omega) (by omega)) rfl (fun o ho => ⟨_, rfl, tb (orr (cm (tp (al (vr rfl) (al (vr rfl) al0)) (by show 2 ≤ line; decide)) (vr rfl) (mem_ (x := (h, o)))) fun _ => cm (tp (al (vr rfl) (al (vr rfl) al0)) (by show 2 ≤ line; decide)) (vr rfl) (mem_ (x := (o, h)))), fun _ => vr rfl⟩) ?_) al0) rfl⟩) ?_
  · rw [List.length_map]
    refine Nat.le_trans (List.length_filter_le _ _) ?_
    rw [List.length_range]
    show _ ≤ 16777216
    omega
  · rw [List.length_range]
    show _ ≤ 16777216
    omega
end
end Mk
end
section
set_option Elab.async false
set_option linter.all false
set_option maxRecDepth 100000
set_option maxHeartbeats 400000
/-! Ways to part a lot into heaps; needs; rows. -/
namespace Mk
open PySem Mp GM
open Dat (enc)
def frB (b : List Nat) (H : List Nat) : Bool := !(b.any fun x => decide (x ∈ H))
def Fit (k : Nat) (hs : Heaps) : Prop := hs.length ≤ k ∧ ∀ h ∈ hs, h.length ≤ k
theorem fit_ways {fr : List Nat → Bool} {hs w : Heaps} {h k : Nat} (hf : Fit k hs) (hw : w ∈ wW fr hs h) : Fit (k + 1) w := by
  obtain ⟨f1, f2⟩ := hf
  rcases List.mem_cons.mp hw with rfl | hw
  · refine ⟨by rw [List.length_append, List.length_singleton]; omega, fun x hx => ?_⟩
    rcases List.mem_append.mp hx with hx | hx
    · exact Nat.le_succ_of_le (f2 x hx)
    · rw [List.mem_singleton.mp hx]
      exact Nat.succ_le_succ (Nat.zero_le _)
  · obtain ⟨p, hp, rfl⟩ := List.mem_map.mp hw
    have hp := List.mem_zipIdx' (List.mem_filter.mp hp).1
    have hm : p.1 ∈ hs := by
      rw [hp.2]
      exact List.getElem_mem _
    have := hp.1
    refine ⟨by simp only [List.length_append, List.length_take, List.length_drop, List.length_singleton]; omega, fun x hx => ?_⟩
    simp only [List.mem_append, List.mem_singleton] at hx
    rcases hx with (hx | rfl) | hx
    · exact Nat.le_succ_of_le (f2 x (List.mem_of_mem_take hx))
    · rw [List.length_append, List.length_singleton]
      exact Nat.succ_le_succ (f2 _ hm)
    · exact Nat.le_succ_of_le (f2 x (List.mem_of_mem_drop hx))
theorem ways_most {fr : List Nat → Bool} {hs : Heaps} {h k : Nat} (hf : Fit k hs) : (wW fr hs h).length ≤ k + 1 := by
  unfold wW
  rw [List.length_cons, List.length_map]
  refine Nat.succ_le_succ (Nat.le_trans (List.length_filter_le _ _) ?_)
  rw [List.length_zipIdx]
  exact hf.1
def fac : Nat → Nat
  | 0 => 1
  | n + 1 => fac n * (n + 1)
theorem fac_le : ∀ {n m : Nat}, n ≤ m → fac n ≤ fac m
  | n, 0, h => by
    rw [Nat.le_zero.mp h]
    exact Nat.le_refl _
  | n, m + 1, h => by
    rcases Nat.lt_or_ge m n with z | z
    · rw [show n = m + 1 by omega]
      exact Nat.le_refl _
    · exact Nat.le_trans (fac_le z) (Nat.le_mul_of_pos_right _ (Nat.succ_pos _))
theorem flat_most {α β : Type} {f : α → List β} {k : Nat} : ∀ {l : List α}, (∀ a ∈ l, (f a).length ≤ k) → (l.flatMap f).length ≤ l.length * k
  | [], _ => by simp
  | a :: l, h => by
    rw [List.flatMap_cons, List.length_append, List.length_cons, Nat.succ_mul]
    have := h a List.mem_cons_self
    have := flat_most (l := l) fun b hb => h b (List.mem_cons_of_mem _ hb)
    omega
theorem parts_snoc {fr : Nat → List Nat → Bool} {dn : List Nat} {x : Nat} {W : List Heaps} : parts fr (dn ++ [x]) W = (parts fr dn W).flatMap fun P => wW (fr x) P x := by
  unfold parts
  rw [List.foldl_append]
  rfl
theorem parts_fit' {fr : Nat → List Nat → Bool} : ∀ l : List Nat, (∀ P ∈ parts fr l.reverse [[]], Fit l.length P) ∧ (parts fr l.reverse [[]]).length ≤ fac l.length
  | [] => by
    refine ⟨fun P hP => ?_, Nat.le_refl _⟩
    rw [List.mem_singleton.mp hP]
    exact ⟨Nat.le_refl _, (fun _ z => by cases z)⟩
  | x :: l => by
    obtain ⟨h1, h2⟩ := parts_fit' (fr := fr) l
    rw [List.reverse_cons, parts_snoc, List.length_cons]
    refine ⟨fun P hP => ?_, ?_⟩
    · obtain ⟨Q, hQ, hP⟩ := List.mem_flatMap.mp hP
      exact fit_ways (h1 Q hQ) hP
    · refine Nat.le_trans (flat_most fun P hP => ways_most (h1 P hP)) ?_
      exact Nat.mul_le_mul_right _ h2
theorem parts_fit {fr : Nat → List Nat → Bool} (dn : List Nat) : (∀ P ∈ parts fr dn [[]], Fit dn.length P) ∧ (parts fr dn [[]]).length ≤ fac dn.length := by
  have := parts_fit' (fr := fr) dn.reverse
  rwa [List.reverse_reverse, List.length_reverse] at this
/-- the ways so far -/
def wAcc (b : List Nat) (H : Heaps) (h : Nat) (dn : List (List Nat × Nat)) : List Heaps := (H ++ [[h]]) :: (dn.filter fun p => frB b p.1).map fun p => H.take p.2 ++ [p.1 ++ [h]] ++ H.drop (p.2 + 1)
theorem wAcc_add {b : List Nat} {H : Heaps} {h : Nat} {dn : List (List Nat × Nat)} {x : List Nat × Nat} : wAcc b H h (dn ++ [x]) = if frB b x.1 then wAcc b H h dn ++ [H.take x.2 ++ [x.1 ++ [h]] ++ H.drop (x.2 + 1)] else wAcc b H h dn := by
  unfold wAcc
  cases q : frB b x.1 with
  | true =>
    rw [if_pos rfl, List.filter_append, List.filter_cons_of_pos (p := fun p : List Nat × Nat => frB b p.1) q, List.filter_nil, List.map_append]
    rfl
  | false =>
    rw [if_neg (by simp), List.filter_append, List.filter_cons_of_neg (p := fun p : List Nat × Nat => frB b p.1) (by rw [q]; simp), List.filter_nil, List.append_nil]
theorem wAcc_len {b : List Nat} {H : Heaps} {h : Nat} {dn : List (List Nat × Nat)} : (wAcc b H h dn).length ≤ dn.length + 1 := by
  unfold wAcc
  rw [List.length_cons, List.length_map]
  exact Nat.succ_le_succ (List.length_filter_le _ _)
section
variable {T : List FD}
def SpWith (T : List FD) (i : Nat) : Prop := ∀ (n : Nat) (st : St), 2 ≤ n → Low st → ∀ (B : List (List Nat)) (H : Heaps) (h k : Nat) (b : List Nat), B[h]? = some b → Fit k H → k ≤ 7 → run T n i [dL B, enc H, enc h] st = .ok (dL (wW (frB b) H h)) st
theorem with_ok {i c : Nat} (hT : T[i]? = some (F_ways_with c)) (k1 : SpShare T c) : SpWith T i := fun n st hn hs B H h k b hb hf hk => by
  obtain ⟨m, rfl⟩ := Nat.exists_eq_add_of_le' hn
  obtain ⟨f1, f2⟩ := hf
  have one : (H ++ [[h]]).length ≤ line := by
    rw [List.length_append, List.length_singleton]
    show _ ≤ 16777216
    omega
  obtain ⟨env2, st2, h1, ⟨y4, y5, rfl⟩, rfl⟩ := for1 (C := run T (m + 1)) (p := .tup [4, 5]) (e := .itr .enum (.cons (.var 1) .nil)) (s := (.ite (.not (.call c (.cons (.idx (.var 0) (.var 2)) (.cons (.var 5) .nil)))) (.drop (.meth .append (.var 3) (.cons (.bin .add (.bin .add (.slice false true (.var 1) (.con .non) (.var 4)) (.tup (.cons (.bin .add (.var 5) (.tup (.cons (.var 2) .nil))) .nil))) (.slice true false (.var 1) (.bin .add (.var 4) (.con (.int (1)))) (.con .non))) .nil))) .skip))
    (env := [some (dL B), some (enc H), some (enc h), some (.cell st.length), none, none]) (st := st ++ [.lst ([H ++ [[h]]].map enc)]) (st1 := st ++ [.lst ([H ++ [[h]]].map enc)]) (f := fun (p : List Nat × Nat) => .tup [.int p.2, enc p.1]) (xs := H.zipIdx)
    (fun dn env s => (∃ y4 y5, env = [some (dL B), some (enc H), some (enc h), some (.cell st.length), y4, y5]) ∧ s = st ++ [.lst ((wAcc b H h dn).map enc)])
    (it_enum (vr rfl)) ⟨⟨none, none, rfl⟩, rfl⟩ fun x dn env s hx hp ⟨⟨y4, y5, e1⟩, e2⟩ => by
      subst e1
      have lw : Low s := by rw [e2]; exact low_snoc hs (pl_map _)
      have hlen : dn.length ≤ 7 := by
        have := hp.length_le
        rw [List.length_append, List.length_singleton, List.length_zipIdx] at this
        omega
      have hx' := List.mem_zipIdx' hx
      have hi := hx'.1
      have hm : x.1 ∈ H := by rw [hx'.2]; exact List.getElem_mem _
      have hsm := f2 _ hm
      have hacc := wAcc_len (b := b) (H := H) (h := h) (dn := dn)
      refine ⟨_, [some (dL B), some (enc H), some (enc h), some (.cell st.length), some (.int x.2), some (enc x.1)], st ++ [.lst ((wAcc b H h (dn ++ [x])).map enc)], rfl, iff_ (k := frB b x.1) (tb (nt (tb (cl (al (ix (vr rfl) (vr rfl) (ixL hb)) (al (vr rfl) al0)) (k1 _ _ (by omega) lw b x.1))))) ?_, rfl, ⟨_, _, rfl⟩, rfl⟩
      rw [wAcc_add]
      cases q : frB b x.1 with
      | false =>
        rw [if_neg (by simp), if_neg (by simp), ← e2]
        exact sk (C := Mp.run T (m + 1))
      | true =>
        rw [if_pos rfl, if_pos rfl]
        refine drp (d := .non) (mth (vr rfl) (al (bn (bn (slc (vr rfl) cn (vr rfl) (st3 := s) (r := .ok (enc (H.take x.2)) s) ?_) (tp1 (v := x.1 ++ [h]) (bn (vr rfl) (tp1 (vr rfl)) (addT ?_))) (addT ?_)) (slc (vr rfl) (bn (vr rfl) cn rfl) cn (st3 := s) (r := .ok (enc (H.drop (x.2 + 1))) s) ?_) (addT ?_)) al0) ?_)
        · show Mp.ret (D.tup (cut (H.map enc) none (some (x.2 : Int)))) s = _
          rw [cut_take, ← List.map_take]
          rfl
        · rw [List.length_append, List.length_singleton]
          show _ ≤ 16777216
          omega
        · simp only [List.length_append, List.length_take, List.length_singleton]
          show _ ≤ 16777216
          omega
        · show Mp.ret (D.tup (cut (H.map enc) (some ((x.2 : Int) + 1)) none)) s = _
          rw [show ((x.2 : Int) + 1) = ((x.2 + 1 : Nat) : Int) by omega, cut_drop, ← List.map_drop]
          rfl
        · simp only [List.length_append, List.length_take, List.length_singleton, List.length_drop]
          show _ ≤ 16777216
          omega
        · rw [e2, List.map_append (l₁ := wAcc b H h dn)]
          refine app_own ?_
          rw [List.length_map]
          show _ < 16777216
          omega
  refine run_ret hT rfl (sq (asg (nw (al (bn (vr rfl) (tp1 (v := [h]) (tp1 (vr rfl))) (addT one)) al0) (by show 1 ≤ line; decide)) rfl) (sq h1 (rt (vr rfl)))) (leave_cell hs (pl_map _))
/-- which heaps a house may join -/
def frT (N : Nat) (ps : Prs) (h : Nat) : List Nat → Bool := frB (nbs N ps h)
def SpPart (T : List FD) (i : Nat) : Prop := ∀ (n : Nat) (st : St), 3 ≤ n → Low st → ∀ (N : Nat) (ps : Prs) (l : List Nat), (∀ x ∈ l, x < N) → l.length ≤ 7 → run T n i [dL (beside N ps), enc l] st = .ok (dL (parts (frT N ps) l [[]])) st
theorem part_ok {i c : Nat} (hT : T[i]? = some (F_ways_to_part c)) (k1 : SpWith T c) : SpPart T i := fun n st hn hs N ps l hx hl => by
  obtain ⟨m, rfl⟩ := Nat.exists_eq_add_of_le' hn
  obtain ⟨env2, st2, h1, ⟨y3, rfl⟩, rfl⟩ := for1 (C := run T (m + 2)) (p := .one 3) (e := .itr .seq (.cons (.var 1) .nil)) (s := (.asg (.one 2) (.comp2 (.one 4) (.itr .seq (.cons (.var 2) .nil)) (.con (.bl true)) (.one 5) (.itr .seq (.cons (.call c (.cons (.var 0) (.cons (.var 4) (.cons (.var 3) .nil)))) .nil)) (.con (.bl true)) (.var 5))))
    (env := [some (dL (beside N ps)), some (enc l), some (dL (parts (frT N ps) [] [[]])), none, none, none]) (st := st) (st1 := st) (f := enc (α := Nat)) (xs := l)
    (fun dn env s => (∃ y3, env = [some (dL (beside N ps)), some (enc l), some (dL (parts (frT N ps) dn [[]])), y3, none, none]) ∧ s = st)
    (it_tup (vr rfl)) ⟨⟨none, rfl⟩, rfl⟩ fun x dn env s hxl hp ⟨⟨y3, e1⟩, e2⟩ => by
      subst e1 e2
      have hlen : dn.length + 1 ≤ 7 := by
        have := hp.length_le
        rw [List.length_append, List.length_singleton] at this
        omega
      obtain ⟨f1, f2⟩ := parts_fit (fr := frT N ps) dn
      obtain ⟨_, f3⟩ := parts_fit (fr := frT N ps) (dn ++ [x])
      rw [List.length_append, List.length_singleton, parts_snoc] at f3
      have f4 := Nat.le_trans f3 (fac_le hlen)
      have f5 := Nat.le_trans f2 (fac_le (Nat.le_of_succ_le hlen))
      refine ⟨_, [some (dL (beside N ps)), some (enc l), some (dL (parts (frT N ps) (dn ++ [x]) [[]])), some (enc x), none, none], s, rfl, asg (d := dL (parts (frT N ps) (dn ++ [x]) [[]])) (st1 := s) ?_ rfl, rfl, ⟨_, rfl⟩, rfl⟩
      rw [parts_snoc]
      have e : ((parts (frT N ps) dn [[]]).flatMap fun P => wW (frT N ps x) P x).map enc = (parts (frT N ps) dn [[]]).flatMap fun P => (wW (frT N ps x) P x).map enc := by rw [List.map_flatMap]
      show ev _ _ _ s = .ok (.lst (((parts (frT N ps) dn [[]]).flatMap fun P => wW (frT N ps x) P x).map enc)) s
      rw [e]
      refine cmp20 (β := Heaps) (f := enc (α := Heaps)) (xs := parts (frT N ps) dn [[]]) (fun P => (wW (frT N ps x) P x).map enc) (it_lst (vr rfl)) rfl (fun P hP => ⟨_, rfl, wW (frT N ps x) P x, none, enc, (fun _ => true), enc, it_lst (cl (al (vr rfl) (al (vr rfl) (al (vr rfl) al0))) (k1 _ _ (by omega) hs _ P x dn.length _ (beside_at (hx x hxl)) (f1 P hP) (by omega))), rfl, fun y hy => ⟨_, rfl, rfl, fun _ => vr rfl⟩, by rw [List.filter_eq_self.mpr fun _ _ => rfl]⟩) ?_
      rw [← e, List.length_map]
      exact Nat.le_trans f4 (by decide)
  refine run_pl hs hT rfl pl_L (sq (asg (ls1 (v := ([] : Heaps)) (tp al0 (Nat.zero_le _))) rfl) (sq h1 (rt (vr rfl))))
end
end Mk
end
section
set_option Elab.async false
set_option linter.all false
set_option maxRecDepth 100000
set_option maxHeartbeats 400000
/-! Needs, neighbors, rows, lots left out. -/
namespace Mk
open PySem Mp GM
open Dat (enc)
def minOf : List Nat → Nat
  | [] => 0
  | x :: l => l.foldl min x
def maxOf : List Nat → Nat
  | [] => 0
  | x :: l => l.foldl max x
theorem minOf_is {l : List Nat} (h : l ≠ []) : minOf l ∈ l ∧ ∀ y ∈ l, minOf l ≤ y := by
  cases l with
  | nil => exact absurd rfl h
  | cons x l => exact fold_min_is l x
theorem maxOf_is {l : List Nat} (h : l ≠ []) : maxOf l ∈ l ∧ ∀ y ∈ l, y ≤ maxOf l := by
  cases l with
  | nil => exact absurd rfl h
  | cons x l => exact fold_max_is l x
theorem minOf_eq {l : List Nat} {m : Nat} (hm : m ∈ l) (h : ∀ y ∈ l, m ≤ y) : minOf l = m := by
  have := minOf_is (l := l) (fun z => by subst z; cases hm)
  exact Nat.le_antisymm (this.2 m hm) (h _ this.1)
theorem maxOf_eq {l : List Nat} {m : Nat} (hm : m ∈ l) (h : ∀ y ∈ l, y ≤ m) : maxOf l = m := by
  have := maxOf_is (l := l) (fun z => by subst z; cases hm)
  exact Nat.le_antisymm (h _ this.1) (this.2 m hm)
section
variable {st : St} {α : Type} [DecidableEq α] [Dat α]
theorem prim_len {l : List α} : primD .len [enc l] st = .ok (enc l.length) st := by
  refine (pD (fun _ z => by cases z) (e := enc l) rfl).trans ?_
  show Mp.ret (D.int ((l.map enc).length : Int)) st = _
  rw [List.length_map]
  rfl
theorem prim_lenL {l : List α} : primD .len [dL l] st = .ok (enc l.length) st := by
  refine (pD (fun _ z => by cases z) (e := dL l) rfl).trans ?_
  show Mp.ret (D.int ((l.map enc).length : Int)) st = _
  rw [List.length_map]
  rfl
variable {C : CallF} {env : Mp.Env} {x e c : E} {st1 : St}
/-- a comprehension of data, with a test -/
theorem cmpE {β γ : Type} [DecidableEq β] [Dat β] {p : Pat} {f : γ → D} (t : γ → Bool) (r : γ → β) {xs : List γ} {g : Option (Nat × List D)} (h : bnd (ev C x env) srcOf st = .ok (xs.map f, g) st) (hg : chk g st = .ok () st) (hx : ∀ x ∈ xs, ∃ env', p.bind (f x) (wipeE env p.slots) = some env' ∧ bnd (ev C c env') truth st = .ok (t x) st ∧ (t x = true → ev C e env' st = .ok (enc (r x)) st))
    (hl : xs.length ≤ line) : ev C (.comp p x c e) env st = .ok (dL ((xs.filter t).map r)) st := by
  rw [show dL ((xs.filter t).map r) = .lst ((xs.filter t).map fun y => enc (r y)) by rw [dL, List.map_map]; rfl]
  refine cmp_ t (fun y => enc (r y)) h hg hx ?_
  rw [List.length_map]
  exact Nat.le_trans (List.length_filter_le _ _) hl
/-- .. without one -/
theorem cmpA {β γ : Type} [DecidableEq β] [Dat β] {p : Pat} {f : γ → D} (r : γ → β) {xs : List γ} {g : Option (Nat × List D)} (h : bnd (ev C x env) srcOf st = .ok (xs.map f, g) st) (hg : chk g st = .ok () st) (hx : ∀ x ∈ xs, ∃ env', p.bind (f x) (wipeE env p.slots) = some env' ∧ ev C e env' st = .ok (enc (r x)) st)
    (hl : xs.length ≤ line) : ev C (.comp p x (.con (.bl true)) e) env st = .ok (dL (xs.map r)) st := by
  rw [show dL (xs.map r) = .lst (xs.map fun y => enc (r y)) by rw [dL, List.map_map]; rfl]
  exact cmp0 (fun y => enc (r y)) h hg hx hl
end
theorem parts_ne {fr : Nat → List Nat → Bool} (l : List Nat) : parts fr l [[]] ≠ [] := by
  have key : ∀ l : List Nat, parts fr l.reverse [[]] ≠ [] := fun l => by
    induction l with
    | nil => exact fun z => by cases z
    | cons x l ih =>
      rw [List.reverse_cons, parts_snoc]
      intro z
      rw [List.flatMap_eq_nil_iff] at z
      cases e : parts fr l.reverse [[]] with
      | nil => exact ih e
      | cons P r =>
        have := z P (by rw [e]; exact List.mem_cons_self)
        cases this
  have := key l.reverse
  rwa [List.reverse_reverse] at this
def few (N : Nat) (ps : Prs) (l : List Nat) : Nat := minOf ((parts (frT N ps) l [[]]).map List.length)
def mutualB (N : Nat) (ps : Prs) (lot : List Nat) : Bool := lot.all fun h => (lot.filter fun o => !decide (o = h)).all fun o => decide (o ∈ nbs N ps h)
def ofSize (L : List (List Nat)) (m : Nat) : List (List Nat) := isort leb (L.filter fun x => decide (x.length = m))
def mutLots (N : Nat) (ps : Prs) : List (List Nat) := (lots N).filter (mutualB N ps)
def extK (N : Nat) (ps : Prs) : Nat → List (List Nat)
  | 0 => rows1 N
  | k + 1 => ext N (adj ps) (extK N ps k)
theorem extK_is {N : Nat} {ps : Prs} : ∀ {k : Nat} {r : List Nat}, r ∈ extK N ps k → r.length = k + 1 ∧ ∀ x ∈ r, x < N
  | 0, r, h => by
    obtain ⟨a, ha, rfl⟩ := List.mem_map.mp h
    have := List.mem_range.mp ha
    exact ⟨rfl, fun x hx => by rw [List.mem_singleton.mp hx]; exact this⟩
  | k + 1, r, h => by
    obtain ⟨row, hr, x, ⟨hx, _⟩, rfl⟩ := mem_ext.mp h
    obtain ⟨h1, h2⟩ := extK_is hr
    refine ⟨by rw [List.length_append, h1]; rfl, fun y hy => ?_⟩
    rcases List.mem_append.mp hy with hy | hy
    · exact h2 y hy
    · rw [List.mem_singleton.mp hy]
      exact hx
theorem extK_most {N : Nat} {ps : Prs} (hN : N ≤ 7) : ∀ k, (extK N ps k).length ≤ 7 ^ (k + 1)
  | 0 => by
    show ((List.range N).map _).length ≤ 7
    rw [List.length_map, List.length_range]
    exact hN
  | k + 1 => by
    refine Nat.le_trans (flat_most (k := 7) fun r _ => ?_) (Nat.mul_le_mul_right _ (extK_most hN k))
    rw [List.length_map]
    refine Nat.le_trans (List.length_filter_le _ _) ?_
    rw [List.length_range]
    exact hN
def bareL (N : Nat) (ps : Prs) : List (List Nat) := isort leb (progRows N (adj ps))
def outLots (N : Nat) (ps : Prs) : List (List Nat) := (lots N).filter fun lot => (bareL N ps).all fun row => row.any fun h => decide (h ∈ lot)
theorem range_in_lots (N : Nat) : List.range N ∈ lots N := lots_of List.pairwise_lt_range fun x hx => List.mem_range.mp hx
theorem bareL_is {N : Nat} {ps : Prs} {r : List Nat} (h : r ∈ bareL N ps) : r ≠ [] ∧ ∀ x ∈ r, x < N := by
  have h := isort_perm.mem_iff.mp h
  have := extK_is (k := 3) (List.mem_filter.mp h).1
  exact ⟨(fun z => by rw [z] at this; cases this.1), this.2⟩
theorem outLots_ne {N : Nat} {ps : Prs} : outLots N ps ≠ [] := fun z => by
  have : List.range N ∈ outLots N ps := List.mem_filter.mpr ⟨range_in_lots N, List.all_eq_true.mpr fun r hr => by
    obtain ⟨h1, h2⟩ := bareL_is hr
    cases r with
    | nil => exact absurd rfl h1
    | cons a r => exact List.any_eq_true.mpr ⟨a, List.mem_cons_self, decide_eq_true (List.mem_range.mpr (h2 a List.mem_cons_self))⟩⟩
  rw [z] at this
  cases this
theorem mutLots_ne {N : Nat} {ps : Prs} : mutLots N ps ≠ [] := fun z => by
  have : [] ∈ mutLots N ps := List.mem_filter.mpr ⟨lots_nil N, rfl⟩
  rw [z] at this
  cases this
theorem map_ne {α β : Type} {f : α → β} {l : List α} (h : l ≠ []) : l.map f ≠ [] := fun z => h (List.map_eq_nil_iff.mp z)
section
variable {T : List FD}
def SpFew (T : List FD) (i : Nat) : Prop := ∀ (n : Nat) (st : St), 4 ≤ n → Low st → ∀ (N : Nat) (ps : Prs) (l : List Nat), (∀ x ∈ l, x < N) → l.length ≤ 7 → run T n i [dL (beside N ps), enc l] st = .ok (enc (few N ps l)) st
theorem few_ok {i c : Nat} (hT : T[i]? = some (F_fewest_paints c)) (k1 : SpPart T c) : SpFew T i := fun n st hn hs N ps l hx hl => by
  obtain ⟨m, rfl⟩ := Nat.exists_eq_add_of_le' hn
  obtain ⟨_, f2⟩ := parts_fit (fr := frT N ps) l
  have f3 := Nat.le_trans f2 (fac_le hl)
  refine run_pl hs hT rfl (Dat.pl _) (rt (pr (al (cmpA (xs := parts (frT N ps) l [[]]) (f := enc (α := Heaps)) List.length (it_lst (cl (al (vr rfl) (al (vr rfl) al0)) (k1 _ _ (by omega) hs N ps l hx hl))) rfl (fun P hP => ⟨_, rfl, pr (al (vr rfl) al0) prim_len⟩) (Nat.le_trans f3 (by decide))) al0) ?_))
  have := minOf_is (map_ne (f := List.length) (parts_ne (fr := frT N ps) l))
  exact prim_min this.1 this.2
def SpNeed (T : List FD) (i : Nat) : Prop := ∀ (n : Nat) (st : St), 6 ≤ n → Low st → ∀ (N : Nat) (ps : Prs) (l : List Nat), Town N ps → l ∈ lots N → run T n i [dTown N ps, enc l] st = .ok (enc (few N ps l)) st
theorem need_ok {i c d e f : Nat} (hT : T[i]? = some (F_need c d e f)) (k1 : SpMap T c) (k2 : SpCLot T d) (k3 : SpFew T e) (k4 : SpNbs T f) : SpNeed T i := fun n st hn hs N ps l ht hl => by
  obtain ⟨m, rfl⟩ := Nat.exists_eq_add_of_le' hn
  have hm := ht.most
  obtain ⟨l1, l2, l3⟩ := lots_is hl
  exact run_pl hs hT rfl (Dat.pl _) (sq (drp (cl (al (vr rfl) al0) (k1 _ _ (by omega) hs N ps ht))) (sq (drp (cl (al (vr rfl) (al (vr rfl) al0)) (k2 _ _ (by omega) hs N ps l l2 (by omega) l1))) (rt (cl (al (cl (al (vr rfl) al0) (k4 _ _ (by omega) hs N ps hm)) (al (vr rfl) al0)) (k3 _ _ (by omega) hs N ps l l2 (by omega))))))
def SpNear (T : List FD) (i : Nat) : Prop := ∀ (n : Nat) (st : St), 6 ≤ n → Low st → ∀ (N : Nat) (ps : Prs) (h : Nat), Town N ps → h < N → run T n i [dTown N ps, enc h] st = .ok (enc (nbs N ps h)) st
theorem near_ok {i c d f : Nat} (hT : T[i]? = some (F_near c d f)) (k1 : SpMap T c) (k2 : SpCHouse T d) (k4 : SpNbs T f) : SpNear T i := fun n st hn hs N ps h ht hh => by
  obtain ⟨m, rfl⟩ := Nat.exists_eq_add_of_le' hn
  have hm := ht.most
  exact run_pl hs hT rfl (Dat.pl _) (sq (drp (cl (al (vr rfl) al0) (k1 _ _ (by omega) hs N ps ht))) (sq (drp (cl (al (vr rfl) (al (vr rfl) al0)) (k2 _ _ (by omega) hs N ps h hh))) (rt (ix (cl (al (vr rfl) al0) (k4 _ _ (by omega) hs N ps hm)) (vr rfl) (ixL (beside_at hh))))))
def SpCount (T : List FD) (i : Nat) : Prop := ∀ (n : Nat) (st : St), 6 ≤ n → Low st → ∀ (N : Nat) (ps : Prs) (p : Nat), Town N ps → p ≤ 9 → run T n i [dTown N ps, enc p] st = .ok (enc (sm (fun P => prm p P.length) (parts (frT N ps) (List.range N) [[]]))) st
theorem count_ok {i c d e f g : Nat} (hT : T[i]? = some (F_count_paintings c d e f g)) (k1 : SpMap T c) (k2 : SpCNum T d) (k3 : SpPart T e) (k4 : SpNbs T f) (k5 : SpEvery T g) : SpCount T i := fun n st hn hs N ps p ht hp => by
  obtain ⟨m, rfl⟩ := Nat.exists_eq_add_of_le' hn
  have hm := ht.most
  obtain ⟨f1, f2⟩ := parts_fit (fr := frT N ps) (List.range N)
  rw [List.length_range] at f1 f2
  have f3 := Nat.le_trans f2 (fac_le hm)
  have es : ∀ l : List Heaps, ((l.map fun P => ((prm p P.length : Nat) : Int)).sum) = ((sm (fun P => prm p P.length) l : Nat) : Int) := fun l => by
    induction l with
    | nil => rfl
    | cons a l ih =>
      rw [List.map_cons, List.sum_cons, ih, sm_cons]
      omega
  refine run_pl hs hT rfl (Dat.pl _) (sq (drp (cl (al (vr rfl) al0) (k1 _ _ (by omega) hs N ps ht))) (sq (drp (cl (al (vr rfl) (al cn (al cn al0))) (k2 _ _ (by omega) hs p 0 9 (by omega) (by omega)))) (sq (asg (cl (al (cl (al (vr rfl) al0) (k4 _ _ (by omega) hs N ps hm)) (al (cl (al (vr rfl) al0) (k5 _ _ (by omega) hs N ps hm)) al0)) (k3 _ _ (by omega) hs N ps (List.range N) (fun x hx => List.mem_range.mp hx) (by rw [List.length_range]; exact hm))) rfl) (rt (pr (al (cmpA (xs := parts (frT N ps) (List.range N) [[]]) (f := enc (α := Heaps)) (β := Int) (fun P => (prm p P.length : Nat)) (it_lst (vr rfl)) rfl (fun P hP => ⟨_, rfl, pr (al (vr rfl) (al (pr (al (vr rfl) al0) prim_len) al0)) ?_⟩) (Nat.le_trans f3 (by decide))) al0) ?_)))))
  · have := (f1 P hP).1
    refine (pD (fun _ z => by cases z) (e := enc p) rfl).trans ?_
    show (if decide (0 ≤ (p : Int)) && decide ((p : Int) < 64) && decide (0 ≤ (P.length : Int)) && decide ((P.length : Int) < 64) then Mp.ret (D.int (PySem.W.mcPerm (p : Int) (P.length : Int))) else bad) st = _
    rw [decide_eq_true (by omega), decide_eq_true (by omega), decide_eq_true (by omega), decide_eq_true (by omega), perm_prm]
    rfl
  · rw [prim_sum, es]
    rfl
def SpMutual (T : List FD) (i : Nat) : Prop := ∀ (n : Nat) (st : St), 1 ≤ n → Low st → ∀ (N : Nat) (ps : Prs) (l : List Nat), (∀ x ∈ l, x < N) → run T n i [dL (beside N ps), enc l] st = .ok (.bl (mutualB N ps l)) st
theorem mutual_ok {i : Nat} (hT : T[i]? = some F_is_mutual) : SpMutual T i := fun n st hn hs N ps l hl => by
  obtain ⟨m, rfl⟩ := Nat.exists_eq_add_of_le' hn
  refine run_pl hs hT rfl rfl (rt (gen2A (β := Nat) (f := enc (α := Nat)) (fun h => (l.filter fun o => !decide (o = h)).all fun o => decide (o ∈ nbs N ps h)) (it_tup (vr rfl)) rfl fun h hh => ⟨_, rfl, l, none, enc, (fun o => !decide (o = h)), (fun o => decide (o ∈ nbs N ps h)), it_tup (vr rfl), rfl, fun o ho => ⟨_, rfl, tb (cm (vr rfl) (vr rfl) (ne_ (α := Nat) (x := o) (y := h))), fun _ => cm (vr rfl) (ix (vr rfl) (vr rfl) (ixL (beside_at (hl h hh)))) mem_⟩, rfl⟩))
def SpSize (T : List FD) (i : Nat) : Prop := ∀ (n : Nat) (st : St), 1 ≤ n → Low st → ∀ (L : List (List Nat)) (m : Nat), L.Nodup → L.length ≤ 1000 → run T n i [dL L, enc m] st = .ok (enc (ofSize L m)) st
theorem size_ok {i : Nat} (hT : T[i]? = some F_lots_of_size) : SpSize T i := fun n st hn hs L m nd hL => by
  obtain ⟨k, rfl⟩ := Nat.exists_eq_add_of_le' hn
  refine run_pl hs hT rfl (Dat.pl _) (rt (pr (al (pr (al (cmp_ (xs := L) (f := enc (α := List Nat)) (fun x => decide (x.length = m)) enc (it_lst (vr rfl)) rfl (fun x hx => ⟨_, rfl, tb (cm (pr (al (vr rfl) al0) prim_len) (vr rfl) (eq_ (x := x.length))), fun _ => vr rfl⟩) ?_) al0) (sorted_T (l := L.filter fun x => decide (x.length = m)) (h2 := ?_))) al0) rfl))
  · rw [List.length_map]
    exact Nat.le_trans (List.length_filter_le _ _) (Nat.le_trans hL (by decide))
  · cases m with
    | succ m =>
      refine .inl fun x hx z => ?_
      have := of_decide_eq_true (List.mem_filter.mp hx).2
      rw [z] at this
      cases this
    | zero =>
      have h1 : ∀ x ∈ L.filter fun x => decide (x.length = 0), x = [] := fun x hx => List.length_eq_zero_iff.mp (of_decide_eq_true (List.mem_filter.mp hx).2)
      have h2 : (L.filter fun x => decide (x.length = 0)).Nodup := List.Pairwise.filter _ nd
      cases e : L.filter fun x => decide (x.length = 0) with
      | nil => exact .inl fun _ z => by cases z
      | cons a r =>
        rw [e] at h1 h2
        have ha := h1 a List.mem_cons_self
        subst ha
        cases r with
        | nil => exact .inr rfl
        | cons b r =>
          have hb := h1 b (List.mem_cons_of_mem _ List.mem_cons_self)
          subst hb
          exact absurd rfl ((List.nodup_cons.mp h2).1 |> fun z => fun _ => z List.mem_cons_self)
def SpMost (T : List FD) (i : Nat) : Prop := ∀ (n : Nat) (st : St), 6 ≤ n → Low st → ∀ (N : Nat) (ps : Prs), Town N ps → run T n i [dTown N ps] st = .ok (enc (ofSize (mutLots N ps) (maxOf ((mutLots N ps).map List.length)))) st
theorem most_ok {i c d e f g : Nat} (hT : T[i]? = some (F_most_mutual c d e f g)) (k1 : SpMap T c) (k2 : SpNbs T d) (k3 : SpLots T e) (k4 : SpMutual T f) (k5 : SpSize T g) : SpMost T i := fun n st hn hs N ps ht => by
  obtain ⟨m, rfl⟩ := Nat.exists_eq_add_of_le' hn
  have hm := ht.most
  have hl := lots_most hm
  have hl2 : (mutLots N ps).length ≤ 128 := Nat.le_trans (List.length_filter_le _ _) hl
  have mx := maxOf_is (map_ne (f := List.length) (mutLots_ne (N := N) (ps := ps)))
  exact run_pl hs hT rfl (Dat.pl _) (sq (drp (cl (al (vr rfl) al0) (k1 _ _ (by omega) hs N ps ht))) (sq (asg (cl (al (vr rfl) al0) (k2 _ _ (by omega) hs N ps hm)) rfl) (sq (asg (d := dL (mutLots N ps)) (cmp_ (xs := lots N) (f := enc (α := List Nat)) (mutualB N ps) enc (it_lst (cl (al (vr rfl) al0) (k3 _ _ (by omega) hs N ps hm))) rfl (fun x hx => ⟨_, rfl, tb (cl (al (vr rfl) (al (vr rfl) al0)) (k4 _ _ (by omega) hs N ps x (lots_is hx).2.1)), fun _ => vr rfl⟩) (by rw [List.length_map]; exact Nat.le_trans hl2 (by decide))) rfl) (rt (cl (al (vr rfl) (al (pr (al (cmpA (xs := mutLots N ps) (f := enc (α := List Nat)) List.length (it_lst (vr rfl)) rfl (fun P hP => ⟨_, rfl, pr (al (vr rfl) al0) prim_len⟩) (Nat.le_trans hl2 (by decide))) al0) (prim_max mx.1 mx.2)) al0)) (k5 _ _ (by omega) hs _ _ (List.Pairwise.filter _ (lots_nodup N)) (by omega)))))))
def SpGoes (T : List FD) (i : Nat) : Prop := ∀ (n : Nat) (st : St), 2 ≤ n → Low st → ∀ (N : Nat) (ps : Prs) (row : List Nat) (h : Nat), row ≠ [] → (∀ x ∈ row, x < N) → h < N → run T n i [dL (beside N ps), enc row, enc h] st = .ok (.bl (goesOn N (adj ps) row h)) st
theorem goes_ok {i c : Nat} (hT : T[i]? = some (F_goes_on c)) (k1 : SpShare T c) : SpGoes T i := fun n st hn hs N ps row h hr hx hh => by
  obtain ⟨m, rfl⟩ := Nat.exists_eq_add_of_le' hn
  obtain ⟨r, x, e⟩ : ∃ r x, row = r ++ [x] := by
    rcases List.eq_nil_or_concat row with e | ⟨r, x, e⟩
    · exact absurd e hr
    · exact ⟨r, x, by rw [e, List.concat_eq_append]⟩
  have hl : row.getLast? = some x := by rw [e, List.getLast?_concat]
  have hd : row.getLastD 0 = x := by rw [e, List.getLastD_concat]
  have hxN : x < N := hx x (by rw [e]; exact List.mem_append_right _ List.mem_cons_self)
  unfold goesOn
  rw [hd]
  refine run_pl hs hT rfl rfl (rt (an (cm (vr rfl) (ix (vr rfl) (ix (vr rfl) (ng cn) (ixT_end hl)) (ixL (beside_at hxN))) (mem_ (x := h))) fun _ => an (cm (vr rfl) (vr rfl) (nmem_ (x := h))) fun _ => nt (tb (cl (al (ix (vr rfl) (vr rfl) (ixL (beside_at hh))) (al (slc (vr rfl) cn (ng cn) (r := .ok (enc row.dropLast) st) ?_) al0)) (k1 _ _ (by omega) hs _ _)))))
  show Mp.ret (D.tup (cut (row.map enc) none (some (-1 : Int)))) st = _
  rw [cut_init, ← List.map_dropLast]
  rfl
def SpRows (T : List FD) (i : Nat) : Prop := ∀ (n : Nat) (st : St), 6 ≤ n → Low st → ∀ (N : Nat) (ps : Prs), Town N ps → run T n i [dTown N ps] st = .ok (enc (bareL N ps)) st
theorem rows_ok {i c d e : Nat} (hT : T[i]? = some (F_bare_rows c d e)) (k1 : SpMap T c) (k2 : SpNbs T d) (k3 : SpGoes T e) : SpRows T i := fun n st hn hs N ps ht => by
  obtain ⟨m, rfl⟩ := Nat.exists_eq_add_of_le' hn
  have hm := ht.most
  obtain ⟨env2, st2, h1, ⟨y4, rfl⟩, rfl⟩ := for1 (C := run T (m + 5)) (p := .one 4) (e := .itr .range1 (.cons (.bin .sub (.con (.int (4))) (.con (.int (1)))) .nil)) (s := (.asg (.one 2) (.comp2 (.one 5) (.itr .seq (.cons (.var 2) .nil)) (.con (.bl true)) (.one 3) (.itr .range1 (.cons (.idx (.var 0) (.con (.int (0)))) .nil)) (.call e (.cons (.var 1) (.cons (.var 5) (.cons (.var 3) .nil)))) (.bin .add (.var 5) (.tup (.cons (.var 3) .nil))))))
    (env := [some (dTown N ps), some (dL (beside N ps)), some (dL (extK N ps 0)), none, none, none]) (st := st) (f := enc (α := Nat)) (xs := List.range 3)
    (fun dn env s => (∃ y4, env = [some (dTown N ps), some (dL (beside N ps)), some (dL (extK N ps dn.length)), none, y4, none]) ∧ s = st) (it_rng1 (n := 3) (bn cn cn rfl) (by decide) (by decide) (by decide)) ⟨⟨none, rfl⟩, rfl⟩ fun x dn env s hx hp ⟨⟨y4, e1⟩, e2⟩ => by
      subst e1 e2
      have hx' := range_pre hp
      have hd : dn.length ≤ 2 := by
        have := List.mem_range.mp (by assumption : x ∈ List.range 3)
        omega
      have hl := extK_most (N := N) (ps := ps) hm (dn.length + 1)
      have hl2 := Nat.le_trans hl (Nat.pow_le_pow_right (show 0 < 7 by decide) (show dn.length + 1 + 1 ≤ 4 by omega))
      refine ⟨_, [some (dTown N ps), some (dL (beside N ps)), some (dL (extK N ps (dn ++ [x]).length)), none, some (enc x), none], s, rfl, asg (d := dL (extK N ps (dn ++ [x]).length)) (st1 := s) ?_ rfl, rfl, ⟨_, rfl⟩, rfl⟩
      rw [List.length_append, List.length_singleton]
      have e3 : (extK N ps (dn.length + 1)).map enc = (extK N ps dn.length).flatMap fun row => (((List.range N).filter (goesOn N (adj ps) row)).map fun h => row ++ [h]).map enc := by
        show (ext N (adj ps) (extK N ps dn.length)).map enc = _
        unfold ext
        rw [List.map_flatMap]
      show ev _ _ _ s = .ok (.lst ((extK N ps (dn.length + 1)).map enc)) s
      rw [e3]
      refine cmp20 (β := Nat) (f := enc (α := List Nat)) (xs := extK N ps dn.length) (fun row => (((List.range N).filter (goesOn N (adj ps) row)).map fun h => row ++ [h]).map enc) (it_lst (vr rfl)) rfl (fun row hr => ⟨_, rfl, List.range N, none, enc, goesOn N (adj ps) row, (fun h => enc (row ++ [h])), it_rng1 (n := N) (ix (vr rfl) cn rfl) (by omega) (by omega) (by omega), rfl, fun h hh => ⟨_, rfl, tb (cl (al (vr rfl) (al (vr rfl) (al (vr rfl) al0))) (k3 _ _ (by omega) hs N ps row h ?_ (extK_is hr).2 (List.mem_range.mp hh))), fun _ => bn (vr rfl) (tp1 (vr rfl)) (addT ?_)⟩, by rw [List.map_map]; rfl⟩) ?_
      · intro z
        have := (extK_is hr).1
        rw [z] at this
        cases this
      · rw [List.length_append, (extK_is hr).1]
        show dn.length + 1 + 1 ≤ 16777216
        omega
      · rw [← e3, List.length_map]
        exact Nat.le_trans hl2 (by decide)
  rw [List.length_range] at h1
  have hl3 := extK_most (N := N) (ps := ps) hm 3
  refine run_pl hs hT rfl (Dat.pl _) (sq (drp (cl (al (vr rfl) al0) (k1 _ _ (by omega) hs N ps ht))) (sq (asg (cl (al (vr rfl) al0) (k2 _ _ (by omega) hs N ps hm)) rfl) (sq (asg (d := dL (extK N ps 0)) (cmpA (xs := List.range N) (f := enc (α := Nat)) (fun h => [h]) (it_rng1 (n := N) (ix (vr rfl) cn rfl) (by omega) (by omega) (by omega)) rfl (fun h hh => ⟨_, rfl, tp1 (vr rfl)⟩) (by rw [List.length_range]; exact Nat.le_trans hm (by decide))) rfl) (sq h1 (rt (pr (al (pr (al (cmp_ (xs := extK N ps 3) (f := enc (α := List Nat)) (fun r => decide (r.headD 0 < r.getLastD 0)) enc (it_lst (vr rfl)) rfl (fun r hr => ⟨_, rfl, tb ?_, fun _ => vr rfl⟩) ?_) al0) (sorted_T (l := progRows N (adj ps)) (h2 := .inl fun r hr z => ?_))) al0) rfl))))))
  · have h4 := (extK_is hr).1
    cases e5 : r with
    | nil =>
      rw [e5] at h4
      cases h4
    | cons a r' =>
      have h5 : (a :: r').getLast? = some ((a :: r').getLastD 0) := by
        rw [List.getLastD_eq_getLast?, List.getLast?_cons]
        rfl
      exact cm (ix (vr rfl) cn (ixT (i := 0) (v := a) rfl)) (ix (vr rfl) (ng cn) (ixT_end h5)) (by
        show Mp.ret (D.bl (decide ((a : Int) < (((a :: r').getLastD 0 : Nat) : Int)))) _ = .ok (.bl (decide (a < (a :: r').getLastD 0))) _
        rw [show decide ((a : Int) < (((a :: r').getLastD 0 : Nat) : Int)) = decide (a < (a :: r').getLastD 0) from decide_eq_decide.mpr (by omega)]
        rfl)
  · rw [List.length_map]
    exact Nat.le_trans (List.length_filter_le _ _) (Nat.le_trans hl3 (by decide))
  · have := (extK_is (k := 3) (List.mem_filter.mp hr).1).1
    rw [z] at this
    cases this
def SpOut (T : List FD) (i : Nat) : Prop := ∀ (n : Nat) (st : St), 7 ≤ n → Low st → ∀ (N : Nat) (ps : Prs), Town N ps → run T n i [dTown N ps] st = .ok (enc (ofSize (outLots N ps) (minOf ((outLots N ps).map List.length)))) st
theorem out_ok {i c d e f : Nat} (hT : T[i]? = some (F_left_out c d e f)) (k1 : SpRows T c) (k2 : SpLots T d) (k3 : SpShare T e) (k4 : SpSize T f) : SpOut T i := fun n st hn hs N ps ht => by
  obtain ⟨m, rfl⟩ := Nat.exists_eq_add_of_le' hn
  have hm := ht.most
  have hl := lots_most hm
  have hl2 : (outLots N ps).length ≤ 128 := Nat.le_trans (List.length_filter_le _ _) hl
  have mn := minOf_is (map_ne (f := List.length) (outLots_ne (N := N) (ps := ps)))
  exact run_pl hs hT rfl (Dat.pl _) (sq (asg (cl (al (vr rfl) al0) (k1 _ _ (by omega) hs N ps ht)) rfl) (sq (asg (d := dL (outLots N ps)) (cmp_ (xs := lots N) (f := enc (α := List Nat)) (fun lot => (bareL N ps).all fun row => row.any fun h => decide (h ∈ lot)) enc (it_lst (cl (al (vr rfl) al0) (k2 _ _ (by omega) hs N ps hm))) rfl (fun x hx => ⟨_, rfl, tb (genA (f := enc (α := List Nat)) (fun row => row.any fun h => decide (h ∈ x)) (it_tup (vr rfl)) rfl fun row hr => ⟨_, rfl, cl (al (vr rfl) (al (vr rfl) al0)) (k3 _ _ (by omega) hs _ _)⟩), fun _ => vr rfl⟩) (by rw [List.length_map]; exact Nat.le_trans hl2 (by decide))) rfl) (rt (cl (al (vr rfl) (al (pr (al (cmpA (xs := outLots N ps) (f := enc (α := List Nat)) List.length (it_lst (vr rfl)) rfl (fun P hP => ⟨_, rfl, pr (al (vr rfl) al0) prim_len⟩) (Nat.le_trans hl2 (by decide))) al0) (prim_min mn.1 mn.2)) al0)) (k4 _ _ (by omega) hs _ _ (List.Pairwise.filter _ (lots_nodup N)) (by omega))))))
end
end Mk
end
section
set_option Elab.async false
set_option linter.all false
set_option maxRecDepth 100000
set_option maxHeartbeats 400000
/-! The law's own defs: draws, maps drawn. -/
namespace Mk
open PySem Mp GM
open Dat (enc)
section
variable {C : CallF} {env : Mp.Env} {st st1 st2 st3 st4 : St} {o i e : E} {x y z : D}
theorem sti (h1 : ev C e env st = .ok x st1) (h2 : ev C o env st1 = .ok y st2) (h3 : ev C i env st2 = .ok z st3) (h4 : setAt y z x st3 = .ok () st4) : Mp.exec C (.setIdx o i e) env st = .next env st4 := by
  have h : bnd (ev C e env) (fun x => bnd (ev C o env) fun o => bnd (ev C i env) fun i => setAt o i x) st = .ok () st4 := bk2 h1 (bk2 h2 (bk2 h3 h4))
  simp only [Mp.exec, run', h]
end
/-- the row of a law's draws -/
def Row (ns : List Int) (c : Cell) : Prop := ∃ a x k : Int, 0 ≤ a ∧ 0 ≤ x ∧ x < 2147483647 ∧ c = .lst [.scr ns, .int a, .int x, .int k]
theorem Row.low {ns : List Int} {c : Cell} (h : Row ns c) (n : Nat) : Cell.low n c = true := by
  obtain ⟨a, x, k, _, _, _, rfl⟩ := h
  rfl
theorem Row.lows {ns : List Int} {c c' : Cell} (h : Row ns c') {rest : St} (hs : Low (c :: rest)) : Low (c' :: rest) := by
  unfold Low at hs ⊢
  rw [List.all_cons, Bool.and_eq_true] at hs ⊢
  exact ⟨h.low _, hs.2⟩
theorem gt_t {i j : Int} {st : St} (h : j < i) : cmpD .gt (.int i) (.int j) st = .ok (.bl true) st := by
  show Mp.ret (D.bl (decide (j < i))) _ = _
  rw [decide_eq_true h]
  rfl
theorem gt_f {i j : Int} {st : St} (h : ¬ j < i) : cmpD .gt (.int i) (.int j) st = .ok (.bl false) st := by
  show Mp.ret (D.bl (decide (j < i))) _ = _
  rw [decide_eq_false h]
  rfl
theorem ge_t {i j : Int} {st : St} (h : j ≤ i) : cmpD .ge (.int i) (.int j) st = .ok (.bl true) st := by
  show Mp.ret (D.bl (decide (j ≤ i))) _ = _
  rw [decide_eq_true h]
  rfl
theorem ge_f {i j : Int} {st : St} (h : ¬ j ≤ i) : cmpD .ge (.int i) (.int j) st = .ok (.bl false) st := by
  show Mp.ret (D.bl (decide (j ≤ i))) _ = _
  rw [decide_eq_false h]
  rfl
theorem mul_small {i j : Int} {st : St} (h1 : -(2 ^ 64) < j) (h2 : j < 2 ^ 64) : binD .mul (.int i) (.int j) st = .ok (.int (i * j)) st := by
  show (if mulOk i j then Mp.ret (D.int (i * j)) else bad) st = _
  have : mulOk i j = true := by
    unfold mulOk
    rw [decide_eq_true h1, decide_eq_true h2]
    simp
  rw [this]
  rfl
theorem mod_pos {i : Int} {m : Nat} {st : St} (h : 1 ≤ m) : binD .mod (.int i) (.int m) st = .ok (enc (i.fmod m).toNat) st ∧ (i.fmod m).toNat < m := by
  have h1 := Int.fmod_nonneg_of_pos i (show (0 : Int) < m by omega)
  have h2 := Int.fmod_lt_of_pos i (show (0 : Int) < m by omega)
  refine ⟨?_, by omega⟩
  show (if ((m : Int) != 0) then Mp.ret (D.int (i.fmod m)) else bad) st = _
  have : ((m : Int) != 0) = true := bne_iff_ne.mpr (by omega)
  rw [this]
  show Res.ok (D.int (i.fmod m)) st = .ok (D.int ((i.fmod m).toNat : Int)) st
  rw [Int.toNat_of_nonneg h1]
theorem div_pos {i : Int} {m : Nat} {st : St} (h : 1 ≤ m) (h2 : m ≤ 1000000) : binD .fdiv (.int i) (.int m) st = .ok (.int (i.fdiv m)) st := by
  show (if ((m : Int) != 0) && decide ((m : Int).natAbs < 1073741824) then Mp.ret (D.int (i.fdiv m)) else bad) st = _
  have h3 : ((m : Int) != 0) = true := bne_iff_ne.mpr (by omega)
  rw [h3, decide_eq_true (by omega)]
  rfl
section
variable {T : List FD}
def SpTaken (T : List FD) (i : Nat) : Prop := ∀ (n : Nat), 1 ≤ n → ∀ (ns : List Int) (c : Cell) (rest : St) (m : Nat), Row ns c → Low (c :: rest) → 1 ≤ m → m ≤ 1000000 → ∃ (v : Nat) (c' : Cell), v < m ∧ Row ns c' ∧ run T n i [.cell 0, .int m] (c :: rest) = .ok (enc v) (c' :: rest)
theorem taken_ok {i : Nat} (hT : T[i]? = some F__law_taken) : SpTaken T i := fun n hn ns c rest m hc hs h1 h2 => by
  obtain ⟨k, rfl⟩ := Nat.exists_eq_add_of_le' hn
  obtain ⟨a, x, r, ha, hx1, hx2, rfl⟩ := hc
  by_cases hr : r > 0
  · obtain ⟨q1, q2⟩ := mod_pos (i := r) (st := .lst [.scr ns, .int a, .int x, .int r] :: rest) h1
    have row' : Row ns (.lst [.scr ns, .int a, .int x, .int (r.fdiv m)]) := ⟨a, x, _, ha, hx1, hx2, rfl⟩
    refine ⟨_, .lst [.scr ns, .int a, .int x, .int (r.fdiv m)], q2, row', ?_⟩
    refine run_ret hT rfl (sqr (ift (tb (k := true) (cm (ix (vr rfl) cn rfl) cn (gt_t hr))) (sq (asg (bn (pr (al (ix (vr rfl) cn rfl) al0) rfl) (vr rfl) q1) rfl) (sq (sti (bn (ix (vr rfl) cn rfl) (vr rfl) (div_pos h1 h2)) (vr rfl) cn rfl) (rt (vr rfl)))))) (leave_pl (st := .lst [.scr ns, .int a, .int x, .int (r.fdiv m)] :: rest) (row'.lows hs) (Dat.pl _))
  · have w1 : ∀ st : St, cmpD .gt (.int r) (.int 0) st = .ok (.bl false) st := fun st => by
      show Mp.ret (D.bl (decide (0 < r))) _ = _
      rw [decide_eq_false hr]
      rfl
    have p1 : Mp.exec (run T k) (.ite (.cmp .gt (.idx (.var 0) (.con (.int (3)))) (.con (.int (0)))) (.seq (.asg (.one 2) (.bin .mod (.prim .int (.cons (.idx (.var 0) (.con (.int (3)))) .nil)) (.var 1))) (.seq (.setIdx (.var 0) (.con (.int (3))) (.bin .fdiv (.idx (.var 0) (.con (.int (3)))) (.var 1))) (.ret (.var 2)))) .skip) [some (.cell 0), some (.int m), none, none] (.lst [.scr ns, .int a, .int x, .int r] :: rest) = .next [some (.cell 0), some (.int m), none, none] (.lst [.scr ns, .int a, .int x, .int r] :: rest) := ife (tb (cm (ix (vr rfl) cn rfl) cn (gt_f hr))) sk
    by_cases hl : a + 1 > (ns.length : Int)
    · have row2 : ∀ y : Nat, y < 2147483647 → Row ns (.lst [.scr ns, .int (a + 1), .int y, .int r]) := fun y hy => ⟨a + 1, y, r, by omega, by omega, by omega, rfl⟩
      obtain ⟨q1, q2⟩ := mod_pos (m := 2147483647) (i := x * 48271 + 11) (st := .lst [.scr ns, .int (a + 1), .int x, .int r] :: rest) (by decide)
      generalize ((x * 48271 + 11).fmod (2147483647 : Nat)).toNat = y at q1 q2
      obtain ⟨q3, q4⟩ := mod_pos (m := m) (i := (y : Int).fdiv (7 : Nat)) (st := .lst [.scr ns, .int (a + 1), .int y, .int r] :: rest) h1
      refine ⟨_, .lst [.scr ns, .int (a + 1), .int y, .int r], q4, row2 y q2, ?_⟩
      refine run_ret hT rfl (sq p1 (sq (sti (bn (ix (vr rfl) cn rfl) cn rfl) (vr rfl) cn rfl) (sqr (ift (tb (k := true) (cm (ix (vr rfl) cn rfl) (pr (al (ix (vr rfl) cn rfl) al0) rfl) (gt_t hl))) (sq (sti (bn (pr (al (bn (bn (ix (vr rfl) cn rfl) cn (mul_small (by decide) (by decide))) cn rfl) al0) rfl) cn q1) (vr rfl) cn rfl) (rt (bn (pr (al (bn (ix (vr rfl) cn rfl) cn (div_pos (m := 7) (by decide) (by decide))) al0) rfl) (vr rfl) q3))))))) (leave_pl (st := .lst [.scr ns, .int (a + 1), .int y, .int r] :: rest) ((row2 y q2).lows hs) (Dat.pl _))
    · obtain ⟨cell, hcell⟩ : ∃ cell, ns[a.toNat]? = some cell := ⟨ns[a.toNat], List.getElem?_eq_getElem (by omega)⟩
      have row2 : ∀ (y : Nat) (r' : Int), y < 2147483647 → Row ns (.lst [.scr ns, .int (a + 1), .int y, .int r']) := fun y r' hy => ⟨a + 1, y, r', by omega, by omega, by omega, rfl⟩
      obtain ⟨q1, q2⟩ := mod_pos (m := 2147483647) (i := x * 48271 + cell + 11) (st := .lst [.scr ns, .int (a + 1), .int x, .int r] :: rest) (by decide)
      generalize ((x * 48271 + cell + 11).fmod (2147483647 : Nat)).toNat = y at q1 q2
      have p2 : Mp.exec (run T k) (.ite (.cmp .gt (.idx (.var 0) (.con (.int (1)))) (.prim .len (.cons (.idx (.var 0) (.con (.int (0)))) .nil))) (.seq (.setIdx (.var 0) (.con (.int (2))) (.bin .mod (.prim .int (.cons (.bin .add (.bin .mul (.idx (.var 0) (.con (.int (2)))) (.con (.int (48271)))) (.con (.int (11)))) .nil)) (.con (.int (2147483647))))) (.ret (.bin .mod (.prim .int (.cons (.bin .fdiv (.idx (.var 0) (.con (.int (2)))) (.con (.int (7)))) .nil)) (.var 1)))) .skip) [some (.cell 0), some (.int m), none, none] (.lst [.scr ns, .int (a + 1), .int x, .int r] :: rest) = .next [some (.cell 0), some (.int m), none, none] (.lst [.scr ns, .int (a + 1), .int x, .int r] :: rest) := ife (tb (cm (ix (vr rfl) cn rfl) (pr (al (ix (vr rfl) cn rfl) al0) rfl) (gt_f hl))) sk
      have p3 : ∀ st : St, idxD (.scr ns) (.int (a + 1 - 1)) st = .ok (.int cell) st := fun st => by
        show opt ((L2.atI ns (a + 1 - 1)).map D.int) st = _
        have e : a + 1 - 1 = ((a.toNat : Nat) : Int) := by omega
        have := atI_map (f := id) hcell
        rw [List.map_id] at this
        rw [e, this]
        rfl
      obtain ⟨r', p4, q3, q4⟩ : ∃ r' : Int, (∀ env : Mp.Env, env = [some (.cell 0), some (.int m), none, some (.int cell)] → Mp.exec (run T k) (.ite (.cmp .ge (.var 3) (.bin .pow (.con (.int (10))) (.con (.int (18))))) (.setIdx (.var 0) (.con (.int (3))) (.bin .fdiv (.var 3) (.var 1))) .skip) env (.lst [.scr ns, .int (a + 1), .int y, .int r] :: rest) = .next env (.lst [.scr ns, .int (a + 1), .int y, .int r'] :: rest)) ∧ binD .mod (.int cell) (.int m) (.lst [.scr ns, .int (a + 1), .int y, .int r'] :: rest) = .ok (enc (cell.fmod m).toNat) (.lst [.scr ns, .int (a + 1), .int y, .int r'] :: rest) ∧ (cell.fmod m).toNat < m := by
        by_cases hb : (10 ^ 18 : Int) ≤ cell
        · refine ⟨cell.fdiv m, fun env e => ?_, (mod_pos h1).1, (mod_pos (st := []) h1).2⟩
          subst e
          exact ift (tb (k := true) (cm (vr rfl) (bn cn cn rfl) (ge_t hb))) (sti (bn (vr rfl) (vr rfl) (div_pos h1 h2)) (vr rfl) cn rfl)
        · refine ⟨r, fun env e => ?_, (mod_pos h1).1, (mod_pos (st := []) h1).2⟩
          subst e
          exact ife (tb (cm (vr rfl) (bn cn cn rfl) (ge_f hb))) sk
      refine ⟨_, .lst [.scr ns, .int (a + 1), .int y, .int r'], q4, row2 y r' q2, ?_⟩
      exact run_ret hT rfl (sq p1 (sq (sti (bn (ix (vr rfl) cn rfl) cn rfl) (vr rfl) cn rfl) (sq p2 (sq (asg (ix (ix (vr rfl) cn rfl) (bn (ix (vr rfl) cn rfl) cn rfl) (p3 _)) rfl) (sq (sti (bn (pr (al (bn (bn (bn (ix (vr rfl) cn rfl) cn (mul_small (by decide) (by decide))) (vr rfl) rfl) cn rfl) al0) rfl) cn q1) (vr rfl) cn rfl) (sq (p4 _ rfl) (rt (bn (pr (al (vr rfl) al0) rfl) (vr rfl) q3)))))))) (leave_pl (st := .lst [.scr ns, .int (a + 1), .int y, .int r'] :: rest) ((row2 y r' q2).lows hs) (Dat.pl _))
end
end Mk
end
section
set_option Elab.async false
set_option linter.all false
set_option maxRecDepth 100000
set_option maxHeartbeats 400000
/-! Maps drawn. -/
namespace Mk
open PySem Mp GM
open Dat (enc)
/-- pairs drawn so far -/
structure PsOk (N i j : Nat) (ps : Prs) : Prop where
  lt : ∀ p ∈ ps, p.1 < p.2 ∧ p.2 < N ∧ (p.1 < i ∨ p.1 = i ∧ p.2 < j)
  asc : ps.Pairwise fun p q => Dat.ltb p q = true
theorem ltb_iff {p q : Nat × Nat} : Dat.ltb p q = true ↔ p.1 < q.1 ∨ p.1 = q.1 ∧ p.2 < q.2 := by
  show (if p.1 = q.1 then (if p.2 = q.2 then false else decide (p.2 < q.2)) else decide (p.1 < q.1)) = true ↔ _
  split
  · split
    · constructor
      · exact fun z => by cases z
      · omega
    · rw [decide_eq_true_eq]
      omega
  · rw [decide_eq_true_eq]
    omega
theorem PsOk.add {N i j : Nat} {ps : Prs} (h : PsOk N i j ps) (h1 : i < j) (h2 : j < N) : PsOk N i (j + 1) (ps ++ [(i, j)]) := by
  refine ⟨fun p hp => ?_, List.pairwise_append.mpr ⟨h.asc, List.pairwise_singleton _ _, fun a ha b hb => ?_⟩⟩
  · rcases List.mem_append.mp hp with hp | hp
    · have := h.lt p hp
      omega
    · rw [List.mem_singleton.mp hp]
      exact ⟨h1, h2, .inr ⟨rfl, Nat.lt_succ_self _⟩⟩
  · rw [List.mem_singleton.mp hb, ltb_iff]
    have := h.lt a ha
    simp only
    omega
theorem PsOk.skip {N i j : Nat} {ps : Prs} (h : PsOk N i j ps) : PsOk N i (j + 1) ps := ⟨fun p hp => by
  have := h.lt p hp
  omega, h.asc⟩
theorem PsOk.next {N i j k : Nat} {ps : Prs} (h : PsOk N i j ps) : PsOk N (i + 1) k ps := ⟨fun p hp => by
  have := h.lt p hp
  omega, h.asc⟩
theorem PsOk.town {N i j : Nat} {ps : Prs} (h : PsOk N i j ps) (h1 : 1 ≤ N) (h2 : N ≤ 7) : Town N ps := ⟨h1, h2, fun p hp => ⟨(h.lt p hp).1, (h.lt p hp).2.1⟩, h.asc⟩
theorem PsOk.len {N i j : Nat} {ps : Prs} (h : PsOk N i j ps) (h2 : N ≤ 7) : ps.length ≤ 100 := by
  rcases Nat.eq_zero_or_pos N with z | z
  · subst z
    cases ps with
    | nil => exact Nat.zero_le _
    | cons p r => exact absurd (h.lt p List.mem_cons_self).2.1 (Nat.not_lt_zero _)
  · exact (h.town z h2).len
theorem range'_pre {dn : List Nat} {x a n : Nat} (h : dn ++ [x] <+: List.range' a n) : x = a + dn.length ∧ dn.length < n := by
  obtain ⟨t, e⟩ := h
  have h1 : (List.range' a n)[dn.length]? = some x := by
    rw [← e, List.append_assoc, List.getElem?_append_right (Nat.le_refl _), Nat.sub_self]
    rfl
  obtain ⟨h2, h3⟩ := List.getElem?_eq_some_iff.mp h1
  rw [List.getElem_range'] at h3
  rw [List.length_range'] at h2
  exact ⟨by omega, h2⟩
/-- a list of one's own, further back -/
theorem app_at {c : Cell} {rest : St} {l : List D} {d : D} (h : l.length < line) : methD .append (.cell (rest.length + 1)) [d] (c :: rest ++ [.lst l]) = .ok .non (c :: rest ++ [.lst (l ++ [d])]) := app_own (st := c :: rest) h
theorem deref_at {c : Cell} {rest : St} {l : List D} : deref (.cell (rest.length + 1)) (c :: rest ++ [.lst l]) = .ok (.lst l) (c :: rest ++ [.lst l]) := deref_own (st := c :: rest)
/-- the pairs that are none -/
def others (N : Nat) (ps : Prs) : Prs := (List.range N).flatMap fun i => ((List.range' (i + 1) (N - (i + 1))).filter fun j => !decide ((i, j) ∈ ps)).map fun j => (i, j)
theorem others_town {N : Nat} {ps : Prs} (h1 : 1 ≤ N) (h2 : N ≤ 7) : Town N (others N ps) := by
  refine ⟨h1, h2, fun p hp => ?_, List.pairwise_flatMap.mpr ⟨fun i _ => List.pairwise_map.mpr ((List.Pairwise.filter _ List.pairwise_lt_range').imp fun {a b} z => ?_), List.pairwise_lt_range.imp fun {a b} z x hx y hy => ?_⟩⟩
  · obtain ⟨i, hi, hp⟩ := List.mem_flatMap.mp hp
    obtain ⟨j, hj, rfl⟩ := List.mem_map.mp hp
    have := List.mem_range'_1.mp (List.mem_filter.mp hj).1
    simp only
    omega
  · rw [ltb_iff]
    exact .inr ⟨rfl, z⟩
  · obtain ⟨_, _, rfl⟩ := List.mem_map.mp hx
    obtain ⟨_, _, rfl⟩ := List.mem_map.mp hy
    rw [ltb_iff]
    exact .inl z
section
variable {T : List FD}
def SpTown (T : List FD) (i : Nat) : Prop := ∀ (n : Nat), 2 ≤ n → ∀ (ns : List Int) (c : Cell) (rest : St) (N m : Nat), Row ns c → Low (c :: rest) → N ≤ 7 → 1 ≤ m → m ≤ 1000000 → ∃ (ps : Prs) (c' : Cell), PsOk N N N ps ∧ Row ns c' ∧ run T n i [.cell 0, .int N, .int m] (c :: rest) = .ok (dTown N ps) (c' :: rest)
theorem town_ok {i t : Nat} (hT : T[i]? = some (F__law_town t)) (k1 : SpTaken T t) : SpTown T i := fun n hn ns c rest N m hc hs hN hm1 hm2 => by
  obtain ⟨k, rfl⟩ := Nat.exists_eq_add_of_le' hn
  obtain ⟨env2, st2, h1, ps, c', y4, y5, rfl, rfl, hps, hc'⟩ := for1 (C := run T (k + 1)) (p := .one 4) (e := .itr .range1 (.cons (.var 1) .nil)) (s := (.for_ (.one 5) (.itr .range2 (.cons (.bin .add (.var 4) (.con (.int (1)))) (.cons (.var 1) .nil))) (.ite (.cmp .eq (.call t (.cons (.var 0) (.cons (.var 2) .nil))) (.con (.int (0)))) (.drop (.meth .append (.var 3) (.cons (.tup (.cons (.var 4) (.cons (.var 5) .nil))) .nil))) .skip)))
    (env := [some (.cell 0), some (.int N), some (.int m), some (.cell (rest.length + 1)), none, none]) (st := c :: rest ++ [.lst []]) (st1 := c :: rest ++ [.lst []]) (f := enc (α := Nat)) (xs := List.range N)
    (fun dn env s => ∃ (ps : Prs) (c' : Cell) (y4 y5 : Option D), env = [some (.cell 0), some (.int N), some (.int m), some (.cell (rest.length + 1)), y4, y5] ∧ s = c' :: rest ++ [.lst (ps.map enc)] ∧ PsOk N dn.length 0 ps ∧ Row ns c')
    (it_rng1 (n := N) (vr rfl) (by omega) (by omega) (by omega)) ⟨[], c, none, none, rfl, rfl, ⟨(fun _ z => by cases z), List.Pairwise.nil⟩, hc⟩ fun x dn env s hx hp ⟨ps, c', y4, y5, e1, e2, hps, hc'⟩ => by
      have hx' := range_pre hp
      have hxN := List.mem_range.mp hx
      subst e1 e2
      subst hx'
      obtain ⟨env3, st3, g1, ps3, c3, y53, rfl, rfl, hps3, hc3⟩ := for1 (C := run T (k + 1)) (p := .one 5) (e := .itr .range2 (.cons (.bin .add (.var 4) (.con (.int (1)))) (.cons (.var 1) .nil))) (s := (.ite (.cmp .eq (.call t (.cons (.var 0) (.cons (.var 2) .nil))) (.con (.int (0)))) (.drop (.meth .append (.var 3) (.cons (.tup (.cons (.var 4) (.cons (.var 5) .nil))) .nil))) .skip))
        (env := [some (.cell 0), some (.int N), some (.int m), some (.cell (rest.length + 1)), some (enc dn.length), y5]) (st := c' :: rest ++ [.lst (ps.map enc)]) (st1 := c' :: rest ++ [.lst (ps.map enc)]) (f := enc (α := Nat)) (xs := List.range' (dn.length + 1) (N - (dn.length + 1)))
        (fun dn2 env s => ∃ (ps : Prs) (c' : Cell) (y5 : Option D), env = [some (.cell 0), some (.int N), some (.int m), some (.cell (rest.length + 1)), some (enc dn.length), y5] ∧ s = c' :: rest ++ [.lst (ps.map enc)] ∧ PsOk N dn.length (dn.length + 1 + dn2.length) ps ∧ Row ns c')
        (it_rng2 (k := dn.length + 1) (j := N) (bn (vr rfl) cn rfl) (vr rfl) (by omega) (by omega)) ⟨ps, c', y5, rfl, rfl, ⟨fun p hp => by have := hps.lt p hp; omega, hps.asc⟩, hc'⟩ fun x2 dn2 env s hx2 hp2 ⟨ps, c', y5, e1, e2, hps, hc'⟩ => by
          obtain ⟨hx2', hl2⟩ := range'_pre hp2
          subst e1 e2
          have lw : Low (c' :: (rest ++ [.lst (ps.map enc)])) := low_snoc (st := c' :: rest) (hc'.lows hs) (pl_map _)
          obtain ⟨v, c2, hv, hc2, hr⟩ := k1 (k + 1) (by omega) ns c' (rest ++ [.lst (ps.map enc)]) m hc' lw hm1 hm2
          by_cases z : v = 0
          · subst z
            refine ⟨_, [some (.cell 0), some (.int N), some (.int m), some (.cell (rest.length + 1)), some (enc dn.length), some (enc x2)], c2 :: rest ++ [.lst ((ps ++ [(dn.length, x2)]).map enc)], rfl, ift (tb (k := true) (cm (cl (al (vr rfl) (al (vr rfl) al0)) hr) cn (by rfl))) (drp (d := .non) (mth (vr rfl) (al (tp (al (vr rfl) (al (vr rfl) al0)) (by show 2 ≤ line; decide)) al0) ?_)), rfl, ps ++ [(dn.length, x2)], c2, some (enc x2), rfl, rfl, ?_, hc2⟩
            · rw [List.map_append]
              refine app_at (c := c2) (rest := rest) ?_
              rw [List.length_map]
              exact Nat.lt_of_le_of_lt (hps.len hN) (by decide)
            · rw [List.length_append, List.length_singleton]
              subst hx2'
              exact hps.add (by omega) (by omega)
          · refine ⟨_, [some (.cell 0), some (.int N), some (.int m), some (.cell (rest.length + 1)), some (enc dn.length), some (enc x2)], c2 :: rest ++ [.lst (ps.map enc)], rfl, ife (tb (k := false) (cm (cl (al (vr rfl) (al (vr rfl) al0)) hr) cn ?_)) sk, rfl, ps, c2, some (enc x2), rfl, rfl, ?_, hc2⟩
            · refine (eq_ (α := Nat) (x := v) (y := 0)).trans ?_
              rw [decide_eq_false z]
              rfl
            · rw [List.length_append, List.length_singleton]
              exact hps.skip
      refine ⟨_, _, _, rfl, g1, rfl, ps3, c3, some (enc dn.length), y53, rfl, rfl, ?_, hc3⟩
      rw [List.length_append, List.length_singleton]
      exact hps3.next
  rw [List.length_range] at hps
  refine ⟨ps, c', ⟨fun p hp => by have := hps.lt p hp; omega, hps.asc⟩, hc', ?_⟩
  refine run_ret hT rfl (sq (asg (nw al0 (Nat.zero_le _)) rfl) (sq h1 (rt (tp (al (vr rfl) (al (pr (al (vr rfl) al0) (r := .ok (enc ps) (c' :: rest ++ [.lst (ps.map enc)])) ?_) al0)) (by show 2 ≤ line; decide))))) (leave_own (st := c' :: rest) (hc'.lows hs) (Dat.pl (N, ps)))
  exact bk2 deref_at rfl
def SpAny (T : List FD) (i : Nat) : Prop := ∀ (n : Nat), 3 ≤ n → ∀ (ns : List Int) (c : Cell) (rest : St) (m : Nat), Row ns c → Low (c :: rest) → 1 ≤ m → m ≤ 7 → ∃ (N : Nat) (ps : Prs) (c' : Cell), Town N ps ∧ N ≤ m ∧ Row ns c' ∧ run T n i [.cell 0, .int m] (c :: rest) = .ok (dTown N ps) (c' :: rest)
theorem any_ok {i t u : Nat} (hT : T[i]? = some (F__law_any t u)) (k1 : SpTown T t) (k2 : SpTaken T u) : SpAny T i := fun n hn ns c rest m hc hs hm1 hm2 => by
  obtain ⟨k, rfl⟩ := Nat.exists_eq_add_of_le' hn
  obtain ⟨v, c1, hv, hc1, g1⟩ := k2 (k + 2) (by omega) ns c rest m hc hs hm1 (by omega)
  obtain ⟨w, c2, hw, hc2, g2⟩ := k2 (k + 2) (by omega) ns c1 rest 4 hc1 (hc1.lows hs) (by omega) (by omega)
  obtain ⟨s, hs1, hs2, hs3⟩ : ∃ s, [2, 2, 3, 5][w]? = some s ∧ 1 ≤ s ∧ s ≤ 5 := by
    match w, hw with
    | 0, _ => exact ⟨2, rfl, by omega, by omega⟩
    | 1, _ => exact ⟨2, rfl, by omega, by omega⟩
    | 2, _ => exact ⟨3, rfl, by omega, by omega⟩
    | 3, _ => exact ⟨5, rfl, by omega, by omega⟩
  obtain ⟨ps, c3, hps, hc3, g3⟩ := k1 (k + 2) (by omega) ns c2 rest (1 + v) s hc2 (hc2.lows hs) (by omega) hs2 (by omega)
  obtain ⟨x, c4, hx, hc4, g4⟩ := k2 (k + 2) (by omega) ns c3 rest 3 hc3 (hc3.lows hs) (by omega) (by omega)
  have a1 : Mp.exec (run T (k + 2)) (.asg (.one 2) (.call t (.cons (.var 0) (.cons (.bin .add (.con (.int (1))) (.call u (.cons (.var 0) (.cons (.var 1) .nil)))) (.cons (.idx (.lst (.cons (.con (.int (2))) (.cons (.con (.int (2))) (.cons (.con (.int (3))) (.cons (.con (.int (5))) .nil))))) (.call u (.cons (.var 0) (.cons (.con (.int (4))) .nil)))) .nil))))) [some (.cell 0), some (.int m), none, none, none, none] (c :: rest) = .next [some (.cell 0), some (.int m), some (dTown (1 + v) ps), none, none, none] (c3 :: rest) := by
    refine asg (cl (al (vr rfl) (al (bn (w := .int ((1 + v : Nat) : Int)) cn (cl (al (vr rfl) (al (vr rfl) al0)) g1) ?_) (al (ix (y := dL [2, 2, 3, 5]) (ls (al cn (al cn (al cn (al cn al0)))) (by show 4 ≤ line; decide)) (cl (al (vr rfl) (al cn al0)) g2) (ixL hs1)) al0))) g3) rfl
    show Mp.ret (D.int (1 + (v : Int))) _ = .ok (.int ((1 + v : Nat) : Int)) _
    rw [show (1 + (v : Int)) = ((1 + v : Nat) : Int) by omega]
    rfl
  have ht := hps.town (by omega) (by omega)
  by_cases hx0 : (0 : Int) < (x : Int)
  · refine ⟨1 + v, ps, c4, ht, by omega, hc4, ?_⟩
    exact run_ret hT rfl (sq a1 (sqr (ift (tb (k := true) (cm (cl (al (vr rfl) (al cn al0)) g4) cn (gt_t hx0))) (rt (vr rfl))))) (leave_pl (st := c4 :: rest) (hc4.lows hs) (Dat.pl (1 + v, ps)))
  · have hN : 1 + v ≤ 7 := by omega
    refine ⟨1 + v, others (1 + v) ps, c4, others_town (by omega) hN, by omega, hc4, ?_⟩
    obtain ⟨env2, st2, h1, ⟨y4, rfl⟩, rfl⟩ := for1 (C := run T (k + 2)) (p := .one 4) (e := .itr .range1 (.cons (.idx (.var 2) (.con (.int (0)))) .nil)) (s := (.asg (.one 3) (.bin .add (.var 3) (.comp (.one 5) (.itr .range2 (.cons (.bin .add (.var 4) (.con (.int (1)))) (.cons (.idx (.var 2) (.con (.int (0)))) .nil))) (.cmp .nmem (.tup (.cons (.var 4) (.cons (.var 5) .nil))) (.idx (.var 2) (.con (.int (1))))) (.tup (.cons (.var 4) (.cons (.var 5) .nil)))))))
      (env := [some (.cell 0), some (.int m), some (dTown (1 + v) ps), some (dL ([] : Prs)), none, none]) (st := c4 :: rest) (st1 := c4 :: rest) (f := enc (α := Nat)) (xs := List.range (1 + v))
      (fun dn env s => (∃ y4, env = [some (.cell 0), some (.int m), some (dTown (1 + v) ps), some (dL (dn.flatMap fun i => ((List.range' (i + 1) ((1 + v) - (i + 1))).filter fun j => !decide ((i, j) ∈ ps)).map fun j => (i, j))), y4, none]) ∧ s = c4 :: rest)
      (it_rng1 (n := 1 + v) (ix (vr rfl) cn rfl) (by omega) (by omega) (by omega)) ⟨⟨none, rfl⟩, rfl⟩ fun x dn env s hx hp ⟨⟨y4, e1⟩, e2⟩ => by
        subst e1 e2
        have hx' := range_pre hp
        have hxN := List.mem_range.mp hx
        refine ⟨_, [some (.cell 0), some (.int m), some (dTown (1 + v) ps), some (dL ((dn ++ [x]).flatMap fun i => ((List.range' (i + 1) ((1 + v) - (i + 1))).filter fun j => !decide ((i, j) ∈ ps)).map fun j => (i, j))), some (enc x), none], c4 :: rest, rfl, asg (bn (vr rfl) (cmpE (β := Nat × Nat) (xs := List.range' (x + 1) ((1 + v) - (x + 1))) (f := enc (α := Nat)) (fun j => !decide ((x, j) ∈ ps)) (fun j => (x, j)) (it_rng2 (k := x + 1) (j := 1 + v) (bn (vr rfl) cn rfl) (ix (vr rfl) cn rfl) (by omega) (by omega)) rfl (fun j hj => ⟨_, rfl, tb (cm (tp (al (vr rfl) (al (vr rfl) al0)) (by show 2 ≤ line; decide)) (ix (vr rfl) cn rfl) (nmem_ (x := (x, j)))), fun _ => tp (al (vr rfl) (al (vr rfl) al0)) (by show 2 ≤ line; decide)⟩) ?_) ?_) rfl, rfl, ⟨_, rfl⟩, rfl⟩
        · rw [List.length_range']
          exact Nat.le_trans (show (1 + v) - (x + 1) ≤ 7 by omega) (by decide)
        · rw [List.flatMap_append, List.flatMap_singleton]
          refine addL ?_
          rw [List.length_append, List.length_map]
          have q1 : (dn.flatMap fun i => ((List.range' (i + 1) ((1 + v) - (i + 1))).filter fun j => !decide ((i, j) ∈ ps)).map fun j => (i, j)).length ≤ dn.length * 7 := flat_most fun i _ => by
            rw [List.length_map]
            refine Nat.le_trans (List.length_filter_le _ _) ?_
            rw [List.length_range']
            omega
          have q2 : ((List.range' (x + 1) ((1 + v) - (x + 1))).filter fun j => !decide ((x, j) ∈ ps)).length ≤ 7 := by
            refine Nat.le_trans (List.length_filter_le _ _) ?_
            rw [List.length_range']
            omega
          show _ ≤ 16777216
          omega
    exact run_ret hT rfl (sq a1 (sq (ife (tb (k := false) (cm (cl (al (vr rfl) (al cn al0)) g4) cn (gt_f hx0))) sk) (sq (asg (ls al0 (Nat.zero_le _)) rfl) (sq h1 (rt (tp (al (ix (vr rfl) cn rfl) (al (pr (al (vr rfl) al0) rfl) al0)) (by show 2 ≤ line; decide))))))) (leave_pl (st := c4 :: rest) (hc4.lows hs) (Dat.pl (1 + v, others (1 + v) ps)))
end
end Mk
end
section
set_option Elab.async false
set_option linter.all false
set_option maxRecDepth 100000
set_option maxHeartbeats 400000
/-! The law's own defs: lots, picks, likeness, paintings, needs, rows. -/
namespace Mk
open PySem Mp GM
open Dat (enc)
theorem leLen_enc (a b : List Nat) : leLen (enc a) (enc b) = lenLe a b := by
  show (if (a.map enc).length = (b.map enc).length then leD (enc a) (enc b) else decide ((a.map enc).length < (b.map enc).length)) = _
  rw [List.length_map, List.length_map, leD_enc]
  rfl
theorem sortLen_ {l : List (List Nat)} {st : St} : sortLenD (dL l) st = .ok (dL (isort lenLe l)) st := by
  refine bk2 (v := dL l) (st1 := st) rfl ?_
  show (if sortLenOk (l.map enc) then Mp.ret (D.lst (isort leLen (l.map enc))) else bad) st = _
  have : sortLenOk (l.map enc) = true := List.all_eq_true.mpr fun d hd => by
    obtain ⟨x, _, rfl⟩ := List.mem_map.mp hd
    exact List.all_eq_true.mpr fun e he => by
      obtain ⟨y, _, rfl⟩ := List.mem_map.mp he
      rfl
  rw [this, isort_map leLen_enc]
  rfl
def lotsS (N : Nat) : List (List Nat) := isort lenLe (lots N)
theorem lotsS_perm {N : Nat} : (lotsS N).Perm (lots N) := isort_perm
theorem lotsS_mem {N : Nat} {l : List Nat} : l ∈ lotsS N ↔ l ∈ lots N := lotsS_perm.mem_iff
theorem lotsS_most {N : Nat} (h : N ≤ 7) : (lotsS N).length ≤ 128 := by
  rw [lotsS_perm.length_eq]
  exact lots_most h
mutual
/-- data whose likeness to itself can be told, of at most so many levels -/
def D.fit : Nat → D → Bool
  | n, .tup l => match n with | 0 => false | n + 1 => Nat.ble l.length 1000000 && D.fits n l
  | n, .lst l => match n with | 0 => false | n + 1 => Nat.ble l.length 1000000 && D.fits n l
  | _, .cell _ => false
  | _, .scr _ => false
  | _, .str _ => false
  | _, _ => true
def D.fits : Nat → List D → Bool
  | _, [] => true
  | n, a :: r => D.fit n a && D.fits n r
end
theorem D.fits_at {n : Nat} : ∀ {l : List D}, D.fits n l = true → ∀ d ∈ l, D.fit n d = true
  | [], _, _, h => by cases h
  | a :: r, h, d, hd => by
    simp only [D.fits, Bool.and_eq_true] at h
    rcases List.mem_cons.mp hd with rfl | hd
    · exact h.1
    · exact D.fits_at h.2 d hd
theorem D.fits_of {n : Nat} : ∀ {l : List D}, (∀ d ∈ l, D.fit n d = true) → D.fits n l = true
  | [], _ => rfl
  | a :: r, h => by
    simp only [D.fits, Bool.and_eq_true]
    exact ⟨h a List.mem_cons_self, D.fits_of fun d hd => h d (List.mem_cons_of_mem _ hd)⟩
theorem fit_num {x n : Nat} : D.fit n (enc x) = true := by cases n <;> rfl
theorem fit_T {α : Type} [DecidableEq α] [Dat α] {l : List α} {n : Nat} (h : l.length ≤ 1000000) (hl : ∀ x ∈ l, D.fit n (enc x) = true) : D.fit (n + 1) (enc l) = true := by
  show D.fit (n + 1) (.tup (l.map enc)) = true
  simp only [D.fit, Bool.and_eq_true]
  refine ⟨Nat.ble_eq_true_of_le (by rw [List.length_map]; exact h), D.fits_of fun d hd => ?_⟩
  obtain ⟨x, hx, rfl⟩ := List.mem_map.mp hd
  exact hl x hx
theorem fit_nums {l : List Nat} (h : l.length ≤ 1000000) {n : Nat} : D.fit (n + 1) (enc l) = true := fit_T h fun _ _ => fit_num
section
variable {T : List FD}
def SpLLots (T : List FD) (i : Nat) : Prop := ∀ (n : Nat) (st : St), 1 ≤ n → Low st → ∀ (N : Nat), N ≤ 7 → run T n i [enc N] st = .ok (dL (lotsS N)) st
theorem llots_ok {i : Nat} (hT : T[i]? = some F__law_lots) : SpLLots T i := fun n st hn hs N hN => by
  obtain ⟨m, rfl⟩ := Nat.exists_eq_add_of_le' hn
  obtain ⟨env2, st2, h1, ⟨y2, rfl⟩, rfl⟩ := for1 (C := run T m) (p := .one 2) (e := .itr .range1 (.cons (.var 0) .nil)) (s := .asg (.one 1) (.bin .add (.var 1) (.comp (.one 3) (.itr .seq (.cons (.var 1) .nil)) (.con (.bl true)) (.bin .add (.var 3) (.tup (.cons (.var 2) .nil))))))
    (env := [some (enc N), some (dL (lots 0)), none, none]) (st := st) (f := enc (α := Nat)) (xs := List.range N)
    (fun dn env s => (∃ y2, env = [some (enc N), some (dL (lots dn.length)), y2, none]) ∧ s = st) (it_rng1 (n := N) (vr rfl) (by omega) (by omega) (by omega)) ⟨⟨none, rfl⟩, rfl⟩ fun x dn env s hx hp ⟨⟨y2, e1⟩, e2⟩ => by
      subst e1 e2
      have hx := range_pre hp
      have hd : dn.length ≤ 6 := by
        have := List.mem_range.mp (by assumption : x ∈ List.range N)
        omega
      have hl := lots_most (n := dn.length) (by omega)
      subst hx
      refine ⟨_, [some (enc N), some (dL (lots (dn.length + 1))), some (enc dn.length), none], s, rfl, asg (bn (vr rfl) (cmpA (xs := lots dn.length) (f := enc) (fun l => l ++ [dn.length]) (it_lst (vr rfl)) rfl (fun l hl => ⟨_, rfl, bn (vr rfl) (tp1 (vr rfl)) (addT ?_)⟩) (by show _ ≤ 16777216; omega)) (addL ?_)) rfl, rfl, ⟨some (enc dn.length), ?_⟩, rfl⟩
      · have := (lots_is hl).2.2
        rw [List.length_append, List.length_singleton]
        show _ ≤ 16777216
        omega
      · rw [List.length_append, List.length_map]
        show _ ≤ 16777216
        omega
      · rw [List.length_append, List.length_singleton]
  rw [List.length_range] at h1
  exact run_pl hs hT rfl pl_L (sq (asg (ls1 (v := ([] : List Nat)) (tp al0 (Nat.zero_le _))) rfl) (sq h1 (rt (slen (vr rfl) sortLen_))))
def SpPick (T : List FD) (i : Nat) : Prop := ∀ (n : Nat), 2 ≤ n → ∀ (ns : List Int) (c : Cell) (rest : St) (L : List (List Nat)), Row ns c → Low (c :: rest) → L ≠ [] → L.length ≤ 1000000 → ∃ (x : List Nat) (c' : Cell), x ∈ L ∧ Row ns c' ∧ run T n i [.cell 0, dL L] (c :: rest) = .ok (enc x) (c' :: rest)
theorem pick_ok {i t : Nat} (hT : T[i]? = some (F__law_pick t)) (k1 : SpTaken T t) : SpPick T i := fun n hn ns c rest L hc hs hL hl => by
  obtain ⟨k, rfl⟩ := Nat.exists_eq_add_of_le' hn
  obtain ⟨v, c', hv, hc', g⟩ := k1 (k + 1) (by omega) ns c rest L.length hc hs (List.length_pos_iff.mpr hL) hl
  refine ⟨L[v], c', List.getElem_mem hv, hc', ?_⟩
  exact run_ret hT rfl (rt (ix (vr rfl) (cl (al (vr rfl) (al (pr (al (vr rfl) al0) prim_lenL) al0)) g) (ixL (List.getElem?_eq_getElem hv)))) (leave_pl (st := c' :: rest) (hc'.lows hs) (Dat.pl _))
def SpAlike (T : List FD) (i : Nat) : Prop := ∀ (k : Nat) (d : D), D.fit k d = true → ∀ (n : Nat) (st : St), k + 1 ≤ n → Low st → run T n i [d, d] st = .ok (.bl true) st
theorem alike_seq {i k : Nat} {l : List D} {d : D} (hd : d = .tup l ∨ d = .lst l) (hT : T[i]? = some (F__law_alike i)) (ih : ∀ d : D, D.fit k d = true → ∀ (n : Nat) (st : St), k + 1 ≤ n → Low st → run T n i [d, d] st = .ok (.bl true) st) (hl : l.length ≤ 1000000) (hf : D.fits k l = true) {n : Nat} {st : St} (hn : k + 2 ≤ n) (hs : Low st) : run T n i [d, d] st = .ok (.bl true) st := by
  obtain ⟨m, rfl⟩ := Nat.exists_eq_add_of_le' (Nat.le_trans (show 1 ≤ k + 2 by omega) hn)
  have w1 : ∀ st : St, primD .len [d] st = .ok (enc l.length) st := fun st => by rcases hd with rfl | rfl <;> rfl
  have w2 : ∀ st : St, primD (.isI [3, 4]) [d] st = .ok (.bl true) st := fun st => by rcases hd with rfl | rfl <;> rfl
  obtain ⟨b, w3⟩ : ∃ b, ∀ st : St, primD (.isI [4]) [d] st = .ok (.bl b) st := by
    rcases hd with rfl | rfl
    · exact ⟨false, fun _ => rfl⟩
    · exact ⟨true, fun _ => rfl⟩
  have w4 : ∀ (st : St) (j : Nat) (hj : j < l.length), idxD d (.int j) st = .ok l[j] st := fun st j hj => by
    have := atI_map (f := id) (List.getElem?_eq_getElem hj)
    rw [List.map_id] at this
    rcases hd with rfl | rfl
    · show opt (L2.atI l (j : Int)) st = _
      rw [this]
      rfl
    · show opt (L2.atI l (j : Int)) st = _
      rw [this]
      rfl
  have w5 : ∀ st : St, cmpD .ne (.bl b) (.bl b) st = .ok (.bl false) st := fun st => by cases b <;> rfl
  have w6 : ∀ st : St, cmpD .ne (enc l.length) (enc l.length) st = .ok (.bl false) st := fun st => by
    refine (ne_ (α := Nat) (x := l.length) (y := l.length)).trans ?_
    rw [decide_eq_true rfl]
    rfl
  refine run_pl hs hT rfl rfl (sqr (ift (tb (k := true) (pr (al (vr rfl) al0) (w2 _))) (sq (ife (tb (orr (k := false) (m := false) (nt (k := true) (tb (pr (al (vr rfl) al0) (w2 _)))) fun _ => cm (pr (al (vr rfl) al0) (w3 _)) (pr (al (vr rfl) al0) (w3 _)) (w5 _))) sk) (sq (ife (tb (cm (pr (al (vr rfl) al0) (w1 _)) (pr (al (vr rfl) al0) (w1 _)) (w6 _))) sk) (rt (cm (y := .lst []) (st1 := st) ?_ (ls al0 (Nat.zero_le _)) rfl))))))
  have := cmp_ (C := run T m) (p := .one 2) (st := st) (xs := List.range l.length) (f := enc (α := Nat)) (x := .itr .range1 (.cons (.prim .len (.cons (.var 1) .nil)) .nil)) (c := .not (.call i (.cons (.idx (.var 0) (.var 2)) (.cons (.idx (.var 1) (.var 2)) .nil)))) (e := .var 2) (env := [some d, some d, none]) (g := none) (fun _ => false) enc (it_rng1 (n := l.length) (pr (al (vr rfl) al0) (w1 _)) (by show ((l.length : Nat) : Int).toNat = _; omega) (by show _ ≤ ((l.length : Nat) : Int); omega) (by show ((l.length : Nat) : Int) ≤ _; omega)) rfl (fun j hj => ⟨_, rfl, tb (nt (k := true) (tb (cl (al (ix (vr rfl) (vr rfl) (w4 _ j (List.mem_range.mp hj))) (al (ix (vr rfl) (vr rfl) (w4 _ j (List.mem_range.mp hj))) al0)) (ih _ (D.fits_at hf _ (List.getElem_mem _)) m st (by omega) hs)))), fun z => by cases z⟩) (by rw [List.filter_eq_nil_iff.mpr (by simp)]; exact Nat.zero_le _)
  rw [List.filter_eq_nil_iff.mpr (by simp)] at this
  exact this
theorem alike_num {i : Nat} {d : D} (hT : T[i]? = some (F__law_alike i)) (hd : (∃ x, d = .int x) ∨ (∃ b, d = .bl b) ∨ d = .non) {n : Nat} {st : St} (hn : 1 ≤ n) (hs : Low st) : run T n i [d, d] st = .ok (.bl true) st := by
  obtain ⟨m, rfl⟩ := Nat.exists_eq_add_of_le' hn
  rcases hd with ⟨x, rfl⟩ | ⟨b, rfl⟩ | rfl
  · refine run_pl hs hT rfl rfl (sq (ife (tb (pr (al (vr rfl) al0) rfl)) sk) (sq (ife (tb (orr (k := false) (m := false) (cm (vr rfl) cn rfl) fun _ => pr (al (vr rfl) al0) rfl)) sk) (rt (an (k := true) (m := true) (pr (al (vr rfl) al0) rfl) fun _ => an (k := true) (m := true) (cm (pr (al (vr rfl) al0) rfl) (pr (al (vr rfl) al0) rfl) rfl) fun _ => cm (vr rfl) (vr rfl) ?_))))
    refine (eq_ (α := Int) (x := x) (y := x)).trans ?_
    rw [decide_eq_true rfl]
  · refine run_pl hs hT rfl rfl (sq (ife (tb (pr (al (vr rfl) al0) rfl)) sk) (sq (ife (tb (orr (k := false) (m := false) (cm (vr rfl) cn rfl) fun _ => pr (al (vr rfl) al0) rfl)) sk) (rt (an (k := true) (m := true) (pr (al (vr rfl) al0) rfl) fun _ => an (k := true) (m := true) (cm (pr (al (vr rfl) al0) rfl) (pr (al (vr rfl) al0) rfl) rfl) fun _ => cm (vr rfl) (vr rfl) ?_))))
    cases b <;> rfl
  · exact run_pl hs hT rfl rfl (sq (ife (tb (pr (al (vr rfl) al0) rfl)) sk) (sqr (ift (tb (k := true) (orr (k := true) (m := false) (cm (vr rfl) cn rfl) fun z => by cases z)) (rt (an (k := true) (m := true) (cm (vr rfl) (vr rfl) rfl) fun _ => cm (pr (al (vr rfl) al0) rfl) (pr (al (vr rfl) al0) rfl) rfl)))))
theorem alike_ok {i : Nat} (hT : T[i]? = some (F__law_alike i)) : SpAlike T i := fun k => by
  induction k with
  | zero =>
    intro d hf n st hn hs
    refine alike_num hT ?_ hn hs
    cases d with
    | tup l => cases hf
    | lst l => cases hf
    | cell _ => cases hf
    | scr _ => cases hf
    | str _ => cases hf
    | int x => exact .inl ⟨x, rfl⟩
    | bl b => exact .inr (.inl ⟨b, rfl⟩)
    | non => exact .inr (.inr rfl)
  | succ k ih =>
    intro d hf n st hn hs
    cases d with
    | tup l =>
      simp only [D.fit, Bool.and_eq_true] at hf
      exact alike_seq (.inl rfl) hT ih (Nat.le_of_ble_eq_true hf.1) hf.2 hn hs
    | lst l =>
      simp only [D.fit, Bool.and_eq_true] at hf
      exact alike_seq (.inr rfl) hT ih (Nat.le_of_ble_eq_true hf.1) hf.2 hn hs
    | cell _ => cases hf
    | scr _ => cases hf
    | str _ => cases hf
    | int x => exact alike_num hT (.inl ⟨x, rfl⟩) (by omega) hs
    | bl b => exact alike_num hT (.inr (.inl ⟨b, rfl⟩)) (by omega) hs
    | non => exact alike_num hT (.inr (.inr rfl)) (by omega) hs
theorem near_adj {N : Nat} {ps : Prs} (h : ∀ p ∈ ps, p.1 < p.2) (a b : Nat) : decide ((min a b, max a b) ∈ ps) = adj ps a b := by
  unfold adj
  rw [← Bool.decide_or]
  refine decide_eq_decide.mpr ?_
  rcases Nat.le_total a b with k | k
  · rw [Nat.min_eq_left k, Nat.max_eq_right k]
    refine ⟨.inl, fun z => ?_⟩
    rcases z with z | z
    · exact z
    · have := h _ z
      simp only at this
      omega
  · rw [Nat.min_eq_right k, Nat.max_eq_left k]
    refine ⟨.inr, fun z => ?_⟩
    rcases z with z | z
    · have := h _ z
      simp only at this
      omega
    · exact z
def SpLNear (T : List FD) (i : Nat) : Prop := ∀ (n : Nat) (st : St), 1 ≤ n → Low st → ∀ (N : Nat) (ps : Prs) (a b : Nat), Town N ps → run T n i [dTown N ps, enc a, enc b] st = .ok (.bl (adj ps a b)) st
theorem lnear_ok {i : Nat} (hT : T[i]? = some F__law_near) : SpLNear T i := fun n st hn hs N ps a b ht => by
  obtain ⟨m, rfl⟩ := Nat.exists_eq_add_of_le' hn
  rw [← near_adj (N := N) (fun p hp => (ht.lt p hp).1)]
  exact run_pl hs hT rfl rfl (rt (cm (tp (al (pr (al (vr rfl) (al (vr rfl) al0)) prim_min2) (al (pr (al (vr rfl) (al (vr rfl) al0)) prim_max2) al0)) (by show 2 ≤ line; decide)) (ix (vr rfl) cn rfl) (mem_ (x := (min a b, max a b)))))
theorem lw_snoc {adj : Nat → Nat → Bool} {lot : List Nat} {pots : Nat} {dn : List (Nat × Nat)} {x : Nat × Nat} {W : List (List Nat)} : lwFrom adj lot pots (dn ++ [x]) W = lwStep adj lot pots x.2 x.1 (lwFrom adj lot pots dn W) := by
  unfold lwFrom
  rw [List.foldl_append]
  rfl
theorem lwStep_len {adj : Nat → Nat → Bool} {lot : List Nat} {pots i h : Nat} {W : List (List Nat)} {k : Nat} (hW : ∀ t ∈ W, t.length = k) : (lwStep adj lot pots i h W).length ≤ W.length * pots ∧ ∀ t ∈ lwStep adj lot pots i h W, t.length = k + 1 := by
  refine ⟨flat_most fun t _ => ?_, fun t ht => ?_⟩
  · rw [List.length_map]
    refine Nat.le_trans (List.length_filter_le _ _) ?_
    rw [List.length_range']
    exact Nat.le_refl _
  · obtain ⟨s, hs, ht⟩ := List.mem_flatMap.mp ht
    obtain ⟨c, _, rfl⟩ := List.mem_map.mp ht
    rw [List.length_append, hW s hs]
    rfl
theorem lwFrom_len {adj : Nat → Nat → Bool} {lot : List Nat} {pots : Nat} : ∀ (l : List (Nat × Nat)), (lwFrom adj lot pots l.reverse [[]]).length ≤ pots ^ l.length ∧ ∀ t ∈ lwFrom adj lot pots l.reverse [[]], t.length = l.length
  | [] => ⟨Nat.le_refl _, fun t ht => by rw [List.mem_singleton.mp ht]; rfl⟩
  | x :: l => by
    obtain ⟨h1, h2⟩ := lwFrom_len (adj := adj) (lot := lot) (pots := pots) l
    rw [List.reverse_cons, lw_snoc]
    obtain ⟨h3, h4⟩ := lwStep_len (adj := adj) (lot := lot) (pots := pots) (i := x.2) (h := x.1) h2
    exact ⟨Nat.le_trans h3 (Nat.mul_le_mul_right _ h1), h4⟩
theorem lwFrom_len' {adj : Nat → Nat → Bool} {lot : List Nat} {pots : Nat} (l : List (Nat × Nat)) : (lwFrom adj lot pots l [[]]).length ≤ pots ^ l.length ∧ ∀ t ∈ lwFrom adj lot pots l [[]], t.length = l.length := by
  have := lwFrom_len (adj := adj) (lot := lot) (pots := pots) l.reverse
  rwa [List.reverse_reverse, List.length_reverse] at this
end
end Mk
end
section
set_option Elab.async false
set_option linter.all false
set_option maxRecDepth 100000
set_option maxHeartbeats 400000
/-! The law's paintings, needs, rows. -/
namespace Mk
open PySem Mp GM
open Dat (enc)
theorem frT_is {N : Nat} {ps : Prs} {lot : List Nat} (hl : ∀ x ∈ lot, x < N) : ∀ h ∈ lot, ∀ H : List Nat, (∀ x ∈ H, x ∈ lot) → frT N ps h H = !(H.any fun o => adj ps h o) := fun h _ H hH => by
  unfold frT frB
  rw [any_in fun x hx => hl x (hH x hx)]
theorem few_is {N : Nat} {ps : Prs} {lot : List Nat} (hl : ∀ x ∈ lot, x < N) : (∀ p, p < few N ps lot → lawWays (adj ps) lot p = []) ∧ lawWays (adj ps) lot (few N ps lot) ≠ [] ∧ few N ps lot ≤ lot.length := by
  obtain ⟨h1, h2⟩ := minOf_is (map_ne (f := List.length) (parts_ne (fr := frT N ps) lot))
  obtain ⟨P, hP, e⟩ := List.mem_map.mp h1
  refine ⟨fun p hp => (no_ways (frT_is hl)).mpr fun Q hQ => ?_, fun z => ?_, ?_⟩
  · exact Nat.lt_of_lt_of_le hp (h2 _ (List.mem_map_of_mem hQ))
  · have := (no_ways (frT_is hl)).mp z P hP
    unfold few at this
    omega
  · unfold few
    rw [← e]
    exact ((parts_fit (fr := frT N ps) lot).1 P hP).1
theorem getD_at {l : List Nat} {k : Nat} (h : k < l.length) : l[k]? = some (l.getD k 0) := by
  rw [List.getD_eq_getElem?_getD, List.getElem?_eq_getElem h]
  rfl
theorem pow_most {p a b : Nat} (h : p ^ b ≤ 1000000) (hab : a ≤ b) : p ^ a ≤ 1000000 := by
  rcases Nat.eq_zero_or_pos p with z | z
  · subst z
    cases a with
    | zero => decide
    | succ a => rw [Nat.zero_pow (Nat.succ_pos _)]; exact Nat.zero_le _
  · exact Nat.le_trans (Nat.pow_le_pow_right z hab) h
theorem flat_pre {α β : Type} {g : α → List β} {dn xs : List α} (h : dn <+: xs) : (dn.flatMap g).length ≤ (xs.flatMap g).length := by
  obtain ⟨t, rfl⟩ := h
  rw [List.flatMap_append, List.length_append]
  exact Nat.le_add_right _ _
/-- a loop that grows a list of one's own -/
theorem for_acc {α γ : Type} [DecidableEq γ] [Dat γ] {C : CallF} {p : Pat} {e : E} {s : S} {env : Mp.Env} {st : St} {f : α → D} {xs : List α} (g : α → List γ) (Q : Mp.Env → Prop) {acc : List γ} (B : Nat)
    (h : bnd (ev C e env) srcOf (st ++ [.lst (acc.map enc)]) = .ok (xs.map f, none) (st ++ [.lst (acc.map enc)])) (h0 : Q env) (hB : acc.length + (xs.flatMap g).length ≤ B)
    (hs : ∀ x ∈ xs, ∀ (env : Mp.Env) (acc : List γ), Q env → acc.length + (g x).length ≤ B → ∃ env' env2, p.bind (f x) env = some env' ∧ Mp.exec C s env' (st ++ [.lst (acc.map enc)]) = .next env2 (st ++ [.lst ((acc ++ g x).map enc)]) ∧ Q env2) :
    ∃ env2, Mp.exec C (.for_ p e s) env (st ++ [.lst (acc.map enc)]) = .next env2 (st ++ [.lst ((acc ++ xs.flatMap g).map enc)]) ∧ Q env2 := by
  obtain ⟨env2, st2, h1, h2, rfl⟩ := for1 (C := C) (p := p) (e := e) (s := s) (env := env) (f := f) (xs := xs) (g := none) (fun dn env s => Q env ∧ s = st ++ [.lst ((acc ++ dn.flatMap g).map enc)]) h ⟨h0, by rw [List.flatMap_nil, List.append_nil]⟩ fun x dn env s hx hp ⟨q, e2⟩ => by
    subst e2
    have := flat_pre (g := g) hp
    rw [List.flatMap_append, List.length_append, List.flatMap_singleton] at this
    obtain ⟨env', env2, k1, k2, k3⟩ := hs x hx env (acc ++ dn.flatMap g) q (by rw [List.length_append]; omega)
    refine ⟨env', env2, _, k1, k2, rfl, k3, ?_⟩
    rw [List.flatMap_append, List.flatMap_singleton, List.append_assoc]
  exact ⟨env2, h1, h2⟩
/-- a loop that counts -/
theorem while_up {C : CallF} {c : E} {s : S} {st : St} {envs : Nat → Mp.Env} {m : Nat} (h : ∀ p, p < m → bnd (ev C c (envs p)) truth st = .ok true st ∧ Mp.exec C s (envs p) st = .next (envs (p + 1)) st) (h2 : bnd (ev C c (envs m)) truth st = .ok false st) :
    ∀ (k p fuel : Nat), p + k = m → k < fuel → whileL (ev C c) (Mp.exec C s) fuel (envs p) st = .next (envs m) st
  | 0, p, fuel + 1, e, _ => by
    have e : p = m := e
    subst e
    unfold whileL
    simp only [run', h2]
  | k + 1, p, fuel + 1, e, hf => by
    obtain ⟨g1, g2⟩ := h p (by omega)
    unfold whileL
    simp only [run', g1, g2]
    exact while_up h h2 k (p + 1) fuel (by omega) (by omega)
theorem gt_n {a b : Nat} {st : St} : cmpD .gt (enc a) (enc b) st = .ok (.bl (decide (b < a))) st := by
  show Mp.ret (D.bl (decide ((b : Int) < (a : Int)))) st = _
  rw [show decide ((b : Int) < (a : Int)) = decide (b < a) from decide_eq_decide.mpr (by omega)]
  rfl
theorem sorted_at {α : Type} [DecidableEq α] [Dat α] {d : D} {l : List (List α)} {st : St} (hd : deref d st = .ok (dL l) st) (h : Dat.lv α ≤ 59 := by decide) (h2 : (∀ x ∈ l, x ≠ []) ∨ l = [[]]) : primD .sorted [d] st = .ok (dL (isort leb l)) st := by
  refine (pD (fun _ z => by cases z) hd).trans ?_
  exact (pD (p := .sorted) (d := dL l) (fun _ z => by cases z) rfl).symm.trans (sorted_T (h2 := h2) h)
theorem three_at {L : List Nat} {a b d : Nat} (hl : L.Pairwise fun a b => a < b) (h4 : L.length = 4) (ha : a ∈ L) (hb : b ∈ L) (hd : d ∈ L) : (L.filter fun h => !decide (h ∈ [a, b, d]))[0]? = some (lawThree L a d b) := by
  have k := three_of hl h4 ha hb hd
  have : lawThree L a d b ∈ L.filter fun h => !decide (h ∈ [a, b, d]) := List.mem_filter.mpr ⟨k.1, by rw [decide_eq_false k.2]; rfl⟩
  show _ = some ((L.filter fun h => !decide (h ∈ [a, b, d])).headD 0)
  cases e : L.filter fun h => !decide (h ∈ [a, b, d]) with
  | nil =>
    rw [e] at this
    cases this
  | cons x r => rfl
theorem lawTwo_most {adj : Nat → Nat → Bool} {L : List Nat} {one four : Nat} : (lawTwo adj L one four).length ≤ L.length := by
  refine Nat.le_trans (flat_most (k := 1) fun x _ => ?_) ?_
  · split
    · exact Nat.le_refl _
    · exact Nat.zero_le _
  · rw [Nat.mul_one]
    exact List.length_filter_le _ _
theorem lawFour_most {adj : Nat → Nat → Bool} {L : List Nat} {one : Nat} : (lawFour adj L one).length ≤ L.length * L.length := by
  refine Nat.le_trans (flat_most (k := L.length) fun x _ => lawTwo_most) ?_
  exact Nat.mul_le_mul_right _ (List.length_filter_le _ _)
theorem lawLot_most {adj : Nat → Nat → Bool} {L : List Nat} : (lawLot adj L).length ≤ 64 := by
  unfold lawLot
  split
  · rename_i h
    refine Nat.le_trans (flat_most (k := 16) fun x _ => ?_) (by rw [h]; decide)
    have := lawFour_most (adj := adj) (L := L) (one := x)
    rw [h] at this
    exact this
  · exact Nat.zero_le _
theorem lawRows_most {adj : Nat → Nat → Bool} {LL : List (List Nat)} : (lawRows adj LL).length ≤ LL.length * 64 := flat_most fun L _ => lawLot_most
section
variable {T : List FD}
def SpLWays (T : List FD) (i : Nat) : Prop := ∀ (n : Nat) (st : St), 2 ≤ n → Low st → ∀ (N : Nat) (ps : Prs) (lot : List Nat) (pots : Nat), Town N ps → lot.length ≤ 7 → pots ≤ 9 → pots ^ lot.length ≤ 1000000 → run T n i [dTown N ps, enc lot, enc pots] st = .ok (dL (lawWays (adj ps) lot pots)) st
theorem lways_ok {i c : Nat} (hT : T[i]? = some (F__law_ways c)) (k1 : SpLNear T c) : SpLWays T i := fun n st hn hs N ps lot pots ht hl hp hpow => by
  obtain ⟨m, rfl⟩ := Nat.exists_eq_add_of_le' hn
  obtain ⟨env2, st2, h1, ⟨y4, y5, y6, y7, y8, rfl⟩, rfl⟩ := for1 (C := run T (m + 1)) (p := .tup [4, 5]) (e := .itr .enum (.cons (.var 1) .nil)) (s := (.seq (.asg (.one 6) (.lst .nil)) (.seq (.for_ (.one 7) (.itr .seq (.cons (.var 3) .nil)) (.seq (.asg (.one 8) (.comp (.one 9) (.itr .range1 (.cons (.var 4) .nil)) (.call c (.cons (.var 0) (.cons (.var 5) (.cons (.idx (.var 1) (.var 9)) .nil)))) (.idx (.var 7) (.var 9)))) (.asg (.one 6) (.bin .add (.var 6) (.comp (.one 10) (.itr .range2 (.cons (.con (.int (1))) (.cons (.bin .add (.var 2) (.con (.int (1)))) .nil))) (.cmp .nmem (.var 10) (.var 8)) (.bin .add (.var 7) (.tup (.cons (.var 10) .nil)))))))) (.asg (.one 3) (.var 6)))))
    (env := [some (dTown N ps), some (enc lot), some (enc pots), some (dL ([[]] : List (List Nat))), none, none, none, none, none, none, none]) (st := st) (st1 := st) (f := fun (p : Nat × Nat) => .tup [.int p.2, enc p.1]) (xs := lot.zipIdx)
    (fun dn env s => (∃ y4 y5 y6 y7 y8, env = [some (dTown N ps), some (enc lot), some (enc pots), some (dL (lwFrom (adj ps) lot pots dn [[]])), y4, y5, y6, y7, y8, none, none]) ∧ s = st)
    (it_enum (vr rfl)) ⟨⟨none, none, none, none, none, rfl⟩, rfl⟩ fun x dn env s hx hpre ⟨⟨y4, y5, y6, y7, y8, e1⟩, e2⟩ => by
      subst e1 e2
      have hx' := List.mem_zipIdx' hx
      have hxl := hx'.1
      have hd : dn.length = x.2 := by
        obtain ⟨t, e⟩ := hpre
        have h1 : lot.zipIdx[dn.length]? = some x := by
          rw [← e, List.append_assoc, List.getElem?_append_right (Nat.le_refl _), Nat.sub_self]
          rfl
        rw [List.getElem?_zipIdx] at h1
        obtain ⟨y, hy, e⟩ := Option.map_eq_some_iff.mp h1
        have := congrArg Prod.snd e
        simp at this
        exact this
      obtain ⟨g1, g2⟩ := lwFrom_len' (adj := adj ps) (lot := lot) (pots := pots) dn
      rw [hd] at g1 g2
      have g3 := pow_most hpow (Nat.le_of_lt hxl)
      have g4 := pow_most hpow (show x.2 + 1 ≤ lot.length from hxl)
      generalize hW : lwFrom (adj ps) lot pots dn [[]] = W at g1 g2
      have tot : (lwStep (adj ps) lot pots x.2 x.1 W).length ≤ 1000000 := Nat.le_trans (lwStep_len (adj := adj ps) (lot := lot) (pots := pots) (i := x.2) (h := x.1) g2).1 (Nat.le_trans (Nat.mul_le_mul_right _ g1) g4)
      obtain ⟨env3, st3, j1, ⟨y73, y83, rfl⟩, rfl⟩ := for1 (C := run T (m + 1)) (p := .one 7) (e := .itr .seq (.cons (.var 3) .nil)) (s := (.seq (.asg (.one 8) (.comp (.one 9) (.itr .range1 (.cons (.var 4) .nil)) (.call c (.cons (.var 0) (.cons (.var 5) (.cons (.idx (.var 1) (.var 9)) .nil)))) (.idx (.var 7) (.var 9)))) (.asg (.one 6) (.bin .add (.var 6) (.comp (.one 10) (.itr .range2 (.cons (.con (.int (1))) (.cons (.bin .add (.var 2) (.con (.int (1)))) .nil))) (.cmp .nmem (.var 10) (.var 8)) (.bin .add (.var 7) (.tup (.cons (.var 10) .nil))))))))
        (env := [some (dTown N ps), some (enc lot), some (enc pots), some (dL W), some (.int x.2), some (enc x.1), some (dL ([] : List (List Nat))), y7, y8, none, none]) (st := s) (st1 := s) (f := enc (α := List Nat)) (xs := W)
        (fun dn2 env s' => (∃ y7 y8, env = [some (dTown N ps), some (enc lot), some (enc pots), some (dL W), some (.int x.2), some (enc x.1), some (dL (lwStep (adj ps) lot pots x.2 x.1 dn2)), y7, y8, none, none]) ∧ s' = s)
        (it_lst (vr rfl)) ⟨⟨y7, y8, rfl⟩, rfl⟩ fun t dn2 env s' ht2 hp2 ⟨⟨y7, y8, e1⟩, e2⟩ => by
          subst e1 e2
          have htl := g2 t ht2
          have hb := flat_pre (g := fun t => ((List.range' 1 pots).filter fun c => !decide (c ∈ barred (adj ps) lot x.2 x.1 t)).map fun c => t ++ [c]) hp2
          have hb2 : (lwStep (adj ps) lot pots x.2 x.1 (dn2 ++ [t])).length ≤ 1000000 := Nat.le_trans hb tot
          have es : lwStep (adj ps) lot pots x.2 x.1 (dn2 ++ [t]) = lwStep (adj ps) lot pots x.2 x.1 dn2 ++ ((List.range' 1 pots).filter fun c => !decide (c ∈ barred (adj ps) lot x.2 x.1 t)).map fun c => t ++ [c] := by
            unfold lwStep
            rw [List.flatMap_append, List.flatMap_singleton]
          refine ⟨_, [some (dTown N ps), some (enc lot), some (enc pots), some (dL W), some (.int x.2), some (enc x.1), some (dL (lwStep (adj ps) lot pots x.2 x.1 (dn2 ++ [t]))), some (enc t), some (dL (barred (adj ps) lot x.2 x.1 t)), none, none], s', rfl, sq (asg (cmpE (β := Nat) (xs := List.range x.2) (f := enc (α := Nat)) (fun k => adj ps x.1 (lot.getD k 0)) (fun k => t.getD k 0) (it_rng1 (n := x.2) (vr rfl) (by omega) (by omega) (by omega)) rfl (fun k hk => ⟨_, rfl, tb (cl (al (vr rfl) (al (vr rfl) (al (ix (vr rfl) (vr rfl) (ixT (getD_at (Nat.lt_trans (List.mem_range.mp hk) hxl)))) al0))) (k1 _ _ (by omega) hs N ps _ _ ht)), fun _ => ix (vr rfl) (vr rfl) (ixT (getD_at (by rw [htl]; exact List.mem_range.mp hk)))⟩) ?_) rfl) (asg (d := dL (lwStep (adj ps) lot pots x.2 x.1 (dn2 ++ [t]))) (bn (vr rfl) (cmpE (β := List Nat) (xs := List.range' 1 pots) (f := enc (α := Nat)) (fun c => !decide (c ∈ barred (adj ps) lot x.2 x.1 t)) (fun c => t ++ [c]) (it_rng2 (k := 1) (j := pots + 1) cn (bn (vr rfl) cn rfl) (by omega) (by omega)) rfl (fun c hc => ⟨_, rfl, tb (cm (vr rfl) (vr rfl) (nmemL_ (x := c))), fun _ => bn (vr rfl) (tp1 (vr rfl)) (addT ?_)⟩) ?_) ?_) rfl), rfl, ⟨_, _, rfl⟩, rfl⟩
          · rw [List.length_range]
            show _ ≤ 16777216
            omega
          · rw [List.length_append, htl]
            show x.2 + 1 ≤ 16777216
            omega
          · rw [List.length_range']
            show _ ≤ 16777216
            omega
          · rw [es] at hb2 ⊢
            exact addL (Nat.le_trans hb2 (by decide))
      refine ⟨_, _, _, rfl, sq (asg (ls al0 (Nat.zero_le _)) rfl) (sq j1 (asg (vr rfl) rfl)), rfl, ⟨some (.int x.2), some (enc x.1), some (dL (lwStep (adj ps) lot pots x.2 x.1 W)), y73, y83, ?_⟩, rfl⟩
      rw [lw_snoc, hW]
      rfl
  exact run_pl hs hT rfl pl_L (sq (asg (ls1 (v := ([] : List Nat)) (tp al0 (Nat.zero_le _))) rfl) (sq h1 (rt (vr rfl))))
def SpLNeed (T : List FD) (i : Nat) : Prop := ∀ (n : Nat) (st : St), 3 ≤ n → Low st → ∀ (N : Nat) (ps : Prs) (lot : List Nat), Town N ps → lot ∈ lots N → run T n i [dTown N ps, enc lot] st = .ok (enc (few N ps lot)) st
theorem lneed_ok {i c : Nat} (hT : T[i]? = some (F__law_need c)) (k1 : SpLWays T c) : SpLNeed T i := fun n st hn hs N ps lot ht hlot => by
  obtain ⟨m, rfl⟩ := Nat.exists_eq_add_of_le' hn
  have hm := ht.most
  obtain ⟨l1, l2, l3⟩ := lots_is hlot
  obtain ⟨f1, f2, f3⟩ := few_is (ps := ps) l2
  have pw : ∀ p, p ≤ few N ps lot → p ^ lot.length ≤ 1000000 := fun p hp => by
    have h1 : p ^ lot.length ≤ 7 ^ lot.length := Nat.pow_le_pow_left (by omega) _
    have h2 : 7 ^ lot.length ≤ 7 ^ 7 := Nat.pow_le_pow_right (by decide) (by omega)
    exact Nat.le_trans h1 (Nat.le_trans h2 (by decide))
  have cond : ∀ p, p ≤ few N ps lot → bnd (ev (run T (m + 2)) (.cmp .eq (.call c (.cons (.var 0) (.cons (.var 1) (.cons (.var 2) .nil)))) (.lst .nil)) [some (dTown N ps), some (enc lot), some (enc p)]) truth st = .ok (decide (lawWays (adj ps) lot p = [])) st := fun p hp =>
    tb (cm (cl (al (vr rfl) (al (vr rfl) (al (vr rfl) al0))) (k1 _ _ (by omega) hs N ps lot p ht (by omega) (by omega) (pw p hp))) (ls al0 (Nat.zero_le _)) (eq_L (x := lawWays (adj ps) lot p) (y := [])))
  have lp := while_up (C := run T (m + 2)) (c := .cmp .eq (.call c (.cons (.var 0) (.cons (.var 1) (.cons (.var 2) .nil)))) (.lst .nil)) (s := .asg (.one 2) (.bin .add (.var 2) (.con (.int (1))))) (st := st) (envs := fun p => [some (dTown N ps), some (enc lot), some (enc p)]) (m := few N ps lot) (fun p hp => ⟨by rw [cond p (Nat.le_of_lt hp), decide_eq_true (f1 p hp)], asg (bn (vr rfl) cn rfl) rfl⟩) (by rw [cond _ (Nat.le_refl _), decide_eq_false f2]) (few N ps lot) 0 1000 (by omega) (by omega)
  exact run_pl hs hT rfl (Dat.pl _) (sq (asg cn rfl) (sq lp (rt (vr rfl))))
def SpLRows (T : List FD) (i : Nat) : Prop := ∀ (n : Nat) (st : St), 2 ≤ n → Low st → ∀ (N : Nat) (ps : Prs), Town N ps → run T n i [dTown N ps] st = .ok (dL (bareL N ps)) st
theorem lrows_ok {i c d : Nat} (hT : T[i]? = some (F__law_rows c d)) (k1 : SpLLots T c) (k2 : SpLNear T d) : SpLRows T i := fun n st hn hs N ps ht => by
  obtain ⟨m, rfl⟩ := Nat.exists_eq_add_of_le' hn
  have hm := ht.most
  have hL := lotsS_most hm
  have lw : ∀ acc : List (List Nat), Low (st ++ [.lst (acc.map enc)]) := fun acc => low_snoc hs (pl_map _)
  have h0 : bnd (ev (run T (m + 1)) (.itr .seq (.cons (.call c (.cons (.idx (.var 0) (.con (.int (0)))) .nil)) .nil)) [some (dTown N ps), some (.cell st.length), none, none, none, none, none, none, none]) srcOf (st ++ [.lst (([] : List (List Nat)).map enc)]) = .ok ((lotsS N).map enc, none) (st ++ [.lst (([] : List (List Nat)).map enc)]) :=
    it_lst (cl (al (ix (vr rfl) cn rfl) al0) (k1 _ _ (by omega) (lw []) N hm))
  obtain ⟨env2, h1, ⟨y2, y3, y4, y6, y7, y8, rfl⟩⟩ := for_acc (C := run T (m + 1)) (p := .one 2) (e := .itr .seq (.cons (.call c (.cons (.idx (.var 0) (.con (.int (0)))) .nil)) .nil)) (s := (.ite (.cmp .eq (.prim .len (.cons (.var 2) .nil)) (.con (.int (4)))) (.for_ (.one 3) (.itr .seq (.cons (.var 2) .nil)) (.for_ (.one 4) (.itr .seq (.cons (.comp (.one 5) (.itr .seq (.cons (.var 2) .nil)) (.and (.cmp .gt (.var 5) (.var 3)) (.not (.call d (.cons (.var 0) (.cons (.var 3) (.cons (.var 5) .nil)))))) (.var 5)) .nil)) (.for_ (.one 6) (.itr .seq (.cons (.comp (.one 5) (.itr .seq (.cons (.var 2) .nil)) (.cmp .nmem (.var 5) (.tup (.cons (.var 3) (.cons (.var 4) .nil)))) (.var 5)) .nil)) (.seq (.asg (.one 7) (.idx (.comp (.one 5) (.itr .seq (.cons (.var 2) .nil)) (.cmp .nmem (.var 5) (.tup (.cons (.var 3) (.cons (.var 6) (.cons (.var 4) .nil))))) (.var 5)) (.con (.int (0))))) (.seq (.asg (.one 8) (.lst (.cons (.call d (.cons (.var 0) (.cons (.var 3) (.cons (.var 6) .nil)))) (.cons (.call d (.cons (.var 0) (.cons (.var 6) (.cons (.var 7) .nil)))) (.cons (.call d (.cons (.var 0) (.cons (.var 7) (.cons (.var 4) .nil)))) .nil))))) (.ite (.and (.cmp .eq (.var 8) (.bin .mul (.lst (.cons (.con (.bl true)) .nil)) (.con (.int (3))))) (.and (.not (.call d (.cons (.var 0) (.cons (.var 3) (.cons (.var 7) .nil))))) (.not (.call d (.cons (.var 0) (.cons (.var 6) (.cons (.var 4) .nil))))))) (.drop (.meth .append (.var 1) (.cons (.tup (.cons (.var 3) (.cons (.var 6) (.cons (.var 7) (.cons (.var 4) .nil))))) .nil))) .skip)))))) .skip))
    (env := [some (dTown N ps), some (.cell st.length), none, none, none, none, none, none, none]) (st := st) (f := enc (α := List Nat)) (xs := lotsS N) (lawLot (adj ps)) (fun env => ∃ y2 y3 y4 y6 y7 y8, env = [some (dTown N ps), some (.cell st.length), y2, y3, y4, none, y6, y7, y8]) (acc := []) 100000 h0 ⟨none, none, none, none, none, none, rfl⟩ (by
      have := lawRows_most (adj := adj ps) (LL := lotsS N)
      show 0 + (lawRows (adj ps) (lotsS N)).length ≤ 100000
      omega) fun L hL env acc ⟨y2, y3, y4, y6, y7, y8, e⟩ hB => by
      subst e
      have hL := lots_is (lotsS_mem.mp hL)
      have hlen : ∀ st : St, cmpD .eq (enc L.length) (.int 4) st = .ok (.bl (decide (L.length = 4))) st := fun st => eq_ (α := Nat) (x := L.length) (y := 4)
      by_cases h4 : L.length = 4
      · have e4 : lawLot (adj ps) L = L.flatMap fun one => lawFour (adj ps) L one := if_pos h4
        rw [e4] at hB ⊢
        obtain ⟨env3, g1, ⟨y3, y4, y6, y7, y8, rfl⟩⟩ := for_acc (C := run T (m + 1)) (p := .one 3) (e := .itr .seq (.cons (.var 2) .nil)) (s := (.for_ (.one 4) (.itr .seq (.cons (.comp (.one 5) (.itr .seq (.cons (.var 2) .nil)) (.and (.cmp .gt (.var 5) (.var 3)) (.not (.call d (.cons (.var 0) (.cons (.var 3) (.cons (.var 5) .nil)))))) (.var 5)) .nil)) (.for_ (.one 6) (.itr .seq (.cons (.comp (.one 5) (.itr .seq (.cons (.var 2) .nil)) (.cmp .nmem (.var 5) (.tup (.cons (.var 3) (.cons (.var 4) .nil)))) (.var 5)) .nil)) (.seq (.asg (.one 7) (.idx (.comp (.one 5) (.itr .seq (.cons (.var 2) .nil)) (.cmp .nmem (.var 5) (.tup (.cons (.var 3) (.cons (.var 6) (.cons (.var 4) .nil))))) (.var 5)) (.con (.int (0))))) (.seq (.asg (.one 8) (.lst (.cons (.call d (.cons (.var 0) (.cons (.var 3) (.cons (.var 6) .nil)))) (.cons (.call d (.cons (.var 0) (.cons (.var 6) (.cons (.var 7) .nil)))) (.cons (.call d (.cons (.var 0) (.cons (.var 7) (.cons (.var 4) .nil)))) .nil))))) (.ite (.and (.cmp .eq (.var 8) (.bin .mul (.lst (.cons (.con (.bl true)) .nil)) (.con (.int (3))))) (.and (.not (.call d (.cons (.var 0) (.cons (.var 3) (.cons (.var 7) .nil))))) (.not (.call d (.cons (.var 0) (.cons (.var 6) (.cons (.var 4) .nil))))))) (.drop (.meth .append (.var 1) (.cons (.tup (.cons (.var 3) (.cons (.var 6) (.cons (.var 7) (.cons (.var 4) .nil))))) .nil))) .skip))))))
          (env := [some (dTown N ps), some (.cell st.length), some (enc L), y3, y4, none, y6, y7, y8]) (st := st) (f := enc (α := Nat)) (xs := L) (lawFour (adj ps) L) (fun env => ∃ y3 y4 y6 y7 y8, env = [some (dTown N ps), some (.cell st.length), some (enc L), y3, y4, none, y6, y7, y8]) (acc := acc) 100000 (it_tup (vr rfl)) ⟨_, _, _, _, _, rfl⟩ hB fun one hone env acc ⟨y3, y4, y6, y7, y8, e⟩ hB => by
            subst e
            have src1 : bnd (ev (run T (m + 1)) (.itr .seq (.cons (.comp (.one 5) (.itr .seq (.cons (.var 2) .nil)) (.and (.cmp .gt (.var 5) (.var 3)) (.not (.call d (.cons (.var 0) (.cons (.var 3) (.cons (.var 5) .nil)))))) (.var 5)) .nil)) [some (dTown N ps), some (.cell st.length), some (enc L), some (enc one), y4, none, y6, y7, y8]) srcOf (st ++ [.lst (acc.map enc)]) = .ok ((L.filter fun h => decide (one < h) && !adj ps one h).map enc, none) (st ++ [.lst (acc.map enc)]) :=
              it_lst (cmp_ (xs := L) (f := enc (α := Nat)) (fun h => decide (one < h) && !adj ps one h) enc (it_tup (vr rfl)) rfl (fun h hh => ⟨_, rfl, tb (an (cm (vr rfl) (vr rfl) gt_n) fun _ => nt (tb (cl (al (vr rfl) (al (vr rfl) (al (vr rfl) al0))) (k2 _ _ (by omega) (lw acc) N ps one h ht)))), fun _ => vr rfl⟩) (by rw [List.length_map]; exact Nat.le_trans (List.length_filter_le _ _) (by rw [h4]; decide)))
            obtain ⟨env4, g2, ⟨y4, y6, y7, y8, rfl⟩⟩ := for_acc (C := run T (m + 1)) (p := .one 4) (s := (.for_ (.one 6) (.itr .seq (.cons (.comp (.one 5) (.itr .seq (.cons (.var 2) .nil)) (.cmp .nmem (.var 5) (.tup (.cons (.var 3) (.cons (.var 4) .nil)))) (.var 5)) .nil)) (.seq (.asg (.one 7) (.idx (.comp (.one 5) (.itr .seq (.cons (.var 2) .nil)) (.cmp .nmem (.var 5) (.tup (.cons (.var 3) (.cons (.var 6) (.cons (.var 4) .nil))))) (.var 5)) (.con (.int (0))))) (.seq (.asg (.one 8) (.lst (.cons (.call d (.cons (.var 0) (.cons (.var 3) (.cons (.var 6) .nil)))) (.cons (.call d (.cons (.var 0) (.cons (.var 6) (.cons (.var 7) .nil)))) (.cons (.call d (.cons (.var 0) (.cons (.var 7) (.cons (.var 4) .nil)))) .nil))))) (.ite (.and (.cmp .eq (.var 8) (.bin .mul (.lst (.cons (.con (.bl true)) .nil)) (.con (.int (3))))) (.and (.not (.call d (.cons (.var 0) (.cons (.var 3) (.cons (.var 7) .nil))))) (.not (.call d (.cons (.var 0) (.cons (.var 6) (.cons (.var 4) .nil))))))) (.drop (.meth .append (.var 1) (.cons (.tup (.cons (.var 3) (.cons (.var 6) (.cons (.var 7) (.cons (.var 4) .nil))))) .nil))) .skip)))))
              (st := st) (f := enc (α := Nat)) (xs := L.filter fun h => decide (one < h) && !adj ps one h) (lawTwo (adj ps) L one) (fun env => ∃ y4 y6 y7 y8, env = [some (dTown N ps), some (.cell st.length), some (enc L), some (enc one), y4, none, y6, y7, y8]) (acc := acc) 100000 src1 ⟨_, _, _, _, rfl⟩ hB fun four hfour env acc ⟨y4, y6, y7, y8, e⟩ hB => by
                subst e
                have hfour := (List.mem_filter.mp hfour).1
                have src2 : bnd (ev (run T (m + 1)) (.itr .seq (.cons (.comp (.one 5) (.itr .seq (.cons (.var 2) .nil)) (.cmp .nmem (.var 5) (.tup (.cons (.var 3) (.cons (.var 4) .nil)))) (.var 5)) .nil)) [some (dTown N ps), some (.cell st.length), some (enc L), some (enc one), some (enc four), none, y6, y7, y8]) srcOf (st ++ [.lst (acc.map enc)]) = .ok ((L.filter fun h => !decide (h ∈ [one, four])).map enc, none) (st ++ [.lst (acc.map enc)]) :=
                  it_lst (cmp_ (xs := L) (f := enc (α := Nat)) (fun h => !decide (h ∈ [one, four])) enc (it_tup (vr rfl)) rfl (fun h hh => ⟨_, rfl, tb (cm (vr rfl) (tp (al (vr rfl) (al (vr rfl) al0)) (by show 2 ≤ line; decide)) (nmem_ (x := h) (l := [one, four]))), fun _ => vr rfl⟩) (by rw [List.length_map]; exact Nat.le_trans (List.length_filter_le _ _) (by rw [h4]; decide)))
                obtain ⟨env5, g3, ⟨y6, y7, y8, rfl⟩⟩ := for_acc (C := run T (m + 1)) (p := .one 6) (s := (.seq (.asg (.one 7) (.idx (.comp (.one 5) (.itr .seq (.cons (.var 2) .nil)) (.cmp .nmem (.var 5) (.tup (.cons (.var 3) (.cons (.var 6) (.cons (.var 4) .nil))))) (.var 5)) (.con (.int (0))))) (.seq (.asg (.one 8) (.lst (.cons (.call d (.cons (.var 0) (.cons (.var 3) (.cons (.var 6) .nil)))) (.cons (.call d (.cons (.var 0) (.cons (.var 6) (.cons (.var 7) .nil)))) (.cons (.call d (.cons (.var 0) (.cons (.var 7) (.cons (.var 4) .nil)))) .nil))))) (.ite (.and (.cmp .eq (.var 8) (.bin .mul (.lst (.cons (.con (.bl true)) .nil)) (.con (.int (3))))) (.and (.not (.call d (.cons (.var 0) (.cons (.var 3) (.cons (.var 7) .nil))))) (.not (.call d (.cons (.var 0) (.cons (.var 6) (.cons (.var 4) .nil))))))) (.drop (.meth .append (.var 1) (.cons (.tup (.cons (.var 3) (.cons (.var 6) (.cons (.var 7) (.cons (.var 4) .nil))))) .nil))) .skip))))
                  (st := st) (f := enc (α := Nat)) (xs := L.filter fun h => !decide (h ∈ [one, four])) (fun two => if lawCond (adj := adj ps) one two (lawThree L one four two) four then [[one, two, lawThree L one four two, four]] else []) (fun env => ∃ y6 y7 y8, env = [some (dTown N ps), some (.cell st.length), some (enc L), some (enc one), some (enc four), none, y6, y7, y8]) (acc := acc) 100000 src2 ⟨_, _, _, rfl⟩ hB fun two htwo env acc ⟨y6, y7, y8, e⟩ hB => by
                    subst e
                    have htwo := (List.mem_filter.mp htwo).1
                    have t3 := three_at hL.1 h4 hone htwo hfour
                    generalize lawThree L one four two = three at t3 hB ⊢
                    have a7 : Mp.exec (run T (m + 1)) (.asg (.one 7) (.idx (.comp (.one 5) (.itr .seq (.cons (.var 2) .nil)) (.cmp .nmem (.var 5) (.tup (.cons (.var 3) (.cons (.var 6) (.cons (.var 4) .nil))))) (.var 5)) (.con (.int (0))))) [some (dTown N ps), some (.cell st.length), some (enc L), some (enc one), some (enc four), none, some (enc two), y7, y8] (st ++ [.lst (acc.map enc)]) = .next [some (dTown N ps), some (.cell st.length), some (enc L), some (enc one), some (enc four), none, some (enc two), some (enc three), y8] (st ++ [.lst (acc.map enc)]) :=
                      asg (ix (y := dL (L.filter fun h => !decide (h ∈ [one, two, four]))) (cmp_ (xs := L) (f := enc (α := Nat)) (fun h => !decide (h ∈ [one, two, four])) enc (it_tup (vr rfl)) rfl (fun h hh => ⟨_, rfl, tb (cm (vr rfl) (tp (al (vr rfl) (al (vr rfl) (al (vr rfl) al0))) (by show 3 ≤ line; decide)) (nmem_ (x := h) (l := [one, two, four]))), fun _ => vr rfl⟩) (by rw [List.length_map]; exact Nat.le_trans (List.length_filter_le _ _) (by rw [h4]; decide))) cn (ixL (i := 0) t3)) rfl
                    have a8 : Mp.exec (run T (m + 1)) (.asg (.one 8) (.lst (.cons (.call d (.cons (.var 0) (.cons (.var 3) (.cons (.var 6) .nil)))) (.cons (.call d (.cons (.var 0) (.cons (.var 6) (.cons (.var 7) .nil)))) (.cons (.call d (.cons (.var 0) (.cons (.var 7) (.cons (.var 4) .nil)))) .nil))))) [some (dTown N ps), some (.cell st.length), some (enc L), some (enc one), some (enc four), none, some (enc two), some (enc three), y8] (st ++ [.lst (acc.map enc)]) = .next [some (dTown N ps), some (.cell st.length), some (enc L), some (enc one), some (enc four), none, some (enc two), some (enc three), some (.lst [.bl (adj ps one two), .bl (adj ps two three), .bl (adj ps three four)])] (st ++ [.lst (acc.map enc)]) :=
                      asg (ls (al (cl (al (vr rfl) (al (vr rfl) (al (vr rfl) al0))) (k2 _ _ (by omega) (lw acc) N ps one two ht)) (al (cl (al (vr rfl) (al (vr rfl) (al (vr rfl) al0))) (k2 _ _ (by omega) (lw acc) N ps two three ht)) (al (cl (al (vr rfl) (al (vr rfl) (al (vr rfl) al0))) (k2 _ _ (by omega) (lw acc) N ps three four ht)) al0))) (by show 3 ≤ line; decide)) rfl
                    have w1 : ∀ (a b c : Bool) (st : St), cmpD .eq (.lst [.bl a, .bl b, .bl c]) (.lst [.bl true, .bl true, .bl true]) st = .ok (.bl (decide ([a, b, c] = [true, true, true]))) st := fun a b c st => by cases a <;> cases b <;> cases c <;> rfl
                    have c8 : bnd (ev (run T (m + 1)) (.and (.cmp .eq (.var 8) (.bin .mul (.lst (.cons (.con (.bl true)) .nil)) (.con (.int (3))))) (.and (.not (.call d (.cons (.var 0) (.cons (.var 3) (.cons (.var 7) .nil))))) (.not (.call d (.cons (.var 0) (.cons (.var 6) (.cons (.var 4) .nil))))))) [some (dTown N ps), some (.cell st.length), some (enc L), some (enc one), some (enc four), none, some (enc two), some (enc three), some (.lst [.bl (adj ps one two), .bl (adj ps two three), .bl (adj ps three four)])]) truth (st ++ [.lst (acc.map enc)]) = .ok (lawCond (adj := adj ps) one two three four) (st ++ [.lst (acc.map enc)]) :=
                      tb (an (cm (vr rfl) (bn (ls (al cn al0) (by show 1 ≤ line; decide)) cn rfl) (w1 _ _ _ _)) fun _ => an (nt (tb (cl (al (vr rfl) (al (vr rfl) (al (vr rfl) al0))) (k2 _ _ (by omega) (lw acc) N ps one three ht)))) fun _ => nt (tb (cl (al (vr rfl) (al (vr rfl) (al (vr rfl) al0))) (k2 _ _ (by omega) (lw acc) N ps two four ht))))
                    refine ⟨_, [some (dTown N ps), some (.cell st.length), some (enc L), some (enc one), some (enc four), none, some (enc two), some (enc three), some (.lst [.bl (adj ps one two), .bl (adj ps two three), .bl (adj ps three four)])], rfl, sq a7 (sq a8 (iff_ (k := lawCond (adj := adj ps) one two three four) c8 ?_)), _, _, _, rfl⟩
                    cases q : lawCond (adj := adj ps) one two three four with
                    | true =>
                      rw [q, if_pos rfl] at hB
                      rw [if_pos rfl, if_pos rfl]
                      refine drp (d := .non) (mth (vr rfl) (al (tp (al (vr rfl) (al (vr rfl) (al (vr rfl) (al (vr rfl) al0)))) (by show 4 ≤ line; decide)) al0) ?_)
                      rw [List.map_append]
                      refine app_own ?_
                      rw [List.length_map]
                      show acc.length < 16777216
                      omega
                    | false =>
                      rw [if_neg (by simp), if_neg (by simp), List.append_nil]
                      exact sk (C := run T (m + 1))
                exact ⟨_, _, rfl, g3, _, _, _, _, rfl⟩
            exact ⟨_, _, rfl, g2, _, _, _, _, _, rfl⟩
        refine ⟨_, _, rfl, ift (tb (k := true) (cm (pr (al (vr rfl) al0) prim_len) cn ?_)) g1, _, _, _, _, _, _, rfl⟩
        rw [hlen, decide_eq_true h4]
      · have e4 : lawLot (adj ps) L = [] := if_neg h4
        rw [e4, List.append_nil]
        refine ⟨_, _, rfl, ife (tb (k := false) (cm (pr (al (vr rfl) al0) prim_len) cn ?_)) sk, _, _, _, _, _, _, rfl⟩
        rw [hlen, decide_eq_false h4]
  rw [List.nil_append] at h1
  have hb : isort leb (lawRows (adj ps) (lotsS N)) = bareL N ps := isort_eq (rows_perm (adj_sy ps) lotsS_perm)
  have hne : ∀ x ∈ lawRows (adj ps) (lotsS N), x ≠ [] := fun x hx => by
    obtain ⟨a, b, c, d, rfl, _⟩ := (mem_lawRows (N := N) (fun L => lotsS_mem)).mp hx
    exact fun z => by cases z
  rw [← hb]
  exact run_ret hT rfl (sq (asg (nw al0 (Nat.zero_le _)) rfl) (sq h1 (rt (pr (al (vr rfl) al0) (sorted_at (l := lawRows (adj ps) (lotsS N)) deref_own (h2 := .inl hne)))))) (leave_own hs pl_L)
end
end Mk
end
section
set_option Elab.async false
set_option linter.all false
set_option maxRecDepth 100000
set_option maxHeartbeats 400000
/-! What the law k01 compares. -/
namespace Mk
open PySem Mp GM
open Dat (enc)
theorem lots_full {N : Nat} {l : List Nat} (h : l ∈ lots N) (hl : N ≤ l.length) : l = List.range N := by
  obtain ⟨h1, h2, _⟩ := lots_is h
  refine lt_uniq h1 List.pairwise_lt_range fun x => ?_
  rw [List.mem_range]
  refine ⟨h2 x, fun hx => ?_⟩
  by_cases z : x ∈ l
  · exact z
  · have nd : (x :: l).Nodup := List.nodup_cons.mpr ⟨z, h1.imp fun z => Nat.ne_of_lt z⟩
    have := List.Nodup.length_le_of_subset nd (l₂ := List.range N) fun y hy => by
      rw [List.mem_range]
      rcases List.mem_cons.mp hy with rfl | hy
      · exact hx
      · exact h2 y hy
    rw [List.length_cons, List.length_range] at this
    omega
theorem lotsS_ne {N : Nat} : lotsS N ≠ [] := fun z => by
  have := lotsS_mem.mpr (lots_nil N)
  rw [z] at this
  cases this
theorem last_of {α : Type} {l : List α} (h : l ≠ []) : ∃ x, l.getLast? = some x ∧ x ∈ l := ⟨l.getLast h, List.getLast?_eq_some_getLast h, List.getLast_mem h⟩
theorem first_of {α : Type} {l : List α} (h : l ≠ []) : ∃ x, l.head? = some x ∧ l[0]? = some x ∧ x ∈ l := by
  cases l with
  | nil => exact absurd rfl h
  | cons a r => exact ⟨a, rfl, rfl, List.mem_cons_self⟩
theorem lotsS_last {N : Nat} : (lotsS N).getLast? = some (List.range N) := by
  obtain ⟨x, h1, h2⟩ := last_of (lotsS_ne (N := N))
  have := last_most lenLe_sorted h1 _ (lotsS_mem.mpr (range_in_lots N))
  rw [List.length_range] at this
  rw [h1, lots_full (lotsS_mem.mp h2) this]
theorem filter_ite {α : Type} {p : α → Bool} : ∀ {l : List α}, (l.flatMap fun x => if p x then [x] else []) = l.filter p
  | [] => rfl
  | a :: l => by
    rw [List.flatMap_cons, filter_ite]
    cases h : p a with
    | true =>
      rw [List.filter_cons_of_pos h]
      rfl
    | false =>
      rw [List.filter_cons_of_neg (by rw [h]; simp)]
      rfl
def farOf (ps : Prs) (lot : List Nat) (l : List (Nat × Nat)) : List Nat := l.flatMap fun p => (lot.take p.2).filter fun o => !adj ps p.1 o
theorem far_mutual {N : Nat} {ps : Prs} {lot : List Nat} (hl : lot ∈ lots N) : decide (farOf ps lot lot.zipIdx = []) = mutualB N ps lot := by
  obtain ⟨h1, h2, _⟩ := lots_is hl
  rw [Bool.eq_iff_iff, decide_eq_true_eq]
  unfold farOf mutualB
  rw [List.flatMap_eq_nil_iff, List.all_eq_true]
  constructor
  · intro h x hx
    rw [List.all_eq_true]
    intro o ho
    obtain ⟨ho1, hne⟩ := List.mem_filter.mp ho
    rw [Bool.not_eq_true', decide_eq_false_iff_not] at hne
    rw [decide_eq_true_eq, mem_nb]
    refine ⟨h2 o ho1, ?_⟩
    have key : ∀ i j : Nat, (hi : i < lot.length) → (hj : j < lot.length) → i < j → adj ps lot[j] lot[i] = true := fun i j hi hj hij => by
      have := h (lot[j], j) (List.mem_zipIdx_iff_getElem?.mpr (List.getElem?_eq_getElem hj))
      have hm : lot[i] ∈ lot.take j := List.mem_take_iff_getElem.mpr ⟨i, by omega, rfl⟩
      cases z : adj ps lot[j] lot[i] with
      | true => rfl
      | false =>
        have hf : lot[i] ∈ (lot.take j).filter fun o => !adj ps lot[j] o := List.mem_filter.mpr ⟨hm, by rw [z]; rfl⟩
        rw [this] at hf
        cases hf
    obtain ⟨i, hi, rfl⟩ := List.mem_iff_getElem.mp hx
    obtain ⟨j, hj, rfl⟩ := List.mem_iff_getElem.mp ho1
    rcases Nat.lt_trichotomy i j with z | z | z
    · rw [adj_sy]
      exact key i j hi hj z
    · subst z
      exact absurd rfl hne
    · exact key j i hj hi z
  · intro h p hp
    rw [List.filter_eq_nil_iff]
    intro o ho
    have hp := List.mem_zipIdx_iff_getElem?.mp hp
    obtain ⟨hj, e⟩ := List.getElem?_eq_some_iff.mp hp
    obtain ⟨i, hi, e2⟩ := List.mem_take_iff_getElem.mp ho
    have hi' : i < p.2 ∧ i < lot.length := by omega
    have hlt := List.pairwise_iff_getElem.mp h1 i p.2 hi'.2 hj hi'.1
    rw [e2, e] at hlt
    have k := h p.1 (by rw [← e]; exact List.getElem_mem _)
    rw [List.all_eq_true] at k
    have k2 := k o (List.mem_filter.mpr ⟨by rw [← e2]; exact List.getElem_mem _, by rw [decide_eq_false (by omega)]; rfl⟩)
    rw [decide_eq_true_eq, mem_nb] at k2
    rw [k2.2]
    simp
def mutS (N : Nat) (ps : Prs) : List (List Nat) := (lotsS N).filter (mutualB N ps)
theorem mutS_ne {N : Nat} {ps : Prs} : mutS N ps ≠ [] := fun z => by
  have : [] ∈ mutS N ps := List.mem_filter.mpr ⟨lotsS_mem.mpr (lots_nil N), rfl⟩
  rw [z] at this
  cases this
theorem most_eq {N : Nat} {ps : Prs} {x : List Nat} (hx : (mutS N ps).getLast? = some x) : (mutS N ps).filter (fun l => decide (l.length = x.length)) = ofSize (mutLots N ps) (maxOf ((mutLots N ps).map List.length)) := by
  have hm : x ∈ mutS N ps := List.mem_of_getLast? hx
  have hmax := last_most ((lenLe_sorted (l := lots N)).filter (mutualB N ps)) hx
  have e : maxOf ((mutLots N ps).map List.length) = x.length := maxOf_eq (List.mem_map_of_mem (List.mem_filter.mpr ⟨lotsS_mem.mp (List.mem_filter.mp hm).1, (List.mem_filter.mp hm).2⟩)) fun y hy => by
    obtain ⟨l, hl, rfl⟩ := List.mem_map.mp hy
    exact hmax l (List.mem_filter.mpr ⟨lotsS_mem.mpr (List.mem_filter.mp hl).1, (List.mem_filter.mp hl).2⟩)
  rw [e]
  exact size_eq
def goodP (N : Nat) (ps : Prs) (lot : List Nat) : Bool := decide (((bareL N ps).filter fun line => decide ((line.filter fun h => decide (h ∈ lot)) = [])) = [])
def goodS (N : Nat) (ps : Prs) : List (List Nat) := (lotsS N).filter (goodP N ps)
theorem goodP_eq {N : Nat} {ps : Prs} {lot : List Nat} : goodP N ps lot = (bareL N ps).all fun row => row.any fun h => decide (h ∈ lot) := by
  unfold goodP
  rw [Bool.eq_iff_iff, decide_eq_true_eq, List.filter_eq_nil_iff, List.all_eq_true]
  refine forall_congr' fun row => forall_congr' fun _ => ?_
  rw [decide_eq_true_eq, List.filter_eq_nil_iff, List.any_eq_true]
  constructor
  · intro h
    by_cases z : ∃ x, x ∈ row ∧ decide (x ∈ lot) = true
    · exact z
    · exact absurd (fun x hx k => z ⟨x, hx, k⟩) h
  · rintro ⟨x, hx, k⟩ h
    exact h x hx k
theorem goodS_out {N : Nat} {ps : Prs} : goodS N ps = (lotsS N).filter fun lot => (bareL N ps).all fun row => row.any fun h => decide (h ∈ lot) := by
  unfold goodS
  exact List.filter_congr fun lot _ => goodP_eq
theorem goodS_ne {N : Nat} {ps : Prs} : goodS N ps ≠ [] := fun z => by
  rw [goodS_out] at z
  obtain ⟨x, hx⟩ := List.exists_mem_of_ne_nil _ (outLots_ne (N := N) (ps := ps))
  have hx := List.mem_filter.mp hx
  have : x ∈ (lotsS N).filter fun lot => (bareL N ps).all fun row => row.any fun h => decide (h ∈ lot) := List.mem_filter.mpr ⟨lotsS_mem.mpr hx.1, hx.2⟩
  rw [z] at this
  cases this
theorem out_eq {N : Nat} {ps : Prs} {x : List Nat} (hx : (goodS N ps).head? = some x) : (goodS N ps).filter (fun l => decide (l.length = x.length)) = ofSize (outLots N ps) (minOf ((outLots N ps).map List.length)) := by
  rw [goodS_out] at hx ⊢
  have hm := List.mem_of_head? hx
  have hmin := first_least ((lenLe_sorted (l := lots N)).filter fun lot => (bareL N ps).all fun row => row.any fun h => decide (h ∈ lot)) hx
  have e : minOf ((outLots N ps).map List.length) = x.length := minOf_eq (List.mem_map_of_mem (List.mem_filter.mpr ⟨lotsS_mem.mp (List.mem_filter.mp hm).1, (List.mem_filter.mp hm).2⟩)) fun y hy => by
    obtain ⟨l, hl, rfl⟩ := List.mem_map.mp hy
    exact hmin l (List.mem_filter.mpr ⟨lotsS_mem.mpr (List.mem_filter.mp hl).1, (List.mem_filter.mp hl).2⟩)
  rw [e]
  exact size_eq
theorem near_eq {N : Nat} {ps : Prs} {h : Nat} (ht : Town N ps) : (List.range N).filter (fun o => !decide (o = h) && adj ps o h) = nbs N ps h := by
  unfold nbs nb
  refine List.filter_congr fun o _ => ?_
  rw [adj_sy ps o h]
  cases z : adj ps h o with
  | false => rw [Bool.and_false]
  | true =>
    have := ht.adj_lt z
    rw [decide_eq_false (by omega)]
    rfl
theorem count_eq {N : Nat} {ps : Prs} {p : Nat} : (lawWays (adj ps) (List.range N) p).length = sm (fun P => prm p P.length) (parts (frT N ps) (List.range N) [[]]) := count_ways (frT_is fun x hx => List.mem_range.mp hx)
end Mk
end
section
set_option Elab.async false
set_option linter.all false
set_option maxRecDepth 100000
set_option maxHeartbeats 800000
namespace K01
open PySem Mp GM Mk
open Dat (enc)
abbrev fLaw : FD := ⟨1, 15, (.seq (.asg (.one 1) (.newC (.cons (.var 0) (.cons (.con (.int (0))) (.cons (.con (.int (1663))) (.cons (.con (.int (0))) .nil)))))) (.seq (.asg (.one 2) (.call 2 (.cons (.var 1) (.cons (.con (.int (6))) .nil)))) (.seq (.asg (.one 3) (.call 3 (.cons (.idx (.var 2) (.con (.int (0)))) .nil))) (.seq (.asg (.tup [4, 5, 6]) (.tup (.cons (.call 4 (.cons (.var 1) (.cons (.var 3) .nil))) (.cons (.call 0 (.cons (.var 1) (.cons (.idx (.var 2) (.con (.int (0)))) .nil))) (.cons (.call 0 (.cons (.var 1) (.cons (.con (.int (5))) .nil))) .nil))))) (.seq (.ite (.not (.call 5 (.cons (.call 18 (.cons (.var 2) (.cons (.var 4) .nil))) (.cons (.call 21 (.cons (.var 2) (.cons (.var 4) .nil))) .nil)))) (.ret (.con (.bl false))) .skip) (.seq (.ite (.not (.call 5 (.cons (.call 23 (.cons (.var 2) (.cons (.var 5) .nil))) (.cons (.prim .tuple (.cons (.comp (.one 7) (.itr .range1 (.cons (.idx (.var 2) (.con (.int (0)))) .nil)) (.and (.cmp .ne (.var 7) (.var 5)) (.call 19 (.cons (.var 2) (.cons (.var 7) (.cons (.var 5) .nil))))) (.var 7)) .nil)) .nil)))) (.ret (.con (.bl false))) .skip) (.seq (.ite (.or (.cmp .lt (.idx (.var 2) (.con (.int (0)))) (.con (.int (6)))) (.cmp .lt (.var 6) (.con (.int (4))))) (.ite (.not (.call 5 (.cons (.call 26 (.cons (.var 2) (.cons (.var 6) .nil))) (.cons (.prim .len (.cons (.call 20 (.cons (.var 2) (.cons (.idx (.var 3) (.neg (.con (.int (1))))) (.cons (.var 6) .nil)))) .nil)) .nil)))) (.ret (.con (.bl false))) .skip) .skip) (.seq (.asg (.one 8) (.newC .nil)) (.seq (.for_ (.one 4) (.itr .seq (.cons (.var 3) .nil)) (.seq (.asg (.one 9) (.lst .nil)) (.seq (.for_ (.tup [10, 7]) (.itr .enum (.cons (.var 4) .nil)) (.asg (.one 9) (.bin .add (.var 9) (.comp (.one 11) (.itr .seq (.cons (.slice false true (.var 4) (.con .non) (.var 10)) .nil)) (.not (.call 19 (.cons (.var 2) (.cons (.var 7) (.cons (.var 11) .nil))))) (.var 11))))) (.ite (.cmp .eq (.var 9) (.lst .nil)) (.drop (.meth .append (.var 8) (.cons (.var 4) .nil))) .skip)))) (.seq (.ite (.not (.call 5 (.cons (.call 30 (.cons (.var 2) .nil)) (.cons (.prim .tuple (.cons (.comp (.one 4) (.itr .seq (.cons (.var 8) .nil)) (.cmp .eq (.prim .len (.cons (.var 4) .nil)) (.prim .len (.cons (.idx (.var 8) (.neg (.con (.int (1))))) .nil))) (.var 4)) .nil)) .nil)))) (.ret (.con (.bl false))) .skip) (.seq (.asg (.one 12) (.call 31 (.cons (.var 2) .nil))) (.seq (.asg (.one 13) (.comp (.one 4) (.itr .seq (.cons (.var 3) .nil)) (.cmp .eq (.comp (.one 14) (.itr .seq (.cons (.var 12) .nil)) (.cmp .eq (.comp (.one 7) (.itr .seq (.cons (.var 14) .nil)) (.cmp .mem (.var 7) (.var 4)) (.var 7)) (.lst .nil)) (.var 14)) (.lst .nil)) (.var 4))) (.seq (.ite (.not (.call 5 (.cons (.call 34 (.cons (.var 2) .nil)) (.cons (.prim .tuple (.cons (.comp (.one 4) (.itr .seq (.cons (.var 13) .nil)) (.cmp .eq (.prim .len (.cons (.var 4) .nil)) (.prim .len (.cons (.idx (.var 13) (.con (.int (0)))) .nil))) (.var 4)) .nil)) .nil)))) (.ret (.con (.bl false))) .skip) (.ret (.call 5 (.cons (.call 33 (.cons (.var 2) .nil)) (.cons (.prim .tuple (.cons (.var 12) .nil)) .nil)))))))))))))))))⟩
def T : List FD := [F__law_taken, F__law_town 0, F__law_any 1 0, F__law_lots, F__law_pick 0, F__law_alike 5, F_is_number, F_are_houses 6, F_is_ascending, F_is_lot 7 8, F_are_pairs 9 8, F_check_map 6 10, F_check_lot 9, F_share, F_ways_with 13, F_ways_to_part 14, F_fewest_paints 15, F_neighbors, F_need 11 12 16 17, F__law_near, F__law_ways 19, F__law_need 20, F_check_house 6, F_near 11 22 17, F_check_number 6, F_every_house, F_count_paintings 11 24 15 17 25, F_all_lots, F_is_mutual, F_lots_of_size, F_most_mutual 11 17 27 28 29, F__law_rows 3 19, F_goes_on 13, F_bare_rows 11 17 32, F_left_out 33 27 13 29, fLaw]
theorem s_taken : SpTaken T 0 := taken_ok rfl
theorem s_town : SpTown T 1 := town_ok rfl s_taken
theorem s_any : SpAny T 2 := any_ok rfl s_town s_taken
theorem s_llots : SpLLots T 3 := llots_ok rfl
theorem s_pick : SpPick T 4 := pick_ok rfl s_taken
theorem s_alike : SpAlike T 5 := alike_ok rfl
theorem s_num : SpNum T 6 := num_ok rfl
theorem s_houses : SpHouses T 7 := houses_ok rfl s_num
theorem s_asc : SpAsc T 8 := asc_ok rfl
theorem s_lot : SpLot T 9 := lot_ok rfl s_houses s_asc
theorem s_pairs : SpPairs T 10 := pairs_ok rfl s_lot s_asc
theorem s_map : SpMap T 11 := map_ok rfl s_num s_pairs
theorem s_clot : SpCLot T 12 := clot_ok rfl s_lot
theorem s_share : SpShare T 13 := share_ok rfl
theorem s_with : SpWith T 14 := with_ok rfl s_share
theorem s_part : SpPart T 15 := part_ok rfl s_with
theorem s_few : SpFew T 16 := few_ok rfl s_part
theorem s_nbs : SpNbs T 17 := nbs_ok rfl
theorem s_need : SpNeed T 18 := need_ok rfl s_map s_clot s_few s_nbs
theorem s_lnear : SpLNear T 19 := lnear_ok rfl
theorem s_lways : SpLWays T 20 := lways_ok rfl s_lnear
theorem s_lneed : SpLNeed T 21 := lneed_ok rfl s_lways
theorem s_chouse : SpCHouse T 22 := chouse_ok rfl s_num
theorem s_near : SpNear T 23 := near_ok rfl s_map s_chouse s_nbs
theorem s_cnum : SpCNum T 24 := cnum_ok rfl s_num
theorem s_every : SpEvery T 25 := every_ok rfl
theorem s_count : SpCount T 26 := count_ok rfl s_map s_cnum s_part s_nbs s_every
theorem s_lots : SpLots T 27 := lots_ok rfl
theorem s_mutual : SpMutual T 28 := mutual_ok rfl
theorem s_size : SpSize T 29 := size_ok rfl
theorem s_most : SpMost T 30 := most_ok rfl s_map s_nbs s_lots s_mutual s_size
theorem s_lrows : SpLRows T 31 := lrows_ok rfl s_llots s_lnear
theorem s_goes : SpGoes T 32 := goes_ok rfl s_share
theorem s_rows : SpRows T 33 := rows_ok rfl s_map s_nbs s_goes
theorem s_out : SpOut T 34 := out_ok rfl s_rows s_lots s_share s_size
theorem fit_lots {L : List (List Nat)} (h : L.length ≤ 1000000) (h2 : ∀ l ∈ L, l.length ≤ 1000000) : D.fit 2 (enc L) = true := fit_T h fun l hl => fit_nums (h2 l hl)
theorem ofSize_fit {L : List (List Nat)} {m N : Nat} (hN : N ≤ 7) (hL : ∀ l ∈ L, l ∈ lots N) (h : L.length ≤ 128) : D.fit 2 (enc (ofSize L m)) = true := by
  refine fit_lots ?_ fun l hl => ?_
  · unfold ofSize
    rw [isort_perm.length_eq]
    exact Nat.le_trans (List.length_filter_le _ _) (by omega)
  · have := (lots_is (hL l (List.mem_filter.mp (isort_perm.mem_iff.mp hl)).1)).2.2
    omega
theorem bareL_fit {N : Nat} {ps : Prs} (hN : N ≤ 7) : D.fit 2 (enc (bareL N ps)) = true := by
  refine fit_lots ?_ fun l hl => ?_
  · unfold bareL
    rw [isort_perm.length_eq]
    exact Nat.le_trans (List.length_filter_le _ _) (Nat.le_trans (extK_most (ps := ps) hN 3) (by decide))
  · have := (extK_is (k := 3) (List.mem_filter.mp (isort_perm.mem_iff.mp hl)).1).1
    omega
/-- two alike -/
theorem same {m : Nat} {env : Mp.Env} {st st1 st2 : St} {a b : E} {d : D} {k : Nat} (hm : k + 1 ≤ m) (hf : D.fit k d = true) (hs : Low st2) (h1 : ev (run T m) a env st = .ok d st1) (h2 : ev (run T m) b env st1 = .ok d st2) : Mp.exec (run T m) (.ite (.not (.call 5 (.cons a (.cons b .nil)))) (.ret (.con (.bl false))) .skip) env st = .next env st2 :=
  ife (tb (nt (k := true) (tb (cl (al h1 (al h2 al0)) (s_alike k d hf m st2 hm hs))))) sk
theorem lt_n {a b : Nat} {st : St} : cmpD .lt (enc a) (enc b) st = .ok (.bl (decide (a < b))) st := by
  show Mp.ret (D.bl (decide ((a : Int) < (b : Int)))) st = _
  rw [show decide ((a : Int) < (b : Int)) = decide (a < b) from decide_eq_decide.mpr (by omega)]
  rfl
theorem ixC_end {c : Cell} {L : List (List Nat)} {v : List Nat} (h : L.getLast? = some v) : idxD (.cell 1) (.int (-1)) ([c] ++ [.lst (L.map enc)]) = .ok (enc v) ([c] ++ [.lst (L.map enc)]) := by
  show opt (L2.atI (L.map enc) (-1)) _ = _
  rw [atI_end h]
  rfl
theorem chkC {c : Cell} {L : List (List Nat)} : chk (some (1, L.map enc)) ([c] ++ [.lst (L.map enc)]) = .ok () ([c] ++ [.lst (L.map enc)]) := by
  show (match D.sames (L.map enc) (L.map enc) with | true => Res.ok () _ | false => .bad) = _
  rw [sames_map]
theorem tup_of {l m : List (List Nat)} {st : St} (h : l = m) : primD .tuple [dL l] st = .ok (enc m) st := by
  subst h
  rfl
theorem main (ns : List Int) (hns : ns.length ≤ 63) : ∃ st, run T 10 35 [.scr ns] [] = .ok (.bl true) st := by
  refine ⟨[], ?_⟩
  have hc0 : Row ns (.lst [.scr ns, .int 0, .int 1663, .int 0]) := ⟨0, 1663, 0, by omega, by omega, by omega, rfl⟩
  obtain ⟨N, ps, c1, ht, hN6, hc1, g1⟩ := s_any 9 (by omega) ns _ [] 6 hc0 rfl (by omega) (by omega)
  have hN := ht.most
  have hpos := ht.pos
  have lw1 : Low [c1] := hc1.lows (rest := []) (c := .lst []) rfl
  obtain ⟨lot, c2, hlot, hc2, g2⟩ := s_pick 9 (by omega) ns c1 [] (lotsS N) hc1 lw1 lotsS_ne (Nat.le_trans (lotsS_most hN) (by decide))
  have lw2 : Low [c2] := hc2.lows (rest := []) (c := .lst []) rfl
  have hlot := lotsS_mem.mp hlot
  obtain ⟨house, c3, hhouse, hc3, g3⟩ := s_taken 9 (by omega) ns c2 [] N hc2 lw2 hpos (by omega)
  have lw3 : Low [c3] := hc3.lows (rest := []) (c := .lst []) rfl
  obtain ⟨paints, c4, hpaints, hc4, g4⟩ := s_taken 9 (by omega) ns c3 [] 5 hc3 lw3 (by omega) (by omega)
  have lw4 : Low [c4] := hc4.lows (rest := []) (c := .lst []) rfl
  have lwa : ∀ acc : List (List Nat), Low ([c4] ++ [.lst (acc.map enc)]) := fun acc => low_snoc lw4 (pl_map _)
  have hL := lotsS_most hN
  -- the loop over lots
  have loop : ∃ env2, Mp.exec (run T 9) (.for_ (.one 4) (.itr .seq (.cons (.var 3) .nil)) (.seq (.asg (.one 9) (.lst .nil)) (.seq (.for_ (.tup [10, 7]) (.itr .enum (.cons (.var 4) .nil)) (.asg (.one 9) (.bin .add (.var 9) (.comp (.one 11) (.itr .seq (.cons (.slice false true (.var 4) (.con .non) (.var 10)) .nil)) (.not (.call 19 (.cons (.var 2) (.cons (.var 7) (.cons (.var 11) .nil))))) (.var 11))))) (.ite (.cmp .eq (.var 9) (.lst .nil)) (.drop (.meth .append (.var 8) (.cons (.var 4) .nil))) .skip))))
      [some (.scr ns), some (.cell 0), some (dTown N ps), some (dL (lotsS N)), some (enc lot), some (enc house), some (enc paints), none, some (.cell 1), none, none, none, none, none, none] ([c4] ++ [.lst (([] : List (List Nat)).map enc)]) = .next env2 ([c4] ++ [.lst ((mutS N ps).map enc)]) ∧ ∃ y4 y7 y9 y10, env2 = [some (.scr ns), some (.cell 0), some (dTown N ps), some (dL (lotsS N)), y4, some (enc house), some (enc paints), y7, some (.cell 1), y9, y10, none, none, none, none] := by
    have key := for_acc (C := run T 9) (p := .one 4) (e := .itr .seq (.cons (.var 3) .nil)) (s := (.seq (.asg (.one 9) (.lst .nil)) (.seq (.for_ (.tup [10, 7]) (.itr .enum (.cons (.var 4) .nil)) (.asg (.one 9) (.bin .add (.var 9) (.comp (.one 11) (.itr .seq (.cons (.slice false true (.var 4) (.con .non) (.var 10)) .nil)) (.not (.call 19 (.cons (.var 2) (.cons (.var 7) (.cons (.var 11) .nil))))) (.var 11))))) (.ite (.cmp .eq (.var 9) (.lst .nil)) (.drop (.meth .append (.var 8) (.cons (.var 4) .nil))) .skip))))
      (env := [some (.scr ns), some (.cell 0), some (dTown N ps), some (dL (lotsS N)), some (enc lot), some (enc house), some (enc paints), none, some (.cell 1), none, none, none, none, none, none]) (st := [c4]) (f := enc (α := List Nat)) (xs := lotsS N) (fun l => if mutualB N ps l then [l] else []) (fun env => ∃ y4 y7 y9 y10, env = [some (.scr ns), some (.cell 0), some (dTown N ps), some (dL (lotsS N)), y4, some (enc house), some (enc paints), y7, some (.cell 1), y9, y10, none, none, none, none]) (acc := []) 1000 (it_lst (vr rfl)) ⟨_, _, _, _, rfl⟩ (by
        rw [filter_ite]
        have := List.length_filter_le (mutualB N ps) (lotsS N)
        rw [List.length_nil]
        omega) fun l hl env acc ⟨y4, y7, y9, y10, e⟩ hB => by
      subst e
      have hl := lotsS_mem.mp hl
      obtain ⟨l1, l2, l3⟩ := lots_is hl
      obtain ⟨env3, st3, j1, ⟨y73, y103, rfl⟩, rfl⟩ := for1 (C := run T 9) (p := .tup [10, 7]) (e := .itr .enum (.cons (.var 4) .nil)) (s := (.asg (.one 9) (.bin .add (.var 9) (.comp (.one 11) (.itr .seq (.cons (.slice false true (.var 4) (.con .non) (.var 10)) .nil)) (.not (.call 19 (.cons (.var 2) (.cons (.var 7) (.cons (.var 11) .nil))))) (.var 11)))))
        (env := [some (.scr ns), some (.cell 0), some (dTown N ps), some (dL (lotsS N)), some (enc l), some (enc house), some (enc paints), y7, some (.cell 1), some (dL ([] : List Nat)), y10, none, none, none, none]) (st := [c4] ++ [.lst (acc.map enc)]) (st1 := [c4] ++ [.lst (acc.map enc)]) (f := fun (p : Nat × Nat) => .tup [.int p.2, enc p.1]) (xs := l.zipIdx)
        (fun dn env s => (∃ y7 y10, env = [some (.scr ns), some (.cell 0), some (dTown N ps), some (dL (lotsS N)), some (enc l), some (enc house), some (enc paints), y7, some (.cell 1), some (dL (farOf ps l dn)), y10, none, none, none, none]) ∧ s = [c4] ++ [.lst (acc.map enc)])
        (it_enum (vr rfl)) ⟨⟨_, _, rfl⟩, rfl⟩ fun x dn env s hx hpre ⟨⟨y7, y10, e1⟩, e2⟩ => by
          subst e1 e2
          have fl : ∀ q : List (Nat × Nat), q <+: l.zipIdx → (farOf ps l q).length ≤ 49 := fun q hq => by
            have h1 : (farOf ps l q).length ≤ q.length * 7 := flat_most fun p _ => Nat.le_trans (List.length_filter_le _ _) (by rw [List.length_take]; omega)
            have h2 := hq.length_le
            rw [List.length_zipIdx] at h2
            omega
          have fx := fl _ hpre
          have es : farOf ps l (dn ++ [x]) = farOf ps l dn ++ (l.take x.2).filter fun o => !adj ps x.1 o := by
            unfold farOf
            rw [List.flatMap_append, List.flatMap_singleton]
          refine ⟨_, [some (.scr ns), some (.cell 0), some (dTown N ps), some (dL (lotsS N)), some (enc l), some (enc house), some (enc paints), some (enc x.1), some (.cell 1), some (dL (farOf ps l (dn ++ [x]))), some (.int x.2), none, none, none, none], [c4] ++ [.lst (acc.map enc)], rfl, asg (d := dL (farOf ps l (dn ++ [x]))) (bn (vr rfl) (cmp_ (xs := l.take x.2) (f := enc (α := Nat)) (fun o => !adj ps x.1 o) enc (it_tup (slc (vr rfl) cn (vr rfl) (r := .ok (enc (l.take x.2)) ([c4] ++ [.lst (acc.map enc)])) ?_)) rfl (fun o ho => ⟨_, rfl, tb (nt (tb (cl (al (vr rfl) (al (vr rfl) (al (vr rfl) al0))) (s_lnear _ _ (by omega) (lwa acc) N ps x.1 o ht)))), fun _ => vr rfl⟩) ?_) ?_) rfl, rfl, ⟨_, _, rfl⟩, rfl⟩
          · show Mp.ret (D.tup (cut (l.map enc) none (some (x.2 : Int)))) _ = _
            rw [cut_take, ← List.map_take]
            rfl
          · rw [List.length_map]
            refine Nat.le_trans (List.length_filter_le _ _) ?_
            rw [List.length_take]
            show _ ≤ 16777216
            omega
          · rw [es] at fx ⊢
            exact addL (Nat.le_trans fx (by decide))
      have cf : bnd (ev (run T 9) (.cmp .eq (.var 9) (.lst .nil)) [some (.scr ns), some (.cell 0), some (dTown N ps), some (dL (lotsS N)), some (enc l), some (enc house), some (enc paints), y73, some (.cell 1), some (dL (farOf ps l l.zipIdx)), y103, none, none, none, none]) truth ([c4] ++ [.lst (acc.map enc)]) = .ok (mutualB N ps l) ([c4] ++ [.lst (acc.map enc)]) := by
        rw [← far_mutual hl]
        exact tb (cm (vr rfl) (ls al0 (Nat.zero_le _)) (eq_L (x := farOf ps l l.zipIdx) (y := [])))
      refine ⟨_, [some (.scr ns), some (.cell 0), some (dTown N ps), some (dL (lotsS N)), some (enc l), some (enc house), some (enc paints), y73, some (.cell 1), some (dL (farOf ps l l.zipIdx)), y103, none, none, none, none], rfl, sq (asg (ls al0 (Nat.zero_le _)) rfl) (sq j1 (iff_ cf ?_)), _, _, _, _, rfl⟩
      cases q : mutualB N ps l with
      | true =>
        rw [q, if_pos rfl] at hB
        rw [if_pos rfl, if_pos rfl]
        refine drp (d := .non) (mth (vr rfl) (al (vr rfl) al0) ?_)
        rw [List.map_append]
        refine app_own (st := [c4]) ?_
        rw [List.length_map]
        show acc.length < 16777216
        omega
      | false =>
        rw [if_neg (by simp), if_neg (by simp), List.append_nil]
        exact sk (C := run T 9)
    obtain ⟨env2, h1, h2⟩ := key
    rw [filter_ite] at h1
    exact ⟨env2, h1, h2⟩
  obtain ⟨env2, h9, y4, y7, y9, y10, rfl⟩ := loop
  obtain ⟨top, htop, _⟩ := last_of (mutS_ne (N := N) (ps := ps))
  obtain ⟨low, hlow, hlow0, _⟩ := first_of (goodS_ne (N := N) (ps := ps))
  have hml : (mutS N ps).length ≤ 128 := Nat.le_trans (List.length_filter_le _ _) hL
  have hgl : (goodS N ps).length ≤ 128 := Nat.le_trans (List.length_filter_le _ _) hL
  have f10 : D.fit 2 (enc (ofSize (mutLots N ps) (maxOf ((mutLots N ps).map List.length)))) = true := ofSize_fit hN (fun l hl => (List.mem_filter.mp hl).1) (Nat.le_trans (List.length_filter_le _ _) (lots_most hN))
  have f13 : D.fit 2 (enc (ofSize (outLots N ps) (minOf ((outLots N ps).map List.length)))) = true := ofSize_fit hN (fun l hl => (List.mem_filter.mp hl).1) (Nat.le_trans (List.length_filter_le _ _) (lots_most hN))
  have lwm := lwa (mutS N ps)
  have lwn := lwa []
  refine run_ret (T := T) (i := 35) (fd := fLaw) (d := .bl true) (st1 := [c4] ++ [.lst ((mutS N ps).map enc)]) rfl rfl ?_ rfl
  refine sq (asg (nw (al (vr rfl) (al cn (al cn (al cn al0)))) (by show 4 ≤ line; decide)) rfl) (sq (asg (cl (al (vr rfl) (al cn al0)) g1) rfl) (sq (asg (cl (al (ix (vr rfl) cn rfl) al0) (s_llots _ _ (by omega) lw1 N hN)) rfl) (sq (asg (tp (al (cl (al (vr rfl) (al (vr rfl) al0)) g2) (al (cl (al (vr rfl) (al (ix (vr rfl) cn rfl) al0)) g3) (al (cl (al (vr rfl) (al cn al0)) g4) al0))) (by show 3 ≤ line; decide)) rfl) ?_)))
  refine sq (same (k := 0) (d := enc (few N ps lot)) (by omega) rfl lw4 (cl (al (vr rfl) (al (vr rfl) al0)) (s_need _ _ (by omega) lw4 N ps lot ht hlot)) (cl (al (vr rfl) (al (vr rfl) al0)) (s_lneed _ _ (by omega) lw4 N ps lot ht hlot))) ?_
  refine sq (same (k := 1) (d := enc (nbs N ps house)) (by omega) (fit_nums (by
    refine Nat.le_trans (List.length_filter_le _ _) ?_
    rw [List.length_range]
    omega)) lw4 (cl (al (vr rfl) (al (vr rfl) al0)) (s_near _ _ (by omega) lw4 N ps house ht hhouse)) (pr (al (cmp_ (xs := List.range N) (f := enc (α := Nat)) (fun o => !decide (o = house) && adj ps o house) enc (it_rng1 (n := N) (ix (vr rfl) cn rfl) (by omega) (by omega) (by omega)) rfl (fun o ho => ⟨_, rfl, tb (an (cm (vr rfl) (vr rfl) (ne_ (α := Nat) (x := o) (y := house))) fun _ => cl (al (vr rfl) (al (vr rfl) (al (vr rfl) al0))) (s_lnear _ _ (by omega) lw4 N ps o house ht)), fun _ => vr rfl⟩) (by
      rw [List.length_map]
      refine Nat.le_trans (List.length_filter_le _ _) ?_
      rw [List.length_range]
      show _ ≤ 16777216
      omega)) al0) (by
      show Mp.ret (D.tup (((List.range N).filter fun o => !decide (o = house) && adj ps o house).map enc)) _ = _
      rw [near_eq ht]
      rfl))) ?_
  have st7 : Mp.exec (run T 9) (.ite (.or (.cmp .lt (.idx (.var 2) (.con (.int (0)))) (.con (.int (6)))) (.cmp .lt (.var 6) (.con (.int (4))))) (.ite (.not (.call 5 (.cons (.call 26 (.cons (.var 2) (.cons (.var 6) .nil))) (.cons (.prim .len (.cons (.call 20 (.cons (.var 2) (.cons (.idx (.var 3) (.neg (.con (.int (1))))) (.cons (.var 6) .nil)))) .nil)) .nil)))) (.ret (.con (.bl false))) .skip) .skip) [some (.scr ns), some (.cell 0), some (dTown N ps), some (dL (lotsS N)), some (enc lot), some (enc house), some (enc paints), none, none, none, none, none, none, none, none] [c4] = .next [some (.scr ns), some (.cell 0), some (dTown N ps), some (dL (lotsS N)), some (enc lot), some (enc house), some (enc paints), none, none, none, none, none, none, none, none] [c4] := by
    refine iff_ (k := decide (N < 6) || decide (paints < 4)) (tb (orr (cm (ix (vr rfl) cn rfl) cn (lt_n (a := N) (b := 6))) fun _ => cm (vr rfl) cn (lt_n (a := paints) (b := 4)))) ?_
    cases q : decide (N < 6) || decide (paints < 4) with
    | false => exact sk (C := run T 9)
    | true =>
      rw [Bool.or_eq_true, decide_eq_true_eq, decide_eq_true_eq] at q
      have pw : paints ^ (List.range N).length ≤ 1000000 := by
        rw [List.length_range]
        rcases q with q | q
        · have h1 : paints ^ N ≤ 4 ^ N := Nat.pow_le_pow_left (by omega) _
          have h2 : 4 ^ N ≤ 4 ^ 5 := Nat.pow_le_pow_right (by decide) (by omega)
          exact Nat.le_trans h1 (Nat.le_trans h2 (by decide))
        · have h1 : paints ^ N ≤ 3 ^ N := Nat.pow_le_pow_left (by omega) _
          have h2 : 3 ^ N ≤ 3 ^ 7 := Nat.pow_le_pow_right (by decide) (by omega)
          exact Nat.le_trans h1 (Nat.le_trans h2 (by decide))
      rw [if_pos rfl]
      exact same (k := 0) (d := enc (sm (fun P => prm paints P.length) (parts (frT N ps) (List.range N) [[]]))) (by omega) rfl lw4 (cl (al (vr rfl) (al (vr rfl) al0)) (s_count _ _ (by omega) lw4 N ps paints ht (by omega))) (pr (al (cl (al (vr rfl) (al (ix (vr rfl) (ng cn) (ixL_end lotsS_last)) (al (vr rfl) al0))) (s_lways _ _ (by omega) lw4 N ps (List.range N) paints ht (by rw [List.length_range]; omega) (by omega) pw)) al0) (by
        rw [← count_eq]
        exact prim_lenL))
  refine sq st7 (sq (asg (nw al0 (Nat.zero_le _)) rfl) (sq h9 ?_))
  refine sq (same (k := 2) (by omega) f10 lwm (cl (al (vr rfl) al0) (s_most _ _ (by omega) lwm N ps ht)) (pr (al (cmp_ (xs := mutS N ps) (g := some (1, (mutS N ps).map enc)) (f := enc (α := List Nat)) (fun l => decide (l.length = top.length)) enc (it (al (vr rfl) al0) rfl) chkC (fun l hl => ⟨_, rfl, tb (cm (pr (al (vr rfl) al0) prim_len) (pr (al (ix (vr rfl) (ng cn) (ixC_end htop)) al0) prim_len) (eq_ (α := Nat) (x := l.length) (y := top.length))), fun _ => vr rfl⟩) (by
      rw [List.length_map]
      exact Nat.le_trans (List.length_filter_le _ _) (Nat.le_trans hml (by decide)))) al0) (tup_of (most_eq htop)))) ?_
  refine sq (asg (cl (al (vr rfl) al0) (s_lrows _ _ (by omega) lwm N ps ht)) rfl) ?_
  have hbl : (bareL N ps).length ≤ 2401 := by
    unfold bareL
    rw [isort_perm.length_eq]
    exact Nat.le_trans (List.length_filter_le _ _) (extK_most (ps := ps) hN 3)
  refine sq (asg (d := dL (goodS N ps)) (cmp_ (xs := lotsS N) (f := enc (α := List Nat)) (goodP N ps) enc (it_lst (vr rfl)) rfl (fun l hl => ⟨_, rfl, tb (cm (cmp_ (xs := bareL N ps) (f := enc (α := List Nat)) (fun line => decide ((line.filter fun h => decide (h ∈ l)) = [])) enc (it_lst (vr rfl)) rfl (fun line hline => ⟨_, rfl, tb (cm (cmp_ (xs := line) (f := enc (α := Nat)) (fun h => decide (h ∈ l)) enc (it_tup (vr rfl)) rfl (fun h hh => ⟨_, rfl, tb (cm (vr rfl) (vr rfl) (mem_ (x := h) (l := l))), fun _ => vr rfl⟩) (by
      rw [List.length_map]
      refine Nat.le_trans (List.length_filter_le _ _) ?_
      rw [(extK_is (k := 3) (List.mem_filter.mp (isort_perm.mem_iff.mp hline)).1).1]
      decide)) (ls al0 (Nat.zero_le _)) (eq_L (x := line.filter fun h => decide (h ∈ l)) (y := []))), fun _ => vr rfl⟩) (by
      rw [List.length_map]
      exact Nat.le_trans (List.length_filter_le _ _) (Nat.le_trans hbl (by decide)))) (ls al0 (Nat.zero_le _)) (eq_L (α := List Nat) (x := (bareL N ps).filter fun line : List Nat => decide ((line.filter fun h : Nat => decide (h ∈ l)) = [])) (y := []))), fun _ => vr rfl⟩) (by
      rw [List.length_map]
      exact Nat.le_trans (List.length_filter_le _ _) (Nat.le_trans hL (by decide)))) rfl) ?_
  refine sq (same (k := 2) (by omega) f13 lwm (cl (al (vr rfl) al0) (s_out _ _ (by omega) lwm N ps ht)) (pr (al (cmp_ (xs := goodS N ps) (f := enc (α := List Nat)) (fun l => decide (l.length = low.length)) enc (it_lst (vr rfl)) rfl (fun l hl => ⟨_, rfl, tb (cm (pr (al (vr rfl) al0) prim_len) (pr (al (ix (vr rfl) cn (ixL (i := 0) hlow0)) al0) prim_len) (eq_ (α := Nat) (x := l.length) (y := low.length))), fun _ => vr rfl⟩) (by
      rw [List.length_map]
      exact Nat.le_trans (List.length_filter_le _ _) (Nat.le_trans hgl (by decide)))) al0) (tup_of (out_eq hlow)))) ?_
  exact rt (cl (al (cl (al (vr rfl) al0) (s_rows _ _ (by omega) lwm N ps ht)) (al (pr (al (vr rfl) al0) rfl) al0)) (s_alike 2 (enc (bareL N ps)) (bareL_fit hN) _ _ (by omega) lwm))
end K01
end
section
set_option Elab.async false
set_option linter.all false
set_option maxRecDepth 100000
namespace K01
open PySem PySem.Spec L2 PyProof.Rows Mp
set_option maxHeartbeats 0
abbrev topS (i : Nat) : Stmt := PySem.Challenge.pw_maskpaint_k01_whole_maps.main.body.getD i (.Pass ⟨0, 0, 0, 0⟩)
/-- 0: _law_taken -/
def d0 : Dd := ⟨"_law_taken", topS 39, ["row", "many", "found", "cell"], 2, 0, []⟩
/-- 1: _law_town -/
def d1 : Dd := ⟨"_law_town", topS 40, ["row", "houses", "share_v", "found", "one", "other"], 3, 0, [3]⟩
/-- 2: _law_any -/
def d2 : Dd := ⟨"_law_any", topS 41, ["row", "most", "town", "pairs", "one", "other"], 2, 0, []⟩
/-- 3: _law_lots -/
def d3 : Dd := ⟨"_law_lots", topS 42, ["many", "found", "one", "lot"], 1, 2, []⟩
/-- 4: _law_pick -/
def d4 : Dd := ⟨"_law_pick", topS 43, ["row", "things"], 2, 0, []⟩
/-- 5: _law_alike -/
def d5 : Dd := ⟨"_law_alike", topS 44, ["found", "due", "k"], 2, 0, []⟩
/-- 6: is_number -/
def d6 : Dd := ⟨"is_number", topS 9, ["value", "least", "most"], 3, 0, []⟩
/-- 7: are_houses -/
def d7 : Dd := ⟨"are_houses", topS 10, ["value", "houses", "house"], 2, 1, []⟩
/-- 8: is_ascending -/
def d8 : Dd := ⟨"is_ascending", topS 11, ["values", "at"], 1, 1, []⟩
/-- 9: is_lot -/
def d9 : Dd := ⟨"is_lot", topS 12, ["value", "houses"], 2, 0, []⟩
/-- 10: are_pairs -/
def d10 : Dd := ⟨"are_pairs", topS 13, ["value", "houses", "pair"], 2, 1, []⟩
/-- 11: check_map -/
def d11 : Dd := ⟨"check_map", topS 14, ["town", "houses", "pairs"], 1, 0, []⟩
/-- 12: check_lot -/
def d12 : Dd := ⟨"check_lot", topS 16, ["town", "lot"], 2, 0, []⟩
/-- 13: share -/
def d13 : Dd := ⟨"share", topS 23, ["lot", "other_lot", "house"], 2, 1, []⟩
/-- 14: ways_with -/
def d14 : Dd := ⟨"ways_with", topS 25, ["beside", "heaps", "house", "ways", "at", "heap"], 3, 0, [3]⟩
/-- 15: ways_to_part -/
def d15 : Dd := ⟨"ways_to_part", topS 26, ["beside", "lot", "ways", "house", "heaps", "way"], 2, 0, []⟩
/-- 16: fewest_paints -/
def d16 : Dd := ⟨"fewest_paints", topS 27, ["beside", "lot", "heaps"], 2, 0, []⟩
/-- 17: neighbors -/
def d17 : Dd := ⟨"neighbors", topS 19, ["town", "houses", "pairs", "other", "house"], 1, 0, []⟩
/-- 18: need -/
def d18 : Dd := ⟨"need", topS 32, ["town", "lot"], 2, 0, []⟩
/-- 19: _law_near -/
def d19 : Dd := ⟨"_law_near", topS 45, ["town", "one", "other"], 3, 0, []⟩
/-- 20: _law_ways -/
def d20 : Dd := ⟨"_law_ways", topS 46, ["town", "lot", "pots", "found", "at", "house", "longer", "told", "barred", "k", "paint"], 3, 0, []⟩
/-- 21: _law_need -/
def d21 : Dd := ⟨"_law_need", topS 47, ["town", "lot", "pots"], 2, 0, []⟩
/-- 22: check_house -/
def d22 : Dd := ⟨"check_house", topS 15, ["town", "house"], 2, 0, []⟩
/-- 23: near -/
def d23 : Dd := ⟨"near", topS 31, ["town", "house"], 2, 0, []⟩
/-- 24: check_number -/
def d24 : Dd := ⟨"check_number", topS 17, ["value", "least", "most"], 3, 0, []⟩
/-- 25: every_house -/
def d25 : Dd := ⟨"every_house", topS 20, ["town"], 1, 0, []⟩
/-- 26: count_paintings -/
def d26 : Dd := ⟨"count_paintings", topS 33, ["town", "paints", "ways", "heaps"], 2, 0, []⟩
/-- 27: all_lots -/
def d27 : Dd := ⟨"all_lots", topS 21, ["town", "lots", "house", "lot"], 1, 0, []⟩
/-- 28: is_mutual -/
def d28 : Dd := ⟨"is_mutual", topS 24, ["beside", "lot", "house", "other"], 2, 1, []⟩
/-- 29: lots_of_size -/
def d29 : Dd := ⟨"lots_of_size", topS 22, ["lots", "size", "lot"], 2, 0, []⟩
/-- 30: most_mutual -/
def d30 : Dd := ⟨"most_mutual", topS 34, ["town", "beside", "lots", "lot"], 1, 0, []⟩
/-- 31: _law_rows -/
def d31 : Dd := ⟨"_law_rows", topS 48, ["town", "found", "lot", "one", "four", "house", "two", "three", "there"], 1, 0, [1]⟩
/-- 32: goes_on -/
def d32 : Dd := ⟨"goes_on", topS 35, ["beside", "row", "house"], 3, 0, []⟩
/-- 33: bare_rows -/
def d33 : Dd := ⟨"bare_rows", topS 36, ["town", "beside", "rows", "house", "_", "row"], 1, 0, []⟩
/-- 34: left_out -/
def d34 : Dd := ⟨"left_out", topS 37, ["town", "rows", "lots", "lot", "row"], 1, 1, []⟩
/-- 35: law -/
def d35 : Dd := ⟨"law", topS 49, ["script", "row", "town", "lots", "lot", "house", "paints", "one", "mutual", "far", "at", "other", "rows", "good", "line"], 1, 0, [1, 8]⟩
def dds : List Dd := [d0, d1, d2, d3, d4, d5, d6, d7, d8, d9, d10, d11, d12, d13, d14, d15, d16, d17, d18, d19, d20, d21, d22, d23, d24, d25, d26, d27, d28, d29, d30, d31, d32, d33, d34, d35]
def tx : Tx := ⟨[], fsOf 0 dds, [("MOST_HOUSES", .int 7), ("MOST_PAINTS", .int 9), ("ROW_LENGTH", .int 4)], ["int", "len", "range", "tuple", "sorted", "isinstance", "list", "str", "bool", "all", "any", "enumerate", "min", "max", "sum"], [("perm", .perm)]⟩
end K01
end
set_option Elab.async false
set_option linter.all false
set_option maxRecDepth 100000
set_option maxHeartbeats 0
namespace K01
open PySem PySem.Spec L2 PyProof.Rows Mp
theorem sb0 : SB d0 := fun _ _ _ _ _ _ us hl => match us, hl with
  | [_, _], _ => rfl
theorem sb1 : SB d1 := fun _ _ _ _ _ _ us hl => match us, hl with
  | [_, _, _], _ => rfl
theorem sb2 : SB d2 := fun _ _ _ _ _ _ us hl => match us, hl with
  | [_, _], _ => rfl
theorem sb3 : SB d3 := fun _ _ _ _ _ _ us hl => match us, hl with
  | [_], _ => rfl
theorem sb4 : SB d4 := fun _ _ _ _ _ _ us hl => match us, hl with
  | [_, _], _ => rfl
theorem sb5 : SB d5 := fun _ _ _ _ _ _ us hl => match us, hl with
  | [_, _], _ => rfl
theorem sb6 : SB d6 := fun _ _ _ _ _ _ us hl => match us, hl with
  | [_, _, _], _ => rfl
theorem sb7 : SB d7 := fun _ _ _ _ _ _ us hl => match us, hl with
  | [_, _], _ => rfl
theorem sb8 : SB d8 := fun _ _ _ _ _ _ us hl => match us, hl with
  | [_], _ => rfl
theorem sb9 : SB d9 := fun _ _ _ _ _ _ us hl => match us, hl with
  | [_, _], _ => rfl
theorem sb10 : SB d10 := fun _ _ _ _ _ _ us hl => match us, hl with
  | [_, _], _ => rfl
theorem sb11 : SB d11 := fun _ _ _ _ _ _ us hl => match us, hl with
  | [_], _ => rfl
theorem sb12 : SB d12 := fun _ _ _ _ _ _ us hl => match us, hl with
  | [_, _], _ => rfl
theorem sb13 : SB d13 := fun _ _ _ _ _ _ us hl => match us, hl with
  | [_, _], _ => rfl
theorem sb14 : SB d14 := fun _ _ _ _ _ _ us hl => match us, hl with
  | [_, _, _], _ => rfl
theorem sb15 : SB d15 := fun _ _ _ _ _ _ us hl => match us, hl with
  | [_, _], _ => rfl
theorem sb16 : SB d16 := fun _ _ _ _ _ _ us hl => match us, hl with
  | [_, _], _ => rfl
theorem sb17 : SB d17 := fun _ _ _ _ _ _ us hl => match us, hl with
  | [_], _ => rfl
theorem sb18 : SB d18 := fun _ _ _ _ _ _ us hl => match us, hl with
  | [_, _], _ => rfl
theorem sb19 : SB d19 := fun _ _ _ _ _ _ us hl => match us, hl with
  | [_, _, _], _ => rfl
theorem sb20 : SB d20 := fun _ _ _ _ _ _ us hl => match us, hl with
  | [_, _, _], _ => rfl
theorem sb21 : SB d21 := fun _ _ _ _ _ _ us hl => match us, hl with
  | [_, _], _ => rfl
theorem sb22 : SB d22 := fun _ _ _ _ _ _ us hl => match us, hl with
  | [_, _], _ => rfl
theorem sb23 : SB d23 := fun _ _ _ _ _ _ us hl => match us, hl with
  | [_, _], _ => rfl
theorem sb24 : SB d24 := fun _ _ _ _ _ _ us hl => match us, hl with
  | [_, _, _], _ => rfl
theorem sb25 : SB d25 := fun _ _ _ _ _ _ us hl => match us, hl with
  | [_], _ => rfl
theorem sb26 : SB d26 := fun _ _ _ _ _ _ us hl => match us, hl with
  | [_, _], _ => rfl
theorem sb27 : SB d27 := fun _ _ _ _ _ _ us hl => match us, hl with
  | [_], _ => rfl
theorem sb28 : SB d28 := fun _ _ _ _ _ _ us hl => match us, hl with
  | [_, _], _ => rfl
theorem sb29 : SB d29 := fun _ _ _ _ _ _ us hl => match us, hl with
  | [_, _], _ => rfl
theorem sb30 : SB d30 := fun _ _ _ _ _ _ us hl => match us, hl with
  | [_], _ => rfl
theorem sb31 : SB d31 := fun _ _ _ _ _ _ us hl => match us, hl with
  | [_], _ => rfl
theorem sb32 : SB d32 := fun _ _ _ _ _ _ us hl => match us, hl with
  | [_, _, _], _ => rfl
theorem sb33 : SB d33 := fun _ _ _ _ _ _ us hl => match us, hl with
  | [_], _ => rfl
theorem sb34 : SB d34 := fun _ _ _ _ _ _ us hl => match us, hl with
  | [_], _ => rfl
theorem sb35 : SB d35 := fun _ _ _ _ _ _ us hl => match us, hl with
  | [_], _ => rfl
theorem sbs : ∀ d ∈ dds, SB d := List.forall_mem_cons.mpr ⟨sb0, List.forall_mem_cons.mpr ⟨sb1, List.forall_mem_cons.mpr ⟨sb2, List.forall_mem_cons.mpr ⟨sb3, List.forall_mem_cons.mpr ⟨sb4, List.forall_mem_cons.mpr ⟨sb5, List.forall_mem_cons.mpr ⟨sb6, List.forall_mem_cons.mpr ⟨sb7, List.forall_mem_cons.mpr ⟨sb8, List.forall_mem_cons.mpr ⟨sb9, List.forall_mem_cons.mpr ⟨sb10, List.forall_mem_cons.mpr ⟨sb11, List.forall_mem_cons.mpr ⟨sb12, List.forall_mem_cons.mpr ⟨sb13, List.forall_mem_cons.mpr ⟨sb14, List.forall_mem_cons.mpr ⟨sb15, List.forall_mem_cons.mpr ⟨sb16, List.forall_mem_cons.mpr ⟨sb17, List.forall_mem_cons.mpr ⟨sb18, List.forall_mem_cons.mpr ⟨sb19, List.forall_mem_cons.mpr ⟨sb20, List.forall_mem_cons.mpr ⟨sb21, List.forall_mem_cons.mpr ⟨sb22, List.forall_mem_cons.mpr ⟨sb23, List.forall_mem_cons.mpr ⟨sb24, List.forall_mem_cons.mpr ⟨sb25, List.forall_mem_cons.mpr ⟨sb26, List.forall_mem_cons.mpr ⟨sb27, List.forall_mem_cons.mpr ⟨sb28, List.forall_mem_cons.mpr ⟨sb29, List.forall_mem_cons.mpr ⟨sb30, List.forall_mem_cons.mpr ⟨sb31, List.forall_mem_cons.mpr ⟨sb32, List.forall_mem_cons.mpr ⟨sb33, List.forall_mem_cons.mpr ⟨sb34, List.forall_mem_cons.mpr ⟨sb35, List.forall_mem_nil SB⟩⟩⟩⟩⟩⟩⟩⟩⟩⟩⟩⟩⟩⟩⟩⟩⟩⟩⟩⟩⟩⟩⟩⟩⟩⟩⟩⟩⟩⟩⟩⟩⟩⟩⟩⟩
theorem scs : dds.all SC = true := by kernel_rfl
theorem trs : trAll tx 2 40 dds = some T := by kernel_rfl
end K01
open PySem PySem.W PyProof.Rows Mp
set_option maxHeartbeats 0 in
theorem PySem.Challenge.cw_maskpaint_k01_whole_maps_holds : PySem.Challenge.rw_maskpaint_k01_whole_maps.Holds := by
  w_on; o_law; k_head; (case hw => w_witness2)
  k_fill
  refine Mp.walk_T (l := PySem.Challenge.rw_maskpaint_k01_whole_maps) (n := 63) (k := 3 * 10) (x := "script") rfl (by decide) rfl ⟨rfl, by decide, by decide⟩ (fun w h Y => PySem.W.km_in_of Y) ?F
  case F =>
    intro w mg fa h X G TF hmg
    refine' Mp.law_at (dds := K01.dds) (t := K01.tx) (T := K01.T) (g := 2) (fuel := 40) (m := 10) (iL := 35) (dL := K01.d35) X G TF hmg rfl K01.trs K01.scs K01.sbs ?rc rfl rfl rfl K01.main (Mp.kd_cons (d := K01.d0) ?a0 ?l0 ?c0 ?k0 ?z0 (Mp.kd_cons (d := K01.d1) ?a1 ?l1 ?c1 ?k1 ?z1 (Mp.kd_cons (d := K01.d2) ?a2 ?l2 ?c2 ?k2 ?z2 (Mp.kd_tab (d := K01.d3) ?a3 ?l3 ?c3 ?k3 ?p3 ?q3 ?n3 (Mp.kd_cons (d := K01.d4) ?a4 ?l4 ?c4 ?k4 ?z4 (Mp.kd_cons (d := K01.d5) ?a5 ?l5 ?c5 ?k5 ?z5 (Mp.kd_cons (d := K01.d6) ?a6 ?l6 ?c6 ?k6 ?z6 (Mp.kd_tab (d := K01.d7) ?a7 ?l7 ?c7 ?k7 ?p7 ?q7 ?n7 (Mp.kd_tab (d := K01.d8) ?a8 ?l8 ?c8 ?k8 ?p8 ?q8 ?n8 (Mp.kd_cons (d := K01.d9) ?a9 ?l9 ?c9 ?k9 ?z9 (Mp.kd_tab (d := K01.d10) ?a10 ?l10 ?c10 ?k10 ?p10 ?q10 ?n10 (Mp.kd_cons (d := K01.d11) ?a11 ?l11 ?c11 ?k11 ?z11 (Mp.kd_cons (d := K01.d12) ?a12 ?l12 ?c12 ?k12 ?z12 (Mp.kd_tab (d := K01.d13) ?a13 ?l13 ?c13 ?k13 ?p13 ?q13 ?n13 (Mp.kd_cons (d := K01.d14) ?a14 ?l14 ?c14 ?k14 ?z14 (Mp.kd_cons (d := K01.d15) ?a15 ?l15 ?c15 ?k15 ?z15 (Mp.kd_cons (d := K01.d16) ?a16 ?l16 ?c16 ?k16 ?z16 (Mp.kd_cons (d := K01.d17) ?a17 ?l17 ?c17 ?k17 ?z17 (Mp.kd_cons (d := K01.d18) ?a18 ?l18 ?c18 ?k18 ?z18 (Mp.kd_cons (d := K01.d19) ?a19 ?l19 ?c19 ?k19 ?z19 (Mp.kd_cons (d := K01.d20) ?a20 ?l20 ?c20 ?k20 ?z20 (Mp.kd_cons (d := K01.d21) ?a21 ?l21 ?c21 ?k21 ?z21 (Mp.kd_cons (d := K01.d22) ?a22 ?l22 ?c22 ?k22 ?z22 (Mp.kd_cons (d := K01.d23) ?a23 ?l23 ?c23 ?k23 ?z23 (Mp.kd_cons (d := K01.d24) ?a24 ?l24 ?c24 ?k24 ?z24 (Mp.kd_cons (d := K01.d25) ?a25 ?l25 ?c25 ?k25 ?z25 (Mp.kd_cons (d := K01.d26) ?a26 ?l26 ?c26 ?k26 ?z26 (Mp.kd_cons (d := K01.d27) ?a27 ?l27 ?c27 ?k27 ?z27 (Mp.kd_tab (d := K01.d28) ?a28 ?l28 ?c28 ?k28 ?p28 ?q28 ?n28 (Mp.kd_cons (d := K01.d29) ?a29 ?l29 ?c29 ?k29 ?z29 (Mp.kd_cons (d := K01.d30) ?a30 ?l30 ?c30 ?k30 ?z30 (Mp.kd_cons (d := K01.d31) ?a31 ?l31 ?c31 ?k31 ?z31 (Mp.kd_cons (d := K01.d32) ?a32 ?l32 ?c32 ?k32 ?z32 (Mp.kd_cons (d := K01.d33) ?a33 ?l33 ?c33 ?k33 ?z33 (Mp.kd_tab (d := K01.d34) ?a34 ?l34 ?c34 ?k34 ?p34 ?q34 ?n34 (Mp.kd_cons (d := K01.d35) ?a35 ?l35 ?c35 ?k35 ?z35 (Mp.kd_nil))))))))))))))))))))))))))))))))))))) ?ap (Mp.csNs_int ?cs0 (Mp.csNs_int ?cs1 (Mp.csNs_int ?cs2 (Mp.csNs_nil)))) (Mp.blNs_cons ?bl0 (Mp.blNs_cons ?bl1 (Mp.blNs_cons ?bl2 (Mp.blNs_cons ?bl3 (Mp.blNs_cons ?bl4 (Mp.blNs_cons ?bl5 (Mp.blNs_cons ?bl6 (Mp.blNs_cons ?bl7 (Mp.blNs_cons ?bl8 (Mp.blNs_cons ?bl9 (Mp.blNs_cons ?bl10 (Mp.blNs_cons ?bl11 (Mp.blNs_cons ?bl12 (Mp.blNs_cons ?bl13 (Mp.blNs_cons ?bl14 (Mp.blNs_nil)))))))))))))))) (Mp.imNs_cons ?im0 (fun _ z => by cases z) (Mp.imNs_nil))
    (case a0 => k_is)
    (case l0 => k_is)
    (case c0 => k_is)
    (case k0 => k_is)
    (case z0 => rfl)
    (case a1 => k_is)
    (case l1 => k_is)
    (case c1 => k_is)
    (case k1 => k_is)
    (case z1 => rfl)
    (case a2 => k_is)
    (case l2 => k_is)
    (case c2 => k_is)
    (case k2 => k_is)
    (case z2 => rfl)
    (case a3 => k_is)
    (case l3 => k_is)
    (case c3 => k_is)
    (case k3 => k_is)
    (case p3 => k_is)
    (case q3 => rfl)
    (case n3 => kernel_rfl)
    (case a4 => k_is)
    (case l4 => k_is)
    (case c4 => k_is)
    (case k4 => k_is)
    (case z4 => rfl)
    (case a5 => k_is)
    (case l5 => k_is)
    (case c5 => k_is)
    (case k5 => k_is)
    (case z5 => rfl)
    (case a6 => k_is)
    (case l6 => k_is)
    (case c6 => k_is)
    (case k6 => k_is)
    (case z6 => rfl)
    (case a7 => k_is)
    (case l7 => k_is)
    (case c7 => k_is)
    (case k7 => k_is)
    (case p7 => k_is)
    (case q7 => rfl)
    (case n7 => kernel_rfl)
    (case a8 => k_is)
    (case l8 => k_is)
    (case c8 => k_is)
    (case k8 => k_is)
    (case p8 => k_is)
    (case q8 => rfl)
    (case n8 => kernel_rfl)
    (case a9 => k_is)
    (case l9 => k_is)
    (case c9 => k_is)
    (case k9 => k_is)
    (case z9 => rfl)
    (case a10 => k_is)
    (case l10 => k_is)
    (case c10 => k_is)
    (case k10 => k_is)
    (case p10 => k_is)
    (case q10 => rfl)
    (case n10 => kernel_rfl)
    (case a11 => k_is)
    (case l11 => k_is)
    (case c11 => k_is)
    (case k11 => k_is)
    (case z11 => rfl)
    (case a12 => k_is)
    (case l12 => k_is)
    (case c12 => k_is)
    (case k12 => k_is)
    (case z12 => rfl)
    (case a13 => k_is)
    (case l13 => k_is)
    (case c13 => k_is)
    (case k13 => k_is)
    (case p13 => k_is)
    (case q13 => rfl)
    (case n13 => kernel_rfl)
    (case a14 => k_is)
    (case l14 => k_is)
    (case c14 => k_is)
    (case k14 => k_is)
    (case z14 => rfl)
    (case a15 => k_is)
    (case l15 => k_is)
    (case c15 => k_is)
    (case k15 => k_is)
    (case z15 => rfl)
    (case a16 => k_is)
    (case l16 => k_is)
    (case c16 => k_is)
    (case k16 => k_is)
    (case z16 => rfl)
    (case a17 => k_is)
    (case l17 => k_is)
    (case c17 => k_is)
    (case k17 => k_is)
    (case z17 => rfl)
    (case a18 => k_is)
    (case l18 => k_is)
    (case c18 => k_is)
    (case k18 => k_is)
    (case z18 => rfl)
    (case a19 => k_is)
    (case l19 => k_is)
    (case c19 => k_is)
    (case k19 => k_is)
    (case z19 => rfl)
    (case a20 => k_is)
    (case l20 => k_is)
    (case c20 => k_is)
    (case k20 => k_is)
    (case z20 => rfl)
    (case a21 => k_is)
    (case l21 => k_is)
    (case c21 => k_is)
    (case k21 => k_is)
    (case z21 => rfl)
    (case a22 => k_is)
    (case l22 => k_is)
    (case c22 => k_is)
    (case k22 => k_is)
    (case z22 => rfl)
    (case a23 => k_is)
    (case l23 => k_is)
    (case c23 => k_is)
    (case k23 => k_is)
    (case z23 => rfl)
    (case a24 => k_is)
    (case l24 => k_is)
    (case c24 => k_is)
    (case k24 => k_is)
    (case z24 => rfl)
    (case a25 => k_is)
    (case l25 => k_is)
    (case c25 => k_is)
    (case k25 => k_is)
    (case z25 => rfl)
    (case a26 => k_is)
    (case l26 => k_is)
    (case c26 => k_is)
    (case k26 => k_is)
    (case z26 => rfl)
    (case a27 => k_is)
    (case l27 => k_is)
    (case c27 => k_is)
    (case k27 => k_is)
    (case z27 => rfl)
    (case a28 => k_is)
    (case l28 => k_is)
    (case c28 => k_is)
    (case k28 => k_is)
    (case p28 => k_is)
    (case q28 => rfl)
    (case n28 => kernel_rfl)
    (case a29 => k_is)
    (case l29 => k_is)
    (case c29 => k_is)
    (case k29 => k_is)
    (case z29 => rfl)
    (case a30 => k_is)
    (case l30 => k_is)
    (case c30 => k_is)
    (case k30 => k_is)
    (case z30 => rfl)
    (case a31 => k_is)
    (case l31 => k_is)
    (case c31 => k_is)
    (case k31 => k_is)
    (case z31 => rfl)
    (case a32 => k_is)
    (case l32 => k_is)
    (case c32 => k_is)
    (case k32 => k_is)
    (case z32 => rfl)
    (case a33 => k_is)
    (case l33 => k_is)
    (case c33 => k_is)
    (case k33 => k_is)
    (case z33 => rfl)
    (case a34 => k_is)
    (case l34 => k_is)
    (case c34 => k_is)
    (case k34 => k_is)
    (case p34 => k_is)
    (case q34 => rfl)
    (case n34 => kernel_rfl)
    (case a35 => k_is)
    (case l35 => k_is)
    (case c35 => k_is)
    (case k35 => k_is)
    (case z35 => rfl)
    (case cs0 => k_is)
    (case cs1 => k_is)
    (case cs2 => k_is)
    (case bl0 => k_is)
    (case bl1 => k_is)
    (case bl2 => k_is)
    (case bl3 => k_is)
    (case bl4 => k_is)
    (case bl5 => k_is)
    (case bl6 => k_is)
    (case bl7 => k_is)
    (case bl8 => k_is)
    (case bl9 => k_is)
    (case bl10 => k_is)
    (case bl11 => k_is)
    (case bl12 => k_is)
    (case bl13 => k_is)
    (case bl14 => k_is)
    (case im0 => k_is)
    (case ap => decide +kernel)
    (case rc => kernel_rfl)
